import PyProof.Rows.All
import Wide.All
import OpenK.AllK
import Wide.FinOn
import Lean
import PyProof.EqAt
import PyProof.EqKinds
import PyProof.TupleCall
import PySem.Challenge.RW_calmring_k34_look_walked
set_option Elab.async false
set_option linter.all false
set_option maxRecDepth 100000
namespace L2
open PySem PySem.Spec PyProof.Rows
abbrev Key:=Sum Int Str
def xY:Key->Value->Bool
 | .inl k,v=>Value.isInt k v
 | .inr x,v=>Value.isStrOf x v
def DZ(w:World):Key->Int
 | .inl k=>hashInt k
 | .inr x=>hashStr w x
theorem bP:∀{k:Key}{v:Value},xY k v=true->(∃i t,k=Sum.inl i/\v=Value.int i t)\/(∃x t,k=Sum.inr x/\v=Value.str x t)
 | .inl i,v,h=>by
  obtain⟨t,e⟩:=Value.isInt_shape (k:=i) (v:=v) h
  exact .inl ⟨i,t,rfl,e⟩
 | .inr x,v,h=>by
  obtain⟨t,e⟩:=Value.isStrOf_shape (x:=x) (v:=v) h
  exact .inr ⟨x,t,rfl,e⟩
theorem zG(a b:Int):decide ((Sum.inl a:Key)=Sum.inl b)=(a==b):=by
 by_cases e:a=b
 ·subst e;simp
 ·have h:¬(Sum.inl a:Key)=Sum.inl b:=fun q=>e (Sum.inl.inj q)
  rw[decide_eq_false h]
  exact(beq_eq_false_iff_ne.mpr e).symm
theorem zD(a b:Str):decide ((Sum.inr a:Key)=Sum.inr b)=decide (a=b):=by
 by_cases e:a=b
 ·subst e;simp
 ·have h:¬(Sum.inr a:Key)=Sum.inr b:=fun q=>e (Sum.inr.inj q)
  rw[decide_eq_false h,decide_eq_false e]
theorem zF(a:Int)(b:Str):decide ((Sum.inl a:Key)=Sum.inr b)=false:=decide_eq_false (fun q=>nomatch q)
theorem zE(a:Str)(b:Int):decide ((Sum.inr a:Key)=Sum.inl b)=false:=decide_eq_false (fun q=>nomatch q)
def lH(prog:Program)(w:World):PySem.KeyKind prog w Key where
 is:=xY
 hash:=DZ w
 inj:=fun v a b ha hb=>by
  rcases bP ha with⟨i,t,rfl,rfl⟩ |⟨x,t,rfl,rfl⟩
  ·rcases bP hb with⟨j,u,rfl,e⟩ |⟨y,u,rfl,e⟩
   ·injection e with e1 _;rw[e1]
   ·exact nomatch e
  ·rcases bP hb with⟨j,u,rfl,e⟩ |⟨y,u,rfl,e⟩
   ·exact nomatch e
   ·injection e with e1 _;rw[e1]
 byValue:=fun k v h=>by
  rcases bP h with⟨i,t,rfl,rfl⟩ |⟨x,t,rfl,rfl⟩<;>rfl
 pyHash:=fun hv h=>by
  rcases bP hv with⟨i,t,rfl,rfl⟩ |⟨x,t,rfl,rfl⟩
  ·exact wpAny_pyHash_int h
  ·exact wpAny_pyHash_str h
 eqBool:=fun hu hv h=>by
  rcases bP hu with⟨i,t,rfl,rfl⟩ |⟨x,t,rfl,rfl⟩
  ·rcases bP hv with⟨j,u,rfl,rfl⟩ |⟨y,u,rfl,rfl⟩
   ·rw[zG]at h;exact wpAny_eqBool_int h
   ·rw[zF]at h;exact SeqAt.EqAt.int_str i t y u _ _ _ _ h
  ·rcases bP hv with⟨j,u,rfl,rfl⟩ |⟨y,u,rfl,rfl⟩
   ·rw[zE]at h;exact SeqAt.EqAt.str_int x t j u _ _ _ _ h
   ·rw[zD]at h;exact wpAny_eqBool_str h
 «strs»:=fun k x t v h=>by
  rcases bP h with⟨i,u,rfl,e⟩ |⟨y,u,rfl,e⟩
  ·exact nomatch e
  ·injection e with e1 _
   subst e1
   cases v<;>rfl
end L2
namespace L2
open PySem PySem.Spec PyProof.Rows
inductive V where
 | non | bl (b:Bool) | int (i:Int) | str (x:Str) | byt (b:Array UInt8) | flt (b:UInt64) | ref (a:Addr) | ty (n:String)
 deriving DecidableEq
def bp:V->Value->Prop
 | .non,u=>u=Value.none
 | .bl b,u=>u=Value.bool b
 | .int i,u=>∃t,u=Value.int i t
 | .str x,u=>∃t,u=Value.str x t
 | .byt b,u=>∃t,u=Value.bytes b t
 | .flt b,u=>∃t,u=Value.float b t
 | .ref a,u=>u=Value.ref a
 | .ty n,u=>u=Value.type n
abbrev aG:List V->List Value->Prop:=Paired bp
theorem aG.length{xs:List V}{us:List Value}(r:aG xs us):xs.length=us.length:=Paired.length r
theorem aG.get:∀{xs:List V}{us:List Value}{i:Nat}{x:V},aG xs us->xs[i]?=some x->∃u,us[i]?=some u/\bp x u
 | _,_,_,_,.nil,e=>by simp at e
 | _,_,0,_,.cons r _,e=>by simp at e;subst e;exact⟨_,rfl,r⟩
 | _,_,i+1,x,.cons _ t,e=>by
  obtain⟨u,h1,h2⟩:=aG.get (i:=i) (x:=x) t (by simpa using e)
  exact⟨u,by simpa using h1,h2⟩
theorem aG.set{x:V}{u:Value}(r:bp x u):∀{xs:List V}{us:List Value} (i:Nat),aG xs us->aG (xs.set i x) (us.set i u)
 | _,_,_,.nil=>.nil
 | _,_,0,.cons _ t=>.cons r t
 | _,_,i+1,.cons q t=>.cons q (aG.set r i t)
theorem aG.append:∀{xs ys:List V}{us ws:List Value},aG xs us->aG ys ws->aG (xs++ys) (us++ws)
 | _,_,_,_,.nil,s=>s
 | _,_,_,_,.cons r t,s=>.cons r (aG.append t s)
theorem aG.take:∀{xs:List V}{us:List Value} (n:Nat),aG xs us->aG (xs.take n) (us.take n)
 | _,_,0,_ | _,_,_+1,.nil=>.nil
 | _,_,n+1,.cons r t=>.cons r (aG.take n t)
theorem aG.drop:∀{xs:List V}{us:List Value} (n:Nat),aG xs us->aG (xs.drop n) (us.drop n)
 | _,_,0,r=>r
 | _,_,_+1,.nil=>.nil
 | _,_,n+1,.cons _ t=>aG.drop n t
def ku:Option V->Option Value->Prop
 | some v,some u=>bp v u
 | none,none=>True
 | _,_=>False
def KV{κ:Type}:List (κ×V)->List (κ×Value)->Prop:=Paired fun(p:κ×V) (q:κ×Value)=>p.1=q.1/\bp p.2 q.2
def kV:Key->V
 | .inl i=>.int i
 | .inr x=>.str x
inductive HO where
 | lst (xs:List V)
 | tup (xs:List V)
 | dK (kvs:List (Key×V)) | dT (kvs:List (List Key×V))
 | set(S:Int->Bool) (n:Nat)
 | ins (C dx:Addr) (fs:List (Str×V))
 | own (x:Addr)
 | xd (fs:List (Str×V))
 | met (f x:Addr)
 | rng (lo hi:Int)
 | frz (o:Obj) (u:HO)
 | tbl (ps:Array Value)
 | ext (φ:Heap->Prop)
abbrev Hp:=Addr->Option HO
def upd(H:Hp)(a:Addr)(o:HO):Hp:=fun b=>if b=a then some o else H b
theorem bq{H:Hp}{a:Addr}{o:HO}:upd H a o a=some o:=by unfold upd;rw[if_pos rfl]
theorem aF{H:Hp}{a b:Addr}{o:HO}(h:b≠a):upd H a o b=H b:=by unfold upd;rw[if_neg h]
theorem bH{H:Hp}{a b:Addr}{o:HO}(h:H a=some o)(h':H b=none):a≠b:=by
 intro e;subst e;rw[h]at h';cases h'
section
variable(P:Program)(w:World)
def cW(H:Hp)(h:Heap)(a:Addr):HO->Prop
 | .lst xs=>xs.length<=sizeLine/\∃(its:List Value) (n:Nat),aG xs its/\h.get? a=some { cls:=.type "list", data:=.seq its.toArray n }
 | .tup xs=>xs.length<=sizeLine/\∃its:List Value,aG xs its/\IsTup h a its.toArray
 | .dK kvs=>kvs.length<=sizeLine/\(a==sysModules)=false/\∃vs,KV kvs vs/\h.DictOf (lH P w) a vs
 | .dT kvs=>kvs.length<=sizeLine/\(a==sysModules)=false/\∃xs:List (List Key×Addr×Value),
   Paired (fun(p:List Key×V) (q:List Key×Addr×Value)=>p.1=q.1/\H q.2.1=some (.tup (p.1.map kV))/\bp p.2 q.2.2) kvs xs /\
   ∃o es ep,h.get? a=some o/\o.ExactDict/\o.data=.dict es ep/\es.toList=xs.map (entryOfKey (tupleKind (lH P w)))/\(xs.map (·.1)).Nodup
 | .set S n=>h.SetOf (intKind P w) a S n
 | .ins C dx fs=>H dx=some (.own a)/\fs.length<=1000/\dx≠a/\h.get? a=some (PySem.W.instObj C dx)/\
   ∃mA,h.Ns1 dx mA/\(∀f,ku (fs.lookup f) (mA f))/\PySem.Within mA (fs.map (·.1))
 | .own _=>∃o,h.get? a=some o
 | .xd fs=>∃mA,h.Ns1 a mA/\∀f,ku (fs.lookup f) (mA f)
 | .rng lo hi=>∃t u v,h.get? a=some { cls:=.type "range", data:=.fields #[.int lo t,.int hi u,.int 1 v] }
 | .frz o u=>h.get? a=some o/\cW H h a u
 | .tbl ps=>h.get? a=some { cls:=.none,data:=.fields ps }
 | .met f x=>h.get? a=some (PySem.W.methodObj (.ref f) (.ref x))
 | .ext φ=>φ h/\(∃o,h.get? a=some o)/\∀h1 h2:Heap,φ h1->(∀o,h1.get? a=some o->h2.get? a=some o)->φ h2
def HOk(H:Hp)(h:Heap):Prop:=∀a o,H a=some o->cW P w H h a o
end
section
variable{P:Program}{w:World}{H H':Hp}{h h':Heap}{a:Addr}{o:HO}
theorem cW.lt(x:cW P w H h a o):a < h.objs.size:=by
 cases o with
 | lst xs=>obtain⟨_,_,_,_,e⟩:=x;exact Heap.lt_size e
 | tup xs=>obtain⟨_,_,_,p⟩:=x;exact p.lt
 | dK kvs | dT kvs=>obtain⟨_,_,_,_,o,_,_,e,_⟩:=x;exact Heap.lt_size e
 | set S n=>obtain⟨o,_,_,_,e,_⟩:=x;exact Heap.lt_size e
 | ins C dx fs=>obtain⟨_,_,_,e,_⟩:=x;exact Heap.lt_size e
 | own y=>obtain⟨_,e⟩:=x;exact Heap.lt_size e
 | xd fs=>obtain⟨_,⟨_,_,_,e,_⟩,_⟩:=x;exact Heap.lt_size e
 | rng lo hi=>obtain⟨_,_,_,e⟩:=x;exact Heap.lt_size e
 | frz ob u=>obtain⟨e,_⟩:=x;exact Heap.lt_size e
 | tbl ps | met f y=>exact Heap.lt_size (show h.get? a=some _ from x)
 | ext φ=>obtain⟨_,⟨_,e⟩,_⟩:=x;exact Heap.lt_size e
theorem Paired.mapP{α β:Type}{F G:α->β->Prop}:∀{l₁:List α}{l₂:List β},Paired F l₁ l₂->(∀a b,F a b->G a b)->Paired G l₁ l₂
 | _,_,.nil,_=>.nil
 | _,_,.cons r t,f=>.cons (f _ _ r) (Paired.mapP t f)
theorem cW.stay(x:cW P w H h a o)(k:∀b u,(b=a\/H b=some (.own a))->h.get? b=some u->h'.get? b=some u)
  (ho:∀b,H b=some (.own a)->H' b=some (.own a)) (ht:∀b xs,H b=some (.tup xs)->H' b=some (.tup xs)):cW P w H' h' a o:=by
 induction o with
 | lst xs=>obtain⟨z,its,n,r,e⟩:=x;exact⟨z,its,n,r,k _ _ (.inl rfl) e⟩
 | tup xs=>obtain⟨z,its,r,ob,e,c⟩:=x;exact⟨z,its,r,ob,k _ _ (.inl rfl) e,c⟩
 | dK kvs=>obtain⟨z,y,vs,r,ob,es,ep,e,c⟩:=x;exact⟨z,y,vs,r,ob,es,ep,k _ _ (.inl rfl) e,c⟩
 | dT kvs =>
  obtain⟨z,y,xs,r,ob,es,ep,e,c⟩:=x
  exact⟨z,y,xs,Paired.mapP r fun p q z=>⟨z.1,ht _ _ z.2.1,z.2.2⟩,ob,es,ep,k _ _ (.inl rfl) e,c⟩
 | set S n=>obtain⟨ob,es,ep,t,e,c⟩:=x;exact⟨ob,es,ep,t,k _ _ (.inl rfl) e,c⟩
 | ins C dx fs =>
  obtain⟨d,z,ne,e,mA,⟨od,es,ep,e2,c⟩,r⟩:=x
  exact⟨ho _ d,z,ne,k _ _ (.inl rfl) e,mA,⟨od,es,ep,k _ _ (.inr d) e2,c⟩,r⟩
 | own y=>obtain⟨ob,e⟩:=x;exact⟨ob,k _ _ (.inl rfl) e⟩
 | xd fs=>obtain⟨mA,⟨od,es,ep,e,c⟩,r⟩:=x;exact⟨mA,⟨od,es,ep,k _ _ (.inl rfl) e,c⟩,r⟩
 | rng lo hi=>obtain⟨t,u,v,e⟩:=x;exact⟨t,u,v,k _ _ (.inl rfl) e⟩
 | frz ob u ih=>obtain⟨e,q⟩:=x;exact⟨k _ _ (.inl rfl) e,ih q⟩
 | tbl ps =>
  have e:h.get? a=some { cls:=.none,data:=.fields ps }:=x
  show h'.get? a=some { cls:=.none,data:=.fields ps }
  exact k a _ (.inl rfl) e
 | met f y =>
  have e:h.get? a=some (PySem.W.methodObj (.ref f) (.ref y)):=x
  show h'.get? a=some (PySem.W.methodObj (.ref f) (.ref y))
  exact k a _ (.inl rfl) e
 | ext φ=>obtain⟨p,⟨o,e⟩,st⟩:=x;exact⟨st _ _ p fun o q=>k _ _ (.inl rfl) q,⟨o,k _ _ (.inl rfl) e⟩,st⟩
theorem HOk.lt(x:HOk P w H h)(e:H a=some o):a < h.objs.size:=(x a o e).lt
theorem HOk.fresh(x:HOk P w H h)(e:h.objs.size<=a):H a=none:=by
 cases q:H a with
 | none=>rfl
 | some u=>exact absurd (Nat.lt_of_lt_of_le (x.lt q) e) (Nat.lt_irrefl _)
theorem HOk.kept(x:HOk P w H h)(k:∀b u,h.get? b=some u->h'.get? b=some u):HOk P w H h':=fun a o e =>
 (x a o e).stay (fun b u _ q=>k b u q) (fun _ q=>q) fun _ _ q=>q
theorem HOk.laid(x:HOk P w H h)(k:∀b u,h.get? b=some u->h'.get? b=some u)(hp:h.objs.size<=a)(new:cW P w (upd H a o) h' a o):HOk P w (upd H a o) h':=fun b u e=>by
 have hn:=x.fresh hp
 by_cases hb:b=a
 ·subst hb;rw[bq]at e;cases e;exact new
 ·rw[aF hb]at e
  exact(x b u e).stay (fun c v _ q=>k c v q) (fun c q=>by rw[aF (bH q hn)];exact q) fun c xs q=>by rw[aF (bH q hn)];exact q
end
def Rd(H:Hp)(a:Addr)(u:HO):Prop:=H a=some u\/∃o,H a=some (.frz o u)
theorem Rd.of{H:Hp}{a:Addr}{u:HO}(h:H a=some u):Rd H a u:=.inl h
theorem Rd.ok{P:Program}{w:World}{H:Hp}{h:Heap}{a:Addr}{u:HO}(r:Rd H a u)(x:HOk P w H h):cW P w H h a u:=by
 rcases r with r |⟨o,r⟩
 ·exact x a u r
 ·obtain⟨_,q⟩:=x a _ r
  exact q
def Mut:Option HO->Prop
 | some (.lst _) | some (.dK _) | some (.dT _) | some (.set _ _) | some (.ins _ _ _) | some (.ext _)=>True
 | _=>False
section
variable{P:Program}{w:World}{H:Hp}{h h':Heap}{x e:Addr}{o':HO}
theorem HOk.write(ok:HOk P w H h)(mu:Mut (H x))(he:e=x\/H e=some (.own x))(k:∀b u,b≠e->h.get? b=some u->h'.get? b=some u)(heo:∃u,h'.get? e=some u)
  (new:cW P w (upd H x o') h' x o'):HOk P w (upd H x o') h':=fun b u q=>by
 have nown:∀c y,H c=some (.own y)->c≠x:=fun c y r z=>by subst z;rw[r]at mu;exact mu
 have ntup:∀c xs,H c=some (.tup xs)->c≠x:=fun c xs r z=>by subst z;rw[r]at mu;exact mu
 by_cases hb:b=x
 ·subst hb;rw[bq]at q;cases q;exact new
 ·rw[aF hb]at q
  by_cases hbe:b=e
  ·have q':H b=some (.own x):=by
    rcases he with z | z
    ·exact absurd (hbe.trans z) hb
    ·rw[hbe];exact z
   rw[q]at q';cases q'
   obtain⟨v,hv⟩:=heo
   exact⟨v,by rw[hbe];exact hv⟩
  ·refine(ok b u q).stay (fun c v hc r=>k c v ?_ r) (fun c r=>by rw[aF (nown c b r)];exact r) fun c xs r=>by rw[aF (ntup c xs r)];exact r
   rcases hc with rfl | hc
   ·exact hbe
   ·rintro rfl
    rcases he with z | z
    ·exact nown c b hc z
    ·rw[hc]at z;cases z;exact hb rfl
end
structure Un(fs ex:List Addr)(H H':Hp)(h h':Heap):Prop where
 keep:∀b o,h.get? b=some o->H b=none->b∉fs->b∉ex->h'.get? b=some o
 slot:∀b o,h.get? b=some o->H b=none->b∈fs->b∉ex->∃sl,h'.get? b=some { o with slots:=sl }
 free:∀b o,h.get? b=some o->H b=none->b∉ex->H' b=none
 there:∀b o,h.get? b=some o->b∉ex->∃o',h'.get? b=some o'
 tups:∀b xs,H b=some (.tup xs)->H' b=some (.tup xs)
 frzs:∀b o u,H b=some (.frz o u)->H' b=some (.frz o u)
 tbls:∀b ps,H b=some (.tbl ps)->∃more,H' b=some (.tbl (ps++more))
section
variable{fs fs' ex ex':List Addr}{H H1 H2:Hp}{h h1 h2 h':Heap}{a x e:Addr}{o:HO}
theorem Un.any(u:Un fs ex H H1 h h1){b:Addr}{ob:Obj}(q:h.get? b=some ob)(n:H b=none)(hx:b∉ex):∃sl,h1.get? b=some { ob with slots:=sl }:=by
 by_cases hb:b∈fs
 ·exact u.slot b ob q n hb hx
 ·exact⟨ob.slots,u.keep b ob q n hb hx⟩
theorem Un.trans(a:Un fs ex H H1 h h1)(b:Un fs ex H1 H2 h1 h2):Un fs ex H H2 h h2 where
 keep:=fun c ob q n hc hx=>b.keep c ob (a.keep c ob q n hc hx) (a.free c ob q n hx) hc hx
 slot:=fun c ob q n hc hx=>by
  obtain⟨sl,e1⟩:=a.slot c ob q n hc hx
  obtain⟨sl',e2⟩:=b.slot c _ e1 (a.free c ob q n hx) hc hx
  exact⟨sl',e2⟩
 free:=fun c ob q n hx=>by
  obtain⟨o',e1⟩:=a.there c ob q hx
  exact b.free c o' e1 (a.free c ob q n hx) hx
 there:=fun c ob q hx=>by
  obtain⟨o',e1⟩:=a.there c ob q hx
  exact b.there c o' e1 hx
 tups:=fun c xs q=>b.tups c xs (a.tups c xs q)
 frzs:=fun c ob xs q=>b.frzs c ob xs (a.frzs c ob xs q)
 tbls:=fun c ps q=>by
  obtain⟨m1,e1⟩:=a.tbls c ps q
  obtain⟨m2,e2⟩:=b.tbls c _ e1
  exact⟨m1++m2,by rw[e2,Array.append_assoc]⟩
theorem Un.kept(k:∀b u,h.get? b=some u->h'.get? b=some u):Un fs ex H H h h' :=
 ⟨fun b ob q _ _ _=>k b ob q,fun b ob q _ _ _=>⟨ob.slots,k b ob q⟩,fun _ _ _ n _=>n,fun b ob q _=>⟨ob,k b ob q⟩,fun _ _ q=>q,fun _ _ _ q=>q,fun _ ps q=>⟨#[],by rw[q];simp⟩⟩
theorem Un.refl:Un fs ex H H h h:=Un.kept fun _ _ q=>q
theorem Un.laid(k:∀b u,h.get? b=some u->h'.get? b=some u)(hp:h.objs.size<=a)(hn:H a=none):Un fs ex H (upd H a o) h h' where
 keep:=fun b u q _ _ _=>k b u q
 slot:=fun b u q _ _ _=>⟨u.slots,k b u q⟩
 free:=fun b u q n _=>by rw[aF (Nat.ne_of_lt (Nat.lt_of_lt_of_le (Heap.lt_size q) hp))];exact n
 there:=fun b u q _=>⟨u,k b u q⟩
 tups:=fun b xs q=>by rw[aF (bH q hn)];exact q
 frzs:=fun b u xs q=>by rw[aF (bH q hn)];exact q
 tbls:=fun b ps q=>⟨#[],by rw[aF (bH q hn),q];simp⟩
theorem Un.write(mu:Mut (H x))(he:e=x\/H e=some (.own x))(k:∀b u,b≠e->h.get? b=some u->h'.get? b=some u)(heo:∃u,h'.get? e=some u):Un fs ex H (upd H x o) h h':=by
 have hx:∀b,H b=none->b≠x:=fun b n z=>by subst z;rw[n]at mu;exact mu
 have hb:∀b,H b=none->b≠e:=fun b n z=>by
  subst z
  rcases he with r | r
  ·exact hx b n r
  ·rw[n]at r;cases r
 have hm:∀b u,H b=some u->¬Mut (some u)->b≠x:=fun b u q nm z=>by subst z;rw[q]at mu;exact nm mu
 refine ⟨fun b u q n _ _=>k b u (hb b n) q,fun b u q n _ _=>⟨u.slots,k b u (hb b n) q⟩,fun b u q n _=>by rw [aF (hx b n)];exact n,fun b u q _=>?_,
  fun b xs q=>by rw[aF (hm b _ q fun z=>z)];exact q,fun b u xs q=>by rw[aF (hm b _ q fun z=>z)];exact q,fun b ps q=>⟨#[],by rw[aF (hm b _ q fun z=>z),q];simp⟩⟩
 by_cases hbe:b=e
 ·subst hbe;exact heo
 ·exact⟨u,k b u hbe q⟩
theorem Un.mono(u:Un fs ex H H1 h h1)(hs:∀b∈fs,b∈fs')(hx:∀b∈ex,b∈ex'):Un fs' ex' H H1 h h1 :=
 ⟨fun b ob q n hb he=>u.keep b ob q n (fun z=>hb (hs b z)) fun z=>he (hx b z),fun _ _ q n _ he=>u.any q n fun z=>he (hx _ z),fun b ob q n he=>u.free b ob q n fun z=>he (hx b z),fun b ob q he=>u.there b ob q fun z=>he (hx b z),u.tups,u.frzs,u.tbls⟩
end
def trk(h:Heap)(H:Hp):List Addr:=(List.range h.objs.size).filter fun a=>(H a).isSome
def lV(h:Heap)(H:Hp):Heap:=PySem.W.hideAll h (trk h H)
theorem qO(h:Heap)(H:Hp):(lV h H).objs.size=h.objs.size:=PySem.W.hideAll_size _ _
theorem uh{h:Heap}{H:Hp}{b:Addr}{o:Obj}(e:h.get? b=some o)(n:H b=none):(lV h H).get? b=some o :=
 PySem.W.hideAll_get _ e fun hm=>by
  have q:(H b).isSome=true:=(List.mem_filter.mp hm).2
  rw[n]at q;simp at q
theorem wa{h:Heap}{H:Hp}{b:Addr}{o:Obj}(e:(lV h H).get? b=some o):h.get? b=some o/\H b=none:=by
 have e':h.get? b=some o:=PySem.W.of_hideAll (trk h H) e
 refine⟨e',?_⟩
 cases q:H b with
 | none=>rfl
 | some x =>
  have hm:b∈trk h H:=List.mem_filter.mpr ⟨List.mem_range.mpr (Heap.lt_size e'),by simp[q]⟩
  have z:(lV h H).get? b=none:=PySem.W.hideAll_none (trk h H) hm
  rw[z]at e;cases e
def xp(g h:Heap)(L:Addr):List (Addr×Obj):=(List.range h.objs.size).filterMap fun a=>if a=L \/(g.get? a).isSome=true then none else(h.get? a).map fun o=>(a,o)
def aN(g h:Heap)(L d:Addr):List (Addr×Obj):=(xp g h L).filter fun p=>decide (p.1≠d)
end L2
namespace L2
open PySem PySem.Spec PyProof.Rows
structure Mod(K:PySem.W.Frag)(mg:Str->Option Value)(base:Heap):Prop where
 kin:K.In base
 glob:base.Ns mainGlobals mg
 blt:∃mb,base.Ns builtinsNs mb/\∀x:Str,x≠"__name__" -> mb x=bootBuiltins x
 nolimit:base.NoLimit
structure Cx where
 prog:Program
 w:World
 K:PySem.W.Frag
 mg:Str->Option Value
 base:Heap
 A:Around
 N:List Str
 s₀:Shared
 H₀:Hp
 env:Env
 outer:List Env
 stack:List Env
 ex:List Addr
 fn:Str->Bool
 calm:Bool
 pn:List (Addr×Obj)
 xe:Value->Shared->Prop
def frs(l:List Env):List Addr:=l.filterMap (·.frame)
abbrev Cx.fs(X:Cx):List Addr:=frs X.outer
def Vis(sc:Scope)(x:Str):Prop:=sc.names.lookup x=some .local\/sc.names.lookup x=some .cell\/sc.names.lookup x=some .free
def Loc(sc:Scope)(x:Str):Prop:=sc.names.lookup x=some .local\/sc.names.lookup x=some .cell
def Ef(env:Env)(h:Heap)(m:Str->Option Value)(x:Str)(u:Value):Prop :=
 (env.kindOf x=some .local/\m x=some u)\/((env.kindOf x=some .cell\/env.kindOf x=some .free)/\∃c,env.cells.lookup x=some c/\h.IsCell c (some u))
structure Cx.Ok(X:Cx):Prop where
 mod:Mod X.K X.mg X.base
 kind:X.env.scope.kind=.function
 glob:X.env.globals=mainGlobals
 blt:X.env.builtins=builtinsNs
 above:X.s₀.heap.objs.size<=X.env.locals
 inj:∀x y c,X.env.cells.lookup x=some c->X.env.cells.lookup y=some c->x=y
 has:∀x,(X.env.kindOf x=some .cell\/X.env.kindOf x=some .free)->∃c,X.env.cells.lookup x=some c
 cab:∀x c,X.fn x=true->X.env.cells.lookup x=some c->X.s₀.heap.objs.size<=c
 hd:X.calm=true->X.A.handled=none
 frames:X.A.frames=some X.stack
 stk:X.stack=X.outer \/(X.stack=X.env::X.outer/\X.env.frame=some X.env.locals)
 exf:∀b∈X.ex,b≠X.env.locals/\∀x c,X.env.cells.lookup x=some c->c≠b
 bs:∀b o,X.base.get? b=some o->X.s₀.heap.get? b=some o/\X.H₀ b=none
 bsz:X.base.objs.size<=X.s₀.heap.objs.size
 noex:∀b o,X.base.get? b=some o->b∉X.ex
 exfs:∀b∈X.ex,b∉X.fs
 funs:X.s₀.heap.FunFrames X.base X.outer
 frf:∀b∈X.fs,X.H₀ b=none
structure Inv(X:Cx)(pins:List (Addr×Obj))(σ:List (Option V))(H:Hp)(s:Shared):Prop where
 ok:X.Ok
 os:s.os=X.s₀.os
 bare:AllBare s.gens
 base:Un X.fs X.ex X.H₀ H X.s₀.heap s.heap
 loc:∃m,s.heap.Ns X.env.locals m/\∀(i:Nat) (x:Str) (v:V),X.N[i]?=some x->σ[i]?=some (some v)->Vis X.env.scope x->∃u,bp v u/\Ef X.env s.heap m x u
 cell:∀x c,X.env.cells.lookup x=some c->∃v,s.heap.IsCell c v
 free:H X.env.locals=none
 freeC:∀x c,X.env.cells.lookup x=some c->H c=none
 pin:∀p∈X.pn++pins,s.heap.get? p.1=some p.2/\H p.1=none/\p.1≠X.env.locals/\p.1∉X.fs/\∀v,p.2.data≠.cell v
 hok:HOk X.prog X.w H s.heap
 len:σ.length=X.N.length
section
variable{X:Cx}{pins:List (Addr×Obj)}{σ:List (Option V)}{H H':Hp}{s:Shared}{h':Heap}
theorem Cx.Ok.nofr(ok:X.Ok){b:Addr}{o:Obj}(e:X.base.get? b=some o):b∉X.fs:=fun hb=>by
 have:=(ok.funs.mem hb).1
 rw[e]at this;cases this
theorem Inv.bs(I:Inv X pins σ H s):∀b o,X.base.get? b=some o->s.heap.get? b=some o/\H b=none:=fun b o e =>
 ⟨I.base.keep b o (I.ok.bs b o e).1 (I.ok.bs b o e).2 (I.ok.nofr e) (I.ok.noex b o e),I.base.free b o (I.ok.bs b o e).1 (I.ok.bs b o e).2 (I.ok.noex b o e)⟩
theorem Inv.bk(I:Inv X pins σ H s):∀b o,X.base.get? b=some o->s.heap.get? b=some o:=fun b o e=>(I.bs b o e).1
theorem Inv.mod(I:Inv X pins σ H s):Mod X.K X.mg X.base:=I.ok.mod
theorem Inv.kIn(I:Inv X pins σ H s):X.K.In s.heap:=I.ok.mod.kin.keeps I.bk
theorem Inv.lt(I:Inv X pins σ H s):X.env.locals < s.heap.objs.size:=let⟨_,hn,_⟩:=I.loc;hn.lt
theorem Inv.sz(I:Inv X pins σ H s):X.s₀.heap.objs.size<=s.heap.objs.size:=Nat.le_trans I.ok.above (Nat.le_of_lt I.lt)
theorem Inv.nofs(I:Inv X pins σ H s){a:Addr}(h:s.heap.objs.size<=a):a∉X.fs:=fun hb=>by
 obtain⟨_,o,ho,_⟩:=I.ok.funs.mem hb
 exact absurd (Nat.lt_of_lt_of_le (Heap.lt_size ho) (Nat.le_trans I.sz h)) (Nat.lt_irrefl _)
theorem Inv.cne(I:Inv X pins σ H s):∀x c,X.env.cells.lookup x=some c->c≠X.env.locals:=fun x c e z=>by
 obtain⟨v,o,ho,hd⟩:=I.cell x c e
 obtain⟨m,⟨o',es,ep,ho',hd',_⟩,_⟩:=I.loc
 rw[z,ho']at ho;cases ho;rw[hd']at hd;cases hd
theorem Inv.funs(I:Inv X pins σ H s):s.heap.FunFrames X.base X.outer:=by
 have all:∀(l:List Env),(∀b∈frs l,b∈X.fs)->X.s₀.heap.FunFrames X.base l->s.heap.FunFrames X.base l:=by
  intro l
  induction l with
  | nil=>intro _ _;trivial
  | cons env r ih =>
   intro hs hl
   obtain⟨hk,⟨L,o,hf,hn,ho,hd⟩,hr⟩:=hl
   have hL:L∈X.fs:=hs L (by unfold frs;rw[List.filterMap_cons,hf];exact List.mem_cons_self)
   obtain⟨sl,e⟩:=I.base.slot L o ho (I.ok.frf L hL) hL fun z=>I.ok.exfs L z hL
   exact⟨hk,⟨L,_,hf,hn,e,hd⟩,ih (fun b hb=>hs b (by unfold frs;rw[List.filterMap_cons,hf];exact List.mem_cons_of_mem _ hb)) hr⟩
 exact all X.outer (fun _ hb=>hb) I.ok.funs
theorem Inv.stack(I:Inv X pins σ H s):s.heap.FunFrames X.base X.stack:=by
 rcases I.ok.stk with e |⟨e,hf⟩
 ·rw[e];exact I.funs
 ·rw[e]
  obtain⟨m,hn,_⟩:=I.loc
  refine .cons (by rw[I.ok.kind];decide) hf hn ?_ I.funs
  exact Heap.get?_none_of_le (Nat.le_trans I.ok.bsz I.ok.above)
theorem Inv.stkSub(I:Inv X pins σ H s):∀b∈frs X.stack,b∈X.env.locals::X.fs:=fun b hb=>by
 rcases I.ok.stk with e |⟨e,hf⟩
 ·rw[e]at hb;exact List.mem_cons_of_mem _ hb
 ·rw[e]at hb
  unfold frs at hb
  rw[List.filterMap_cons,hf]at hb
  exact hb
theorem Inv.stkFree(I:Inv X pins σ H s):∀b∈frs X.stack,H b=none:=fun b hb=>by
 rcases List.mem_cons.mp (I.stkSub b hb)with e | hb
 ·rw[e];exact I.free
 ·obtain⟨_,o,ho,_⟩:=I.ok.funs.mem hb
  exact I.base.free b o ho (I.ok.frf b hb) fun z=>I.ok.exfs b z hb
theorem Inv.step{g':Array GenState}{t':Nat}{d':Drawn}{ch:List Addr}(I:Inv X pins σ H s)
  (hch:∀b∈ch,(b∈X.ex\/X.s₀.heap.objs.size<=b)/\b≠X.env.locals/\(∀x c,X.env.cells.lookup x=some c->c≠b)/\∀p∈X.pn++pins,p.1≠b)
  (keep:∀b o,b≠X.env.locals->b∉X.fs->b∉ch->s.heap.get? b=some o->H b=none->h'.get? b=some o)
  (slot:∀b o,b≠X.env.locals->b∈X.fs->b∉ch->s.heap.get? b=some o->H b=none->∃sl,h'.get? b=some { o with slots:=sl }) (free:∀b o,b∉ch->s.heap.get? b=some o->H b=none->H' b=none)
  (there:∀b o,b∉ch->s.heap.get? b=some o->∃o',h'.get? b=some o')
  (tups:∀b xs,H b=some (.tup xs)->H' b=some (.tup xs)) (frzs:∀b o u,H b=some (.frz o u)->H' b=some (.frz o u)) (tbls:∀b ps,H b=some (.tbl ps)->∃more,H' b=some (.tbl (ps++more)))
  (ns:∀m,s.heap.Ns X.env.locals m->h'.Ns X.env.locals m) (hok:HOk X.prog X.w H' h') (hg:AllBare g') :
  Inv X pins σ H' { s with heap:=h',gens:=g',drawn:=d',toks:=t' }:=by
 have neL:∀b o,X.s₀.heap.get? b=some o->b≠X.env.locals:=fun b o e=>Nat.ne_of_lt (Nat.lt_of_lt_of_le (Heap.lt_size e) I.ok.above)
 have neC:∀b o,X.s₀.heap.get? b=some o->b∉X.ex->b∉ch:=fun b o e hx hb=>by
  rcases(hch b hb).1 with z | z
  ·exact hx z
  ·exact absurd (Nat.lt_of_lt_of_le (Heap.lt_size e) z) (Nat.lt_irrefl _)
 have cellK:∀x c,X.env.cells.lookup x=some c->∀v,s.heap.IsCell c v->h'.IsCell c v:=fun x c e v ⟨o,ho,hd⟩=>by
  have nch:c∉ch:=fun z=>(hch c z).2.2.1 x c e rfl
  by_cases hc:c∈X.fs
  ·obtain⟨sl,q⟩:=slot c o (I.cne x c e) hc nch ho (I.freeC x c e)
   exact⟨_,q,hd⟩
  ·exact⟨o,keep c o (I.cne x c e) hc nch ho (I.freeC x c e),hd⟩
 refine⟨I.ok,I.os,hg,⟨fun b o e n hb hx=>?_,fun b o e n hb hx=>?_,fun b o e n hx=>?_,fun b o e hx=>?_,fun b xs e=>tups b xs (I.base.tups b xs e),fun b o xs e=>frzs b o xs (I.base.frzs b o xs e),fun b ps e=>?_⟩,?_,fun x c e=>?_,?_,fun x c e=>?_,fun p hp=>?_,hok,I.len⟩
 ·exact keep b o (neL b o e) hb (neC b o e hx) (I.base.keep b o e n hb hx) (I.base.free b o e n hx)
 ·obtain⟨sl,e1⟩:=I.base.slot b o e n hb hx
  obtain⟨sl',e2⟩:=slot b _ (neL b o e) hb (neC b o e hx) e1 (I.base.free b o e n hx)
  exact⟨sl',e2⟩
 ·obtain⟨o',e1⟩:=I.base.there b o e hx
  exact free b o' (neC b o e hx) e1 (I.base.free b o e n hx)
 ·obtain⟨o',e1⟩:=I.base.there b o e hx
  exact there b o' (neC b o e hx) e1
 ·obtain⟨m1,e1⟩:=I.base.tbls b ps e
  obtain⟨m2,e2⟩:=tbls b _ e1
  exact⟨m1++m2,by rw[e2,Array.append_assoc]⟩
 ·obtain⟨m,hn,hl⟩:=I.loc
  refine⟨m,ns m hn,fun i x v e1 e2 e3=>?_⟩
  obtain⟨u,r,l⟩:=hl i x v e1 e2 e3
  refine⟨u,r,?_⟩
  rcases l with l |⟨k,c,e,z⟩
  ·exact .inl l
  ·exact .inr ⟨k,c,e,cellK x c e _ z⟩
 ·obtain⟨v,z⟩:=I.cell x c e
  exact⟨v,cellK x c e v z⟩
 ·obtain⟨m,⟨o,_,_,ho,_⟩,_⟩:=I.loc
  exact free _ o (fun z=>(hch _ z).2.1 rfl) ho I.free
 ·obtain⟨v,o,ho,hd⟩:=I.cell x c e
  exact free c o (fun z=>(hch c z).2.2.1 x c e rfl) ho (I.freeC x c e)
 ·obtain⟨e,n,ne,nf,d⟩:=I.pin p hp
  have nch:p.1∉ch:=fun z=>(hch p.1 z).2.2.2 p hp rfl
  exact⟨keep p.1 p.2 ne nf nch e n,free p.1 p.2 nch e n,ne,nf,d⟩
theorem Inv.un{t':Nat}(I:Inv X pins σ H s)(u:Un X.fs [] H H' s.heap h')(hok:HOk X.prog X.w H' h'):Inv X pins σ H' { s with heap:=h',toks:=t' }:=by
 obtain⟨m,⟨o,es,ep,ho,r⟩,_⟩:=id I.loc
 obtain⟨sl,hL⟩:=u.any ho I.free (by simp)
 exact I.step (g':=s.gens) (d':=s.drawn) (ch:=[]) (fun _ z=>nomatch z) (fun b o _ hb _ e n=>u.keep b o e n hb (by simp)) (fun b o _ hb _ e n=>u.slot b o e n hb (by simp)) (fun b o _ e n=>u.free b o e n (by simp)) (fun b o _ e=>u.there b o e (by simp)) u.tups u.frzs u.tbls (fun m' hm=>by
  obtain⟨o',es',ep',ho',r'⟩:=hm
  rw[ho]at ho';cases ho'
  exact⟨_,es',ep',hL,r'⟩) hok I.bare
theorem Inv.call{g':Array GenState}{t':Nat}{d':Drawn}{ch:List Addr}(I:Inv X pins σ H s)(u:Un (frs X.stack) ch H H' s.heap h')(hok:HOk X.prog X.w H' h')(hg:AllBare g')
  (hch:∀b∈ch,(b∈X.ex\/X.s₀.heap.objs.size<=b)/\b≠X.env.locals/\(∀x c,X.env.cells.lookup x=some c->c≠b)/\∀p∈X.pn++pins,p.1≠b) :
  Inv X pins σ H' { s with heap:=h',gens:=g',drawn:=d',toks:=t' }:=by
 obtain⟨m,⟨o,es,ep,ho,r⟩,_⟩:=id I.loc
 obtain⟨sl,hL⟩:=u.any ho I.free fun z=>(hch _ z).2.1 rfl
 exact I.step (ch:=ch) hch (fun b o hL hb hc e n=>u.keep b o e n (fun z=>(List.mem_cons.mp (I.stkSub b z)).elim hL hb) hc) (fun b o _ _ hc e n=>u.any e n hc) (fun b o hc e n=>u.free b o e n hc) (fun b o hc e=>u.there b o e hc) u.tups u.frzs u.tbls (fun m' hm=>by
  obtain⟨o',es',ep',ho',r'⟩:=hm
  rw[ho]at ho';cases ho'
  exact⟨_,es',ep',hL,r'⟩) hok hg
theorem Inv.turned{t':Nat}{it:Addr}(I:Inv X pins σ H s)(k:∀b o,b≠it->s.heap.get? b=some o->h'.get? b=some o)(hn:H it=none)(hL:it≠X.env.locals)
  (h1:it∈X.ex\/X.s₀.heap.objs.size<=it) (h2:∀x c,X.env.cells.lookup x=some c->c≠it) (h3:∀p∈X.pn++pins,p.1≠it):Inv X pins σ H { s with heap:=h',toks:=t' }:=by
 have nit:∀b u,H b=some u->b≠it:=fun b u e z=>by rw[z,hn]at e;cases e
 refine I.step (g':=s.gens) (d':=s.drawn) (ch:=[it]) (fun b hb=>?_) (fun b o _ _ hc e _=>k b o (fun z=>hc (by simp[z])) e) (fun b o _ _ hc e _=>⟨o.slots,k b o (fun z=>hc (by simp[z])) e⟩) (fun _ _ _ _ n=>n)
  (fun b o hc e=>⟨o,k b o (fun z=>hc (by simp[z])) e⟩) (fun _ _ e=>e) (fun _ _ _ e=>e) (fun b ps e=>⟨#[],by rw[e];simp⟩) (fun m hm=>?_) (fun b u e=>?_) I.bare
 ·have e:b=it:=by simpa using hb
  subst e
  exact⟨h1,hL,h2,h3⟩
 ·obtain⟨o,es,ep,ho,r⟩:=hm
  exact⟨o,es,ep,k _ o (Ne.symm hL) ho,r⟩
 ·refine(I.hok b u e).stay (fun c v hc q=>k c v ?_ q) (fun _ q=>q) fun _ _ q=>q
  rcases hc with z | z
  ·rw[z];exact nit b u e
  ·exact nit c _ z
theorem Inv.tok(I:Inv X pins σ H s)(t:Nat):Inv X pins σ H { s with toks:=t }:=I.un (h':=s.heap) (t':=t) Un.refl I.hok
theorem Inv.kept{t':Nat}(I:Inv X pins σ H s)(k:∀b u,s.heap.get? b=some u->h'.get? b=some u):Inv X pins σ H { s with heap:=h',toks:=t' }:=I.un (Un.kept k) (I.hok.kept k)
theorem Inv.laid{a:Addr}{o:HO}{t':Nat}(I:Inv X pins σ H s)(k:∀b u,s.heap.get? b=some u->h'.get? b=some u)(hp:s.heap.objs.size<=a)(new:cW X.prog X.w (upd H a o) h' a o) :
  Inv X pins σ (upd H a o) { s with heap:=h',toks:=t' }:=I.un (Un.laid k hp (I.hok.fresh hp)) (I.hok.laid k hp new)
theorem Inv.write{x e:Addr}{o:HO}{t':Nat}(I:Inv X pins σ H s)(mu:Mut (H x))(he:e=x\/H e=some (.own x))(k:∀b u,b≠e->s.heap.get? b=some u->h'.get? b=some u)(heo:∃u,h'.get? e=some u)
  (new:cW X.prog X.w (upd H x o) h' x o):Inv X pins σ (upd H x o) { s with heap:=h',toks:=t' }:=I.un (Un.write mu he k heo) (I.hok.write mu he k heo new)
theorem Inv.pins_of{pins':List (Addr×Obj)}(I:Inv X pins σ H s)(h:∀p∈pins',s.heap.get? p.1=some p.2/\H p.1=none/\p.1≠X.env.locals/\p.1∉X.fs/\∀v,p.2.data≠.cell v):Inv X pins' σ H s :=
 ⟨I.ok,I.os,I.bare,I.base,I.loc,I.cell,I.free,I.freeC,fun p hp=>(List.mem_append.mp hp).elim (fun z=>I.pin p (List.mem_append_left _ z)) (h p),I.hok,I.len⟩
theorem m9{N:List Str}(hN:N.Nodup){i j:Nat}{x:Str}(a:N[i]?=some x)(b:N[j]?=some x):i=j:=by
 obtain⟨h1,e1⟩:=List.getElem?_eq_some_iff.mp a
 obtain⟨h2,e2⟩:=List.getElem?_eq_some_iff.mp b
 exact(List.getElem_inj hN).mp (e1.trans e2.symm)
theorem kz{M:Model}{A:Around}{E:Value->Shared->Prop}{i:Nat}{x:Str}{v:V}{u:Value}{Q:Unit->Shared->Prop}(I:Inv X pins σ H s)(hN:X.N.Nodup)(hi:X.N[i]?=some x)(hx:Loc X.env.scope x)(r:bp v u)
  (h:∀s',Inv X pins (σ.set i (some v)) H s'->(∃a,Heap.SameBut a s.heap s'.heap/\(a=X.env.locals\/X.env.cells.lookup x=some a))->Q () s') (hf:X.fn x=true\/X.env.scope.names.lookup x=some .local:=by first | exact .inl rfl | exact .inr rfl | assumption):wpAny M A (storeName X.env x u) Q E s:=by
 obtain⟨m,hn,hl⟩:=id I.loc
 have hcls:(X.env.scope.kind==.class ||(X.env.scope.kind==.module&&X.env.locals != X.env.globals))=false:=by rw[I.ok.kind];rfl
 have hiσ:i < σ.length:=by rw[I.len];exact(List.getElem?_eq_some_iff.mp hi).1
 have cne:=I.cne
 have tracked:∀{a:Addr}{h':Heap},(∃o,s.heap.get? a=some o/\H a=none)->Heap.SameBut a s.heap h'->HOk X.prog X.w H h':=fun {a h'} ha hs b ob e=>by
  obtain⟨_,_,hfree⟩:=ha
  refine(I.hok b ob e).stay (fun c w' hc q=>(hs.2 c ?_).trans q) (fun _ q=>q) fun _ _ q=>q
  rintro rfl
  rcases hc with rfl | hc
  ·rw[hfree]at e;cases e
  ·rw[hfree]at hc;cases hc
 rcases hx with hk | hk
 ·refine wpAny_storeName_local hk hn (fun h' hn' hs=>?_) hcls
  obtain⟨oL,_,_,hoL,_⟩:=id hn
  refine h _ ⟨I.ok,I.os,I.bare,⟨fun b o e n hb hx=>?_,fun b o e n hb hx=>?_,I.base.free,fun b o e hx=>?_,I.base.tups,I.base.frzs,I.base.tbls⟩,⟨_,hn',fun j y v' e1 e2 e3=>?_⟩,fun y c e=>?_,I.free,I.freeC,fun p hp=>?_,tracked ⟨oL,hoL,I.free⟩ hs,by simpa using I.len⟩ ⟨_,hs,.inl rfl⟩
  ·exact(hs.2 b (Nat.ne_of_lt (Nat.lt_of_lt_of_le (Heap.lt_size e) I.ok.above))).trans (I.base.keep b o e n hb hx)
  ·obtain⟨sl,e1⟩:=I.base.slot b o e n hb hx
   exact⟨sl,(hs.2 b (Nat.ne_of_lt (Nat.lt_of_lt_of_le (Heap.lt_size e) I.ok.above))).trans e1⟩
  ·obtain⟨o',e1⟩:=I.base.there b o e hx
   exact⟨o',(hs.2 b (Nat.ne_of_lt (Nat.lt_of_lt_of_le (Heap.lt_size e) I.ok.above))).trans e1⟩
  ·by_cases hj:j=i
   ·subst hj
    rw[hi]at e1;cases e1
    rw[List.getElem?_set_self hiσ]at e2
    cases e2
    exact⟨u,r,.inl ⟨hk,by simp⟩⟩
   ·rw[List.getElem?_set_ne (Ne.symm hj)]at e2
    obtain⟨u',r',q⟩:=hl j y v' e1 e2 e3
    refine⟨u',r',?_⟩
    rcases q with⟨k,e⟩ |⟨k,c,e,z⟩
    ·refine .inl ⟨k,?_⟩
     have:y≠x:=fun e=>hj (m9 hN e1 (e▸hi))
     simp[this,e]
    ·exact .inr ⟨k,c,e,z.sameBut hs (cne y c e)⟩
  ·obtain⟨w',z⟩:=I.cell y c e
   exact⟨w',z.sameBut hs (cne y c e)⟩
  ·obtain⟨e,n,ne,nf,d⟩:=I.pin p hp
   exact⟨(hs.2 p.1 ne).trans e,n,ne,nf,d⟩
 ·have hfn:X.fn x=true:=by
   rcases hf with z | z
   ·exact z
   ·rw[z]at hk;cases hk
  obtain⟨c,hc⟩:=I.ok.has x (.inl hk)
  obtain⟨w',z⟩:=I.cell x c hc
  refine wpAny_storeName_cell I.ok.kind hk hc z (fun h' hc' hs=>?_)
  obtain⟨oc,hoc,hocd⟩:=id z
  refine h { s with heap:=h' } ⟨I.ok,I.os,I.bare,⟨fun b o e n hb hx=>?_,fun b o e n hb hx=>?_,I.base.free,fun b o e hx=>?_,I.base.tups,I.base.frzs,I.base.tbls⟩,⟨m,hn.sameBut hs (Ne.symm (cne x c hc)),fun j y v' e1 e2 e3=>?_⟩,fun y c' e=>?_,I.free,I.freeC,fun p hp=>?_,tracked ⟨oc,hoc,I.freeC x c hc⟩ hs,by simpa using I.len⟩ ⟨c,hs,.inr hc⟩
  ·exact(hs.2 b (Nat.ne_of_lt (Nat.lt_of_lt_of_le (Heap.lt_size e) (I.ok.cab x c hfn hc)))).trans (I.base.keep b o e n hb hx)
  ·obtain⟨sl,e1⟩:=I.base.slot b o e n hb hx
   exact⟨sl,(hs.2 b (Nat.ne_of_lt (Nat.lt_of_lt_of_le (Heap.lt_size e) (I.ok.cab x c hfn hc)))).trans e1⟩
  ·obtain⟨o',e1⟩:=I.base.there b o e hx
   exact⟨o',(hs.2 b (Nat.ne_of_lt (Nat.lt_of_lt_of_le (Heap.lt_size e) (I.ok.cab x c hfn hc)))).trans e1⟩
  ·by_cases hj:j=i
   ·subst hj
    rw[hi]at e1;cases e1
    rw[List.getElem?_set_self hiσ]at e2
    cases e2
    exact⟨u,r,.inr ⟨.inl hk,c,hc,hc'⟩⟩
   ·rw[List.getElem?_set_ne (Ne.symm hj)]at e2
    obtain⟨u',r',q⟩:=hl j y v' e1 e2 e3
    refine⟨u',r',?_⟩
    rcases q with q |⟨k,c',e,z'⟩
    ·exact .inl q
    ·refine .inr ⟨k,c',e,z'.sameBut hs ?_⟩
     rintro rfl
     exact hj (m9 hN e1 (I.ok.inj _ _ _ e hc▸hi))
  ·by_cases hcc:c'=c
   ·subst hcc;exact⟨_,hc'⟩
   ·obtain⟨w2,z2⟩:=I.cell y c' e
    exact⟨w2,z2.sameBut hs hcc⟩
  ·obtain⟨e,n,ne,nf,d⟩:=I.pin p hp
   refine⟨(hs.2 p.1 ?_).trans e,n,ne,nf,d⟩
   intro q
   rw[q,hoc]at e
   have q':oc=p.2:=Option.some.inj e
   exact d w' (by rw[<- q'];exact hocd)
theorem mK{M:Model}{A:Around}{E:Value->Shared->Prop}{i:Nat}{x:Str}{v:V}{u:Value}{Q:Unit->Shared->Prop}(I:Inv X pins σ H s)(hN:X.N.Nodup)(hi:X.N[i]?=some x)(hx:Loc X.env.scope x)(r:bp v u)
  (h:∀s',Inv X pins (σ.set i (some v)) H s'->Q () s') (hf:X.fn x=true\/X.env.scope.names.lookup x=some .local:=by first | exact .inl rfl | exact .inr rfl | assumption):wpAny M A (storeName X.env x u) Q E s :=
 kz I hN hi hx r (fun s' I' _=>h s' I') hf
theorem Inv.call'{s':Shared}{ch:List Addr}(I:Inv X pins σ H s)(ho:s'.os=s.os)(u:Un (frs X.stack) ch H H' s.heap s'.heap)(hok:HOk X.prog X.w H' s'.heap)(hg:AllBare s'.gens)
  (hch:∀b∈ch,(b∈X.ex\/X.s₀.heap.objs.size<=b)/\b≠X.env.locals/\(∀x c,X.env.cells.lookup x=some c->c≠b)/\∀p∈X.pn++pins,p.1≠b):Inv X pins σ H' s':=by
 obtain⟨h',g',d',t',o'⟩:=s'
 have e:o'=s.os:=ho
 subst e
 exact I.call (g':=g') (t':=t') (d':=d') u hok hg hch
end
abbrev XK:=Value->Option Addr->Hp->Prop
abbrev St:=List (Option V)
abbrev VK:=V->Hp->Prop
abbrev TE:=St->Hp->VK->Prop
abbrev TT:=St->Hp->(Bool->Hp->Prop)->Prop
abbrev TA:=St->Hp->(List V->Hp->Prop)->Prop
structure Ends where
 nx:St->Hp->Prop
 rt:VK
 bk:St->Hp->Prop:=fun _ _=>False
 ct:St->Hp->Prop:=fun _ _=>False
abbrev TS:=Ends->St->Hp->Prop
def EP(X:Cx)(pins:List (Addr×Obj))(σ:St)(Q:VK)(u:Value)(s':Shared):Prop:=∃v H',Inv X pins σ H' s'/\bp v u/\Q v H'
def TP(X:Cx)(pins:List (Addr×Obj))(σ:St)(Q:Bool->Hp->Prop)(b:Bool)(s':Shared):Prop:=∃H',Inv X pins σ H' s'/\Q b H'
def AP(X:Cx)(pins:List (Addr×Obj))(σ:St)(Q:List V->Hp->Prop)(us:List Value)(s':Shared):Prop:=∃vs H',Inv X pins σ H' s'/\aG vs us/\Q vs H'
def SP(X:Cx)(pins:List (Addr×Obj))(D:Ends)(f:Flow)(s':Shared):Prop :=
 match f with
 | .next=>∃σ' H',Inv X pins σ' H' s'/\D.nx σ' H'
 | .brk=>∃σ' H',Inv X pins σ' H' s'/\D.bk σ' H'
 | .cont=>∃σ' H',Inv X pins σ' H' s'/\D.ct σ' H'
 | .ret u=>∃v σ' H',Inv X pins σ' H' s'/\bp v u/\D.rt v H'
def PE(X:Cx)(e:Expr)(t:TE):Prop :=
 ∀(pins:List (Addr×Obj)) (s:Shared) (σ:St) (H:Hp) (Q:VK),Inv X pins σ H s->t σ H Q->wpAny (model X.prog X.w) X.A (eval e X.env) (EP X pins σ Q) X.xe s
def PT(X:Cx)(e:Expr)(t:TT):Prop :=
 ∀(pins:List (Addr×Obj)) (s:Shared) (σ:St) (H:Hp) (Q:Bool->Hp->Prop),Inv X pins σ H s->t σ H Q->wpAny (model X.prog X.w) X.A (isTrue e X.env (eval e X.env)) (TP X pins σ Q) X.xe s
def PW(X:Cx)(e:Expr)(t:TT):Prop :=
 ∀(whole:Sem Value) (pins:List (Addr×Obj)) (s:Shared) (σ:St) (H:Hp) (Q:Bool->Hp->Prop),Inv X pins σ H s->t σ H Q->wpAny (model X.prog X.w) X.A (isTrue e X.env whole) (TP X pins σ Q) X.xe s
theorem PW.pt{X:Cx}{e:Expr}{t:TT}(h:PW X e t):PT X e t:=h _
def PA(X:Cx)(es:List Expr)(t:TA):Prop :=
 ∀(pos:Pos) (pins:List (Addr×Obj)) (s:Shared) (σ:St) (H:Hp) (Q:List V->Hp->Prop),Inv X pins σ H s->t σ H Q->wpAny (model X.prog X.w) X.A (spliced (backTo pos (starEach es X.env))) (AP X pins σ Q) X.xe s
def PS(X:Cx)(st:Stmt)(t:TS):Prop :=
 ∀(pins:List (Addr×Obj)) (s:Shared) (σ:St) (H:Hp) (D:Ends),Inv X pins σ H s->t D σ H->wpAny (model X.prog X.w) X.A (exec st X.env) (SP X pins D) X.xe s
def PSs(X:Cx)(st:List Stmt)(t:TS):Prop :=
 ∀(pins:List (Addr×Obj)) (s:Shared) (σ:St) (H:Hp) (D:Ends),Inv X pins σ H s->t D σ H->wpAny (model X.prog X.w) X.A (execs st X.env) (SP X pins D) X.xe s
theorem thn{α:Type}{t:Sem α}{Q Q':α->Shared->Prop}{M:Model}{A:Around}{E:Value->Shared->Prop}{s:Shared}(h:wpAny M A t Q E s)(hQ:∀a s,Q a s->Q' a s):wpAny M A t Q' E s:=wpAny_mono h hQ fun _ _ x=>x
end L2
namespace L2
open PySem PySem.Spec PyProof.Rows
section
variable{X:Cx}
theorem bin{a b:Expr}{ta tb:TE}(ha:PE X a ta)(hb:PE X b tb){pins:List (Addr×Obj)}{s:Shared}{σ:St}{H:Hp}{R:V->V->Hp->Prop}(I:Inv X pins σ H s)(h:ta σ H fun x H1=>tb σ H1 fun y H2=>R x y H2)
  {α:Type}{Q:α->Shared->Prop}{f:Value->Value->Sem α}
  (hf:∀v u s2 x y H2,Inv X pins σ H2 s2->bp x v->bp y u->R x y H2->wpAny (model X.prog X.w) X.A (f v u) Q X.xe s2) :
  wpAny (model X.prog X.w) X.A (eval a X.env) (fun v s₁=>wpAny (model X.prog X.w) X.A (eval b X.env) (fun u s₂=>wpAny (model X.prog X.w) X.A (f v u) Q X.xe s₂) X.xe s₁) X.xe s:=by
 refine thn (ha pins s σ H _ I h) fun v s1 ⟨x,H1,I1,r1,q1⟩=>?_
 refine thn (hb pins s1 σ H1 _ I1 q1) fun u s2 ⟨y,H2,I2,r2,q2⟩=>?_
 exact hf v u s2 x y H2 I2 r1 r2 q2
def rF(i:Nat):TE:=fun σ H Q=>∃v,σ[i]?=some (some v)/\Q v H
def tC(v:V):TE:=fun _ H Q=>Q v H
theorem cu{i:Nat}{x:Str}{pos:Pos}(hN:X.N[i]?=some x)(hv:Vis X.env.scope x)(hd:(x ==("__debug__" : Str))=false:=by decide)(hcd:(x ==("__classdict__" : Str))=false:=by decide):PE X (.Name x pos) (rF i):=by
 intro pins s σ H Q I h
 obtain⟨v,e,h⟩:=h
 obtain⟨m,hn,hl⟩:=I.loc
 obtain⟨u,r,l⟩:=hl i x v hN e hv
 have fin:EP X pins σ Q u s:=⟨v,H,I,r,h⟩
 rcases l with⟨hk,hm⟩ |⟨hk,c,hc,hcell⟩
 ·exact wpAny_Name (wpAny_loadName_local I.ok.kind hk hn hm fin) hd
 ·rcases hk with hk | hk
  ·exact wpAny_Name (wpAny_loadName_cell I.ok.kind hk hc hcell fin) hd
  ·exact wpAny_Name (wpAny_loadName_free I.ok.kind hk hc hcell fin hcd) hd
theorem jz{i j pos}:PE X (.Constant (.int i) j pos) (tC (.int i)):=fun _ _ _ H _ I h=>wpAny_Constant_int ⟨.int i,H,I.tok _,⟨_,rfl⟩,h⟩
theorem sX{b j pos}:PE X (.Constant (.bool b) j pos) (tC (.bl b)):=fun _ _ _ H _ I h=>Constant_bool ⟨.bl b,H,I,rfl,h⟩
theorem yX{j pos}:PE X (.Constant .none j pos) (tC .non):=fun _ _ _ H _ I h=>Constant_none ⟨.non,H,I,rfl,h⟩
theorem sS{x j pos}:PE X (.Constant (.str x) j pos) (tC (.str x)):=fun _ _ _ H _ I h=>Calls.Constant_str ⟨.str x,H,I.tok _,⟨_,rfl⟩,h⟩
def Gl(X:Cx)(x:Str):Prop:=X.env.kindOf x=some .globalImplicit
theorem fk{E:Value->Shared->Prop}{pins:List (Addr×Obj)}{s:Shared}{σ:St}{H:Hp}{x:Str}{u:Value}{pos:Pos}{Q:Value->Shared->Prop}(I:Inv X pins σ H s)(hg:Gl X x)(hm:X.mg x=some u)(h:Q u s)
  (hd:(x ==("__debug__" : Str))=false:=by decide):wpAny (model X.prog X.w) X.A (eval (.Name x pos) X.env) Q E s :=
 Calls.Name_function_global I.ok.kind hg (Calls.loadGlobal_global (by rw[I.ok.glob];exact I.mod.glob.keeps I.bk) hm h) hd
theorem fU{E:Value->Shared->Prop}{pins:List (Addr×Obj)}{s:Shared}{σ:St}{H:Hp}{x:Str}{u:Value}{pos:Pos}{Q:Value->Shared->Prop}(I:Inv X pins σ H s)(hg:Gl X x)(hm:X.mg x=none)(hv:bootBuiltins x=some u)(h:Q u s)
  (hn:x≠"__name__" := by decide) (hd:(x ==("__debug__" : Str))=false:=by decide):wpAny (model X.prog X.w) X.A (eval (.Name x pos) X.env) Q E s:=by
 obtain⟨mb,h1,h2⟩:=I.mod.blt
 exact Calls.Name_function_global I.ok.kind hg (Calls.loadGlobal_builtin (by rw[I.ok.glob];exact I.mod.glob.keeps I.bk) hm (by rw[I.ok.blt];exact h1.keeps I.bk) ((h2 x hn).trans hv) h) hd
theorem ly{x:Str}{v:V}{u:Value}{pos:Pos}(hg:Gl X x)(hm:X.mg x=some u)(r:bp v u)(hd:(x ==("__debug__" : Str))=false:=by decide):PE X (.Name x pos) (tC v) :=
 fun _ _ _ H _ I h=>fk I hg hm ⟨v,H,I,r,h⟩ hd
theorem v4{x:Str}{v:V}{u:Value}{pos:Pos}(hg:Gl X x)(hm:X.mg x=none)(hv:bootBuiltins x=some u)(r:bp v u)(hn:x≠"__name__" := by decide)(hd:(x ==("__debug__" : Str))=false:=by decide):PE X (.Name x pos) (tC v) :=
 fun _ _ _ H _ I h=>fU I hg hm hv ⟨v,H,I,r,h⟩ hn hd
variable{a b:Expr}{ta tb:TE}{pos:Pos}
def PC(X:Cx)(op:CmpOp)(a b:Expr)(t:TE):Prop :=
 ∀(pins:List (Addr×Obj)) (s:Shared) (σ:St) (H:Hp) (Q:VK),Inv X pins σ H s->t σ H Q ->
  wpAny (model X.prog X.w) X.A (eval a X.env) (fun v s₁=>wpAny (model X.prog X.w) X.A (eval b X.env) (fun u s₂=>wpAny (model X.prog X.w) X.A (compareOp op v u) (EP X pins σ Q) X.xe s₂) X.xe s₁) X.xe s
theorem tD(b:Expr){op:CmpOp}(h:op≠.In)(h2:op≠.NotIn):behindInMarks op b=false:=by
 have e1:(op==CmpOp.In)=false:=by cases op<;>first | rfl | exact absurd rfl h
 have e2:(op==CmpOp.NotIn)=false:=by cases op<;>first | rfl | exact absurd rfl h2
 cases b<;>simp[behindInMarks,e1,e2]
def tB(t:TE):TT:=fun σ H Q=>t σ H fun x H1=>∃c,x=.bl c/\Q c H1
theorem DQ{op:CmpOp}{t:TE}(h:PC X op a b t)(h1:behindInMarks op b=false:=by first | exact tD _ (by decide) (by decide) | rfl):PT X (.Compare a [op] [b] pos) (tB t):=by
 intro pins s σ H Q I hw
 refine wpAny_isTrue_Compare1 (thn (h pins s σ H _ I hw) fun v s1 h1=>thn h1 fun u s2 h2=>thn h2 fun c s3 ⟨x,H1,I1,r1,q1⟩=>?_) h1
 obtain⟨d,rfl,q⟩:=q1
 cases r1
 exact wpAny_truthy_bool ⟨H1,I1,q⟩
theorem yO{e:Expr}{t:TE}(h:PE X e t)(he:∀whole,isTrue e X.env whole=(do let v <- whole;standAt e.pos;holding [v] (truthy v)):=by intro _;rfl):PT X e (tB t):=by
 intro pins s σ H Q I hw
 refine isTrue_plain (thn (h pins s σ H _ I hw) fun v s1 ⟨x,H1,I1,r1,q1⟩=>?_) (he _)
 obtain⟨d,rfl,q⟩:=q1
 cases r1
 exact wpAny_truthy_bool ⟨H1,I1,q⟩
variable{tA tB':TT}{aN:List Expr}
def DK(t u:TT):TT:=fun σ H Q=>t σ H fun c H1=>if c=true then u σ H1 Q else Q false H1
def tOr(t u:TT):TT:=fun σ H Q=>t σ H fun c H1=>if c=true then Q true H1 else u σ H1 Q
def DF(t:TT):TT:=fun σ H Q=>t σ H fun c H1=>Q (!c) H1
theorem vS(ha:PT X a tA):PW X (.BoolOp .And [a] pos) tA:=by
 intro wh pins s σ H Q I h
 refine isTrue_and (thn (ha pins s σ H Q I h) fun c s1 e=>?_)
 cases c with
 | true=>exact isTrue_and_nil e
 | false=>exact e
theorem sD(ha:PT X a tA):PW X (.BoolOp .Or [a] pos) tA:=by
 intro wh pins s σ H Q I h
 refine isTrue_or (thn (ha pins s σ H Q I h) fun c s1 e=>?_)
 cases c with
 | false=>exact isTrue_or_nil e
 | true=>exact e
theorem yM(ha:PT X a tA)(hb:PW X (.BoolOp .And (b::aN) pos) tB'):PW X (.BoolOp .And (a::b::aN) pos) (DK tA tB'):=by
 intro wh pins s σ H Q I h
 refine isTrue_and (thn (ha pins s σ H _ I h) fun c s1 ⟨H1,I1,q1⟩=>?_)
 cases c with
 | true=>exact hb wh pins s1 σ H1 Q I1 q1
 | false=>exact⟨H1,I1,q1⟩
theorem xL(ha:PT X a tA)(hb:PW X (.BoolOp .Or (b::aN) pos) tB'):PW X (.BoolOp .Or (a::b::aN) pos) (tOr tA tB'):=by
 intro wh pins s σ H Q I h
 refine isTrue_or (thn (ha pins s σ H _ I h) fun c s1 ⟨H1,I1,q1⟩=>?_)
 cases c with
 | true=>exact⟨H1,I1,q1⟩
 | false=>exact hb wh pins s1 σ H1 Q I1 q1
theorem ou(ha:PT X a tA):PT X (.UnaryOp .Not a pos) (DF tA):=by
 intro pins s σ H Q I h
 exact isTrue_not (ha pins s σ H (fun c H1=>Q (!c) H1) I h)
def Bu(ta tb:TE):TE:=fun σ H Q=>ta σ H fun x H1=>∃c,x=.bl c/\if c=true then tb σ H1 Q else Q (.bl false) H1
def DE(ta tb:TE):TE:=fun σ H Q=>ta σ H fun x H1=>∃c,x=.bl c/\if c=true then Q (.bl true) H1 else tb σ H1 Q
def Bp(ta:TE):TE:=fun σ H Q=>ta σ H fun x H1=>∃c,x=.bl c/\Q (.bl (!c)) H1
theorem yV{op}{t:TE}(h:PE X a t):PE X (.BoolOp op [a] pos) t:=fun pins s σ H Q I hw=>BoolOp_one (h pins s σ H Q I hw)
theorem y3(ha:PE X a ta)(hb:PE X (.BoolOp .And (b::aN) pos) tb):PE X (.BoolOp .And (a::b::aN) pos) (Bu ta tb):=by
 intro pins s σ H Q I h
 refine BoolOp_and (thn (ha pins s σ H _ I h) fun v s1 ⟨x,H1,I1,r1,q1⟩=>?_)
 obtain⟨c,rfl,q1⟩:=q1
 cases r1
 refine wpAny_truthy_bool ?_
 cases c with
 | true=>exact hb pins s1 σ H1 Q I1 q1
 | false=>exact⟨.bl false,H1,I1,rfl,q1⟩
theorem BK(ha:PE X a ta)(hb:PE X (.BoolOp .Or (b::aN) pos) tb):PE X (.BoolOp .Or (a::b::aN) pos) (DE ta tb):=by
 intro pins s σ H Q I h
 refine BoolOp_or (thn (ha pins s σ H _ I h) fun v s1 ⟨x,H1,I1,r1,q1⟩=>?_)
 obtain⟨c,rfl,q1⟩:=q1
 cases r1
 refine wpAny_truthy_bool ?_
 cases c with
 | false=>exact hb pins s1 σ H1 Q I1 q1
 | true=>exact⟨.bl true,H1,I1,rfl,q1⟩
theorem yW(ha:PE X a ta):PE X (.UnaryOp .Not a pos) (Bp ta):=by
 intro pins s σ H Q I h
 refine UnaryOp_ (thn (ha pins s σ H _ I h) fun v s1 ⟨x,H1,I1,r1,q1⟩=>?_)
 obtain⟨c,rfl,q1⟩:=q1
 cases r1
 exact not_of (wpAny_truthy_bool ⟨.bl (!c),H1,I1,rfl,q1⟩)
def tIf(t:TT)(ta tb:TE):TE:=fun σ H Q=>t σ H fun c H1=>if c=true then ta σ H1 Q else tb σ H1 Q
theorem sU{c:Expr}(hc:PT X c tA)(ha:PE X a ta)(hb:PE X b tb):PE X (.IfExp c a b pos) (tIf tA ta tb):=by
 intro pins s σ H Q I h
 refine wpAny_IfExp (thn (hc pins s σ H _ I h) fun d s1 ⟨H1,I1,q1⟩=>?_)
 cases d with
 | true=>exact ha pins s1 σ H1 Q I1 q1
 | false=>exact hb pins s1 σ H1 Q I1 q1
end
end L2
namespace L2
open PySem PySem.Spec PyProof.Rows
def SqL(K:PySem.W.Frag)(H:Hp)(a:Addr)(xs:List V):Prop :=
 Rd H a (.lst xs)\/
  ∃(o:Obj) (its:Array Value) (n:Nat),K.lookup a=some o/\o.cls=.type "list" /\ o.dict=none/\o.data=.seq its n/\its.size<=sizeLine/\aG xs its.toList
def SqT(K:PySem.W.Frag)(H:Hp)(a:Addr)(xs:List V):Prop :=
 Rd H a (.tup xs)\/
  ∃(o:Obj) (its:Array Value) (n:Nat),K.lookup a=some o/\o.cls=.type "tuple" /\ o.data=.seq its n/\its.size<=sizeLine/\aG xs its.toList
def CS:Value->Option V
 | .none=>some .non
 | .bool b=>some (.bl b)
 | .int i _=>some (.int i)
 | .str x _=>some (.str x)
 | .bytes b _=>some (.byt b)
 | .float b _=>some (.flt b)
 | .ref a=>some (.ref a)
 | .type n=>some (.ty n)
 | _=>none
theorem bp.abs{x:V}{u:Value}(r:bp x u):CS u=some x:=by
 cases x with
 | non | bl _=>cases r;rfl
 | int _ | str _ | byt _ | flt _=>obtain⟨t,rfl⟩:=r;rfl
 | ref _ | ty _=>cases r;rfl
theorem bp.inj{x y:V}{u:Value}(r:bp x u)(q:bp y u):x=y:=Option.some.inj (r.abs.symm.trans q.abs)
theorem aG.inj:∀{xs ys:List V}{us:List Value},aG xs us->aG ys us->xs=ys
 | _,_,_,.nil,.nil=>rfl
 | _,_,_,.cons r t,.cons r' t'=>by rw[r.inj r',aG.inj t t']
section
variable{X:Cx}{pins:List (Addr×Obj)}{σ:St}{H:Hp}{s:Shared}{a:Addr}{xs ys:List V}
theorem SqL.of{K:PySem.W.Frag}(h:H a=some (.lst xs)):SqL K H a xs:=.inl (.inl h)
theorem SqT.of{K:PySem.W.Frag}(h:H a=some (.tup xs)):SqT K H a xs:=.inl (.inl h)
theorem Inv.list(I:Inv X pins σ H s)(h:SqL X.K H a xs):∃its:List Value,aG xs its/\PlainL s.heap a its.toArray/\xs.length<=sizeLine:=by
 rcases h with h |⟨o,its,n,hk,hc,hd,hs,hz,r⟩
 ·obtain⟨z,its,n,r,e⟩:=h.ok I.hok
  exact⟨its,r,⟨_,n,e,rfl,rfl,rfl⟩,z⟩
 ·refine⟨its.toList,r,⟨o,n,I.kIn a o hk,hc,hd,by simpa using hs⟩,?_⟩
  have e:=r.length
  simp only[Array.length_toList]at e
  omega
theorem Inv.tuple(I:Inv X pins σ H s)(h:SqT X.K H a xs):∃its:List Value,aG xs its/\IsTup s.heap a its.toArray/\xs.length<=sizeLine:=by
 rcases h with h |⟨o,its,n,hk,hc,hs,hz,r⟩
 ·obtain⟨z,its,r,p⟩:=h.ok I.hok
  exact⟨its,r,p,z⟩
 ·refine⟨its.toList,r,⟨o,I.kIn a o hk,hc,n,by simpa using hs⟩,?_⟩
  have e:=r.length
  simp only[Array.length_toList]at e
  omega
theorem Inv.list_inj(I:Inv X pins σ H s)(h:SqL X.K H a xs)(h':SqL X.K H a ys):xs=ys:=by
 obtain⟨its,r,⟨o,n,e,_,_,d⟩,_⟩:=I.list h
 obtain⟨its',r',⟨o',n',e',_,_,d'⟩,_⟩:=I.list h'
 rw[e]at e';cases e'
 rw[d]at d'
 injection d' with d1 _
 have:its=its':=by simpa using congrArg Array.toList d1
 subst this
 exact r.inj r'
theorem Inv.tuple_inj(I:Inv X pins σ H s)(h:SqT X.K H a xs)(h':SqT X.K H a ys):xs=ys:=by
 obtain⟨its,r,⟨o,e,_,n,d⟩,_⟩:=I.tuple h
 obtain⟨its',r',⟨o',e',_,n',d'⟩,_⟩:=I.tuple h'
 rw[e]at e';cases e'
 rw[d]at d'
 injection d' with d1 _
 have:its=its':=by simpa using congrArg Array.toList d1
 subst this
 exact r.inj r'
end
abbrev Cx.wish(X:Cx)(E:Value->Shared->Prop):Cx:={ X with xe:=E }
abbrev Cx.nox(X:Cx):Cx:=X.wish fun _ _=>False
theorem Cx.Ok.wish{X:Cx}(ok:X.Ok)(E:Value->Shared->Prop):(X.wish E).Ok :=
 ⟨ok.mod,ok.kind,ok.glob,ok.blt,ok.above,ok.inj,ok.has,ok.cab,ok.hd,ok.frames,ok.stk,ok.exf,ok.bs,ok.bsz,ok.noex,ok.exfs,ok.funs,ok.frf⟩
theorem Cx.Ok.unwish{X:Cx}{E:Value->Shared->Prop}(ok:(X.wish E).Ok):X.Ok :=
 ⟨ok.mod,ok.kind,ok.glob,ok.blt,ok.above,ok.inj,ok.has,ok.cab,ok.hd,ok.frames,ok.stk,ok.exf,ok.bs,ok.bsz,ok.noex,ok.exfs,ok.funs,ok.frf⟩
section
variable{X:Cx}{pins:List (Addr×Obj)}{σ:St}{H:Hp}{s:Shared}{E:Value->Shared->Prop}
theorem Inv.wish(I:Inv X pins σ H s)(E:Value->Shared->Prop):Inv (X.wish E) pins σ H s:=⟨I.ok.wish E,I.os,I.bare,I.base,I.loc,I.cell,I.free,I.freeC,I.pin,I.hok,I.len⟩
theorem Inv.unwish(I:Inv (X.wish E) pins σ H s):Inv X pins σ H s:=⟨I.ok.unwish,I.os,I.bare,I.base,I.loc,I.cell,I.free,I.freeC,I.pin,I.hok,I.len⟩
theorem SP.unwish{D:Ends}{f:Flow}{s':Shared}(h:SP (X.wish E) pins D f s'):SP X pins D f s':=by
 cases f with
 | next | brk | cont=>obtain⟨σ',H',I,q⟩:=h;exact⟨σ',H',I.unwish,q⟩
 | ret u=>obtain⟨v,σ',H',I,r,q⟩:=h;exact⟨v,σ',H',I.unwish,r,q⟩
theorem PE.nox{e:Expr}{t:TE}(h:PE X.nox e t):PE X e t:=fun pins s σ H Q I hw =>
 wpAny_mono (h pins s σ H Q (I.wish _) hw) (fun _ _ ⟨v,H',I',r,q⟩=>⟨v,H',I'.unwish,r,q⟩) fun _ _ z=>False.elim z
theorem PT.nox{e:Expr}{t:TT}(h:PT X.nox e t):PT X e t:=fun pins s σ H Q I hw =>
 wpAny_mono (h pins s σ H Q (I.wish _) hw) (fun _ _ ⟨H',I',q⟩=>⟨H',I'.unwish,q⟩) fun _ _ z=>False.elim z
theorem PSs.nox{st:List Stmt}{t:TS}(h:PSs X.nox st t):PSs X st t:=fun pins s σ H D I hw =>
 wpAny_mono (h pins s σ H D (I.wish _) hw) (fun _ _ q=>q.unwish) fun _ _ z=>False.elim z
variable{st:Stmt}{aN:List Stmt}{t u:TS}{e:Expr}{te:TE}{pos:Pos}
def Bq:TS:=fun D σ H=>D.nx σ H
def DC(t u:TS):TS:=fun D σ H=>t { D with nx:=u D } σ H
theorem ls:PSs X [] Bq:=fun _ _ σ H _ I h=>wpAny_execs_nil ⟨σ,H,I,h⟩
theorem jx(h1:PS X st t)(h2:PSs X aN u):PSs X (st::aN) (DC t u):=by
 intro pins s σ H D I h
 refine wpAny_execs_cons (thn (h1 pins s σ H { D with nx:=u D } I h) fun f s1 q=>?_)
 cases f with
 | next =>
  obtain⟨σ',H',I',q⟩:=q
  exact h2 pins s1 σ' H' D I' q
 | ret v | brk | cont=>exact q
theorem lq(h1:PS X st t):PSs X [st] t:=by
 intro pins s σ H D I h
 refine wpAny_execs_cons (thn (h1 pins s σ H D I h) fun f s1 q=>?_)
 cases f with
 | next=>exact wpAny_execs_nil q
 | ret v | brk | cont=>exact q
def yj:TS:=fun D σ H=>D.bk σ H
theorem sJ:PS X (.Break pos) yj:=fun _ _ σ H _ I h=>wpAny_Break ⟨σ,H,I,h⟩
theorem Inv.quiet{pins:List (Addr×Obj)}{σ:St}{H:Hp}{s:Shared}(I:Inv X pins σ H s):interactive X.env=false:=by simp[interactive,I.ok.kind]
def Bs(te:TE):TS:=fun D σ H=>te σ H fun _ H1=>D.nx σ H1
theorem f7(he:PE X e te)(hs:swapsWith e none pos.line X.env=pure false:=by rfl):PS X (.Expr e pos) (Bs te):=by
 intro pins s σ H D I h
 exact wpAny_Expr_any (thn (he pins s σ H _ I h) fun v s1 ⟨x,H1,I1,r1,q1⟩=>⟨σ,H1,I1,q1⟩) I.quiet hs
def DD(te:TE):TS:=fun D σ H=>te σ H D.rt
theorem iy(he:PE X e te):PS X (.Return (some e) pos) (DD te):=by
 intro pins s σ H D I h
 exact wpAny_Return_some (thn (he pins s σ H _ I h) fun v s1 ⟨x,H1,I1,r1,q1⟩=>⟨x,σ,H1,I1,r1,q1⟩)
def Bm:TS:=fun D _ H=>D.rt .non H
theorem vT:PS X (.Return none pos) Bm:=fun _ _ σ H _ I h=>wpAny_Return_none ⟨.non,σ,H,I,rfl,h⟩
def DH(c:TT)(t u:TS):TS:=fun D σ H=>c σ H fun b H1=>if b=true then t D σ H1 else u D σ H1
theorem sH{c:Expr}{a b:List Stmt}{tc:TT}(hc:PT X c tc)(ha:PSs X a t)(hb:PSs X b u):PS X (.If c a b pos) (DH tc t u):=by
 intro pins s σ H D I h
 refine wpAny_If (thn (hc pins s σ H _ I h) fun d s1 ⟨H1,I1,q1⟩=>?_)
 cases d with
 | true=>exact ha pins s1 σ H1 D I1 q1
 | false=>exact hb pins s1 σ H1 D I1 q1
end
abbrev TG:=V->St->Hp->(St->Hp->Prop)->Prop
abbrev TGs:=List V->St->Hp->(St->Hp->Prop)->Prop
def PG(X:Cx)(target:Expr)(t:TG):Prop :=
 ∀(pins:List (Addr×Obj)) (s:Shared) (σ:St) (H:Hp) (v:V) (u:Value) (Q:St->Hp->Prop),Inv X pins σ H s->bp v u->t v σ H Q ->
  wpAny (model X.prog X.w) X.A (assign target X.env u) (fun _ s'=>∃σ' H',Inv X pins σ' H' s'/\Q σ' H') X.xe s
def PGs(X:Cx)(ts:List Expr)(t:TGs):Prop :=
 ∀(pins:List (Addr×Obj)) (s:Shared) (σ:St) (H:Hp) (vs:List V) (us:List Value) (Q:St->Hp->Prop),Inv X pins σ H s->aG vs us->t vs σ H Q ->
  wpAny (model X.prog X.w) X.A (assignInOrder ((assignEach ts X.env).map (·.2)) us) (fun _ s'=>∃σ' H',Inv X pins σ' H' s'/\Q σ' H') X.xe s
abbrev AK:=V->V->V->Hp->(Hp->Prop)->Prop
def CU(X:Cx)(t:AK):Prop :=
 ∀(pins:List (Addr×Obj)) (s:Shared) (σ:St) (H:Hp) (o i v:V) (ov iv u:Value) (Q:Hp->Prop),Inv X pins σ H s->bp o ov->bp i iv->bp v u->t o i v H Q ->
  wpAny (model X.prog X.w) X.A (setItem ov iv u) (fun _ s'=>∃H',Inv X pins σ H' s'/\Q H') X.xe s
section
variable{X:Cx}{pos:Pos}
def x_(i:Nat):TG:=fun v σ H Q=>Q (σ.set i (some v)) H
theorem pD{i:Nat}{x:Str}(hN:X.N.Nodup)(hi:X.N[i]?=some x)(hx:Loc X.env.scope x)(hf:X.fn x=true\/X.env.scope.names.lookup x=some .local:=by first | exact .inl rfl | exact .inr rfl | assumption):PG X (.Name x pos) (x_ i):=by
 intro pins s σ H v u Q I r h
 exact wpAny_assign_Name (mK I hN hi hx r (fun s' I'=>⟨_,H,I',h⟩) hf)
def D5:TGs:=fun vs σ H Q=>vs=[]/\Q σ H
def CK(t:TG)(u:TGs):TGs:=fun vs σ H Q=>∃v r,vs=v::r/\t v σ H fun σ' H'=>u r σ' H' Q
theorem vZ:PGs X [] D5:=by
 intro pins s σ H vs us Q I r h
 obtain⟨e,h⟩:=h
 subst e
 cases r
 exact assignInOrder_nil ⟨σ,H,I,h⟩
theorem sR{e:Expr}{es:List Expr}{t:TG}{u:TGs}(h1:PG X e t)(h2:PGs X es u)
  (hs:(assignEach (e::es) X.env).map (·.2)=assign e X.env::(assignEach es X.env).map (·.2):=by rfl):PGs X (e::es) (CK t u):=by
 intro pins s σ H vs us Q I r h
 obtain⟨v,vr,e1,h⟩:=h
 subst e1
 cases r with
 | cons r rr =>
  rw[hs]
  refine assignInOrder_cons (thn (h1 pins s σ H _ _ _ I r h) fun _ s1 ⟨σ1,H1,I1,q1⟩=>?_)
  exact h2 pins s1 σ1 H1 _ _ Q I1 rr q1
def D3(K:PySem.W.Frag)(n:Nat)(t:TGs):TG:=fun v σ H Q=>∃a xs,v=.ref a/\SqT K H a xs/\xs.length=n/\t xs σ H Q
theorem yT{es:List Expr}{k:Nat}{t:TGs}{n:Nat}(hc:X.calm=true)(h:PGs X es t)
  (hn:(assignEach es X.env).length=n:=by rfl) (hst:(assignEach es X.env).findIdx? (·.1)=none:=by rfl):PG X (.Tuple es k pos) (D3 X.K n t):=by
 intro pins s σ H v u Q I r hw
 obtain⟨a,xs,e1,hq,hl,hw⟩:=hw
 subst e1
 cases r
 obtain⟨its,rv,ht,hz⟩:=I.tuple hq
 refine assign_Tuple_tuple (I.ok.hd hc) ht (by simp[hn,<- hl,rv.length]) hst fun h' hx=>?_
 have I1:Inv X pins σ H { s with heap:=h' }:=I.kept (t':=s.toks) fun b o e=>hx b o (Nat.ne_of_lt (Heap.lt_size e)) e
 exact h pins _ σ H xs _ Q I1 (by simpa using rv) hw
def D4(to ti:TE)(t:AK):TG:=fun v σ H Q=>to σ H fun o H1=>ti σ H1 fun i H2=>t o i v H2 fun H3=>Q σ H3
theorem yU{o i:Expr}{to ti:TE}{t:AK}(ho:PE X o to)(hi:PE X i ti)(hs:CU X t)
  (ha:∀ v,assign (.Subscript o i pos) X.env v=(do
   let ov <- holding [v] (eval o X.env)
   let iv <- holding [v,ov] (eval i X.env)
   standAt pos
   holding [v,ov,iv] (setItem ov iv v)
   release [v,ov,iv] []):=by intro _;rfl):PG X (.Subscript o i pos) (D4 to ti t):=by
 intro pins s σ H v u Q I r h
 rw[ha]
 refine wpAny_bind (wpAny_holding (thn (ho pins s σ H _ I h) fun ov s1 ⟨x,H1,I1,r1,q1⟩=>?_))
 refine wpAny_bind (wpAny_holding (thn (hi pins s1 σ H1 _ I1 q1) fun iv s2 ⟨y,H2,I2,r2,q2⟩=>?_))
 refine wpAny_bind (wpAny_standAt (wpAny_bind (wpAny_holding (thn (hs pins s2 σ H2 x y v ov iv u _ I2 r1 r2 r q2) fun _ s3 ⟨H3,I3,q3⟩=>?_))))
 exact wpAny_release ⟨σ,H3,I3,q3⟩
def Bt(te:TE)(g:TG):TS:=fun D σ H=>te σ H fun x H1=>g x σ H1 D.nx
theorem sK{tg e:Expr}{te:TE}{g:TG}(he:PE X e te)(hg:PG X tg g)(hs:swapsWithSole [tg] e pos.line X.env=pure false:=by rfl)(hw:swappedStores [tg] e X.env=pure none:=by rfl)
  (h1:(assignEach [tg] X.env).map (·.2)=[assign tg X.env]:=by rfl):PS X (.Assign [tg] e pos) (Bt te g):=by
 intro pins s σ H D I h
 refine wpAny_Assign_stores (thn (he pins s σ H _ I h) fun v s1 ⟨x,H1,I1,r1,q1⟩=>?_) hs hw
 rw[h1]
 exact thn (hg pins s1 σ H1 x v _ I1 r1 q1) fun _ s2 q=>q
theorem sG{i:Nat}{x:Str}{e:Expr}{te:TE}{pos':Pos}(hN:X.N.Nodup)(hi:X.N[i]?=some x)(hx:Loc X.env.scope x)(he:PE X e te)(hs:swapsWith e (some (.Name x pos')) pos.line X.env=pure false:=by rfl)(hf:X.fn x=true\/X.env.scope.names.lookup x=some .local:=by first | exact .inl rfl | exact .inr rfl | assumption) :
  PS X (.Assign [.Name x pos'] e pos) (Bt te (x_ i)):=by
 intro pins s σ H D I h
 refine wpAny_Assign_Name (thn (he pins s σ H _ I h) fun v s1 ⟨y,H1,I1,r1,q1⟩=>?_) hs
 exact mK I1 hN hi hx r1 (fun s2 I2=>⟨_,H1,I2,q1⟩) hf
def yi(c:TT)(tb:TS):TS:=fun D σ H=>∃W:Nat->St->Hp->Prop,(∃m,W m σ H)/\∀m σ H,W m σ H ->
 c σ H fun b H1=>if b=true then ∃N:St->Hp->Prop,(∀σ' H',N σ' H'->∃m',m' < m/\W m' σ' H')/\tb { D with nx:=N,ct:=N,bk:=D.nx } σ H1 else D.nx σ H1
theorem sF{c:Expr}{body:List Stmt}{tc:TT}{tb:TS}(hp:PassesOwn (model X.prog X.w) X.A X.env X.xe)(hc:PT X c tc)(hb:PSs X body tb):PS X (.While c body [] pos) (yi tc tb):=by
 intro pins s σ H D I h
 obtain⟨W,⟨m0,w0⟩,turn⟩:=h
 refine wpAny_While (codeAny_whileLoop (fun n s'=>∃σ' H',Inv X pins σ' H' s'/\W n σ' H') ?_ m0 ⟨σ,H,I,w0⟩)
 rintro n s1 ⟨σ1,H1,I1,w1⟩
 refine wpAny_passesOwn hp (thn (hc pins s1 σ1 H1 _ I1 (turn n σ1 H1 w1)) fun b s2 ⟨H2,I2,q2⟩=>?_)
 cases b with
 | true =>
  obtain⟨N,hN,q2⟩:=q2
  rw[if_pos rfl]
  refine wpAny_passesOwn hp (thn (hb pins s2 σ1 H2 _ I2 q2) fun f s3 q3=>?_)
  cases f with
  | next =>
   obtain⟨σ3,H3,I3,n3⟩:=q3
   obtain⟨m',hm,w3⟩:=hN σ3 H3 n3
   exact⟨m',hm,σ3,H3,I3,w3⟩
  | cont =>
   obtain⟨σ3,H3,I3,n3⟩:=q3
   obtain⟨m',hm,w3⟩:=hN σ3 H3 n3
   exact⟨m',hm,σ3,H3,I3,w3⟩
  | brk | ret v=>exact q3
 | false =>
  rw[if_neg Bool.false_ne_true]
  exact wpAny_execs_nil ⟨σ1,H2,I2,q2⟩
end
structure It where
 go:Nat->Hp->Prop
 yld:Nat->Hp->V->Hp->Prop
 stop:Nat->Hp->Prop
def kf(X:Cx)(pins:List (Addr×Obj))(H:Hp)(b:Addr):Prop :=
 H b=none/\b≠X.env.locals/\b∉X.fs/\(b∈X.ex\/X.s₀.heap.objs.size<=b)/\(∀x c,X.env.cells.lookup x=some c->c≠b)/\∀p∈X.pn++pins,p.1≠b
theorem Inv.fpOk{X:Cx}{pins:List (Addr×Obj)}{σ:St}{H H':Hp}{s:Shared}{b:Addr}(I:Inv X pins σ H s)(hb:s.heap.objs.size<=b)(hn:H' b=none):kf X pins H' b:=by
 refine⟨hn,Nat.ne_of_gt (Nat.lt_of_lt_of_le I.lt hb),I.nofs hb,.inr (Nat.le_trans I.sz hb),fun x c e z=>?_,fun p hp z=>?_⟩
 ·obtain⟨v,q⟩:=I.cell x c e
  exact absurd (Nat.lt_of_lt_of_le q.lt (by rw[z];exact hb)) (Nat.lt_irrefl _)
 ·exact absurd (Nat.lt_of_lt_of_le (Heap.lt_size (I.pin p hp).1) (by rw[z];exact hb)) (Nat.lt_irrefl _)
structure q_(P:Program)(w:World)(K:PySem.W.Frag)(tg:Expr)(J:It)(fp:List Addr)(it:Addr)(tn:Nat->Heap->Prop):Prop where
 mem:it∈fp
 obj:∀i h,tn i h->∀b∈fp,∃o,h.get? b=some o/\∀v,o.data≠.cell v
 keep:∀i h h',tn i h->(∀b∈fp,∀o,h.get? b=some o->h'.get? b=some o)->tn i h'
 item:∀(X:Cx),X.prog=P->X.w=w->X.K=K->X.calm=true->∀(i:Nat) (pins:List (Addr×Obj)) (s:Shared) (σ:St) (H:Hp) (E:Value->Shared->Prop),Inv X pins σ H s->(∀b∈fp,kf X pins H b)->tn i s.heap->J.go i H ->
  wpAny (model P w) X.A (pyNext (.ref it)) (fun r s1=>∃ u,r=some u /\
   wpAny (model P w) X.A (letOwnedTupleGo tg (.ref it) u) (fun _ s2=>∃x H',Inv X pins σ H' s2/\bp x u/\J.yld i H x H'/\tn (i+1) s2.heap/\∀b∈fp,H' b=none) E s1) E s
 done:∀(X:Cx),X.prog=P->X.w=w->X.K=K->X.calm=true->∀(i:Nat) (pins:List (Addr×Obj)) (s:Shared) (σ:St) (H:Hp) (E:Value->Shared->Prop),Inv X pins σ H s->(∀b∈fp,kf X pins H b)->tn i s.heap->J.stop i H ->
  wpAny (model P w) X.A (pyNext (.ref it)) (fun r s1=>r=none/\Inv X pins σ H s1) E s
 self:∀(A:Around) (i:Nat) (s:Shared) (Q:Value->Shared->Prop) (E:Value->Shared->Prop),tn i s.heap->Q (.ref it) s->wpAny (model P w) A (pyIter (.ref it)) Q E s
abbrev TI:=St->Hp->(It->Hp->Prop)->Prop
def PIE(X:Cx)(pins:List (Addr×Obj))(σ:St)(tg:Expr)(R:It->Hp->Prop)(itv:Value)(s2:Shared):Prop :=
 ∃(it:Addr) (fp:List Addr) (tn:Nat->Heap->Prop) (J:It) (H':Hp),itv=.ref it/\Inv X pins σ H' s2/\q_ X.prog X.w X.K tg J fp it tn/\tn 0 s2.heap/\(∀b∈fp,kf X pins H' b)/\R J H'
def PI(X:Cx)(tg iter:Expr)(wi:TI):Prop :=
 ∀(pins:List (Addr×Obj)) (s:Shared) (σ:St) (H:Hp) (R:It->Hp->Prop),Inv X pins σ H s->wi σ H R ->
  wpAny (model X.prog X.w) X.A (eval iter X.env) (fun v s1=>wpAny (model X.prog X.w) X.A (pyIter v) (PIE X pins σ tg R) X.xe s1) X.xe s
theorem um{M:Model}{A:Around}{E:Value->Shared->Prop}{s:Shared}{tg:Expr}{it:Addr}{u:Value}{o:Obj}{n:String}{vs:Array Value}{Q:Unit->Shared->Prop}(ho:s.heap.get? it=some o)(hc:o.cls=.type n)(hd:o.data=.fields vs)
    (hn:["enumerate", "zip", "dict_itemiterator", "dict_reverseitemiterator", "odict_iterator", "itertools.zip_longest", "itertools.pairwise"].contains n=false) (hQ:Q () s):wpAny M A (letOwnedTupleGo tg (.ref it) u) Q E s:=by
  unfold letOwnedTupleGo
  cases tg<;>first
    | exact wpAny_pure hQ
    | (cases u <;> first
        | exact wpAny_pure hQ
        | (refine wpAny_bind (wpAny_load ho ?_)
           rw[hc,hd]
           show wpAny M A (if(["enumerate", "zip", "dict_itemiterator", "dict_reverseitemiterator", "odict_iterator", "itertools.zip_longest", "itertools.pairwise"].contains n&&vs[0]?==some (rawInt _))=true then _ else _) Q E s
           rw[if_neg (by intro h;rw[hn,Bool.false_and]at h;cases h)]
           exact wpAny_pure hQ))
def Itl(K:PySem.W.Frag)(a:Addr):It :=
 ⟨fun i H=>∃xs x,SqL K H a xs/\xs[i]?=some x,fun i H x H'=>H'=H/\∀xs,SqL K H a xs->xs[i]?=some x,fun i H=>∃xs,SqL K H a xs/\xs.length<=i⟩
def Itt(K:PySem.W.Frag)(a:Addr):It :=
 ⟨fun i H=>∃xs x,SqT K H a xs/\xs[i]?=some x,fun i H x H'=>H'=H/\∀xs,SqT K H a xs->xs[i]?=some x,fun i H=>∃xs,SqT K H a xs/\xs.length<=i⟩
def Itr(lo:Int)(n:Nat):It:=⟨fun i _=>i < n,fun i H x H'=>H'=H/\x=.int (lo+i),fun i _=>n<=i⟩
theorem qi{P:Program}{w:World}{K:PySem.W.Frag}{tg:Expr}(a it:Addr):q_ P w K tg (Itl K a) [it] it (fun i h=>h.IsListIter it a i) where
 mem:=by simp
 obj:=fun i h st b hb=>by
  have e:b=it:=by simpa using hb
  subst e
  obtain⟨o,e,c,d⟩:=st
  exact⟨o,e,fun v z=>by rw[d]at z;cases z⟩
 keep:=fun i h h' st k=>st.at fun o e=>k it (by simp) o e
 item:=by
  intro X hP hw hK hc i pins s σ H E I hf st hg
  subst hP hw hK
  obtain⟨xs,x,hq,hx⟩:=hg
  obtain⟨its,rv,p,hz⟩:=I.list hq
  obtain⟨u,hu,ru⟩:=rv.get hx
  obtain⟨f0,f1,f2,f3,f4,f5⟩:=hf it (by simp)
  refine wpAny_pyNext_list_item st p.isList (x:=u) (by simpa using hu) fun h' st' sb=>?_
  have I1:Inv X pins σ H { s with heap:=h' }:=I.turned (t':=s.toks) (fun b o hb e=>(sb.2 b hb).trans e) f0 f1 f3 f4 f5
  obtain⟨o,e,c,d⟩:=id st'
  exact⟨u,rfl,um (s:={ s with heap:=h' }) e c d (by decide) ⟨x,H,I1,ru,⟨rfl,fun ys hy=>by rw[I.list_inj hy hq];exact hx⟩,st',fun b hb=>(hf b hb).1⟩⟩
 done:=by
  intro X hP hw hK hc i pins s σ H E I hf st hg
  subst hP hw hK
  obtain⟨xs,hq,hx⟩:=hg
  obtain⟨its,rv,p,hz⟩:=I.list hq
  obtain⟨f0,f1,f2,f3,f4,f5⟩:=hf it (by simp)
  have hl:=rv.length
  exact wpAny_pyNext_list_end (I.ok.hd hc) st p.isList (by simp;omega) fun h' eb=>⟨rfl,I.turned (t':=s.toks) (fun b o hb e=>eb b o hb e) f0 f1 f3 f4 f5⟩
 self:=fun _ _ _ _ _ st h=>wpAny_pyIter_listiter st h
theorem nY{P:Program}{w:World}{K:PySem.W.Frag}{tg:Expr}(a it:Addr):q_ P w K tg (Itt K a) [it] it (fun i h=>h.IsTupleIter it a i) where
 mem:=by simp
 obj:=fun i h st b hb=>by
  have e:b=it:=by simpa using hb
  subst e
  obtain⟨o,e,c,d⟩:=st
  exact⟨o,e,fun v z=>by rw[d]at z;cases z⟩
 keep:=fun i h h' st k=>st.at fun o e=>k it (by simp) o e
 item:=by
  intro X hP hw hK hc i pins s σ H E I hf st hg
  subst hP hw hK
  obtain⟨xs,x,hq,hx⟩:=hg
  obtain⟨its,rv,p,hz⟩:=I.tuple hq
  obtain⟨u,hu,ru⟩:=rv.get hx
  obtain⟨f0,f1,f2,f3,f4,f5⟩:=hf it (by simp)
  refine wpAny_pyNext_tuple_item st (show s.heap.IsTuple a its.toArray from p) (x:=u) (by simpa using hu) fun h' st' sb=>?_
  have I1:Inv X pins σ H { s with heap:=h' }:=I.turned (t':=s.toks) (fun b o hb e=>(sb.2 b hb).trans e) f0 f1 f3 f4 f5
  obtain⟨o,e,c,d⟩:=id st'
  exact⟨u,rfl,um (s:={ s with heap:=h' }) e c d (by decide) ⟨x,H,I1,ru,⟨rfl,fun ys hy=>by rw[I.tuple_inj hy hq];exact hx⟩,st',fun b hb=>(hf b hb).1⟩⟩
 done:=by
  intro X hP hw hK hc i pins s σ H E I hf st hg
  subst hP hw hK
  obtain⟨xs,hq,hx⟩:=hg
  obtain⟨its,rv,p,hz⟩:=I.tuple hq
  obtain⟨f0,f1,f2,f3,f4,f5⟩:=hf it (by simp)
  have hl:=rv.length
  exact wpAny_pyNext_tuple_end (I.ok.hd hc) st (show s.heap.IsTuple a its.toArray from p) (by simp;omega) fun h' eb=>⟨rfl,I.turned (t':=s.toks) (fun b o hb e=>eb b o hb e) f0 f1 f3 f4 f5⟩
 self:=fun _ _ _ _ _ st h=>wpAny_pyIter_tupleiter st h
theorem nZ{P:Program}{w:World}{K:PySem.W.Frag}{tg:Expr}(it:Addr)(lo:Int)(n:Nat):q_ P w K tg (Itr lo n) [it] it (fun i h=>IsRangeIter h it (lo+(i:Nat) * 1) ((n:Int) - (i:Nat)) 1) where
 mem:=by simp
 obj:=fun i h st b hb=>by
  have e:b=it:=by simpa using hb
  subst e
  exact ⟨_,st,fun v z=>by
   have z':Data.fields _=Data.cell v:=z
   cases z'⟩
 keep:=fun i h h' st k=>k it (by simp) _ st
 item:=by
  intro X hP hw hK hc i pins s σ H E I hf st hg
  subst hP hw hK
  obtain⟨f0,f1,f2,f3,f4,f5⟩:=hf it (by simp)
  have W:=Walks.range (prog:=X.prog) (w:=X.w) (I.ok.hd hc) it lo 1 n
  refine W.item i s _ _ hg st fun v h' tk hv st' kk=>?_
  obtain⟨t,rfl⟩:=hv
  have I1:Inv X pins σ H { s with heap:=h',toks:=tk }:=I.turned (fun b o hb e=>kk b o (by simpa using hb) e) f0 f1 f3 f4 f5
  refine⟨_,rfl,um (s:={ s with heap:=h',toks:=tk }) (n := "range_iterator") st' rfl rfl (by decide) ⟨.int (lo+i),H,I1,⟨t,?_⟩,⟨rfl,rfl⟩,st',fun b hb=>(hf b hb).1⟩⟩
  rw[Int.mul_one]
 done:=by
  intro X hP hw hK hc i pins s σ H E I hf st hg
  subst hP hw hK
  obtain⟨f0,f1,f2,f3,f4,f5⟩:=hf it (by simp)
  exact wpAny_pyNext_range_end (I.ok.hd hc) st (by have:n<=i:=hg;omega) fun h' eb=>⟨rfl,I.turned (t':=s.toks) (fun b o hb e=>eb b o hb e) f0 f1 f3 f4 f5⟩
 self:=fun _ _ _ _ _ st h=>wpAny_pyIter_rangeiter st h
end L2
namespace L2
open PySem PySem.Spec PyProof.Rows
section
variable{X:Cx}{tg:Expr}
theorem sx{pins:List (Addr×Obj)}{σ:St}{H:Hp}{s:Shared}{R:It->Hp->Prop}{E:Value->Shared->Prop}{lo hi:Int}{t u v:Tok}{tk:Nat}(I:Inv X pins σ H s)(h1:-(2 ^ 62)<= lo)(h2:lo < 2 ^ 62)(h3:-(2 ^ 62)<= hi)(h4:hi < 2 ^ 62)
  (q:R (Itr lo (hi - lo).toNat) H):wpAny (model X.prog X.w) X.A (pyIter (.ref s.heap.objs.size)) (PIE X pins σ tg R) E { s with heap:=s.heap.push { cls:=.type "range", data:=.fields #[.int lo t,.int hi u,.int 1 v] },toks:=tk }:=by
 refine wpAny_pyIter_range (IsRange.new ..) (small_one h1 h2 h3 h4) ?_
 have I1:Inv X pins σ H { s with heap:=s.heap.push { cls:=.type "range", data:=.fields #[.int lo t,.int hi u,.int 1 v] },toks:=tk }:=I.kept fun b o e=>Heap.get?_push_of_some _ e
 refine ⟨(s.heap.push { cls:=.type "range", data:=.fields #[.int lo t,.int hi u,.int 1 v] }).objs.size,[(s.heap.push { cls:=.type "range", data:=.fields #[.int lo t,.int hi u,.int 1 v] }).objs.size],_,_,H,rfl,
  I1.kept (t':=tk) fun b o e=>Heap.get?_push_of_some _ e,nZ _ lo (hi - lo).toNat,?_,fun b hb=>?_,q⟩
 ·have e1:lo+((0:Nat):Int) * 1=lo:=by simp
  have e2:(((hi - lo).toNat:Nat):Int) - ((0:Nat):Int)=Builtin.Range.rangeSize lo hi 1:=by rw[rangeSize_one];split<;>omega
  show IsRangeIter _ _ (lo+((0:Nat):Int) * 1) ((((hi - lo).toNat:Nat):Int) - ((0:Nat):Int)) 1
  rw[e1,e2]
  exact Heap.get?_push_size _ rfl
 ·have e:b=(s.heap.push { cls:=.type "range", data:=.fields #[.int lo t,.int hi u,.int 1 v] }).objs.size:=by simpa using hb
  subst e
  exact I1.fpOk (Nat.le_refl _) (I1.hok.fresh (Nat.le_refl _))
def CH(ta:TA):TI:=fun σ H R=>ta σ H fun vs H1=>∃j:Int,vs=[.int j]/\-(2 ^ 62)<= j/\j < 2 ^ 62/\R (Itr 0 j.toNat) H1
theorem kG{a:Expr}{ta:TA}{p pos:Pos}(hg:Gl X "range")(hm:X.mg "range" = none)(ha:PA X [a] ta)(hs:starEach [a] X.env=[(false,eval a X.env)]:=by rfl):PI X tg (.Call (.Name "range" p) [a] [] pos) (CH ta):=by
 intro pins s σ H R I h
 refine Call_ (fU I hg hm boot_range (PyProof.Rows.callWith_type1 (thn (ha pos pins s σ H _ I h) fun us s1 ⟨vs,H1,I1,r1,q1⟩=>?_) hs rfl))
 obtain⟨j,e,q1,q2,q⟩:=q1
 subst e
 cases r1 with
 | cons r rr =>
  cases rr
  obtain⟨t,rfl⟩:=r
  exact call_range_1 (sx I1 (by omega) (by omega) q1 q2 (by simpa using q))
def DI(wi:TI)(g:TG)(tb:TS):TS:=fun D σ H=>wi σ H fun J H1=>∃W:Nat->Nat->St->Hp->Prop,(∃m,W 0 m σ H1)/\∀i m σ H,W i m σ H ->
 (J.stop i H/\D.nx σ H)\/(J.go i H/\∃N:St->Hp->Prop,(∀σ' H',N σ' H'->∃m',m' < m/\W (i+1) m' σ' H')/\∀x H',J.yld i H x H'->g x σ H' fun σ2 H2=>tb { D with nx:=N,ct:=N,bk:=D.nx } σ2 H2)
def jy(fp:List Addr)(h:Heap):List (Addr×Obj):=fp.filterMap fun b=>(h.get? b).map fun o=>(b,o)
theorem fe{fp:List Addr}{h:Heap}{b:Addr}{o:Obj}(hb:b∈fp)(e:h.get? b=some o):(b,o)∈ jy fp h:=List.mem_filterMap.mpr ⟨b,hb,by rw[e];rfl⟩
theorem qB{fp:List Addr}{h:Heap}{p:Addr×Obj}(hp:p∈jy fp h):p.1∈fp/\h.get? p.1=some p.2:=by
 obtain⟨b,hb,e⟩:=List.mem_filterMap.mp hp
 cases q:h.get? b with
 | none=>rw[q]at e;cases e
 | some o =>
  rw[q]at e
  have e':(b,o)=p:=Option.some.inj e
  subst e'
  exact⟨hb,q⟩
theorem Inv.pinned{pins:List (Addr×Obj)}{σ:St}{H:Hp}{s:Shared}{fp:List Addr}(I:Inv X pins σ H s)(hf:∀b∈fp,kf X pins H b)(ho:∀b∈fp,∃o,s.heap.get? b=some o/\∀v,o.data≠.cell v):Inv X (pins++jy fp s.heap) σ H s :=
 I.pins_of fun p hp=>(List.mem_append.mp hp).elim (fun z=>I.pin p (List.mem_append_right _ z)) fun z=>by
  obtain⟨hb,e⟩:=qB z
  obtain⟨f0,f1,f2,_⟩:=hf p.1 hb
  obtain⟨o,e',d⟩:=ho p.1 hb
  rw[e]at e';cases e'
  exact⟨e,f0,f1,f2,d⟩
theorem Inv.unpinned{pins pl:List (Addr×Obj)}{σ:St}{H:Hp}{s:Shared}(I:Inv X (pins++pl) σ H s):Inv X pins σ H s:=I.pins_of fun p hp=>I.pin p (List.mem_append_right _ (List.mem_append_left _ hp))
theorem yP{iter:Expr}{body:List Stmt}{wi:TI}{g:TG}{tb:TS}{pos:Pos}(hp:PassesOwn (model X.prog X.w) X.A X.env X.xe)(hc:X.calm=true)(hi:PI X tg iter wi)(hg:PG X tg g)(hb:PSs X body tb)
  (hs:∀x,foldedSetIterable iter X.env x=pure x:=by intro _;rfl):PS X (.For tg iter body [] pos) (DI wi g tb):=by
 intro pins s σ H D I h
 refine wpAny_For (thn (hi pins s σ H _ I h) fun v s1 h1=>thn h1 fun itv s2 h2=>?_) hs
 obtain⟨it,fp,tn,J,H2,e,I2,T,st2,f2,W,⟨m0,w0⟩,turn⟩:=h2
 subst e
 have stat:∀{H':Hp},(∀b∈fp,H' b=none)->∀b∈fp,kf X pins H' b:=fun hn b hb=>⟨hn b hb,(f2 b hb).2⟩
 refine codeAny_forLoop_any (fun n s'=>∃i σ' H',Inv X pins σ' H' s'/\tn i s'.heap/\(∀b∈fp,H' b=none)/\W i n σ' H') ?_ m0 ⟨0,σ,H2,I2,st2,fun b hb=>(f2 b hb).1,w0⟩
 rintro n s3 ⟨i,σ3,H3,I3,st3,fr3,w3⟩
 rcases turn i n σ3 H3 w3 with⟨stop,qn⟩ |⟨go,N,hN,step⟩
 ·refine wpAny_passesOwn hp (thn (T.done X rfl rfl rfl hc i pins s3 σ3 H3 X.xe I3 (stat fr3) st3 stop) fun r s4 ⟨hr,I4⟩=>?_)
  subst hr
  exact wpAny_execs_nil ⟨σ3,H3,I4,qn⟩
 ·refine wpAny_passesOwn hp (thn (T.item X rfl rfl rfl hc i pins s3 σ3 H3 X.xe I3 (stat fr3) st3 go) fun r s4 ⟨u,hr,h4⟩=>?_)
  subst hr
  refine wpAny_passesOwn hp (thn h4 fun _ s5 ⟨x,H5,I5,r5,y5,st5,fr5⟩=>?_)
  have I5':=I5.pinned (stat fr5) (T.obj _ _ st5)
  refine wpAny_passesOwn hp (thn (hg _ s5 σ3 H5 x u _ I5' r5 (step x H5 y5)) fun _ s6 ⟨σ6,H6,I6,q6⟩=>?_)
  refine wpAny_passesOwn hp (thn (hb _ s6 σ6 H6 _ I6 q6) fun f s7 q7=>?_)
  have again:∀{σ7:St}{H7:Hp},Inv X (pins++jy fp s5.heap) σ7 H7 s7->N σ7 H7->∃m,m < n/\∃i σ' H',Inv X pins σ' H' s7/\tn i s7.heap/\(∀b∈fp,H' b=none)/\W i m σ' H':=fun {σ7 H7} I7 n7=>by
   obtain⟨m',hm,w7⟩:=hN σ7 H7 n7
   refine⟨m',hm,i+1,σ7,H7,I7.unpinned,T.keep _ _ _ st5 fun b hb o e=>(I7.pin (b,o) (List.mem_append_right _ (List.mem_append_right _ (fe hb e)))).1,fun b hb=>?_,w7⟩
   obtain⟨o,e,d⟩:=T.obj _ _ st5 b hb
   exact(I7.pin (b,o) (List.mem_append_right _ (List.mem_append_right _ (fe hb e)))).2.1
  cases f with
  | next | cont=>obtain⟨σ7,H7,I7,n7⟩:=q7;exact again I7 n7
  | brk=>obtain⟨σ7,H7,I7,q7⟩:=q7;exact⟨σ7,H7,I7.unpinned,q7⟩
  | ret v=>obtain⟨x7,σ7,H7,I7,r7,q7⟩:=q7;exact⟨x7,σ7,H7,I7.unpinned,r7,q7⟩
end
end L2
namespace L2
open PySem PySem.Spec PyProof.Rows
abbrev R2:=V->V->Hp->VK->Prop
def OpR(X:Cx)(f:Value->Value->Sem Value)(r:R2):Prop :=
 ∀(pins:List (Addr×Obj)) (s:Shared) (σ:St) (H:Hp) (x y:V) (v u:Value) (Q:VK),Inv X pins σ H s->bp x v->bp y u->r x y H Q ->
  wpAny (model X.prog X.w) X.A (f v u) (EP X pins σ Q) X.xe s
def UnR(X:Cx)(f:Value->Sem Value)(r:V->Hp->VK->Prop):Prop :=
 ∀(pins:List (Addr×Obj)) (s:Shared) (σ:St) (H:Hp) (x:V) (v:Value) (Q:VK),Inv X pins σ H s->bp x v->r x H Q ->
  wpAny (model X.prog X.w) X.A (f v) (EP X pins σ Q) X.xe s
def eW(X:Cx)(f:Value)(r:List V->Hp->VK->Prop):Prop :=
 ∀(pins:List (Addr×Obj)) (s:Shared) (σ:St) (H:Hp) (xs:List V) (us:List Value) (Q:VK),Inv X pins σ H s->aG xs us->r xs H Q ->
  wpAny (model X.prog X.w) X.A (call f us) (EP X pins σ Q) X.xe s
def Ed(X:Cx)(r:V->Hp->(Bool->Hp->Prop)->Prop):Prop :=
 ∀(pins:List (Addr×Obj)) (s:Shared) (σ:St) (H:Hp) (x:V) (v:Value) (Q:Bool->Hp->Prop),Inv X pins σ H s->bp x v->r x H Q ->
  wpAny (model X.prog X.w) X.A (truthy v) (TP X pins σ Q) X.xe s
def tOp(r:R2)(ta tb:TE):TE:=fun σ H Q=>ta σ H fun x H1=>tb σ H1 fun y H2=>r x y H2 Q
def tUn(r:V->Hp->VK->Prop)(ta:TE):TE:=fun σ H Q=>ta σ H fun x H1=>r x H1 Q
def rI(C:Int->Int->Prop)(g:Int->Int->V):R2:=fun x y H Q=>∃i j,x=.int i/\y=.int j/\C i j/\Q (g i j) H
def rI0(g:Int->Int->V):R2:=fun x y H Q=>∃i j,x=.int i/\y=.int j/\Q (g i j) H
def rU(g:Int->V):V->Hp->VK->Prop:=fun x H Q=>∃i,x=.int i/\Q (g i) H
section
variable{X:Cx}{a b c:Expr}{ta tb tc:TE}{pos:Pos}
theorem Ah(ha:PE X a ta)(hb:PE X b tb){pins:List (Addr×Obj)}{s:Shared}{σ:St}{H:Hp}{R:V->V->Hp->Prop}(I:Inv X pins σ H s)
  (h:ta σ H fun x H1=>tb σ H1 fun y H2=>R x y H2) {Q:Value->Shared->Prop}{f:Value->Value->Sem Value}
  (hf:∀v u s2 x y H2,Inv X pins σ H2 s2->bp x v->bp y u->R x y H2->wpAny (model X.prog X.w) X.A (f v u) Q X.xe s2) :
  wpAny (model X.prog X.w) X.A (eval a X.env) (fun v s₁=>wpAny (model X.prog X.w) X.A (eval b X.env) (fun u s₂=>wpAny (model X.prog X.w) X.A (f v u) Q X.xe s₂) X.xe s₁) X.xe s:=by
 refine thn (ha pins s σ H _ I h) fun v s1 ⟨x,H1,I1,r1,q1⟩=>?_
 refine thn (hb pins s1 σ H1 _ I1 q1) fun u s2 ⟨y,H2,I2,r2,q2⟩=>?_
 exact hf v u s2 x y H2 I2 r1 r2 q2
theorem BL{op:Operator}{r:R2}(ho:OpR X (binaryOp op) r)(ha:PE X a ta)(hb:PE X b tb):PE X (.BinOp a op b pos) (tOp r ta tb):=by
 intro pins s σ H Q I h
 exact wpAny_BinOp (Ah ha hb I h fun v u s2 x y H2 I2 rx ry q=>ho pins s2 σ H2 x y v u Q I2 rx ry q)
theorem BJ{op:UnaryOp}{r:V->Hp->VK->Prop}(ho:UnR X (unaryOp op) r)(ha:PE X a ta):PE X (.UnaryOp op a pos) (tUn r ta):=by
 intro pins s σ H Q I h
 exact UnaryOp_ (thn (ha pins s σ H _ I h) fun v s1 ⟨x,H1,I1,r1,q1⟩=>ho pins s1 σ H1 x v Q I1 r1 q1)
theorem opI{f:Value->Value->Sem Value}{C:Int->Int->Prop}{g:Int->Int->Int}
  (rule:∀(i j:Int) (t u:Tok) (s:Shared) (Q:Value->Shared->Prop) (E:Value->Shared->Prop),C i j->Q (.int (g i j) s.toks) { s with toks:=s.toks+1 }->wpAny (model X.prog X.w) X.A (f (.int i t) (.int j u)) Q E s) :
  OpR X f (rI C fun i j=>.int (g i j)):=by
 intro pins s σ H x y v u Q I rx ry h
 obtain⟨i,j,rfl,rfl,hc,q⟩:=h
 obtain⟨t,rfl⟩:=rx
 obtain⟨t',rfl⟩:=ry
 exact rule i j t t' s _ _ hc ⟨.int (g i j),H,I.tok _,⟨_,rfl⟩,q⟩
theorem BZ{f:Value->Value->Sem Value}{g:Int->Int->Int}
  (rule:∀(i j:Int) (t u:Tok) (s:Shared) (Q:Value->Shared->Prop) (E:Value->Shared->Prop),Q (.int (g i j) s.toks) { s with toks:=s.toks+1 }->wpAny (model X.prog X.w) X.A (f (.int i t) (.int j u)) Q E s) :
  OpR X f (rI0 fun i j=>.int (g i j)):=by
 intro pins s σ H x y v u Q I rx ry h
 obtain⟨i,j,rfl,rfl,q⟩:=h
 obtain⟨t,rfl⟩:=rx
 obtain⟨t',rfl⟩:=ry
 exact rule i j t t' s _ _ ⟨.int (g i j),H,I.tok _,⟨_,rfl⟩,q⟩
theorem v9{f:Value->Value->Sem Value}{g:Int->Int->Bool}
  (rule:∀(i j:Int) (t u:Tok) (s:Shared) (Q:Value->Shared->Prop) (E:Value->Shared->Prop),Q (.bool (g i j)) s->wpAny (model X.prog X.w) X.A (f (.int i t) (.int j u)) Q E s) :
  OpR X f (rI0 fun i j=>.bl (g i j)):=by
 intro pins s σ H x y v u Q I rx ry h
 obtain⟨i,j,rfl,rfl,q⟩:=h
 obtain⟨t,rfl⟩:=rx
 obtain⟨t',rfl⟩:=ry
 exact rule i j t t' s _ _ ⟨.bl (g i j),H,I,rfl,q⟩
def Ek(i j:Int):Prop:=0 < j/\j < 1073741824
def AN(i j:Int):Prop:=(-(2 ^ 64) < i/\i < 2 ^ 64)\/(-(2 ^ 64) < j/\j < 2 ^ 64)
theorem AN.ok{i j:Int}(h:AN i j):IntMulOk i j:=by
 rcases h with⟨h1,h2⟩ |⟨h1,h2⟩
 ·exact .of_left (intBits_le_64 h1 h2)
 ·exact .of_right (intBits_le_64 h1 h2)
theorem zg:OpR X (binaryOp .Add) (rI0 fun i j=>.int (i+j)):=BZ fun _ _ _ _ _ _ _ q=>add_int q
theorem y_:OpR X (binaryOp .Sub) (rI0 fun i j=>.int (i - j)):=BZ fun _ _ _ _ _ _ _ q=>sub_int q
theorem zc:OpR X (binaryOp .Mult) (rI AN fun i j=>.int (i * j)):=opI fun _ _ _ _ _ _ _ hc q=>mul_int q hc.ok
theorem v7:OpR X (binaryOp .FloorDiv) (rI Ek fun i j=>.int (i / j)):=opI fun i j _ _ _ _ _ hc q=>by
 have h1:(0:Int) < j:=hc.1
 have h2:j < 1073741824:=hc.2
 exact floordiv_int (by omega) (by rw[Int.fdiv_eq_ediv_of_nonneg i (by omega)];exact q) (.inl (PyProof.noPylong_small (by omega)))
theorem zd:OpR X (binaryOp .Mod) (rI (fun _ j=>0 < j) fun i j=>.int (i % j)):=opI fun i j _ _ _ _ _ hc q=>by
 have h1:(0:Int) < j:=hc
 exact mod_int' (by omega) (by rw[Int.fmod_eq_emod_of_nonneg i (by omega)];exact q)
theorem unI{f:Value->Sem Value}{g:Int->Int}
  (rule:∀(i:Int) (t:Tok) (s:Shared) (Q:Value->Shared->Prop) (E:Value->Shared->Prop),Q (.int (g i) s.toks) { s with toks:=s.toks+1 }->wpAny (model X.prog X.w) X.A (f (.int i t)) Q E s) :
  UnR X f (rU fun i=>.int (g i)):=by
 intro pins s σ H x v Q I rx h
 obtain⟨i,rfl,q⟩:=h
 obtain⟨t,rfl⟩:=rx
 exact rule i t s _ _ ⟨.int (g i),H,I.tok _,⟨_,rfl⟩,q⟩
theorem yg:UnR X (unaryOp .USub) (rU fun i=>.int (-i)):=unI fun _ _ _ _ _ q=>neg_int q
end
def scal:V->V->Bool
 | .non,.non=>true | .non,.int _=>true | .int _,.non=>true | .non,.bl _=>true | .bl _,.non=>true | .non,.str _=>true | .str _,.non=>true
 | .int _,.int _=>true | .bl _,.bl _=>true | .str _,.str _=>true | .byt _,.byt _=>true
 | .int _,.str _=>true | .str _,.int _=>true | .bl _,.str _=>true | .str _,.bl _=>true
 | _,_=>false
section
variable{X:Cx}{a b c:Expr}{ta tb tc:TE}{pos:Pos}
theorem uq{pins:List (Addr×Obj)}{σ:St}{H:Hp}{s:Shared}{Q:VK}{k k':Bool}(I:Inv X pins σ H s)(q:Q (.bl k) H)(e:k=k'):EP X pins σ Q (.bool k') s:=by
 subst e
 exact⟨.bl k,H,I,rfl,q⟩
theorem BV:OpR X (compareOp .Lt) (rI0 fun i j=>.bl (decide (i < j))):=v9 fun _ _ _ _ _ _ _ q=>lt_int q
theorem BW:OpR X (compareOp .LtE) (rI0 fun i j=>.bl (decide (i<=j))):=v9 fun _ _ _ _ _ _ _ q=>le_int q
theorem BX:OpR X (compareOp .Gt) (rI0 fun i j=>.bl (decide (j < i))):=v9 fun _ _ _ _ _ _ _ q=>gt_int q
theorem BY:OpR X (compareOp .GtE) (rI0 fun i j=>.bl (decide (j<=i))):=v9 fun _ _ _ _ _ _ _ q=>ge_int q
theorem ze:OpR X (compareOp .Is) (fun x y H Q=>y=.non/\Q (.bl (decide (x=.non))) H):=by
 intro pins s σ H x y v u Q I rx ry h
 obtain⟨rfl,q⟩:=h
 cases ry
 refine is_none_gen (uq I q ?_)
 cases x<;>first
  |(cases rx;rfl)
  |(obtain⟨t,rfl⟩:=rx;rfl)
theorem v6:OpR X (compareOp .IsNot) (fun x y H Q=>y=.non/\Q (.bl (!decide (x=.non))) H):=by
 intro pins s σ H x y v u Q I rx ry h
 obtain⟨rfl,q⟩:=h
 cases ry
 refine isnot_none_gen (uq I q ?_)
 cases x<;>first
  |(cases rx;rfl)
  |(obtain⟨t,rfl⟩:=rx;rfl)
theorem OpR.or{f:Value->Value->Sem Value}{r r':R2}(h:OpR X f r)(h':OpR X f r'):OpR X f (fun x y H Q=>r x y H Q\/r' x y H Q):=by
 intro pins s σ H x y v u Q I rx ry q
 rcases q with q | q
 ·exact h pins s σ H x y v u Q I rx ry q
 ·exact h' pins s σ H x y v u Q I rx ry q
theorem e_(b:Expr){op:CmpOp}(h:op≠.In:=by decide)(h2:op≠.NotIn:=by decide):behindInMarks op b=false:=by
 have e1:(op==CmpOp.In)=false:=by cases op<;>first | rfl | exact absurd rfl h
 have e2:(op==CmpOp.NotIn)=false:=by cases op<;>first | rfl | exact absurd rfl h2
 cases b<;>simp[behindInMarks,e1,e2]
theorem v3{op:CmpOp}{r:R2}(ho:OpR X (compareOp op) r)(ha:PE X a ta)(hb:PE X b tb)(hm:behindInMarks op b=false):PE X (.Compare a [op] [b] pos) (tOp r ta tb):=by
 intro pins s σ H Q I h
 exact wpAny_Compare1 (Ah ha hb I h fun v u s2 x y H2 I2 rx ry q=>ho pins s2 σ H2 x y v u Q I2 rx ry q) hm
def Bl(t:TE):TT:=fun σ H Q=>t σ H fun x H'=>∃k,x=.bl k/\Q k H'
theorem pB{op:CmpOp}{r:R2}(ho:OpR X (compareOp op) r)(ha:PE X a ta)(hb:PE X b tb)(hm:behindInMarks op b=false):PT X (.Compare a [op] [b] pos) (Bl (tOp r ta tb)):=by
 intro pins s σ H Q I h
 refine wpAny_isTrue_Compare1 (thn (ha pins s σ H _ I h) fun v s1 ⟨x,H1,I1,r1,q1⟩=>thn (hb pins s1 σ H1 _ I1 q1) fun u s2 ⟨y,H2,I2,r2,q2⟩ =>
  thn (ho pins s2 σ H2 x y v u _ I2 r1 r2 q2) fun c s3 ⟨z,H3,I3,r3,k,e,q3⟩=>?_) hm
 subst e
 cases r3
 exact wpAny_truthy_bool ⟨H3,I3,q3⟩
def CT(K:PySem.W.Frag)(x:V)(H:Hp)(k:Bool):Prop :=
 match x with
 | .non=>k=false
 | .bl b=>k=b
 | .int i=>k=(i != 0)
 | .str y=>y.length<=sizeLine/\k=((y.length:Int) != 0)
 | .byt y=>y.size<=sizeLine/\k=((y.size:Int) != 0)
 | .ref p=>(∃xs,SqL K H p xs/\k=!xs.isEmpty)\/(∃xs,SqT K H p xs/\k=!xs.isEmpty)\/ ∃kvs,H p=some (.dK kvs)/\k=!kvs.isEmpty
 | _=>False
theorem oK{κ:Type}{kvs:List (κ×V)}{vs:List (κ×Value)}(r:KV kvs vs):(!vs.isEmpty)=!kvs.isEmpty:=by
 cases r<;>rfl
theorem jP{xs:List V}{its:List Value}(r:aG xs its):(!its.toArray.isEmpty)=!xs.isEmpty:=by
 cases r<;>simp
theorem iC:(sizeLine:Nat) < 2 ^ 63:=by rw[sizeLine_eq];decide
theorem yh:Ed X (fun x H Q=>∃k,CT X.K x H k/\Q k H):=by
 intro pins s σ H x v Q I rx h
 obtain⟨k,e,q⟩:=h
 have hl:=iC
 have hs:sizeLine=16777216:=sizeLine_eq
 cases x with
 | non =>
  cases rx
  have e':k=false:=e
  subst e'
  exact truthy_none ⟨H,I,q⟩
 | bl b =>
  cases rx
  have e':k=b:=e
  subst e'
  exact wpAny_truthy_bool ⟨H,I,q⟩
 | int i =>
  obtain⟨t,rfl⟩:=rx
  have e':k=(i != 0):=e
  subst e'
  exact PySem.P.truthy_int ⟨H,I,q⟩
 | str y =>
  obtain⟨t,rfl⟩:=rx
  obtain⟨hy,e'⟩:y.length<=sizeLine/\k=((y.length:Int) != 0):=e
  subst e'
  exact PySem.P.truthy_str (by omega) ⟨H,I.tok _,q⟩
 | byt y =>
  obtain⟨t,rfl⟩:=rx
  obtain⟨hy,e'⟩:y.size<=sizeLine/\k=((y.size:Int) != 0):=e
  subst e'
  exact PySem.W.truthy_bytes (by omega) ⟨H,I.tok _,q⟩
 | ref p =>
  cases rx
  have e':(∃xs,SqL X.K H p xs/\k=!xs.isEmpty)\/(∃xs,SqT X.K H p xs/\k=!xs.isEmpty)\/ ∃kvs,H p=some (.dK kvs)/\k=!kvs.isEmpty:=e
  rcases e' with⟨xs,hx,e'⟩ |⟨xs,hx,e'⟩ |⟨kvs,hx,e'⟩
  ·subst e'
   obtain⟨its,r,pl,hz⟩:=I.list hx
   have hlen:=r.length
   exact wpAny_truthy_list pl.isList (by simp only[List.size_toArray];omega) ⟨H,I.tok _,by rw[jP r];exact q⟩
  ·subst e'
   obtain⟨its,r,pl,hz⟩:=I.tuple hx
   have hlen:=r.length
   exact truthy_tuple pl (by simp only[List.size_toArray];omega) ⟨H,I.tok _,by rw[jP r];exact q⟩
  ·subst e'
   obtain⟨hz,hS,vs,r,m⟩:kvs.length<=sizeLine/\(p==sysModules)=false/\∃vs,KV kvs vs/\s.heap.DictOf (lH X.prog X.w) p vs:=I.hok p _ hx
   have hlen:kvs.length=vs.length:=Paired.length r
   exact wpAny_truthy_dict hS m (by omega) ⟨H,I.tok _,by rw[oK r];exact q⟩
 | _=>exact(show False from e).elim
theorem sE(ha:PE X a ta)(he:∀whole,isTrue a X.env whole=(do let v <- whole;standAt a.pos;holding [v] (truthy v))) :
  PT X a (fun σ H Q=>ta σ H fun x H'=>∃k,CT X.K x H' k/\Q k H'):=by
 intro pins s σ H Q I h
 exact isTrue_plain (thn (ha pins s σ H _ I h) fun v s1 ⟨x,H1,I1,r1,q1⟩=>yh pins s1 σ H1 x v Q I1 r1 q1) (he _)
theorem gj{x:V}{us:List Value}(r:aG [x] us):∃u,us=[u]/\bp x u:=by
 cases r with
 | cons r1 r2=>cases r2;exact⟨_,rfl,r1⟩
theorem Bg{x y:V}{us:List Value}(r:aG [x,y] us):∃u w',us=[u,w']/\bp x u/\bp y w':=by
 cases r with
 | cons r1 r2 =>
  cases r2 with
  | cons r3 r4=>cases r4;exact⟨_,_,rfl,r1,r3⟩
theorem qZ(hc:X.calm=true):eW X (.builtin "min") (fun xs H Q=>∃i j,xs=[.int i,.int j]/\Q (.int (if j < i then j else i)) H):=by
 intro pins s σ H xs us Q I r h
 obtain⟨i,j,rfl,q⟩:=h
 obtain⟨u,w',rfl,⟨t,rfl⟩,⟨t',rfl⟩⟩:=Bg r
 refine min_two_ints (I.ok.hd hc) fun h' tk k=>⟨_,H,I.kept k,?_,q⟩
 by_cases hj:j < i
 ·rw[if_pos hj,if_pos hj];exact⟨_,rfl⟩
 ·rw[if_neg hj,if_neg hj];exact⟨_,rfl⟩
end
end L2
namespace L2
open PySem PySem.Spec PyProof.Rows
structure oV(h:Heap)(x dx C:Addr)(mA:Str->Option Value):Prop where
 obj:h.get? x=some (PySem.W.instObj C dx)
 ns:h.Ns1 dx mA
 ne:dx≠x
theorem qI{h:Heap}{dx:Addr}{mA:Str->Option Value}(n:h.Ns1 dx mA):∃od,h.get? dx=some od/\∀name,PySem.W.lookIn name od=some (mA name):=by
 obtain⟨o,es,ep,ho,hd,hk,_,hm⟩:=n
 refine⟨o,ho,fun name=>?_⟩
 have e:=hm name
 unfold nsFind findBy at e
 rw[<- Array.find?_toList]at e
 unfold PySem.W.lookIn
 rw[hd]
 dsimp only
 split
 ·rename_i y q
  rw[q]at e
  exact congrArg some e
 ·rename_i q
  rw[q]at e
  have a:es.toList.any (·.refKey)=false:=by
   rw[List.any_eq_false]
   intro y hy
   obtain⟨z,t,hkey⟩:=hk y (Array.mem_toList_iff.mp hy)
   simp[DictEntry.refKey,hkey]
  have a':¬es.toList.any (·.refKey)=true:=by rw[a];exact Bool.false_ne_true
  rw[if_neg a']
  exact congrArg some e
theorem oV.look{h:Heap}{x dx C:Addr}{mA:Str->Option Value}(I:oV h x dx C mA):∃od,PySem.W.InstAt h x (PySem.W.instObj C dx) C (some od)/\∀name,PySem.W.lookIn name od=some (mA name) :=
 let⟨od,ho,hl⟩:=qI I.ns
 ⟨od,⟨I.obj,rfl,rfl,ho⟩,hl⟩
section
variable{prog:Program}{w:World}{A:Around}{E:Value->Shared->Prop}{s:Shared}{K:PySem.W.Frag}{x dx C f:Addr}{mA:Str->Option Value}{name:Str}{v:Value}
theorem wI{expr:Bool}{Q:Value->Shared->Prop}(X:K.In s.heap)(I:oV s.heap x dx C mA)(hg:PySem.W.plainGet K C name=true)(hh:PySem.W.hasDictIn K C=true)
  (ha:PySem.W.findIn K (.ref C) name=some none) (hv:mA name=some v) (hv':PySem.W.handedIn v=true) (h:Q v { s with toks:=s.toks+1 }) :
  wpAny (model prog w) A (getAttr (.ref x) name expr) Q E s:=by
 obtain⟨od,J,hl⟩:=I.look
 exact PySem.W.get_value X J (PySem.W.plainGet_of hg).1 (PySem.W.findObj_own hh ha rfl (by rw[hl,hv])) hv' h
theorem uo{pl:Sem Bool}{Q:Value×List Value->Shared->Prop}(X:K.In s.heap)(I:oV s.heap x dx C mA)(hg:PySem.W.plainGet K C name=true)
  (hf:PySem.W.findIn K (.ref C) name=some (some (.ref f))) (ht:PySem.W.isFn K (.ref f)=true) (hv:mA name=none) (h:Q (.ref f,[.ref x]) s) :
  wpAny (model prog w) A (getMethod (.ref x) name pl) Q E s:=by
 obtain⟨od,J,hl⟩:=I.look
 exact PySem.W.method_fn X J (PySem.W.plainGet_of hg).1 (PySem.W.plainGet_of hg).2 hf (beq_iff_eq.mp ht) (by show(PySem.W.lookIn name od).map (·.isSome)=some false;rw[hl,hv];rfl) h
theorem vF{ns:List Str}{Q:Unit->Shared->Prop}(X:K.In s.heap)(I:oV s.heap x dx C mA)
  (hs:PySem.W.findIn K (.ref C) "__setattr__" = some (some (.builtin "object.__setattr__"))) (hp:PySem.W.plainOver K C=true) (ht:PySem.W.takerIn K C name=some none) (hh:PySem.W.hasDictIn K C=true)
  (hw:PySem.Within mA ns) (hsz:ns.length<=sizeLine)
  (h:∀h',oV h' x dx C (fun y=>if y=name then some v else mA y)->Heap.SameBut dx s.heap h'->Q () { s with heap:=h',toks:=s.toks+2 }) :
  wpAny (model prog w) A (setAttr (.ref x) name v) Q E s:=by
 obtain⟨od,J,hl⟩:=I.look
 refine PySem.W.set_plain X J hs (PySem.W.osa_open (s:={ s with toks:=s.toks+1 }) (r:=none) X J hp ht fun b=>?_)
 obtain⟨cd,hc,hd'⟩:=PySem.W.any_some hh
 have hx:s.heap.get? x=some ⟨.ref C,some dx,.plain,#[]⟩:=I.obj
 refine wpAny_bind (wpAny_pure (wpAny_bind (wpAny_bind (wpAny_loadPart hx (wpAny_bind (PySem.W.Looks.here (s:={ s with toks:=s.toks+1 }) (PySem.W.looks_clsIn X hc) ?_))))))
 rw[hd']
 refine wpAny_pure (a:=some dx) (wpAny_bind (wpAny_pure (wpAny_bind ?_)))
 refine wpAny_nsSet1 (s:={ s with toks:=s.toks+1 }) I.ns fun h' hn2 hs2=>?_
 obtain⟨oD,esD,epD,hoD,hdD,hcD⟩:=hn2.count (PySem.Within.cons name v hw)
 refine wpAny_bind (wpAny_lookBehind hoD (by rw[hdD];exact pastItsLine_dict (Nat.le_trans hcD (by rw[List.length_cons];omega))) ?_)
 exact wpAny_pure (h _ ⟨(hs2.2 _ (Ne.symm I.ne)).trans I.obj,hn2,I.ne⟩ hs2)
theorem tX{R:Result->Shared->Prop}{vs:List Value}{kw:List (Str×Value)}(X:K.In s.heap)(hm:PySem.W.makesIn K C=true)
  (hi:PySem.W.findIn K (.ref C) "__init__" = some (some (.ref f))) (hf:PySem.W.typeIn K (.ref f)=some (.type "function"))
  (h:codeAny (model prog w) (A.under (.builtin "type.__call__" ⟨.ref C::vs,kw⟩)) (.call (.ref f) ⟨.ref (s.heap.objs.size+1)::vs,kw⟩) (PySem.W.InitBack (s.heap.objs.size+1) R)
   { s with heap:=(s.heap.push PySem.W.emptyDict).push (PySem.W.instObj C s.heap.objs.size) }) :
  codeAny (model prog w) A (.call (.ref C) ⟨vs,kw⟩) R s:=by
 obtain⟨hh,g,d,t,os⟩:=s
 exact PySem.W.make_core (PySem.W.makes_of X hm) (PySem.W.looks_findIn X hi) (fun self=>PySem.W.bind_fn X self hf) (.inl rfl) h
end
def eZ(f:Str)(v:V):List (Str×V)->List (Str×V)
 | []=>[(f,v)]
 |(g,x)::r=>if g=f then(g,v)::r else(g,x)::eZ f v r
theorem iN(f g:Str)(v:V):∀fs:List (Str×V),(eZ f v fs).lookup g=if g=f then some v else fs.lookup g
 | []=>by
  show List.lookup g [(f,v)]=_
  by_cases h:g=f
  ·have hb:(g==f)=true:=beq_iff_eq.mpr h
   simp only[List.lookup,hb,if_pos h]
  ·have hb:(g==f)=false:=beq_eq_false_iff_ne.mpr h
   simp only[List.lookup,hb,if_neg h]
 |(k,x)::r=>by
  have ih:=iN f g v r
  rw[show eZ f v ((k,x)::r)=(if k=f then(k,v)::r else(k,x)::eZ f v r)from rfl]
  by_cases hk:k=f
  ·rw[if_pos hk]
   by_cases h:g=k
   ·have hb:(g==k)=true:=beq_iff_eq.mpr h
    simp only[List.lookup,hb,if_pos (h.trans hk)]
   ·have hb:(g==k)=false:=beq_eq_false_iff_ne.mpr h
    simp only[List.lookup,hb,if_neg (fun e:g=f=>h (e.trans hk.symm))]
  ·rw[if_neg hk]
   by_cases h:g=k
   ·have hb:(g==k)=true:=beq_iff_eq.mpr h
    simp only[List.lookup,hb,if_neg (fun e:g=f=>hk (h.symm.trans e))]
   ·have hb:(g==k)=false:=beq_eq_false_iff_ne.mpr h
    simp only[List.lookup,hb]
    exact ih
theorem iD(f:Str)(v:V):∀fs:List (Str×V),f ∈(eZ f v fs).map (·.1)/\∀g,g∈fs.map (·.1)->g ∈(eZ f v fs).map (·.1)
 | []=>⟨by simp[eZ],fun g h=>by simp at h⟩
 |(k,x)::r=>by
  obtain⟨i1,i2⟩:=iD f v r
  rw[show eZ f v ((k,x)::r)=(if k=f then(k,v)::r else(k,x)::eZ f v r)from rfl]
  by_cases hk:k=f
  ·rw[if_pos hk]
   subst hk
   exact⟨by simp,fun g h=>by simpa using h⟩
  ·rw[if_neg hk]
   refine⟨?_,fun g h=>?_⟩
   ·rw[List.map_cons]
    exact List.mem_cons_of_mem _ i1
   ·rw[List.map_cons]at h ⊢
    rcases List.mem_cons.mp h with e | e
    ·exact List.mem_cons.mpr (.inl e)
    ·exact List.mem_cons_of_mem _ (i2 g e)
theorem iP(f:Str)(v:V):∀fs:List (Str×V),(eZ f v fs).length<=fs.length+1
 | []=>by simp[eZ]
 |(k,x)::r=>by
  have ih:=iP f v r
  rw[show eZ f v ((k,x)::r)=(if k=f then(k,v)::r else(k,x)::eZ f v r)from rfl]
  by_cases hk:k=f
  ·rw[if_pos hk,List.length_cons,List.length_cons];omega
  ·rw[if_neg hk,List.length_cons,List.length_cons];omega
theorem ku.some_of{v:V}{o:Option Value}(r:ku (some v) o):∃u,o=some u/\bp v u:=by
 cases o with
 | none=>exact(show False from r).elim
 | some u=>exact⟨u,rfl,r⟩
theorem ku.none_of{o:Option Value}(r:ku none o):o=none:=by
 cases o with
 | none=>rfl
 | some u=>exact(show False from r).elim
theorem qP{v:V}{u:Value}(r:bp v u):PySem.W.handedIn u=true:=by
 cases v with
 | non=>cases(show u=Value.none from r);rfl
 | bl b=>cases(show u=Value.bool b from r);rfl
 | int i=>obtain⟨t,e⟩:=(show ∃t,u=Value.int i t from r);cases e;rfl
 | str x=>obtain⟨t,e⟩:=(show ∃t,u=Value.str x t from r);cases e;rfl
 | byt b=>obtain⟨t,e⟩:=(show ∃t,u=Value.bytes b t from r);cases e;rfl
 | flt b=>obtain⟨t,e⟩:=(show ∃t,u=Value.float b t from r);cases e;rfl
 | ref a=>cases(show u=Value.ref a from r);rfl
 | ty n=>cases(show u=Value.type n from r);rfl
section
variable{P:Program}{w:World}{H H':Hp}{h h':Heap}{a C dx:Addr}{fs fs':List (Str×V)}
theorem lU(hok:HOk P w H h)(e:H a=some (.ins C dx fs)):∃mA,oV h a dx C mA/\(∀f,ku (fs.lookup f) (mA f))/\PySem.Within mA (fs.map (·.1))/\fs.length<=1000/\H dx=some (.own a):=by
 obtain⟨d,z,ne,ob,mA,n,r,q⟩:=(show cW P w H h a (.ins C dx fs)from hok a _ e)
 exact⟨mA,⟨ob,n,ne⟩,r,q,z,d⟩
end
structure Cls(K:PySem.W.Frag)(C:Addr):Prop where
 pg:PySem.W.plainGet K C Str.empty=true
 hd:PySem.W.hasDictIn K C=true
 po:PySem.W.plainOver K C=true
 sa:PySem.W.findIn K (.ref C) "__setattr__" = some (some (.builtin "object.__setattr__"))
theorem Cls.get{K:PySem.W.Frag}{C:Addr}(c:Cls K C)(f:Str):PySem.W.plainGet K C f=true:=c.pg
def dA(K:PySem.W.Frag)(C:Addr)(f:Str):Prop:=PySem.W.findIn K (.ref C) f=some none
theorem dA.taker{K:PySem.W.Frag}{C:Addr}{f:Str}(n:dA K C f):PySem.W.takerIn K C f=some none:=by
 unfold PySem.W.takerIn
 rw[show PySem.W.findIn K (.ref C) f=some none from n]
 rfl
structure Con(K:PySem.W.Frag)(C:Addr)(f:Str)(v:V)(u:Value):Prop where
 at_:PySem.W.findIn K (.ref C) f=some (some u)
 rel:bp v u
 get:PySem.W.specialIn K u "__get__" = some none
 cp:PySem.W.copiedNames.contains f=false
structure xr(K:PySem.W.Frag)(C:Addr)(m:Str)(f:Addr):Prop where
 at_:PySem.W.findIn K (.ref C) m=some (some (.ref f))
 fn:PySem.W.isFn K (.ref f)=true
 kp:PySem.W.keepIn K (.ref f)=true
section
variable{X:Cx}{pins:List (Addr×Obj)}{σ:St}{H:Hp}{s:Shared}{a C dx:Addr}{fs:List (Str×V)}{f:Str}{v:V}{A:Around}{E:Value->Shared->Prop}
theorem oP{b:Bool}{Q:Value->Shared->Prop}(I:Inv X pins σ H s)(e:H a=some (.ins C dx fs))(c:Cls X.K C)(n:dA X.K C f)(l:fs.lookup f=some v)
  (h:∀u s',Inv X pins σ H s'->bp v u->Q u s'):wpAny (model X.prog X.w) A (getAttr (.ref a) f b) Q E s:=by
 obtain⟨mA,O,r,_,_,_⟩:=lU I.hok e
 obtain⟨u,hu,ru⟩:=ku.some_of (v:=v) (o:=mA f) (by rw[<- l];exact r f)
 exact wI I.kIn O (c.get f) c.hd n hu (qP ru) (h u _ (I.tok _) ru)
theorem oO{m:Str}{g:Addr}{pl:Sem Bool}{Q:Value×List Value->Shared->Prop}(I:Inv X pins σ H s)(e:H a=some (.ins C dx fs))(c:Cls X.K C)(k:xr X.K C m g)(l:fs.lookup m=none)
  (h:Q (.ref g,[.ref a]) s):wpAny (model X.prog X.w) A (getMethod (.ref a) m pl) Q E s:=by
 obtain⟨mA,O,r,_,_,_⟩:=lU I.hok e
 have hn:mA m=none:=ku.none_of (by rw[<- l];exact r m)
 exact uo I.kIn O (c.get m) k.at_ k.fn hn h
theorem oh{y:V}{u:Value}{Q:Unit->Shared->Prop}(I:Inv X pins σ H s)(e:H a=some (.ins C dx fs))(c:Cls X.K C)(n:dA X.K C f)(hl:fs.length < 1000)(ry:bp y u)
  (h:∀s',Inv X pins σ (upd H a (.ins C dx (eZ f y fs))) s'->Q () s'):wpAny (model X.prog X.w) A (setAttr (.ref a) f u) Q E s:=by
 obtain⟨mA,O,r,wi,_,ho⟩:=lU I.hok e
 have hz:(fs.map (·.1)).length<=sizeLine:=by rw[List.length_map,sizeLine_eq];omega
 refine vF I.kIn O c.sa c.po n.taker c.hd wi hz fun h' O' sb=>h _ ?_
 have hd:∃o,h'.get? dx=some o:=let⟨o,_,_,e',_⟩:=O'.ns;⟨o,e'⟩
 refine I.write (x:=a) (e:=dx) (by rw[e];exact True.intro) (.inr ho) (fun b q hb z=>(sb.2 b hb).trans z) hd ?_
 refine⟨by rw[aF O.ne];exact ho,?_,O.ne,O'.obj,_,O'.ns,fun g=>?_,fun g hg=>?_⟩
 ·have:=iP f y fs;omega
 ·show ku ((eZ f y fs).lookup g) (if g=f then some u else mA g)
  rw[iN]
  by_cases q:g=f
  ·rw[if_pos q,if_pos q];exact ry
  ·rw[if_neg q,if_neg q];exact r g
 ·by_cases q:g=f
  ·rw[q];exact(iD f y fs).1
  ·refine(iD f y fs).2 g (wi g fun z=>hg ?_)
   show(if g=f then some u else mA g)=none
   rw[if_neg q];exact z
theorem Inv.made(I:Inv X pins σ H s):Inv X pins σ (upd (upd H s.heap.objs.size (.own (s.heap.objs.size+1))) (s.heap.objs.size+1) (.ins C s.heap.objs.size []))
  { s with heap:=(s.heap.push PySem.W.emptyDict).push (PySem.W.instObj C s.heap.objs.size) }:=by
 have e1:(s.heap.push PySem.W.emptyDict).get? s.heap.objs.size=some PySem.W.emptyDict:=Heap.get?_push_size s.heap rfl
 have e2:((s.heap.push PySem.W.emptyDict).push (PySem.W.instObj C s.heap.objs.size)).get? (s.heap.objs.size+1)=some (PySem.W.instObj C s.heap.objs.size):=by
  have:=Heap.get?_push_size (s.heap.push PySem.W.emptyDict) (o:=PySem.W.instObj C s.heap.objs.size) rfl
  rwa [Heap.size_push]at this
 have e3:(s.heap.push PySem.W.emptyDict).Ns s.heap.objs.size (fun _=>none):=⟨PySem.W.emptyDict,#[],_,e1,rfl,(fun e he=>absurd he (by simp)),fun _=>rfl⟩
 have I1:=I.laid (a:=s.heap.objs.size) (o:=.own (s.heap.objs.size+1)) (h':=s.heap.push PySem.W.emptyDict) (t':=s.toks) (fun b u q=>Heap.get?_push_of_some _ q) (Nat.le_refl _) ⟨_,e1⟩
 refine I1.laid (a:=s.heap.objs.size+1) (o:=.ins C s.heap.objs.size []) (t':=s.toks) (fun b u q=>Heap.get?_push_of_some _ q) (Nat.le_of_eq (Heap.size_push _ _)) ?_
 have ne:s.heap.objs.size≠s.heap.objs.size+1:=Nat.ne_of_lt (Nat.lt_succ_self _)
 refine⟨by rw[aF ne,bq],Nat.zero_le _,ne,e2,fun _=>none,(Heap.Ns1.of_empty e3).at fun o q=>Heap.get?_push_of_some _ q,fun _=>True.intro,fun y hy=>absurd rfl hy⟩
theorem xo{prog:Program}{w:World}{env:Env}{e:Expr}{f:Str}{pos:Pos}{s:Shared}{Q:Value->Shared->Prop}(hb:attributeBase e f env (eval e env)=eval e env)
  (h:wpAny (model prog w) A (eval e env) (fun o s₁=>wpAny (model prog w) A (getAttr o f true) Q E s₁) E s):wpAny (model prog w) A (eval (.Attribute e f pos) env) Q E s :=
 Attribute_any_ h (by rw[arm_eval_Attribute,hb])
end
def Br(K:PySem.W.Frag)(ta:TE)(f:Str):TE:=fun σ H Q=>ta σ H fun x H1=>∃a C dx fs v,x=.ref a/\H1 a=some (.ins C dx fs)/\Cls K C/\dA K C f/\fs.lookup f=some v/\Q v H1
def sFld(K:PySem.W.Frag)(ta tv:TE)(f:Str):TS:=fun D σ H=>tv σ H fun y H1=>ta σ H1 fun x H2=>∃a C dx fs,x=.ref a/\H2 a=some (.ins C dx fs)/\Cls K C/\dA K C f/\fs.length < 1000 /\
 D.nx σ (upd H2 a (.ins C dx (eZ f y fs)))
section
variable{X:Cx}{o e value:Expr}{f:Str}{pos pos' tpos:Pos}{ta tv:TE}
theorem yZ(he:PE X e ta)(hb:attributeBase e f X.env (eval e X.env)=eval e X.env):PE X (.Attribute e f pos) (Br X.K ta f):=by
 intro pins s σ H Q I h
 refine xo hb (thn (he pins s σ H _ I h) fun u s1 ⟨x,H1,I1,rx,a,C,dx,fs,v,ex,ea,c,n,l,q⟩=>?_)
 subst ex
 obtain rfl:u=Value.ref a:=rx
 exact oP I1 ea c n l fun u' s2 I2 ru=>⟨v,H1,I2,ru,q⟩
theorem yQ(ha:PE X o ta)(hv:PE X value tv)(hs:swapsWith value (some (.Attribute o f pos')) pos.line X.env=pure false):PS X (.Assign [.Attribute o f pos'] value pos) (sFld X.K ta tv f):=by
 intro pins s σ H D I h
 refine plainObj_wpAny_Assign_Attribute (thn (hv pins s σ H _ I h) fun u s1 ⟨y,H1,I1,ry,q⟩=>thn (ha pins s1 σ H1 _ I1 q) fun ov s2 ⟨x,H2,I2,rx,a,C,dx,fs,ex,ea,c,n,l,q2⟩=>?_) hs
 subst ex
 obtain rfl:ov=Value.ref a:=rx
 exact oh I2 ea c n l ry fun s3 I3=>⟨σ,_,I3,q2⟩
variable{pins:List (Addr×Obj)}{σ:St}{H:Hp}{s:Shared}{A:Around}{E Q:Value->Shared->Prop}{c:Value}{b:Bool}
inductive kb(K:PySem.W.Frag)(H:Hp):V->Value->Prop where
 | non:kb K H .non (.type "NoneType")
 | bl (x:Bool):kb K H (.bl x) (.type "bool")
 | int (i:Int):kb K H (.int i) (.type "int")
 | str (x:Str):kb K H (.str x) (.type "str")
 | flt (x:UInt64):kb K H (.flt x) (.type "float")
 | lst {a:Addr}{xs:List V} (e:H a=some (.lst xs)):kb K H (.ref a) (.type "list")
 | frz {a:Addr}{o:Obj}{xs:List V} (e:H a=some (.frz o (.lst xs))):kb K H (.ref a) (.type "list")
 | tup {a:Addr}{xs:List V} (e:H a=some (.tup xs)):kb K H (.ref a) (.type "tuple")
 | dK {a:Addr}{kvs:List (Key×V)} (e:H a=some (.dK kvs)):kb K H (.ref a) (.type "dict")
 | dT {a:Addr}{kvs:List (List Key×V)} (e:H a=some (.dT kvs)):kb K H (.ref a) (.type "dict")
 | ins {a C dx:Addr}{fs:List (Str×V)} (e:H a=some (.ins C dx fs)) (cl:Cls K C) (ha:PySem.W.findIn K (.ref C) "__class__" = some (some (.builtin "object.__class__")))
   (hn:PySem.W.specialIn K (.builtin "object.__class__") "__get__" = some (some (.builtin "getset_descriptor.__get__"))) (htk:PySem.W.takesIn K (.builtin "object.__class__")=some true)
   (hm:PySem.W.mroIn K C (.type "object")=some true):kb K H (.ref a) (.ref C)
end
end L2
namespace L2
open PySem PySem.Spec PyProof.Rows
structure cL(k:Nat)(A:Around):Prop where
 hd:A.handled=none
 dp:A.depth+3 * k+5 < recursionLimit
 un:A.units+16 * k+200 < cLine
theorem cL.mono{j k:Nat}{A:Around}(r:cL k A)(h:j<=k):cL j A:=⟨r.hd,by have:=r.dp;omega,by have:=r.un;omega⟩
theorem cL.deeper{k:Nat}{A:Around}(r:cL (k+1) A)(env:Env):cL k (A.deeper env) :=
 ⟨r.hd,by have:=r.dp;show A.depth+1+3 * k+5 < _;omega,by have:=r.un;show A.units+3+16 * k+200 < _;omega⟩
theorem oH{A:Around}{C:Addr}{us:List Value}{kw:List (Str×Value)}:(A.under (.builtin "type.__call__" ⟨.ref C::us,kw⟩)).depth=A.depth+1:=by
 first | rfl | simp[Around.under,Code.weight,Code.isCreation,Code.isGuard,Code.isCaller,Code.frames,Code.isFrame,guardIds]
theorem oG{A:Around}{C:Addr}{us:List Value}{kw:List (Str×Value)}:(A.under (.builtin "type.__call__" ⟨.ref C::us,kw⟩)).units=A.units+1:=by
 first | rfl | simp[Around.under,Code.cUnits,Code.frames,Code.isFrame]
theorem cL.make{k:Nat}{A:Around}(r:cL (k+1) A)(C:Addr)(us:List Value)(kw:List (Str×Value)):cL k (A.under (.builtin "type.__call__" ⟨.ref C::us,kw⟩)) :=
 ⟨r.hd,by have:=r.dp;rw[oH];omega,by have:=r.un;rw[oG];omega⟩
theorem cL.depth{k:Nat}{A:Around}(r:cL k A):A.depth < recursionLimit:=by have:=r.dp;omega
theorem cL.units{k:Nat}{A:Around}(r:cL k A):A.units+64 < cLine:=by have:=r.un;omega
def vw:TA:=fun _ H Q=>Q [] H
def o5(ta:TE)(tr:TA):TA:=fun σ H Q=>ta σ H fun x H1=>tr σ H1 fun xs H2=>Q (x::xs) H2
section
variable{X:Cx}{e:Expr}{es:List Expr}{te:TE}{t:TA}{pos:Pos}
theorem eH:PA X [] vw:=fun _ _ _ _ H Q I h=>Calls.spliced_nil ⟨[],H,I,.nil,h⟩
theorem bZ(ha:PE X e te)(hr:PA X es t)(hs:starEach (e::es) X.env=(false,eval e X.env)::starEach es X.env:=by rfl):PA X (e::es) (o5 te t):=by
 intro pos pins s σ H Q I h
 rw[hs]
 show wpAny _ _ (spliced ((false,eval e X.env)::backTo pos (starEach es X.env))) _ _ s
 refine Calls.spliced_cons (thn (ha pins s σ H _ I h) fun u s1 ⟨x,H1,I1,r1,q1⟩=>?_)
 exact thn (hr pos pins s1 σ H1 _ I1 q1) fun us s2 ⟨xs,H2,I2,r2,q2⟩=>⟨x::xs,H2,I2,.cons r1 r2,q2⟩
def DB(t:TA):TE:=fun σ H Q=>t σ H fun xs H1=>xs.length<=sizeLine/\∀p,H1 p=none->Q (.ref p) (upd H1 p (.tup xs))
def DG(t:TA):TE:=fun σ H Q=>t σ H fun xs H1=>xs.length<=sizeLine/\∀p,H1 p=none->Q (.ref p) (upd H1 p (.lst xs))
theorem ox{x1}(h:PA X es t):PE X (.Tuple es x1 pos) (DB t):=by
 intro pins s σ H Q I hq
 refine wpAny_Tuple_spliced (thn (h pos pins s σ H _ I hq) fun us s1 ⟨xs,H1,I1,r,z,q⟩=>⟨by rw[<- r.length];exact z,?_⟩)
 have hf:H1 s1.heap.objs.size=none:=I1.hok.fresh (Nat.le_refl _)
 refine⟨.ref s1.heap.objs.size,upd H1 s1.heap.objs.size (.tup xs),I1.laid (t':=s1.toks) (fun b u e=>Heap.get?_push_of_some _ e) (Nat.le_refl _) ?_,rfl,q _ hf⟩
 exact⟨z,us,r,⟨_,Heap.get?_push_size _ rfl,rfl,_,rfl⟩⟩
theorem yY(h:PA X es t):PE X (.List es pos) (DG t):=by
 intro pins s σ H Q I hq
 refine wpAny_List_spliced (thn (h pos pins s σ H _ I hq) fun us s1 ⟨xs,H1,I1,r,z,q⟩=>⟨by rw[<- r.length];exact z,?_⟩)
 have hf:H1 s1.heap.objs.size=none:=I1.hok.fresh (Nat.le_refl _)
 refine⟨.ref s1.heap.objs.size,upd H1 s1.heap.objs.size (.lst xs),I1.laid (t':=s1.toks) (fun b u e=>Heap.get?_push_of_some _ e) (Nat.le_refl _) ?_,rfl,q _ hf⟩
 exact⟨z,us,0,r,Heap.get?_push_size _ rfl⟩
end
abbrev Sp:=List V->Hp->VK->XK->Prop
abbrev CXT:=List Env->Hp->Shared->XK->Value->Shared->Prop
structure oX(P:Program)(w:World)(K:PySem.W.Frag)(mg:Str->Option Value)(base:Heap)(A:Around)(outer:List Env)(s:Shared)(H:Hp):Prop where
 frames:A.frames=some outer
 mod:Mod K mg base
 bs:∀b o,base.get? b=some o->s.heap.get? b=some o/\H b=none
 bsz:base.objs.size<=s.heap.objs.size
 funs:s.heap.FunFrames base outer
 frf:∀b∈frs outer,H b=none
 hok:HOk P w H s.heap
 bare:AllBare s.gens
def CE(outer:List Env)(P:Program)(w:World)(H:Hp)(s:Shared)(Q:VK)(u:Value)(s':Shared):Prop :=
 ∃v H',s'.os=s.os/\AllBare s'.gens/\Un (frs outer) [] H H' s.heap s'.heap/\HOk P w H' s'.heap/\bp v u/\Q v H'
def CR(CX:CXT)(outer:List Env)(P:Program)(w:World)(H:Hp)(s:Shared)(Q:VK)(E:XK)(r:Result)(s':Shared):Prop :=
 match r with
 | .ok (.ret u)=>CE outer P w H s Q u s'
 | .ok _=>False
 | .error e=>CX outer H s E e s'
structure bS(P:Program)(w:World)(K:PySem.W.Frag)(mg:Str->Option Value)(base:Heap)(CX:CXT)(k:Nat)(f:Addr)(fd:FuncData)(ps:List Str)(sp:Sp):Prop where
 len:∀vs H Q E,sp vs H Q E->vs.length=ps.length
 run:∀(A:Around) (outer:List Env) (s:Shared) (H:Hp) (args:Args) (us:List Value) (vs:List V) (Q:VK) (E:XK),cL k A->oX P w K mg base A outer s H->BindsTo s fd args (ps.zip us)->aG vs us->sp vs H Q E ->
  codeAny (model P w) A (.call (.ref f) args) (CR CX outer P w H s Q E) s
theorem bS.mono{P:Program}{w:World}{K:PySem.W.Frag}{mg:Str->Option Value}{base:Heap}{CX:CXT}{j k:Nat}{f:Addr}{fd:FuncData}{ps:List Str}{sp:Sp}(F:bS P w K mg base CX j f fd ps sp)(h:j<=k) :
  bS P w K mg base CX k f fd ps sp:=⟨F.len,fun A outer s H args us vs Q E hr=>F.run A outer s H args us vs Q E (hr.mono h)⟩
theorem bS.imp{P:Program}{w:World}{K:PySem.W.Frag}{mg:Str->Option Value}{base:Heap}{CX:CXT}{k:Nat}{f:Addr}{fd:FuncData}{ps:List Str}{sp sp':Sp}(F:bS P w K mg base CX k f fd ps sp)
  (h:∀vs H Q E,sp' vs H Q E->sp vs H Q E):bS P w K mg base CX k f fd ps sp' :=
 ⟨fun vs H Q E q=>F.len vs H Q E (h _ _ _ _ q),fun A outer s H args us vs Q E hr he hb hv hs=>F.run A outer s H args us vs Q E hr he hb hv (h _ _ _ _ hs)⟩
theorem oX.make{P:Program}{w:World}{K:PySem.W.Frag}{mg:Str->Option Value}{base:Heap}{A:Around}{outer:List Env}{s:Shared}{H:Hp}(e:oX P w K mg base A outer s H)(C:Addr)(us:List Value)(kw:List (Str×Value)) :
  oX P w K mg base (A.under (.builtin "type.__call__" ⟨.ref C::us,kw⟩)) outer s H:=⟨by first | exact e.frames |(simpa[Around.under,Code.envs,Code.isFrame,pushEnvs]using e.frames),e.mod,e.bs,e.bsz,e.funs,e.frf,e.hok,e.bare⟩
section
variable{X:Cx}{pins:List (Addr×Obj)}{σ:St}{H:Hp}{s s':Shared}
theorem Inv.env0(I:Inv X pins σ H s):oX X.prog X.w X.K X.mg X.base X.A X.stack s H :=
 ⟨I.ok.frames,I.ok.mod,I.bs,Nat.le_trans I.ok.bsz I.sz,I.stack,I.stkFree,I.hok,I.bare⟩
theorem Inv.after{Q:VK}{u:Value}(I:Inv X pins σ H s)(h:CE X.stack X.prog X.w H s Q u s'):EP X pins σ Q u s':=by
 obtain⟨v,H',os,bare,un,hok,r,q⟩:=h
 obtain⟨hh,g,d,t,os'⟩:=s'
 obtain rfl:os'=s.os:=os
 exact⟨v,H',I.call (h':=hh) (g':=g) (d':=d) (t':=t) (ch:=[]) un hok bare (fun b z=>absurd z (by simp)),r,q⟩
end
def cX(K:PySem.W.Frag)(fd:FuncData)(ps:List Str)(ds:List Value):Prop :=
 ∀(s:Shared) (us:List Value),K.In s.heap->(us++ds).length=ps.length->BindsTo s fd ⟨us,[]⟩ (ps.zip (us++ds))
theorem cX.all{K:PySem.W.Frag}{fd:FuncData}{ps:List Str}(h:∀us:List Value,us.length=ps.length->bindArgs fd ⟨us,[]⟩=pure (ps.zip us)):cX K fd ps []:=fun s us _ hl=>by
 rw[List.append_nil]at hl ⊢
 exact .of_eq (h us hl)
section
variable{X:Cx}{CX:CXT}{k:Nat}{f C:Addr}{fd:FuncData}{ps:List Str}{sp:Sp}{dvs:List V}{ds:List Value}{E:XK}{x m:Str}{p pos apos:Pos}{e o:Expr}{es:List Expr}{ta:TE}{t:TA}
structure Mk(K:PySem.W.Frag)(C f:Addr):Prop where
 makes:PySem.W.makesIn K C=true
 init:PySem.W.findIn K (.ref C) "__init__" = some (some (.ref f))
 fn:PySem.W.isFn K (.ref f)=true
 kp:PySem.W.keepIn K (.ref C)=true
end
def PK(X:Cx)(kws:List Keyword)(t:TA):Prop :=
 ∀(pos:Pos) (pins:List (Addr×Obj)) (s:Shared) (σ:St) (H:Hp) (Q:List V->Hp->Prop),Inv X pins σ H s->t σ H Q->wpAny (model X.prog X.w) X.A (evalAll ((backToKw pos (keywordEach kws X.env)).map (·.2))) (AP X pins σ Q) X.xe s
section
variable{X:Cx}{CX:CXT}{k:Nat}{f C:Addr}{fd:FuncData}{ps ks:List Str}{sp:Sp}{E:XK}{x m:Str}{p pos apos kpos:Pos}{e o:Expr}{es:List Expr}{kws:List Keyword}{te ta:TE}{t tk:TA}{nm:Option Str}
theorem yS:PK X [] vw:=fun _ _ _ _ H Q I h=>wpAny_evalAll_nil ⟨[],H,I,.nil,h⟩
theorem vX(ha:PE X e te)(hr:PK X kws t):PK X (⟨nm,e,kpos⟩::kws) (o5 te t):=by
 intro pos pins s σ H Q I h
 show wpAny _ _ (evalAll ((do let v <- eval e X.env;standAt pos;pure v)::(backToKw pos (keywordEach kws X.env)).map (·.2))) _ _ s
 refine wpAny_evalAll_cons (wpAny_bind (thn (ha pins s σ H _ I h) fun u s1 ⟨x,H1,I1,r1,q1⟩=>wpAny_bind (wpAny_standAt (wpAny_pure ?_))))
 exact thn (hr pos pins s1 σ H1 _ I1 q1) fun us s2 ⟨xs,H2,I2,r2,q2⟩=>⟨x::xs,H2,I2,.cons r1 r2,q2⟩
structure Eg(K:PySem.W.Frag)(fd:FuncData)(ps ks:List Str)(g:List Value->List Value->List Value)(gV:List V->List V->List V):Prop where
 to:∀(s:Shared) (us ws:List Value),K.In s.heap->(g us ws).length=ps.length->BindsTo s fd ⟨us,ks.zip ws⟩ (ps.zip (g us ws))
 rel:∀{vs:List V}{us:List Value}{zs:List V}{ws:List Value},aG vs us->aG zs ws->aG (gV vs zs) (g us ws)
variable{g:List Value->List Value->List Value}{gV:List V->List V->List V}
end
structure b_(N P:List Str)(sc:Scope):Prop where
 kind:sc.kind=.function
 co:sc.isCoroutine=false
 gen:sc.isGenerator=false
 nd:N.Nodup
 pre:N.take P.length=P
 par:∀x∈P,sc.names.lookup x=some .local\/sc.names.lookup x=some .cell
 nofree:∀y∈sc.names,y.2≠.free
theorem kW{kindOf:Str->Option NameKind}{x:Str}:∀{binds:List (Str×Value)}{m:Str->Option Value},(∀v,(x,v)∉ binds)->bindL kindOf binds m x=m x
 | [],_,_=>rfl
 |(n,v)::r,m,h=>by
  unfold bindL
  rw[kW fun w hw=>h w (List.mem_cons_of_mem _ hw)]
  split
  ·have:x≠n:=by rintro rfl;exact h v List.mem_cons_self
   simp[this]
  ·rfl
theorem kY{kindOf:Str->Option NameKind}{x:Str}:∀{binds:List (Str×Value)}{m:Str->Option Value},(∀v,(x,v)∉ binds)->bindC kindOf binds m x=m x
 | [],_,_=>rfl
 |(n,v)::r,m,h=>by
  unfold bindC
  rw[kY fun w hw=>h w (List.mem_cons_of_mem _ hw)]
  split
  ·rfl
  ·have:x≠n:=by rintro rfl;exact h v List.mem_cons_self
   simp[this]
theorem kX{kindOf:Str->Option NameKind}{x:Str}{v:Value}:∀{P:List Str}{vs:List Value}{i:Nat}{m:Str->Option Value},P.Nodup->P[i]?=some x->vs[i]?=some v->kindOf x=some .local ->
  bindL kindOf (P.zip vs) m x=some v
 | [],_,_,_,_,h,_,_ | _::_,[],_,_,_,_,h,_=>by simp at h
 | p::P,w::vs,0,m,nd,h1,h2,hk=>by
  simp at h1 h2;subst h1;subst h2
  show bindL kindOf ((p,w)::P.zip vs) m p=_
  unfold bindL
  rw[kW fun v hv=>(List.nodup_cons.mp nd).1 (List.of_mem_zip hv).1,if_pos hk]
  simp
 | p::P,w::vs,i+1,m,nd,h1,h2,hk=>by
  show bindL kindOf ((p,w)::P.zip vs) m x=_
  unfold bindL
  exact kX (i:=i) (List.nodup_cons.mp nd).2 (by simpa using h1) (by simpa using h2) hk
theorem kZ{kindOf:Str->Option NameKind}{x:Str}{v:Value}:∀{P:List Str}{vs:List Value}{i:Nat}{m:Str->Option Value},P.Nodup->P[i]?=some x->vs[i]?=some v->kindOf x≠some .local ->
  bindC kindOf (P.zip vs) m x=some v
 | [],_,_,_,_,h,_,_ | _::_,[],_,_,_,_,h,_=>by simp at h
 | p::P,w::vs,0,m,nd,h1,h2,hk=>by
  simp at h1 h2;subst h1;subst h2
  show bindC kindOf ((p,w)::P.zip vs) m p=_
  unfold bindC
  rw[kY fun v hv=>(List.nodup_cons.mp nd).1 (List.of_mem_zip hv).1,if_neg hk]
  simp
 | p::P,w::vs,i+1,m,nd,h1,h2,hk=>by
  show bindC kindOf ((p,w)::P.zip vs) m x=_
  unfold bindC
  exact kZ (i:=i) (List.nodup_cons.mp nd).2 (by simpa using h1) (by simpa using h2) hk
def eh(N:List Str)(vs:List V):St:=vs.map some++List.replicate (N.length - vs.length) none
def cH(CX:CXT)(P:Program)(w:World)(K:PySem.W.Frag)(mg:Str->Option Value)(base:Heap)(N:List Str)(qual:Str)(scope:Scope)(f:Addr)(cd:Value)(A:Around)(outer:List Env)(s:Shared)(H:Hp)(E:XK):Cx where
 prog:=P
 w:=w
 K:=K
 mg:=mg
 base:=base
 A:=A.deeper (envOfC qual scope s.heap.objs.size f cd)
 N:=N
 s₀:=s
 H₀:=H
 env:=envOfC qual scope s.heap.objs.size f cd
 outer:=outer
 stack:=envOfC qual scope s.heap.objs.size f cd::outer
 ex:=[]
 calm:=true
 fn:=fun _=>true
 pn:=[]
 xe:=fun e s'=>wpAny (model P w) (A.deeper (envOfC qual scope s.heap.objs.size f cd)) (leaving (envOfC qual scope s.heap.objs.size f cd) e) (fun _ s''=>CX outer H s E e s'') (fun e' s''=>CX outer H s E e' s'') s'
theorem nN{sc:Scope}{n:Nat}{x:Str}(h:sc.names.lookup x=some .cell):∃c,(cellsFrom n sc.names []).lookup x=some c:=by
 have q:=PySem.W.cellsFrom_some sc.names n [] (.inl h)
 exact Option.isSome_iff_exists.mp q
theorem qM{CX:CXT}{P:Program}{w:World}{K:PySem.W.Frag}{mg:Str->Option Value}{base:Heap}{N ps:List Str}{qual:Str}{scope:Scope}{f:Addr}{cd:Value}{A:Around}{outer:List Env}{s s1:Shared}{H:Hp}{E:XK}{us:List Value}{vs:List V}
  (S:b_ N ps scope) (hd:A.handled=none) (e0:oX P w K mg base A outer s H) (hl:vs.length=ps.length) (r:aG vs us)
  (x:InCallC s s.heap.objs.size (bindL (envOfC qual scope s.heap.objs.size f cd).kindOf (ps.zip us) fun _=>none) (cellsFrom (s.heap.objs.size+1) scope.names []) (bindC (envOfC qual scope s.heap.objs.size f cd).kindOf (ps.zip us) fun _=>none) s1) :
  Inv (cH CX P w K mg base N qual scope f cd A outer s H E) [] (eh N vs) H s1:=by
 have hpl:ps.length<=N.length:=by have:=congrArg List.length S.pre;rw[List.length_take]at this;omega
 obtain⟨h1,tk,rfl,hk⟩:=x.done
 have noA:∀b:Addr,b ∉(cH CX P w K mg base N qual scope f cd A outer s H E).ex:=fun b z=>absurd (show b ∈([]:List Addr)from z) (by simp)
 refine ⟨⟨e0.mod,S.kind,rfl,rfl,Nat.le_refl _,fun y z c h1 h2=>?_,fun y hy=>?_,fun y c _ h=>?_,fun _=>hd,Around.frames_deeper e0.frames,.inr ⟨rfl,rfl⟩,fun b z=>absurd z (noA b),e0.bs,e0.bsz,fun b _ _=>noA b,fun b z=>absurd z (noA b),e0.funs,e0.frf⟩,
  rfl,e0.bare,Un.kept hk,⟨_,x.toInCall.ns,fun i y v h1 h2 h3=>?_⟩,fun y c h=>⟨_,x.cell y c h⟩,e0.hok.fresh (Nat.le_refl _),fun y c h=>?_,fun p hp=>absurd (show p ∈([]:List (Addr×Obj))from hp) (by simp),e0.hok.kept hk,?_⟩
 ·exact name_of_addr x.apart (PySem.mem_of_lookup h1) (PySem.mem_of_lookup h2)
 ·have hy:scope.names.lookup y=some .cell\/scope.names.lookup y=some .free:=hy
  rcases hy with hy | hy
  ·exact nN hy
  ·exact absurd rfl (S.nofree _ (PySem.mem_of_lookup hy))
 ·exact Nat.le_of_lt (x.above y c (PySem.mem_of_lookup h))
 ·have hi:i < vs.length:=by
   unfold eh at h2
   by_cases hi:i < vs.length
   ·exact hi
   ·rw[List.getElem?_append_right (by simpa using hi)]at h2
    rw[List.getElem?_replicate]at h2
    split at h2<;>cases h2
  have ha:vs[i]?=some v:=by
   unfold eh at h2
   rw[List.getElem?_append_left (by simpa using hi),List.getElem?_map]at h2
   cases e:vs[i]? with
   | none=>rw[e]at h2;cases h2
   | some a=>rw[e]at h2;cases h2;rfl
  obtain⟨u,hu,rv⟩:=r.get ha
  have hp:ps[i]?=some y:=by
   rw[<- S.pre,List.getElem?_take_of_lt (by omega)];exact h1
  have ndP:ps.Nodup:=by rw[<- S.pre];exact S.nd.sublist (List.take_sublist _ _)
  refine⟨u,rv,?_⟩
  rcases S.par y (List.mem_of_getElem? hp)with k | k
  ·exact .inl ⟨k,kX ndP hp hu k⟩
  ·obtain⟨c,e⟩:=nN (n:=s.heap.objs.size+1) k
   refine .inr ⟨.inl k,c,e,?_⟩
   have q:=x.cell y c e
   rw[kZ ndP hp hu (by show scope.names.lookup y≠_;rw[k];decide)]at q
   exact q
 ·exact e0.hok.fresh (Nat.le_of_lt (x.above y c (PySem.mem_of_lookup h)))
 ·unfold eh
  show _=N.length
  rw[List.length_append,List.length_map,List.length_replicate]
  omega
theorem nD{CX:CXT}{P:Program}{w:World}{K:PySem.W.Frag}{mg:Str->Option Value}{base:Heap}{k:Nat}{f:Addr}{name qual:Str}{params:Arguments}{body:List Stmt}{scope:Scope}{dV kV doc pm cdv ct oc:Value}{an od:Option Addr}
  {osl:Array (Option Value)}{N ps:List Str}{sp:Sp} (lk:K.lookup f=some ⟨oc,od,.func (PySem.W.fnOf name qual params body scope dV kV doc pm an cdv ct),osl⟩) (hcd:PySem.W.codeIn K cdv qual=true) (S:b_ N ps scope)
  (len:∀vs H Q E,sp vs H Q E->vs.length=ps.length)
  (hbody:∀ (A:Around) (outer:List Env) (s:Shared) (H:Hp) (vs:List V) (Q:VK) (E:XK),cL k (A.deeper (envOfC qual scope s.heap.objs.size f cdv))->sp vs H Q E ->
   ∃t,PSs (cH CX P w K mg base N qual scope f cdv A outer s H E) body t/\t { nx:=fun _ H'=>Q .non H',rt:=Q } (eh N vs) H) :
  bS P w K mg base CX (k+1) f (PySem.W.fnOf name qual params body scope dV kV doc pm an cdv ct) ps sp:=by
 refine⟨len,fun A outer s H args us vs Q E hr e0 hb r hsp=>?_⟩
 have hl:=len _ _ _ _ hsp
 have KX:K.In s.heap:=e0.mod.kin.keeps fun b o e=>(e0.bs b o e).1
 have lim:s.heap.NoLimit:=e0.mod.nolimit.keeps fun b o e=>(e0.bs b o e).1
 have hkind:∀y∈ps.zip us,scope.names.lookup y.1=some .local \/(scope.names.lookup y.1=some .cell/\((cellsFrom (s.heap.objs.size+1) scope.names []).lookup y.1).isSome=true):=fun⟨n,v⟩ hy=>by
  rcases S.par n (List.of_mem_zip hy).1 with q | q
  ·exact .inl q
  ·exact .inr ⟨q,PySem.W.cellsFrom_some _ _ _ (.inl q)⟩
 refine codeAny_call_function hr.depth (KX _ _ lk) rfl S.co S.gen rfl (PySem.W.codeRec_of KX hcd) (hb _ _ _ _ ?_)
 refine wpAny_newFunctionEnv_cells S.kind hkind fun env he s1 x=>?_
 subst he
 refine⟨lim.keeps x.toInCall.keep,codeAny_func ?_⟩
 obtain⟨t,ht,hq⟩:=hbody A outer s H vs Q E (hr.deeper _) hsp
 have I:Inv (cH CX P w K mg base N qual scope f cdv A outer s H E) [] (eh N vs) H s1:=qM S hr.hd e0 hl r x
 refine wpAny_mono (ht [] s1 (eh N vs) H _ I hq) (fun fl s' hs=>?_) fun e s' hs=>hs
 have fin:∀{σ':St}{H':Hp}{v:V}{u:Value},Inv (cH CX P w K mg base N qual scope f cdv A outer s H E) [] σ' H' s'->bp v u->Q v H'->CE outer P w H s Q u s' :=
  fun {σ' H' v u} J rv q=>⟨v,H',J.os,J.bare,J.base,J.hok,rv,q⟩
 cases fl with
 | ret u =>
  obtain⟨v,σ',H',J,rv,q⟩:=hs
  exact fin J rv q
 | next =>
  obtain⟨σ',H',J,q⟩:=hs
  exact fin (v:=V.non) (u:=Value.none) J rfl q
 | brk =>
  obtain⟨_,_,_,q⟩:=hs
  exact False.elim q
 | cont =>
  obtain⟨_,_,_,q⟩:=hs
  exact False.elim q
end L2
namespace L2
open PySem PySem.Spec PyProof.Rows
section
variable{X:Cx}{x:Str}{p pos:Pos}{e:Expr}{es:List Expr}{t:TA}{id T:String}{r:List V->Hp->VK->Prop}
def tCB(r:List V->Hp->VK->Prop)(t:TA):TE:=fun σ H Q=>t σ H fun vs H1=>r vs H1 Q
theorem jA(hc:eW X (.builtin id) r)(hg:Gl X x)(hm:X.mg x=none)(hv:bootBuiltins x=some (.builtin id))(ha:PA X (e::es) t)(hn:x≠"__name__" := by decide)(hdb:(x ==("__debug__" : Str))=false:=by decide)
  (he:starEach (e::es) X.env=(false,eval e X.env)::starEach es X.env:=by rfl) (hpl:(backTo pos (starEach es X.env)).any (·.1)=false:=by rfl):PE X (.Call (.Name x p) (e::es) [] pos) (tCB r t):=by
 intro pins s σ H Q I h
 refine wpAny_Call_Name_kw (fU I hg hm hv ?_ hn hdb)
 exact PyProof.Rows.callWith_builtin1 (thn (ha pos pins s σ H _ I h) fun us s1 ⟨vs,H1,I1,r1,q1⟩=>hc pins s1 σ H1 vs us Q I1 r1 q1) he hpl
theorem kH(hc:eW X (.type T) r)(hg:Gl X x)(hm:X.mg x=none)(hv:bootBuiltins x=some (.type T))(ha:PA X (e::es) t)(hn:x≠"__name__" := by decide)(hdb:(x ==("__debug__" : Str))=false:=by decide)
  (he:starEach (e::es) X.env=(false,eval e X.env)::starEach es X.env:=by rfl) (hpl:(backTo pos (starEach es X.env)).any (·.1)=false:=by rfl):PE X (.Call (.Name x p) (e::es) [] pos) (tCB r t):=by
 intro pins s σ H Q I h
 refine wpAny_Call_Name_kw (fU I hg hm hv ?_ hn hdb)
 exact PyProof.Rows.callWith_type1 (thn (ha pos pins s σ H _ I h) fun us s1 ⟨vs,H1,I1,r1,q1⟩=>hc pins s1 σ H1 vs us Q I1 r1 q1) he hpl
end
end L2
namespace HT
open PySem PyProof.Rows
section
variable{prog:Program}{w:World}{A:Around}{E:Value->Shared->Prop}{s:Shared}
def sIx(n d:Nat):Option Int->Nat
 | none=>d
 | some v=>if v < 0 then(v+(n:Int)).toNat else min v.toNat n
theorem sIx_none(n d:Nat):sIx n d none=d:=rfl
theorem sIx_nat(n d k:Nat):sIx n d (some (k:Int))=min k n:=by
 show(if(k:Int) < 0 then((k:Int)+(n:Int)).toNat else min (k:Int).toNat n)=min k n
 rw[if_neg (by omega),Int.toNat_natCast]
end
end HT
namespace L2
open PySem PySem.Spec PyProof.Rows
abbrev TO:=St->Hp->(Option Int->Hp->Prop)->Prop
def PO(X:Cx)(e:Option Expr)(t:TO):Prop :=
 ∀(pins:List (Addr×Obj)) (s:Shared) (σ:St) (H:Hp) (Q:Option Int->Hp->Prop),Inv X pins σ H s->t σ H Q ->
  wpAny (model X.prog X.w) X.A (evalPart e X.env) (fun u s'=>∃o H',Inv X pins σ H' s'/\IsPart u o/\Q o H') X.xe s
def vv:TO:=fun _ H Q=>Q none H
def Bo(t:TE):TO:=fun σ H Q=>t σ H fun x H1=>∃i,x=.int i/\Q (some i) H1
section
variable{X:Cx}{e:Expr}{te:TE}{lo hi:Option Expr}{tl th:TO}{pos p2:Pos}
theorem vV:PO X none vv:=by
 intro pins s σ H Q I h
 rw[evalPart_none]
 exact wpAny_pure ⟨none,H,I,.none,h⟩
theorem vU(h:PE X e te):PO X (some e) (Bo te):=by
 intro pins s σ H Q I hw
 rw[evalPart_some]
 refine thn (h pins s σ H _ I hw) fun u s1 ⟨x,H1,I1,r1,q1⟩=>?_
 obtain⟨i,rfl,q⟩:=q1
 obtain⟨t,rfl⟩:=r1
 exact⟨some i,H1,I1,.int i t,q⟩
def SlR(X:Cx)(r:V->Option Int->Option Int->Hp->VK->Prop):Prop :=
 ∀(pins:List (Addr×Obj)) (s:Shared) (σ:St) (H:Hp) (x:V) (v vl vu:Value) (lo hi:Option Int) (sl:Addr) (Q:VK),Inv X pins σ H s->bp x v->s.heap.IsSliceOf sl vl vu .none->IsPart vl lo->IsPart vu hi->r x lo hi H Q ->
  ∃T id,typeLookup (.type T) "__getitem__" = pure (some (.builtin id))/\s.TypeIs v T/\wpAny (model X.prog X.w) X.A (getItem v (.ref sl)) (EP X pins σ Q) X.xe s
def tSl(r:V->Option Int->Option Int->Hp->VK->Prop)(te:TE)(tl th:TO):TE:=fun σ H Q=>te σ H fun x H1=>tl σ H1 fun l H2=>th σ H2 fun u H3=>r x l u H3 Q
theorem sT{r:V->Option Int->Option Int->Hp->VK->Prop}(hr:SlR X r)(he:PE X e te)(hl:PO X lo tl)(hu:PO X hi th):PE X (.Subscript e (.Slice lo hi none p2) pos) (tSl r te tl th):=by
 intro pins s σ H Q I h
 refine Subscript_ (thn (he pins s σ H _ I h) fun v s1 ⟨x,H1,I1,r1,q1⟩=>?_)
 refine wpAny_Slice (thn (hl pins s1 σ H1 _ I1 q1) fun vl s2 ⟨l,H2,I2,pl,q2⟩=>thn (hu pins s2 σ H2 _ I2 q2) fun vu s3 ⟨u,H3,I3,pu,q3⟩=>?_)
 rw[evalPart_none]
 refine wpAny_pure ?_
 have I4:Inv X pins σ H3 { s3 with heap:=s3.heap.push { cls:=.type "slice", data:=.fields #[vl,vu,.none] } }:=I3.kept (t':=s3.toks) fun b ob q=>Heap.get?_push_of_some _ q
 obtain⟨T,id,hT,ht,hg⟩:=hr pins { s3 with heap:=s3.heap.push { cls:=.type "slice", data:=.fields #[vl,vu,.none] } } σ H3 x v vl vu l u s3.heap.objs.size Q I4 r1 (Heap.IsSliceOf.new ..) pl pu q3
 show wpAny (model X.prog X.w) X.A (subscriptTail e (.Slice lo hi none p2) v (.ref s3.heap.objs.size)) (EP X pins σ Q) X.xe { s3 with heap:=s3.heap.push { cls:=.type "slice", data:=.fields #[vl,vu,.none] } }
 exact tail_any (ops:=[.ref s3.heap.objs.size,v]) ht hT hg (by with_unfolding_all rfl)
def uH(xs:List V)(lo hi:Option Int):List V:=(xs.drop (HT.sIx xs.length 0 lo)).take (HT.sIx xs.length xs.length hi - HT.sIx xs.length 0 lo)
theorem nL(xs:List V)(lo hi:Option Int):(uH xs lo hi).length<=xs.length:=by
 unfold uH
 rw[List.length_take,List.length_drop]
 omega
end
end L2
namespace L2
open PySem PySem.Spec PyProof.Rows
def ixN(n:Nat)(i:Int):Option Nat:=if 0<=i then(if i < n then some i.toNat else none)else if -(n:Int)<= i then some (i+n).toNat else none
def atI{α:Type}(xs:List α)(i:Int):Option α:=(ixN xs.length i).bind fun j=>xs[j]?
theorem pR{n:Nat}{i:Int}{j:Nat}(h:ixN n i=some j):seqIndex? i n=some j/\j < n/\-(n:Int)<= i/\i < n:=by
 unfold ixN at h
 by_cases h0:0<=i
 ·rw[if_pos h0]at h
  by_cases h1:i < n
  ·rw[if_pos h1]at h
   have e:i.toNat=j:=Option.some.inj h
   exact⟨by rw[seqIndex_of h0 h1,e],by omega,by omega,h1⟩
  ·rw[if_neg h1]at h;cases h
 ·rw[if_neg h0]at h
  by_cases h1:-(n:Int)<= i
  ·rw[if_pos h1]at h
   have e:(i+n).toNat=j:=Option.some.inj h
   exact⟨by rw[seqIndex_neg (by omega) h1,e],by omega,h1,by omega⟩
  ·rw[if_neg h1]at h;cases h
theorem mD{α:Type}{xs:List α}{i:Int}{v:α}(h:atI xs i=some v):∃j,seqIndex? i xs.length=some j/\xs[j]?=some v/\j < xs.length/\-(xs.length:Int)<= i/\i < xs.length:=by
 unfold atI at h
 cases e:ixN xs.length i with
 | none=>rw[e]at h;cases h
 | some j =>
  rw[e]at h
  obtain⟨h1,h2,h3,h4⟩:=pR e
  exact⟨j,h1,h,h2,h3,h4⟩
def de(b:Expr):Prop:=∀o i,subscripted b false o i=operate [o,i] (getItem o i)
def IxR(X:Cx)(r:R2):Prop :=
 ∀(value slice:Expr) (pins:List (Addr×Obj)) (s:Shared) (σ:St) (H:Hp) (x y:V) (v u:Value) (Q:VK),Inv X pins σ H s->bp x v->bp y u->r x y H Q ->
  subscripted slice false v u=operate [v,u] (getItem v u)->wpAny (model X.prog X.w) X.A (subscriptTail value slice v u) (EP X pins σ Q) X.xe s
def MtR(X:Cx)(id:String)(r:V->List V->Hp->VK->Prop):Prop :=
 ∀(pins:List (Addr×Obj)) (s:Shared) (σ:St) (H:Hp) (x:V) (xs:List V) (v:Value) (us:List Value) (Q:VK),Inv X pins σ H s->bp x v->aG xs us->r x xs H Q ->
  wpAny (model X.prog X.w) X.A (call (.builtin id) (v::us)) (EP X pins σ Q) X.xe s
section
variable{X:Cx}{a b:Expr}{ta tb:TE}{pos:Pos}
theorem IxR.or{r r':R2}(h:IxR X r)(h':IxR X r'):IxR X (fun x y H Q=>r x y H Q\/r' x y H Q):=by
 intro value slice pins s σ H x y v u Q I rx ry q hs
 rcases q with q | q
 ·exact h value slice pins s σ H x y v u Q I rx ry q hs
 ·exact h' value slice pins s σ H x y v u Q I rx ry q hs
theorem mY{r:R2}(hr:IxR X r)(ha:PE X a ta)(hb:PE X b tb)(hs:de b):PE X (.Subscript a b pos) (tOp r ta tb):=by
 intro pins s σ H Q I h
 exact Subscript_ (Ah ha hb I h fun v u s2 x y H2 I2 rx ry q=>hr a b pins s2 σ H2 x y v u Q I2 rx ry q (hs _ _))
def vQ(K:PySem.W.Frag):R2:=fun x y H Q=>∃p xs i v,x=.ref p/\y=.int i/\SqL K H p xs/\atI xs i=some v/\Q v H
def vO(K:PySem.W.Frag):R2:=fun x y H Q=>∃p xs i v,x=.ref p/\y=.int i/\SqT K H p xs/\atI xs i=some v/\Q v H
def vP:R2:=fun x y H Q=>∃z i c,x=.str z/\y=.int i/\z.length<=sizeLine/\atI z.cps.toList i=some c/\Q (.str ⟨#[c]⟩) H
theorem wB:IxR X (vQ X.K):=by
 intro value slice pins s σ H x y v u Q I rx ry h hs
 obtain⟨p,xs,i,z,rfl,rfl,hq,he,q⟩:=h
 cases rx
 obtain⟨t,rfl⟩:=ry
 obtain⟨its,r,pl,hz⟩:=I.list hq
 obtain⟨j,h1,h2,h3,h4,h5⟩:=mD he
 obtain⟨w,ew,rw'⟩:=r.get h2
 have hl:=r.length
 have hn:=iC
 have fin:EP X pins σ Q w s:=⟨z,H,I,rw',q⟩
 by_cases h0:0<=i
 ·have hj:i.toNat=j:=by
   rw[seqIndex_of h0 h5]at h1
   exact Option.some.inj h1
  exact item_listR pl.isList h0 (by omega) (by rw[hj];simpa using ew) fin hs
 ·have hj:(i+(its.toArray.size:Int)).toNat=j:=by
   rw[seqIndex_neg (by omega) h4]at h1
   rw[List.size_toArray,<- hl]
   exact Option.some.inj h1
  exact subscriptTail_builtinR (x:=w) pl.isList.typeIs slot_list_getitem.lookup
   (wpAny_getItem_list_neg (Q:=fun r s'=>r=w/\EP X pins σ Q r s') pl.isList (by omega) (by rw[List.size_toArray]<;>omega) (by omega) (by rw[hj];simpa using ew) ⟨rfl,fin⟩) hs
theorem zH:IxR X (vO X.K):=by
 intro value slice pins s σ H x y v u Q I rx ry h hs
 obtain⟨p,xs,i,z,rfl,rfl,hq,he,q⟩:=h
 cases rx
 obtain⟨t,rfl⟩:=ry
 obtain⟨its,r,pl,hz⟩:=I.tuple hq
 obtain⟨j,h1,h2,h3,h4,h5⟩:=mD he
 obtain⟨w,ew,rw'⟩:=r.get h2
 have hl:=r.length
 have hn:=iC
 have fin:EP X pins σ Q w s:=⟨z,H,I,rw',q⟩
 exact subscriptTail_builtinR (x:=w) pl.typeIs slot_tuple_getitem.lookup
  (getItem_tuple (j:=j) (Q:=fun r s'=>r=w/\EP X pins σ Q r s') pl (by omega) (by omega) (by rw[List.size_toArray,<- hl];exact h1) (by simpa using ew) ⟨rfl,fin⟩) hs
theorem zI:IxR X vP:=by
 intro value slice pins s σ H x y v u Q I rx ry h hs
 obtain⟨z,i,c,rfl,rfl,hz,he,q⟩:=h
 obtain⟨t,rfl⟩:=rx
 obtain⟨t',rfl⟩:=ry
 obtain⟨j,h1,h2,h3,h4,h5⟩:=mD he
 have hl:z.cps.toList.length=z.length:=by simp[Str.length]
 rw[hl]at h1 h4 h5
 have hn:=iC
 exact tail_any (typeIs_str s z t) slot_str_getitem.lookup (getItem_str (c:=c) (by
  have e1:decide (i < -(2 ^ 63:Int))=false:=decide_eq_false (by omega)
  have e2:decide (i >= 2 ^ 63)=false:=decide_eq_false (by omega)
  rw[e1,e2,Bool.or_false]) (by rw[h1];simpa using h2) ⟨.str ⟨#[c]⟩,H,I.tok _,⟨_,rfl⟩,q⟩) hs
def rIx(K:PySem.W.Frag):R2:=fun x y H Q=>vQ K x y H Q\/vO K x y H Q\/vP x y H Q
theorem jO:IxR X (rIx X.K):=wB.or (zH.or zI)
theorem oF(its:List Value)(n j:Nat)(u:Value):Obj.mapSeq (·.setIfInBounds j u) { cls:=.type "list", data:=.seq its.toArray n }={ cls:=.type "list", data:=.seq (its.set j u).toArray n }:=by
 simp[Obj.mapSeq]
theorem Inv.lst{pins:List (Addr×Obj)}{σ:St}{H:Hp}{s:Shared}{p:Addr}{xs:List V}(I:Inv X pins σ H s)(h:H p=some (.lst xs)) :
  ∃(its:List Value) (n:Nat),aG xs its/\s.heap.get? p=some { cls:=.type "list", data:=.seq its.toArray n }/\xs.length<=sizeLine:=by
 obtain⟨z,its,n,r,e⟩:=I.hok p _ h
 exact⟨its,n,r,e,z⟩
theorem Inv.lstUpd{pins:List (Addr×Obj)}{σ:St}{H:Hp}{s:Shared}{p:Addr}{xs ys:List V}{its its':List Value}{n n':Nat}{f:Obj->Obj}(I:Inv X pins σ H s)(h:H p=some (.lst xs))
  (ho:s.heap.get? p=some { cls:=.type "list", data:=.seq its.toArray n }) (hf:f { cls:=.type "list", data:=.seq its.toArray n }={ cls:=.type "list", data:=.seq its'.toArray n' }) (r:aG ys its') (hz:ys.length<=sizeLine) (t:Nat) :
  Inv X pins σ (upd H p (.lst ys)) { s with heap:=s.heap.update p f,toks:=t }:=by
 have e:(s.heap.update p f).get? p=some { cls:=.type "list", data:=.seq its'.toArray n' }:=by
  rw[Heap.get?_update_self f ho (by rw[hf]<;>rfl),hf]
 refine I.write (x:=p) (e:=p) (by rw[h];trivial) (.inl rfl) (fun b u hb q=>(Heap.get?_update_other _ _ (Ne.symm hb)).trans q) ⟨_,e⟩ ?_
 exact⟨hz,its',n',r,e⟩
def BG:V->V->V->Hp->(Hp->Prop)->Prop:=fun o i v H Q=>∃p xs k j,o=.ref p/\i=.int k/\H p=some (.lst xs)/\ixN xs.length k=some j/\Q (upd H p (.lst (xs.set j v)))
theorem rX:CU X BG:=by
 intro pins s σ H o i v ov iv u Q I ro ri rv h
 obtain⟨p,xs,k,j,rfl,rfl,hp,hj,q⟩:=h
 cases ro
 obtain⟨t,rfl⟩:=ri
 obtain⟨its,n,r,ho,hz⟩:=I.lst hp
 obtain⟨h1,h2,h3,h4⟩:=pR hj
 have hl:=r.length
 have hn:=iC
 have I':Inv X pins σ (upd H p (.lst (xs.set j v))) { s with heap:=s.heap.update p (Obj.mapSeq (·.setIfInBounds j u)) } :=
  I.lstUpd hp ho (oF its n j u) (r.set rv j) (by rw[List.length_set];exact hz) s.toks
 by_cases h0:0<=k
 ·have hk:k.toNat=j:=by
   rw[seqIndex_of h0 h4]at h1
   exact Option.some.inj h1
  exact PySem.W.ki_setAt ho h0 (by omega) (by rw[List.size_toArray,<- hl];exact h4) (by rw[hk];exact⟨_,I',q⟩)
 ·have hk:(k+(its.toArray.size:Int)).toNat=j:=by
   rw[seqIndex_neg (by omega) h3]at h1
   rw[List.size_toArray,<- hl]
   exact Option.some.inj h1
  exact PySem.W.ki_setBack ho (by omega) (by rw[List.size_toArray,<- hl];exact h3) (by omega) (by rw[hk];exact⟨_,I',q⟩)
theorem la(lo hi:Option Int)(n:Nat):(sliceBounds lo hi none n).1=((HT.sIx n 0 lo:Nat):Int)/\(sliceBounds lo hi none n).2.1=((HT.sIx n n hi:Nat):Int)/\(sliceBounds lo hi none n).2.2=1:=by
 refine⟨?_,?_,rfl⟩
 ·cases lo with
  | none=>simp[sliceBounds,HT.sIx]
  | some i =>
   simp only[sliceBounds,HT.sIx,Option.getD_none,show(1:Int) > 0 by decide,if_true]
   by_cases h:i < 0
   ·simp only[h,if_true]<;>omega
   ·simp only[h,if_false]<;>omega
 ·cases hi with
  | none=>simp[sliceBounds,HT.sIx]
  | some i =>
   simp only[sliceBounds,HT.sIx,Option.getD_none,show(1:Int) > 0 by decide,if_true]
   by_cases h:i < 0
   ·simp only[h,if_true]<;>omega
   ·simp only[h,if_false]<;>omega
theorem kh(its:List Value)(lo hi:Option Int):slicePick its.toArray lo hi none=((its.drop (HT.sIx its.length 0 lo)).take (HT.sIx its.length its.length hi - HT.sIx its.length 0 lo)).toArray:=by
 obtain⟨h1,h2,h3⟩:=la lo hi its.toArray.size
 unfold slicePick
 rw[h1,h2,h3]
 simp only[sliceRange_one,pick_run,List.size_toArray]<;>rfl
def DO(K:PySem.W.Frag):V->Option Int->Option Int->Hp->VK->Prop:=fun x lo hi H Q=>∃a xs,x=.ref a/\SqL K H a xs/\∀p,H p=none->Q (.ref p) (upd H p (.lst (uH xs lo hi)))
theorem vD:SlR X (DO X.K):=by
 intro pins s σ H x v vl vu lo hi sl Q I rx hs pl pu h
 obtain⟨a,xs,rfl,hx,q⟩:=h
 cases rx
 obtain⟨its,r,ht,hz⟩:=I.list hx
 have hlen:=r.length
 refine⟨"list", _,slot_list_getitem.lookup,ht.isList.typeIs,?_⟩
 refine wpAny_getItem_list_slice ht.isList hs pl pu .none (by simp) ?_ (by rw[List.size_toArray]<;>omega)
 rw[kh,<- hlen]
 refine⟨.ref s.heap.objs.size,_,I.laid (t':=s.toks) (o:=.lst (uH xs lo hi)) (fun b ob q=>Heap.get?_push_of_some _ q) (Nat.le_refl _) ?_,rfl,q _ (I.hok.fresh (Nat.le_refl _))⟩
 exact⟨Nat.le_trans (nL xs lo hi) hz,_,0,(r.drop (HT.sIx xs.length 0 lo)).take (HT.sIx xs.length xs.length hi - HT.sIx xs.length 0 lo),Heap.get?_push_size _ rfl⟩
theorem mw:eW X (.builtin "len") (fun xs H Q=>∃p ys,xs=[.ref p]/\(SqL X.K H p ys\/SqT X.K H p ys)/\Q (.int ys.length) H):=by
 intro pins s σ H xs us Q I r h
 obtain⟨p,ys,rfl,hq,q⟩:=h
 obtain⟨u,rfl,rx⟩:=gj r
 cases rx
 have hn:=iC
 rcases hq with hq | hq
 ·obtain⟨its,r',pl,hz⟩:=I.list hq
  have hlen:=r'.length
  exact Calls.call_len_list pl.isList (by simp only[List.size_toArray]<;>omega) ⟨.int ys.length,H,I.tok _,⟨s.toks+1,by rw[List.size_toArray,hlen]⟩,q⟩
 ·obtain⟨its,r',pl,hz⟩:=I.tuple hq
  have hlen:=r'.length
  exact len_tuple pl (by simp only[List.size_toArray]<;>omega) ⟨.int ys.length,H,I.tok _,⟨s.toks+1,by rw[List.size_toArray,hlen]⟩,q⟩
theorem ko:eW X (.type "tuple") (fun xs H Q=>∃p ys,xs=[.ref p]/\((SqL X.K H p ys/\∀l,H l=none->Q (.ref l) (upd H l (.tup ys)))\/(SqT X.K H p ys/\Q (.ref p) H))):=by
 intro pins s σ H xs us Q I r h
 obtain⟨p,ys,rfl,h⟩:=h
 obtain⟨u,rfl,rx⟩:=gj r
 cases rx
 rcases h with⟨hq,q⟩ |⟨hq,q⟩
 ·obtain⟨its,r',pl,hz⟩:=I.list hq
  have hlen:=r'.length
  refine call_tuple_list pl.isList (fun h' kp=>?_) (by simp only[List.size_toArray]<;>omega)
  have I1:Inv X pins σ H { s with heap:=h' }:=I.kept (t':=s.toks) kp
  have I2:Inv X pins σ (upd H h'.objs.size (.tup ys)) { s with heap:=h'.push { cls:=.type "tuple", data:=.seq its.toArray } } :=
   I1.laid (t':=s.toks) (fun b o e=>Heap.get?_push_of_some _ e) (Nat.le_refl _) (show cW X.prog X.w _ _ _ (.tup ys)from⟨hz,its,r',IsTup.new _ _⟩)
  exact⟨.ref h'.objs.size,_,I2,rfl,q _ (I1.hok.fresh (Nat.le_refl _))⟩
 ·obtain⟨its,r',pl,hz⟩:=I.tuple hq
  exact call_tuple_same pl ⟨.ref p,H,I,rfl,q⟩
def tyV(K:PySem.W.Frag)(T:String)(x:V)(H:Hp):Prop:=match x with
 | .str _=>T = "str"
 | .int _=>T = "int"
 | .ref p=>(T = "list" /\ ∃xs,SqL K H p xs)\/(T = "tuple" /\ ∃o,K.lookup p=some o/\o.cls=.type "tuple" /\ o.dict=none)\/
   (T = "dict" /\((∃kvs,H p=some (.dK kvs))\/ ∃kvs,H p=some (.dT kvs)))\/(T = "set" /\ ∃S n,H p=some (.set S n))
 | _=>False
theorem rB{pins:List (Addr×Obj)}{σ:St}{H:Hp}{s:Shared}{T:String}{x:V}{v:Value}(I:Inv X pins σ H s)(r:bp x v)(ty:tyV X.K T x H) :
  s.TypeIs v T/\∀a,v=.ref a->∃ob,s.heap.get? a=some ob/\ob.dict=none:=by
 cases x with
 | str z =>
  obtain⟨t,rfl⟩:=r
  cases(show T = "str" from ty)
  exact⟨typeIs_str s z t,fun _ e=>nomatch e⟩
 | int i =>
  obtain⟨t,rfl⟩:=r
  cases(show T = "int" from ty)
  exact⟨typeIs_int s i t,fun _ e=>nomatch e⟩
 | ref p =>
  cases r
  rcases ty with⟨rfl,xs,hq⟩ |⟨rfl,o,hk,hc,hd⟩ |⟨rfl,hk⟩ |⟨rfl,S,n,hk⟩
  ·obtain⟨its,_,pl,_⟩:=I.list hq
   refine⟨pl.isList.typeIs,fun a e=>?_⟩
   cases e
   obtain⟨o,n,e,c,hd,_⟩:=pl
   exact⟨o,e,hd⟩
  ·refine⟨⟨o,I.kIn p o hk,hc⟩,fun a e=>?_⟩
   cases e
   exact⟨o,I.kIn _ o hk,hd⟩
  ·have z:∃o,s.heap.get? p=some o/\o.ExactDict:=by
    rcases hk with⟨kvs,hk⟩ |⟨kvs,hk⟩
    ·obtain⟨_,_,_,_,o,_,_,e,ex,_⟩:=I.hok p _ hk
     exact⟨o,e,ex⟩
    ·obtain⟨_,_,_,_,o,_,_,e,ex,_⟩:=I.hok p _ hk
     exact⟨o,e,ex⟩
   obtain⟨o,e,ex⟩:=z
   refine⟨⟨o,e,ex.1⟩,fun a e2=>?_⟩
   cases e2
   exact⟨o,e,ex.2.1⟩
  ·obtain⟨o,_,_,_,e,ex,_⟩:=I.hok p _ hk
   refine⟨⟨o,e,ex.1⟩,fun a e2=>?_⟩
   cases e2
   exact⟨o,e,ex.2.1⟩
 | _=>exact False.elim ty
def DJ(K:PySem.W.Frag)(T:String)(r:V->List V->Hp->VK->Prop)(to:TE):TE:=fun σ H Q=>to σ H fun x H1=>tyV K T x H1/\r x [] H1 Q
def tBM(K:PySem.W.Frag)(T:String)(r:V->List V->Hp->VK->Prop)(to:TE)(t:TA):TE:=fun σ H Q=>to σ H fun x H1=>tyV K T x H1/\t σ H1 fun xs H2=>r x xs H2 Q
variable{o e:Expr}{es:List Expr}{to:TE}{t:TA}{name:Str}{apos cpos:Pos}{T id:String}{r:V->List V->Hp->VK->Prop}
theorem sV(pa:PlainAttrs T)(slot:Slot T name id)(hty:typeOf (.builtin id)=pure (.type "method_descriptor"))(hm:MtR X id r)(ho:PE X o to)
  (hbase:attributeBase o name X.env (eval o X.env)=eval o X.env:=by rfl) (hline:(apos.endLine==cpos.line)=true:=by rfl):PE X (.Call (.Attribute o name apos) [] [] cpos) (DJ X.K T r to):=by
 intro pins s σ H Q I h
 refine wpAny_Call_method0_late hbase hline (thn (ho pins s σ H _ I h) fun v s1 ⟨x,H1,I1,r1,ty,q1⟩=>?_)
 obtain⟨h1,h2⟩:=rB I1 r1 ty
 exact⟨T,id,pa,slot,hty,h1,h2,Calls.callWith_builtin rfl (PySem.evalArgs_none (hm pins s1 σ H1 x [] v [] Q I1 r1 .nil q1))⟩
theorem sW(pa:PlainAttrs T)(slot:Slot T name id)(hty:typeOf (.builtin id)=pure (.type "method_descriptor"))(hm:MtR X id r)(ho:PE X o to)(ha:PA X (e::es) t)
  (hbase:attributeBase o name X.env (eval o X.env)=eval o X.env:=by rfl)
  (hfew:((backTo cpos (starEach (e::es) X.env)).all (fun x=>!x.1) && (backToKw cpos (keywordEach [] X.env)).all (fun x=>x.1.isSome)
   && decide ((e::es).length+([]:List Keyword).length+(if([]:List Keyword).isEmpty then 0 else 1) < 30))=true:=by rfl)
  (hline:(apos.endLine==cpos.line)=true:=by rfl) (hs:starEach (e::es) X.env=(false,eval e X.env)::starEach es X.env:=by rfl) (hplain:(backTo cpos (starEach es X.env)).any (·.1)=false:=by rfl) :
  PE X (.Call (.Attribute o name apos) (e::es) [] cpos) (tBM X.K T r to t):=by
 intro pins s σ H Q I h
 refine wpAny_Call_method_late hbase hfew hline rfl (thn (ho pins s σ H _ I h) fun v s1 ⟨x,H1,I1,r1,ty,q1⟩=>?_)
 obtain⟨h1,h2⟩:=rB I1 r1 ty
 refine⟨T,id,pa,slot,hty,h1,h2,?_⟩
 have hA:=ha cpos pins s1 σ H1 _ I1 q1
 rw[hs]at hA ⊢
 refine Calls.callWith_builtin (by show(false ||(backTo cpos (starEach es X.env)).any (·.1))=false;rw[hplain]<;>rfl) (Calls.evalArgs_plain ?_)
 exact thn hA fun us s2 ⟨vs,H2,I2,r2,q2⟩=>hm pins s2 σ H2 x vs v us Q I2 r1 r2 q2
end
end L2
namespace L2
open PySem PySem.Spec PyProof.Rows
def MtM(X:Cx)(id:String)(r:V->List V->Hp->VK->Prop):Prop :=
 ∀(pins:List (Addr×Obj)) (s:Shared) (σ:St) (H:Hp) (x:V) (xs:List V) (v:Value) (us:List Value) (Q:VK),Inv X pins σ H s->bp x v->aG xs us->r x xs H Q ->
  wpAny (model X.prog X.w) X.A (call (.builtin id) (v::us)) (EP X pins σ Q) X.xe s
theorem aG.one:∀{x:V}{us:List Value},aG [x] us->∃u,us=[u]/\bp x u
 | _,_,.cons r .nil=>⟨_,rfl,r⟩
theorem aG.zero:∀{us:List Value},aG [] us->us=[]
 | _,.nil=>rfl
theorem aG.dropLast{xs:List V}{us:List Value}(h:aG xs us):aG xs.dropLast us.dropLast:=by
 induction h with
 | nil=>exact .nil
 | cons r t ih =>
  cases t with
  | nil=>exact .nil
  | cons q t'=>exact .cons r ih
theorem aG.eraseIdx:∀{xs:List V}{us:List Value} (i:Nat),aG xs us->aG (xs.eraseIdx i) (us.eraseIdx i)
 | _,_,_,.nil=>.nil
 | _,_,0,.cons _ t=>t
 | _,_,i+1,.cons r t=>.cons r (aG.eraseIdx i t)
theorem oQ{α:Type}(l:List α):l.eraseIdx (l.length - 1)=l.dropLast:=by
 induction l with
 | nil=>rfl
 | cons a r ih =>
  cases r with
  | nil=>rfl
  | cons b r =>
   have e:(a::b::r).length - 1=((b::r).length - 1)+1:=by
    have h1:(a::b::r).length=r.length+2:=rfl
    have h2:(b::r).length=r.length+1:=rfl
    omega
   rw[e,List.eraseIdx_cons_succ,ih]
   all_goals rfl
section
variable{X:Cx}{pins:List (Addr×Obj)}{σ:St}{H:Hp}{s:Shared}{l b:Addr}{xs ys zs:List V}
theorem Inv.lset{its its':List Value}{n:Nat}{f:Array Value->Array Value}{t':Nat}(I:Inv X pins σ H s)(hH:H l=some (.lst xs))
  (e:s.heap.get? l=some { cls:=.type "list", data:=.seq its.toArray n }) (hf:f its.toArray=its'.toArray) (hv:aG ys its') (hz:ys.length<=sizeLine) :
  Inv X pins σ (upd H l (.lst ys)) { s with heap:=s.heap.update l (Obj.mapSeq f),toks:=t' }:=by
 have q:=PySem.IsL.update e f
 rw[hf]at q
 refine I.write (x:=l) (e:=l) (by rw[hH];exact trivial) (.inl rfl) (fun b' u hb hu=>(Heap.get?_update_other s.heap (Obj.mapSeq f) (Ne.symm hb)).trans hu) ⟨_,q⟩ ?_
 exact⟨hz,its',_,hv,q⟩
theorem Inv.lnew{its:List Value}{t':Nat}(I:Inv X pins σ H s)(hv:aG ys its)(hz:ys.length<=sizeLine) :
  Inv X pins σ (upd H s.heap.objs.size (.lst ys)) { s with heap:=s.heap.push { cls:=.type "list", data:=.seq its.toArray },toks:=t' } :=
 I.laid (fun _ _ q=>Heap.get?_push_of_some _ q) (Nat.le_refl _) ⟨hz,its,0,hv,Heap.get?_push_size _ rfl⟩
theorem Inv.fresh(I:Inv X pins σ H s):H s.heap.objs.size=none:=I.hok.fresh (Nat.le_refl _)
theorem Inv.lstM(I:Inv X pins σ H s)(hH:H l=some (.lst xs)):xs.length<=sizeLine/\∃(its:List Value) (n:Nat),aG xs its/\xs.length=its.length/\s.heap.get? l=some { cls:=.type "list", data:=.seq its.toArray n }:=by
 obtain⟨z,its,n,r,e⟩:=I.hok l _ hH
 exact⟨z,its,n,r,r.length,e⟩
def vR:V->List V->Hp->VK->Prop:=fun x vs H Q=>∃l xs y,x=.ref l/\vs=[y]/\H l=some (.lst xs)/\xs.length < sizeLine/\Q .non (upd H l (.lst (xs++[y])))
theorem iB:MtM X "list.append" vR:=by
 intro pins s σ H x vs v us Q I rx rv h
 obtain⟨l,xs,y,rfl,rfl,hH,hz,q⟩:=h
 cases rx
 obtain⟨u,rfl,ru⟩:=rv.one
 obtain⟨z,its,n,r,hl,e⟩:=I.lstM hH
 refine call_meets F.slot_list_append ⟨_,e,rfl⟩ F.entry_list_append (F.args_list_append_2 _ _) (PySem.list_append l its.toArray n u (by rw[List.size_toArray];omega)) ⟨e,?_⟩
 refine⟨.non,_,I.lset (its':=its++[u]) hH e (by simp) (r.append (.cons ru .nil)) ?_,rfl,q⟩
 rw[List.length_append,List.length_singleton]
 omega
def DP:V->List V->Hp->VK->Prop:=fun x vs H Q=>∃l xs y,x=.ref l/\vs=[]/\H l=some (.lst xs)/\xs[xs.length - 1]?=some y/\Q y (upd H l (.lst xs.dropLast))
theorem DW:MtM X "list.pop" DP:=by
 intro pins s σ H x vs v us Q I rx rv h
 obtain⟨l,xs,y,rfl,rfl,hH,hy,q⟩:=h
 cases rx
 have hus:=rv.zero
 subst hus
 obtain⟨z,its,n,r,hl,e⟩:=I.lstM hH
 obtain⟨u,hu,ru⟩:=r.get hy
 have hy':its.toArray[its.toArray.size - 1]?=some u:=by
  show its.toArray[its.length - 1]?=some u
  rw[<- Array.getElem?_toList,<- hl]
  exact hu
 refine call_meets F.slot_list_pop ⟨_,e,rfl⟩ F.entry_list_pop (F.args_list_pop_1 _) (MeetsSeq.list_pop_last l its.toArray n u hy' (by rw[List.size_toArray];omega)) ⟨e,?_⟩
 refine⟨y,_,I.lset (its':=its.dropLast) hH e ?_ r.dropLast ?_,ru,q⟩
 ·show its.toArray.eraseIdxIfInBounds (its.toArray.size - 1)=its.dropLast.toArray
  rw[List.size_toArray,List.eraseIdxIfInBounds_toArray,oQ]
 ·rw[List.length_dropLast]
  omega
def yL:V->List V->Hp->VK->Prop:=fun x vs H Q=>∃l xs,x=.ref l/\vs=[]/\H l=some (.lst xs)/\Q .non (upd H l (.lst []))
theorem ng:MtM X "list.clear" yL:=by
 intro pins s σ H x vs v us Q I rx rv h
 obtain⟨l,xs,rfl,rfl,hH,q⟩:=h
 cases rx
 have hus:=rv.zero
 subst hus
 obtain⟨z,its,n,r,hl,e⟩:=I.lstM hH
 refine call_meets F.slot_list_clear ⟨_,e,rfl⟩ F.entry_list_clear (F.args_list_clear_1 _) (AutoSeq1.list_clear_list_0 l its.toArray n (by rw[List.size_toArray];omega)) ⟨e,?_⟩
 exact⟨.non,_,I.lset (its':=[]) (ys:=[]) hH e rfl .nil (Nat.zero_le _),rfl,q⟩
end
end L2
namespace Att
open PySem PySem.W PySem.Calls PyProof.Rows
theorem iV{P:Params}{h:Heap}:∀(ns:List Int) (vs:List Value),WellAll P h vs (ns.map WData.int)->IntsAre vs ns:=by
 intro ns
 induction ns with
 | nil =>
  intro vs w
  rw[List.map_nil]at w
  cases w
  exact .nil
 | cons n ns ih =>
  intro vs w
  rw[List.map_cons]at w
  cases w with
  | cons a b =>
   cases a
   exact .cons _ _ (ih _ b)
theorem qr{l:OpenLaw}{n:Nat}(hn:l.most=some n){P:Params}{h:Heap}{args:List WData}{vals:List Value}
  (hpre:l.row.toRowW.claim.pre args=true) (hwl:WellAll P h vals args) :
  ∃a vs ns,vals=[Value.ref a]/\args=[WData.list (ns.map WData.int)]/\h.get? a=some { cls:=.type "list", data:=.seq vs.toArray }/\IntsAre vs ns/\ns.length<=n:=by
 have hsh:WShape.hasAll [] args [.list .int]=true:=(pre_splitW hpre).1
 have hc:l.pre.holds [] { args:=args }=true:=(pre_splitW hpre).2
 obtain⟨d,r,rfl,h1,h2⟩:=hasAllW_cons hsh
 obtain rfl:=hasAllW_nil h2
 obtain⟨xs,rfl,h3⟩:=hasW_list h1
 obtain⟨ns,rfl⟩:=items_int h3
 have hlen:ns.length<=n:=by
  unfold OpenLaw.pre at hc
  have h4:(WTm.not (.lt (.lit (.int (n:Int))) (.len (.arg 0)))).holds [] { args:=[.list (ns.map .int)] }=true:=by
   have h4:=(holds_andW hc).1
   rw[hn]at h4
   exact h4
  have h5:=condW_of h4 (w_not (w_lt w_lit (w_len_list (w_arg rfl))))
  rw[List.length_map]at h5
  refine Nat.le_of_not_lt fun q=>?_
  have q':(n:Int) <((ns.length:Nat):Int):=by omega
  first
   |(rw[decide_eq_true q']at h5;exact absurd h5 (by decide))
   |(simp at h5;omega)
 cases hwl with
 | cons w1 w2 =>
  cases w2
  cases w1 with
  | list ho hall=>exact⟨_,_,ns,rfl,rfl,ho,iV ns _ hall,hlen⟩
theorem qx(l:OpenLaw)(args:List WData):l.row.toRowW.claim.post args (.bool true) args=true :=
 postW_of (r:=l.row.toRowW) (X:=(true==true))
  (show WShape.has [] (.bool true) .bool=true by first | rfl | decide | simp[WShape.has,WShape.arms,WShape.armsAll])
  (show(WTm.eq .res (.lit (.bool true))).value [] { args:=args,res:=some (.bool true),after:=args }=some (.bool (true==true))from w_eq_bool (w_res rfl) w_lit) rfl
theorem attach_call{l:OpenLaw}{n:Nat}{q:Program}{loose:List Str}{XP:(Str->Option Value)->Heap->Prop}{YP:World->Heap->Prop}{d:DefRec}
  (hn:l.most=some n) (hdf:d.params.defaults=[])
  (call:∀ (w:World) (s₀ s₁:Shared) (mg mb:Str->Option Value) (fa:Addr) (o:Obj) (pm cd doc:Value) (a:Addr) (vs:List Value) (ns:List Int),
   Ground q loose [] XP w s₀ mg mb s₁.heap->YP w s₁.heap ->
   s₁.heap.get? fa=some o->o.data=.func (docDef d.name d.params d.body d.scope pm cd doc)->s₁.heap.CodeRec cd d.name->mg d.name=some (.ref fa)->
   s₁.heap.get? a=some { cls:=.type "list", data:=.seq vs.toArray }->IntsAre vs ns->ns.length<=n->s₁.gens=#[]->
   codeAny (model l.prog w) callerA (.call (.ref fa) ⟨[.ref a],[]⟩) (fun r s'=>r=.ok (.ret (.bool true))/\OldK s₁.heap s'.heap/\s'.os=s₁.os/\AllBare s'.gens) s₁) :
  WalkO q loose XP YP l.row.toRowW d [] (fun f vs=>PySem.call f vs):=by
 intro w s₀ s₁ mg mb G Y fa o pm cd doc dV kV ho hd hcd hD hmg hg args vals as hpre hlay hrd hwl hlo
 obtain rfl:dV=.none:=Dflts.none hD hdf
 obtain rfl:kV=.none:=Dflts.noKw hD
 obtain⟨a,vs,ns,rfl,rfl,hobj,hints,hlen⟩:=qr hn hpre hwl
 refine enter_call (codeAny_mono (call w s₀ s₁ mg mb fa o pm cd doc a vs ns G Y ho (fd_plain hd) hcd hmg hobj hints hlen hg) fun r s' hq=>?_)
 obtain⟨rfl,h2,h3,h4⟩:=hq
 exact⟨.inl ⟨.bool true,.bool true,[],rfl,fun _=>rfl,.bool true,qx l _,fun _=>⟨List.Pairwise.nil,fun _ hm=>(nomatch hm)⟩⟩,h2,h3,h4⟩
end Att
namespace L2
open PySem PySem.Spec PyProof.Rows
theorem ky:∀{vs:List Value}{ns:List Int},IntsAre vs ns->aG (ns.map V.int) vs
 | _,_,.nil=>.nil
 | _,_,.cons n t h=>.cons ⟨t,rfl⟩ (ky h)
def AM(H:Hp):Prop:=∀b,H b=none\/∃o xs,H b=some (.frz o (.lst xs))
theorem t9{P:Program}{w:World}{K:PySem.W.Frag}{mg mb:Str->Option Value}{CX:CXT}{k:Nat}{fa a:Addr}{fd:FuncData}{x:Str}{sp:Sp}{s₁:Shared}{vs:List Value}{ns:List Int}
  (KX:K.In s₁.heap) (hns:s₁.heap.Ns mainGlobals mg) (hb:s₁.heap.Ns builtinsNs mb) (hbb:∀x:Str,x≠"__name__" -> mb x=bootBuiltins x) (hlim:s₁.heap.NoLimit) (hg:s₁.gens=#[])
  (ha:s₁.heap.get? a=some { cls:=.type "list", data:=.seq vs.toArray }) (hi:IntsAre vs ns) (hl:ns.length<=sizeLine) (hr:cL k callerA)
  (F:∀base:Heap,K.In base->base.Ns mainGlobals mg->bS P w K mg base CX k fa fd [x] sp) (hbind:∀(s:Shared) (u:Value),BindsTo s fd ⟨[u],[]⟩ [(x,u)])
  (hsp:∀H:Hp,AM H->SqL K H a (ns.map V.int)->sp [.ref a] H (fun v _=>v=.bl true) fun _ _ _=>False)
  (hCX:∀H e s',CX [] H s₁ (fun _ _ _=>False) e s'->False) :
  codeAny (model P w) callerA (.call (.ref fa) ⟨[.ref a],[]⟩) (fun r s'=>r=.ok (.ret (.bool true))/\OldK s₁.heap s'.heap/\s'.os=s₁.os/\AllBare s'.gens) s₁:=by
 have rv:=ky hi
 have lenV:=hi.length
 have core:∀H:Hp,AM H->SqL K H a (ns.map V.int)->HOk P w H s₁.heap->(∀b,H b≠none->b=a)->(H a≠none->K.lookup a=none)->
   codeAny (model P w) callerA (.call (.ref fa) ⟨[.ref a],[]⟩) (fun r s'=>r=.ok (.ret (.bool true))/\OldK s₁.heap s'.heap/\s'.os=s₁.os/\AllBare s'.gens) s₁:=by
  intro H hO hS hok hA hK
  have base_of:∀{b:Addr}{o:Obj},s₁.heap.get? b=some o->H b=none->(lV s₁.heap H).get? b=some o:=fun e n=>uh e n
  have noA:∀{b:Addr}{o:Obj}{es:Array DictEntry}{ep:Nat},s₁.heap.get? b=some o->o.data=.dict es ep->H b=none:=fun {b o es ep} e d=>by
   cases q:H b with
   | none=>rfl
   | some u =>
    have e':b=a:=hA b (by rw[q];simp)
    subst e'
    rw[ha]at e;cases e
    have d':Data.seq vs.toArray _=Data.dict es ep:=d
    cases d'
  have nsK:∀{b:Addr}{m:Str->Option Value},s₁.heap.Ns b m->(lV s₁.heap H).Ns b m:=fun {b m} ⟨o,es,ep,e,d,r⟩=>⟨o,es,ep,base_of e (noA e d),d,r⟩
  have hKb:K.In (lV s₁.heap H):=fun b o e=>base_of (KX b o e) (by
   cases q:H b with
   | none=>rfl
   | some u =>
    have e':b=a:=hA b (by rw[q];simp)
    subst e'
    rw[hK (by rw[q];simp)]at e;cases e)
  have hM:Mod K mg (lV s₁.heap H):=⟨hKb,nsK hns,⟨mb,nsK hb,hbb⟩,let⟨mc,h1,h2⟩:=hlim;⟨mc,nsK h1,h2⟩⟩
  have e0:oX P w K mg (lV s₁.heap H) callerA [] s₁ H:=⟨rfl,hM,fun b o e=>wa e,Nat.le_of_eq (qO _ _),trivial,fun b hb=>absurd (show b ∈([]:List Addr)from hb) (by simp),hok,.of_eq hg⟩
  refine codeAny_mono ((F _ hKb (nsK hns)).run callerA [] s₁ H ⟨[.ref a],[]⟩ [.ref a] [.ref a] _ _ hr e0 (hbind s₁ (.ref a)) (.cons rfl .nil) (hsp H hO hS)) fun r s' h=>?_
  cases r with
  | error e=>exact(hCX H e s' h).elim
  | ok fl =>
   cases fl with
   | next | brk | cont=>exact False.elim h
   | ret u =>
    obtain⟨v,H',os,bare,un,hok',r',q⟩:=h
    have q':v=.bl true:=q
    subst q'
    obtain rfl:u=Value.bool true:=r'
    refine⟨rfl,OldK.of_keep fun b o e=>?_,os,bare⟩
    cases q:H b with
    | none=>exact un.keep b o e q (by intro z;exact absurd (show b ∈([]:List Addr)from z) (by simp)) (by simp)
    | some u =>
     rcases hO b with z |⟨ob,xs,z⟩
     ·rw[q]at z;cases z
     ·have z2:=un.frzs b ob _ z
      obtain⟨e1,_⟩:=hok b _ z
      obtain⟨e2,_⟩:=hok' b _ z2
      rw[e]at e1;cases e1
      exact e2
 cases hk:K.lookup a with
 | some o =>
  have e:=KX a o hk
  rw[ha]at e
  cases e
  refine core (fun _=>none) (fun _=>.inl rfl) (.inr ⟨_,vs.toArray,_,hk,rfl,rfl,rfl,by rw[List.size_toArray,lenV];exact hl,by simpa using rv⟩) (fun b u z=>by have z':(none:Option HO)=some u:=z;cases z') (fun b z=>absurd rfl z) fun z=>absurd rfl z
 | none =>
  refine core (fun b=>if b=a then some (.frz { cls:=.type "list", data:=.seq vs.toArray } (.lst (ns.map V.int)))else none) (fun b=>?_) (.inl (.inr ⟨{ cls:=.type "list", data:=.seq vs.toArray },if_pos rfl⟩)) (fun b u z=>?_) (fun b z=>?_) fun _=>hk
  ·by_cases hb:b=a
   ·exact .inr ⟨_,_,if_pos hb⟩
   ·exact .inl (if_neg hb)
  ·by_cases hb:b=a
   ·have z':=(if_pos hb).symm.trans z
    cases z'
    subst hb
    exact⟨ha,by rw[List.length_map];exact hl,vs,_,rv,ha⟩
   ·have z':=(if_neg hb).symm.trans z
    cases z'
  ·by_cases hb:b=a
   ·exact hb
   ·exact absurd (if_neg hb) z
end L2
namespace L2
open PySem PySem.Spec PyProof.Rows
theorem vm{l:PySem.W.OpenLaw}{n k:Nat}{q:Program}{loose:List Str}{XP:(Str->Option Value)->Heap->Prop}{YP:World->Heap->Prop}{d:DefRec}{K:Params->PySem.W.Frag}{CX:World->CXT}{sp:World->Sp}{x:Str}
  (hn:l.most=some n) (hn2:n<=sizeLine) (hdf:d.params.defaults=[]) (hr:cL k callerA)
  (hY:∀(w:World) (h:Heap),YP w h->(K w.params).In h)
  (F:∀ (w:World) (mg:Str->Option Value) (fa:Addr) (h:Heap),(K w.params).In h->h.Ns mainGlobals mg->mg d.name=some (.ref fa) ->
   ∃fd:FuncData,(∀(s:Shared) (u:Value),BindsTo s fd ⟨[u],[]⟩ [(x,u)])/\
    ∀base:Heap,(K w.params).In base->base.Ns mainGlobals mg->bS l.prog w (K w.params) mg base (CX w) k fa fd [x] (sp w))
  (hsp:∀(w:World) (H:Hp) (a:Addr) (ns:List Int),ns.length<=n->AM H->SqL (K w.params) H a (ns.map V.int)->sp w [.ref a] H (fun v _=>v=.bl true) fun _ _ _=>False)
  (hCX:∀(w:World) (H:Hp) (s:Shared) (e:Value) (s':Shared),CX w [] H s (fun _ _ _=>False) e s'->False) :
  PySem.W.WalkO q loose XP YP l.row.toRowW d [] (fun f vs=>PySem.call f vs):=by
 refine Att.attach_call hn hdf fun w s₀ s₁ mg mb fa o pm cd doc a vs ns G Y ho hd hcd hmg hobj hints hlen hg=>?_
 have KX:=hY w _ Y
 obtain⟨fd,hb,hF⟩:=F w mg fa _ KX G.T.g hmg
 exact t9 KX G.T.g G.T.b G.T.builtins G.T.nolimit hg hobj hints (Nat.le_trans hlen hn2) hr hF hb (fun H hO hS=>hsp w H a ns hlen hO hS) fun H e s'=>hCX w H s₁ e s'
end L2
namespace L2
open PySem PySem.Spec PyProof.Rows
def wG(s:Stmt)(j:Nat):Stmt:=match s with
 | .ClassDef _ _ _ body _ _ _ _ _ _ _=>body.getD j (.Pass ⟨0,0,0,0⟩)
 | _=>.Pass ⟨0,0,0,0⟩
def bE(s:Stmt):Arguments:=match s with
 | .FunctionDef _ a _ _ _ _ _ _ _ _=>a
 | _=>{ posonlyargs:=[],args:=[],vararg:=none,kwonlyargs:=[],kw_defaults:=[],kwarg:=none,defaults:=[] }
def aP(s:Stmt):List Stmt:=match s with
 | .FunctionDef _ _ b _ _ _ _ _ _ _=>b
 | _=>[]
def am(s:Stmt):Scope:=match s with
 | .FunctionDef _ _ _ _ _ _ sc _ _ _=>sc
 | _=>{ kind:=.function,names:=[],isGenerator:=false,isCoroutine:=false }
abbrev CX0:CXT:=fun _ _ _ _ _ _=>False
structure Fun(K:PySem.W.Frag)(x qual:Str)(st:Stmt)(f:Addr)(fd:FuncData):Prop where
 ex:∃(oc:Value) (od:Option Addr) (kV doc pm:Value) (an:Option Addr) (cdv ct:Value) (osl:Array (Option Value)),
  fd=PySem.W.fnOf x qual (bE st) (aP st) (am st) .none kV doc pm an cdv ct/\K.lookup f=some ⟨oc,od,.func fd,osl⟩/\PySem.W.codeIn K cdv qual=true
 kp:PySem.W.keepIn K (.ref f)=true
section
variable{P:Program}{w:World}{K:PySem.W.Frag}{mg:Str->Option Value}{base:Heap}
theorem Fun.ok{x qual:Str}{st:Stmt}{f:Addr}{fd:FuncData}{N ps:List Str}{k:Nat}{sp:Sp}(F:Fun K x qual st f fd)(S:b_ N ps (am st))(len:∀vs H Q E,sp vs H Q E->vs.length=ps.length)
  (hbody:∀ (cdv:Value) (A:Around) (outer:List Env) (s:Shared) (H:Hp) (vs:List V) (Q:VK) (E:XK),cL k (A.deeper (envOfC qual (am st) s.heap.objs.size f cdv))->sp vs H Q E ->
   ∃t,PSs (cH CX0 P w K mg base N qual (am st) f cdv A outer s H E).nox (aP st) t/\t { nx:=fun _ H'=>Q .non H',rt:=Q } (eh N vs) H):bS P w K mg base CX0 (k+1) f fd ps sp:=by
 obtain⟨oc,od,kV,doc,pm,an,cdv,ct,osl,rfl,lk,hcd⟩:=F.ex
 refine nD lk hcd S len fun A outer s H vs Q E hr hsp=>?_
 obtain⟨t,h,q⟩:=hbody cdv A outer s H vs Q E hr hsp
 exact⟨t,h.nox,q⟩
theorem Fun.binds{x qual:Str}{st:Stmt}{f:Addr}{fd:FuncData}{ps:List Str}(F:Fun K x qual st f fd)
  (h:∀(kV doc pm:Value) (an:Option Addr) (cdv ct:Value) (us:List Value),us.length=ps.length->bindArgs (PySem.W.fnOf x qual (bE st) (aP st) (am st) .none kV doc pm an cdv ct) ⟨us,[]⟩=pure (ps.zip us)):cX K fd ps []:=by
 obtain⟨oc,od,kV,doc,pm,an,cdv,ct,osl,rfl,lk,hcd⟩:=F.ex
 exact .all (h kV doc pm an cdv ct)
variable{X:Cx}
theorem pv(i:Nat){x:Str}{pos:Pos}(hN:X.N[i]?=some x:=by rfl)(hv:Vis X.env.scope x:=by first | exact Or.inl rfl | exact Or.inr (Or.inl rfl) | exact Or.inr (Or.inr rfl))(hd:(x ==("__debug__" : Str))=false:=by decide)
  (hcd:(x ==("__classdict__" : Str))=false:=by decide):PE X (.Name x pos) (rF i):=cu hN hv hd hcd
end
def nS(H H':Hp):Prop:=∀b o,H b=some o->H' b=some o
theorem nS.trans{H H1 H2:Hp}(a:nS H H1)(b:nS H1 H2):nS H H2:=fun c o h=>b c o (a c o h)
theorem nS.free{H H':Hp}(e:nS H H'){l:Addr}(h:H' l=Option.none):H l=Option.none:=by
 cases q:H l with
 | none=>rfl
 | some o =>
  rw[e l o q]at h
  cases h
theorem nS.seq{K:PySem.W.Frag}{H H':Hp}{a:Addr}{xs:List V}(e:nS H H')(h:SqL K H a xs):SqL K H' a xs:=by
 rcases h with(h |⟨o,h⟩) | h
 ·exact .inl (.inl (e _ _ h))
 ·exact .inl (.inr ⟨o,e _ _ h⟩)
 ·exact .inr h
end L2
set_option maxHeartbeats 4000000
namespace PR
open PySem
inductive Fl where
 | own | frz | bor | lnt | mod
 deriving DecidableEq
inductive PV where
 | non
 | bl (b:Bool)
 | int (i:Int)
 | str (x:Str)
 | lst (f:Fl) (xs:List PV)
 | tup (xs:List PV)
 | obj (f:Fl) (c:Nat) (ks:List Nat) (vs:List PV)
 | exc (c:Nat)
mutual
def PV.mapF(g:Fl->Fl):PV->PV
 | .non=>.non
 | .bl b=>.bl b
 | .int i=>.int i
 | .str x=>.str x
 | .lst f xs=>.lst (g f) (mapL g xs)
 | .tup xs=>.tup (mapL g xs)
 | .obj f c ks vs=>.obj (g f) c ks (mapL g vs)
 | .exc c=>.exc c
def mapL(g:Fl->Fl):List PV->List PV
 | []=>[]
 | x::xs=>x.mapF g::mapL g xs
end
mutual
def PV.has(p:Fl->Bool):PV->Bool
 | .non | .bl _ | .int _ | .str _=>false
 | .lst f xs=>p f||hasL p xs
 | .tup xs=>hasL p xs
 | .obj f _ _ vs=>p f||hasL p vs
 | .exc _=>false
def hasL(p:Fl->Bool):List PV->Bool
 | []=>false
 | x::xs=>x.has p||hasL p xs
end
def Fl.isLnt:Fl->Bool
 | .lnt=>true
 | _=>false
def Fl.isBor:Fl->Bool
 | .bor=>true
 | _=>false
def Fl.lend:Fl->Fl
 | .own=>.lnt
 | f=>f
def Fl.freeze:Fl->Fl
 | .own=>.frz
 | f=>f
def Fl.toBor:Fl->Fl
 | .lnt=>.bor
 | f=>f
inductive Res(α:Type) where
 | ok (a:α)
 | exc (c:Nat)
 | stuck
def Res.bind{α β:Type}:Res α->(α->Res β)->Res β
 | .ok a,k=>k a
 | .exc c,_=>.exc c
 | .stuck,_=>.stuck
@[simp] theorem Res.ok_bind{α β:Type}(a:α)(k:α->Res β):(Res.ok a).bind k=k a:=by simp only[Res.bind]
@[simp] theorem Res.exc_bind{α β:Type}(c:Nat)(k:α->Res β):(Res.exc c:Res α).bind k=.exc c:=rfl
@[simp] theorem Res.stuck_bind{α β:Type}(k:α->Res β):(Res.stuck:Res α).bind k=.stuck:=rfl
abbrev En:=List (Option PV)
abbrev ME:=En->Res PV
abbrev MT:=En->Res Bool
abbrev MA:=En->Res (List PV)
inductive Out where
 | next (e:En)
 | ret (v:PV)
 | brk (e:En)
 | cont (e:En)
 | exc (c:Nat) (e:En)
 | stuck
abbrev MS:=En->Out
def mC(v:PV):ME:=fun _=>.ok v
def aa(i:Nat):ME:=fun env=>match env[i]? with
 | some (some v)=>.ok (v.mapF Fl.lend)
 | _=>.stuck
def aj:MA:=fun _=>.ok []
def ad(a:ME)(r:MA):MA:=fun env=>(a env).bind fun x=>(r env).bind fun xs=>.ok (x::xs)
def mUn(f:PV->Res PV)(a:ME):ME:=fun env=>(a env).bind f
def mOp(f:PV->PV->Res PV)(a b:ME):ME:=fun env=>(a env).bind fun x=>(b env).bind fun y=>f x y
def jD(g:Int->Int->PV):PV->PV->Res PV
 | .int i,.int j=>.ok (g i j)
 | _,_=>.stuck
def eJ(C:Int->Int->Bool)(g:Int->Int->PV):PV->PV->Res PV
 | .int i,.int j=>if C i j then .ok (g i j)else .stuck
 | _,_=>.stuck
def lz:PV->Res Bool
 | .non=>.ok false
 | .bl b=>.ok b
 | .int i=>.ok (i != 0)
 | .lst _ xs | .tup xs=>.ok (!xs.isEmpty)
 | _=>.stuck
def aw(a:ME):MT:=fun env=>(a env).bind fun
 | .bl b=>.ok b
 | _=>.stuck
def aU(a:ME):MT:=fun env=>(a env).bind lz
def cS(a:MT):MT:=fun env=>(a env).bind fun b=>.ok (!b)
def eT(a b:MT):MT:=fun env=>(a env).bind fun x=>if x then b env else .ok false
def gh(a b:MT):MT:=fun env=>(a env).bind fun x=>if x then .ok true else b env
def lL(c:MT)(a b:ME):ME:=fun env=>(c env).bind fun x=>if x then a env else b env
def aL:MS:=.next
def ao(a b:MS):MS:=fun env=>match a env with
 | .next e=>b e
 | o=>o
def mBr(c:MT)(a b:MS):MS:=fun env=>match c env with
 | .ok true=>a env
 | .ok false=>b env
 | .exc k=>.exc k env
 | .stuck=>.stuck
def PV.noLnt(v:PV):Bool:=!v.has Fl.isLnt
def b8(env:List (Option PV)):Bool:=match env[0]? with
 | some (some (PV.obj _ _ _ _))=>true
 | _=>false
def a7(i:Nat)(env:En):Bool:=if i=0 then !b8 env else true
def aI(i:Nat)(e:ME):MS:=fun env=>match e env with
 | .ok v=>if v.noLnt&&a7 i env then .next (env.set i (some v))else .stuck
 | .exc k=>.exc k env
 | .stuck=>.stuck
def bt(e:ME):MS:=fun env=>match e env with
 | .ok v=>if v.noLnt then .ret v else .stuck
 | .exc k=>.exc k env
 | .stuck=>.stuck
def fG(i:Nat):MS:=fun env=>match env[i]? with
 | some (some v)=>.ret v
 | _=>.stuck
def fT(e:ME):MS:=fun env=>match e env with
 | .ok _=>.next env
 | .exc k=>.exc k env
 | .stuck=>.stuck
def fS(i:Nat):MS:=fun env=>match env[i]? with
 | some (some v)=>.next (env.set i (some (v.mapF Fl.freeze)))
 | _=>.stuck
def kj(body:PV->MS):List PV->En->Out
 | [],env=>.next env
 | x::xs,env=>match body x env with
  | .next e | .cont e=>kj body xs e
  | .brk e=>.next e
  | o=>o
end PR
namespace PR
open PySem PySem.Spec L2
structure Tb where
 K:PySem.W.Frag
 nc:Nat
 cls:Nat->Addr
 att:Nat->Str
 inj:∀i j,att i=att j->i=j
 xcl:Nat->Addr
def Ei(C a:Addr):HO:=.ext fun h=>∃o,h.get? a=some o/\o.cls=.ref C
def KL(K:PySem.W.Frag)(a:Addr)(xs:List V):Prop:=∃(o:Obj) (its:Array Value) (n:Nat),K.lookup a=some o/\o.cls=.type "list" /\ o.dict=none/\o.data=.seq its n/\its.size<=sizeLine/\aG xs its.toList
def xw:Fl->Addr->List Addr->List Addr->Prop
 | .own,a,fp',fp=>fp=a::fp'
 | _,_,fp',fp=>fp'=[]/\fp=[]
def Eh(F B L:Addr->Prop):Fl->Addr->Prop
 | .own,_=>True
 | .frz,a=>F a
 | .bor,a=>B a
 | .lnt,a=>L a
 | .mod,_=>False
def nT(T:Tb)(F B L:Addr->Prop)(H:Hp):Fl->Addr->List V->Prop
 | .own,a,vs=>H a=some (.lst vs)
 | .lnt,a,vs=>L a/\H a=some (.lst vs)
 | .frz,a,vs=>F a/\Rd H a (.lst vs)
 | .bor,a,vs=>B a/\Rd H a (.lst vs)
 | .mod,a,vs=>KL T.K a vs
theorem nT.sq(h:nT T F B L H f a vs):SqL T.K H a vs:=by
 cases f with
 | own=>exact SqL.of h
 | lnt=>exact SqL.of h.2
 | frz | bor=>exact .inl h.2
 | mod=>exact .inr h
mutual
def Rel(T:Tb)(F B L:Addr->Prop)(H:Hp):PV->V->List Addr->Prop
 | .non,v,fp=>v=.non/\fp=[]
 | .bl b,v,fp=>v=.bl b/\fp=[]
 | .int i,v,fp=>v=.int i/\fp=[]
 | .str x,v,fp=>v=.str x/\fp=[]
 | .lst f xs,v,fp=>∃a vs fp',v=.ref a/\nT T F B L H f a vs/\RelL T F B L H xs vs fp'/\xw f a fp' fp
 | .tup xs,v,fp=>∃a vs,v=.ref a/\SqT T.K H a vs/\RelL T F B L H xs vs fp
 | .obj f c ks xs,v,fp=>∃a dx vs fp',v=.ref a/\H a=some (.ins (T.cls c) dx ((ks.map T.att).zip vs))/\(ks.length=xs.length/\c < T.nc)/\RelL T F B L H xs vs fp'/\xw f a fp' fp/\Eh F B L f a
 | .exc c,v,fp=>∃a,v=.ref a/\H a=some (Ei (T.xcl c) a)/\fp=[]
def RelL(T:Tb)(F B L:Addr->Prop)(H:Hp):List PV->List V->List Addr->Prop
 | [],vs,fp=>vs=[]/\fp=[]
 | x::xs,vs,fp=>∃v ws f1 f2,vs=v::ws/\Rel T F B L H x v f1/\RelL T F B L H xs ws f2/\fp=f1++f2
end
def hV:HO->Prop
 | .tup _ | .frz _ (.tup _) | .ext _=>True
 | _=>False
section
variable{T:Tb}{F F' B B' L L':Addr->Prop}{H H':Hp}
theorem Rd.tr(h:∀o,H a=some o->H' a=some o)(q:Rd H a u):Rd H' a u:=by
 rcases q with q |⟨o,q⟩
 ·exact .inl (h _ q)
 ·exact .inr ⟨o,h _ q⟩
theorem SqT.tr(h:∀o,H a=some o->hV o->H' a=some o)(q:SqT K H a vs):SqT K H' a vs:=by
 rcases q with(q |⟨o,q⟩) | q
 ·exact .inl (.inl (h _ q True.intro))
 ·exact .inl (.inr ⟨o,h _ q True.intro⟩)
 ·exact .inr q
mutual
theorem Rel.tr(hF:∀a,F a->F' a)(hB:∀a,B a->B' a)(hL:∀a,L a->L' a)(hx:∀a o,H a=some o->(F a\/B a\/L a\/hV o)->H' a=some o) :
  ∀{x:PV}{v:V}{fp:List Addr},(∀a∈fp,∀o,H a=some o->H' a=some o)->Rel T F B L H x v fp->Rel T F' B' L' H' x v fp
 | .non,_,_,_,h | .bl _,_,_,_,h | .int _,_,_,_,h | .str _,_,_,_,h=>by unfold Rel at h ⊢;exact h
 | .lst f xs,_,fp,hp,h=>by
  unfold Rel at h ⊢
  obtain⟨a,vs,fp',e,hl,hr,hf⟩:=h
  cases f with
  | own =>
   obtain rfl:fp=a::fp':=hf
   exact⟨a,vs,fp',e,hp a List.mem_cons_self _ hl,RelL.tr hF hB hL hx (fun b hb=>hp b (List.mem_cons_of_mem _ hb)) hr,rfl⟩
  | frz =>
   obtain⟨rfl,rfl⟩:=hf
   exact⟨a,vs,[],e,⟨hF a hl.1,Rd.tr (fun o q=>hx a o q (.inl hl.1)) hl.2⟩,RelL.tr hF hB hL hx hp hr,rfl,rfl⟩
  | bor =>
   obtain⟨rfl,rfl⟩:=hf
   exact⟨a,vs,[],e,⟨hB a hl.1,Rd.tr (fun o q=>hx a o q (.inr (.inl hl.1))) hl.2⟩,RelL.tr hF hB hL hx hp hr,rfl,rfl⟩
  | lnt =>
   obtain⟨rfl,rfl⟩:=hf
   exact⟨a,vs,[],e,⟨hL a hl.1,hx a _ hl.2 (.inr (.inr (.inl hl.1)))⟩,RelL.tr hF hB hL hx hp hr,rfl,rfl⟩
  | mod =>
   obtain⟨rfl,rfl⟩:=hf
   exact⟨a,vs,[],e,hl,RelL.tr hF hB hL hx hp hr,rfl,rfl⟩
 | .tup xs,_,fp,hp,h=>by
  unfold Rel at h ⊢
  obtain⟨a,vs,e,hl,hr⟩:=h
  exact⟨a,vs,e,SqT.tr (fun o q z=>hx a o q (.inr (.inr (.inr z)))) hl,RelL.tr hF hB hL hx hp hr⟩
 | .obj f c ks xs,_,fp,hp,h=>by
  unfold Rel at h ⊢
  obtain⟨a,dx,vs,fp',e,hl,hk,hr,hf,ha⟩:=h
  cases f with
  | own =>
   obtain rfl:fp=a::fp':=hf
   exact⟨a,dx,vs,fp',e,hp a List.mem_cons_self _ hl,hk,RelL.tr hF hB hL hx (fun b hb=>hp b (List.mem_cons_of_mem _ hb)) hr,rfl,True.intro⟩
  | frz =>
   obtain⟨rfl,rfl⟩:=hf
   exact⟨a,dx,vs,[],e,hx a _ hl (.inl ha),hk,RelL.tr hF hB hL hx hp hr,⟨rfl,rfl⟩,hF a ha⟩
  | bor =>
   obtain⟨rfl,rfl⟩:=hf
   exact⟨a,dx,vs,[],e,hx a _ hl (.inr (.inl ha)),hk,RelL.tr hF hB hL hx hp hr,⟨rfl,rfl⟩,hB a ha⟩
  | lnt =>
   obtain⟨rfl,rfl⟩:=hf
   exact⟨a,dx,vs,[],e,hx a _ hl (.inr (.inr (.inl ha))),hk,RelL.tr hF hB hL hx hp hr,⟨rfl,rfl⟩,hL a ha⟩
  | mod=>exact ha.elim
 | .exc c,_,fp,hp,h=>by
  unfold Rel at h ⊢
  obtain⟨a,e,hl,hf⟩:=h
  exact⟨a,e,hx a _ hl (.inr (.inr (.inr True.intro))),hf⟩
theorem RelL.tr(hF:∀a,F a->F' a)(hB:∀a,B a->B' a)(hL:∀a,L a->L' a)(hx:∀a o,H a=some o->(F a\/B a\/L a\/hV o)->H' a=some o) :
  ∀{xs:List PV}{vs:List V}{fp:List Addr},(∀a∈fp,∀o,H a=some o->H' a=some o)->RelL T F B L H xs vs fp->RelL T F' B' L' H' xs vs fp
 | [],_,_,_,h=>by unfold RelL at h ⊢;exact h
 | x::xs,_,fp,hp,h=>by
  unfold RelL at h ⊢
  obtain⟨v,ws,f1,f2,e,h1,h2,rfl⟩:=h
  exact⟨v,ws,f1,f2,e,Rel.tr hF hB hL hx (fun b hb=>hp b (List.mem_append_left _ hb)) h1,RelL.tr hF hB hL hx (fun b hb=>hp b (List.mem_append_right _ hb)) h2,rfl⟩
end
def Ext(H H':Hp):Prop:=∀a o,H a=some o->H' a=some o
theorem Ext.refl:Ext H H:=fun _ _ h=>h
theorem Ext.trans(a:Ext H H1)(b:Ext H1 H2):Ext H H2:=fun c o h=>b c o (a c o h)
theorem Ext.upd(h:H a=none):Ext H (L2.upd H a o):=fun b u e=>by rw[aF (bH e h)];exact e
theorem Ext.free(x:Ext H H')(h:H' a=none):H a=none:=by
 cases e:H a with
 | none=>rfl
 | some o=>rw[x a o e]at h;cases h
theorem Rel.ext(e:Ext H H')(hF:∀a,F a->F' a)(h:Rel T F B L H x v fp):Rel T F' B L H' x v fp :=
 Rel.tr hF (fun _ h=>h) (fun _ h=>h) (fun a o q _=>e a o q) (fun a _ o q=>e a o q) h
theorem RelL.ext(e:Ext H H')(hF:∀a,F a->F' a)(h:RelL T F B L H xs vs fp):RelL T F' B L H' xs vs fp :=
 RelL.tr hF (fun _ h=>h) (fun _ h=>h) (fun a o q _=>e a o q) (fun a _ o q=>e a o q) h
theorem RelL.length:∀{xs:List PV}{vs:List V}{fp:List Addr},RelL T F B L H xs vs fp->xs.length=vs.length
 | [],_,_,h=>by unfold RelL at h;rw[h.1];rfl
 | x::xs,_,_,h=>by
  unfold RelL at h
  obtain⟨v,ws,f1,f2,rfl,_,h2,_⟩:=h
  simp[RelL.length h2]
mutual
theorem Rel.there:∀{x:PV}{v:V}{fp:List Addr},Rel T F B L H x v fp->∀a∈fp,∃o,H a=some o
 | .non,_,_,h | .bl _,_,_,h | .int _,_,_,h | .str _,_,_,h=>by unfold Rel at h;rw[h.2];exact fun _ z=>nomatch z
 | .lst f xs,_,fp,h=>by
  unfold Rel at h
  obtain⟨a,vs,fp',e,hl,hr,hf⟩:=h
  cases f with
  | own =>
   obtain rfl:fp=a::fp':=hf
   intro b hb
   rcases List.mem_cons.mp hb with rfl | hb
   ·exact⟨_,hl⟩
   ·exact RelL.there hr b hb
  | frz | bor | lnt | mod=>obtain⟨rfl,rfl⟩:=hf;exact fun _ z=>nomatch z
 | .tup xs,_,fp,h=>by
  unfold Rel at h
  obtain⟨a,vs,e,hl,hr⟩:=h
  exact RelL.there hr
 | .obj f c ks xs,_,fp,h=>by
  unfold Rel at h
  obtain⟨a,dx,vs,fp',e,hl,hk,hr,hf,ha⟩:=h
  cases f with
  | own =>
   obtain rfl:fp=a::fp':=hf
   intro b hb
   rcases List.mem_cons.mp hb with rfl | hb
   ·exact⟨_,hl⟩
   ·exact RelL.there hr b hb
  | frz | bor | lnt | mod=>obtain⟨rfl,rfl⟩:=hf;exact fun _ z=>nomatch z
 | .exc c,_,fp,h=>by
  unfold Rel at h
  obtain⟨a,e,hl,rfl⟩:=h
  exact fun _ z=>nomatch z
theorem RelL.there:∀{xs:List PV}{vs:List V}{fp:List Addr},RelL T F B L H xs vs fp->∀a∈fp,∃o,H a=some o
 | [],_,_,h=>by unfold RelL at h;rw[h.2];exact fun _ z=>nomatch z
 | x::xs,_,_,h=>by
  unfold RelL at h
  obtain⟨v,ws,f1,f2,_,h1,h2,rfl⟩:=h
  intro b hb
  rcases List.mem_append.mp hb with hb | hb
  ·exact Rel.there h1 b hb
  ·exact RelL.there h2 b hb
end
def Chg:HO->Prop
 | .lst _ | .ins _ _ _=>True
 | _=>False
mutual
theorem Rel.chg:∀{x:PV}{v:V}{fp:List Addr},Rel T F B L H x v fp->∀a∈fp,∃o,H a=some o/\Chg o
 | .non,_,_,h | .bl _,_,_,h | .int _,_,_,h | .str _,_,_,h=>by unfold Rel at h;rw[h.2];exact fun _ z=>nomatch z
 | .lst f xs,_,fp,h=>by
  unfold Rel at h
  obtain⟨a,vs,fp',e,hl,hr,hf⟩:=h
  cases f with
  | own =>
   obtain rfl:fp=a::fp':=hf
   intro b hb
   rcases List.mem_cons.mp hb with rfl | hb
   ·exact⟨_,hl,True.intro⟩
   ·exact RelL.chg hr b hb
  | frz | bor | lnt | mod=>obtain⟨rfl,rfl⟩:=hf;exact fun _ z=>nomatch z
 | .tup xs,_,fp,h=>by
  unfold Rel at h
  obtain⟨a,vs,e,hl,hr⟩:=h
  exact RelL.chg hr
 | .obj f c ks xs,_,fp,h=>by
  unfold Rel at h
  obtain⟨a,dx,vs,fp',e,hl,hk,hr,hf,ha⟩:=h
  cases f with
  | own =>
   obtain rfl:fp=a::fp':=hf
   intro b hb
   rcases List.mem_cons.mp hb with rfl | hb
   ·exact⟨_,hl,True.intro⟩
   ·exact RelL.chg hr b hb
  | frz | bor | lnt | mod=>obtain⟨rfl,rfl⟩:=hf;exact fun _ z=>nomatch z
 | .exc c,_,fp,h=>by
  unfold Rel at h
  obtain⟨a,e,hl,rfl⟩:=h
  exact fun _ z=>nomatch z
theorem RelL.chg:∀{xs:List PV}{vs:List V}{fp:List Addr},RelL T F B L H xs vs fp->∀a∈fp,∃o,H a=some o/\Chg o
 | [],_,_,h=>by unfold RelL at h;rw[h.2];exact fun _ z=>nomatch z
 | x::xs,_,_,h=>by
  unfold RelL at h
  obtain⟨v,ws,f1,f2,_,h1,h2,rfl⟩:=h
  intro b hb
  rcases List.mem_append.mp hb with hb | hb
  ·exact Rel.chg h1 b hb
  ·exact RelL.chg h2 b hb
end
mutual
theorem Rel.lend:∀{x:PV}{v:V}{fp:List Addr},(∀a∈fp,L a)->Rel T F B L H x v fp->Rel T F B L H (x.mapF Fl.lend) v []
 | .non,_,_,_,h | .bl _,_,_,_,h | .int _,_,_,_,h | .str _,_,_,_,h=>by unfold Rel at h;simp only[PV.mapF];unfold Rel;exact⟨h.1,rfl⟩
 | .lst f xs,_,fp,hp,h=>by
  unfold Rel at h
  obtain⟨a,vs,fp',e,hl,hr,hf⟩:=h
  simp only[PV.mapF]
  unfold Rel
  cases f with
  | own =>
   obtain rfl:fp=a::fp':=hf
   exact⟨a,vs,[],e,⟨hp a List.mem_cons_self,hl⟩,RelL.lend (fun b hb=>hp b (List.mem_cons_of_mem _ hb)) hr,rfl,rfl⟩
  | frz | bor | lnt | mod=>obtain⟨rfl,rfl⟩:=hf;exact⟨a,vs,[],e,hl,RelL.lend hp hr,rfl,rfl⟩
 | .tup xs,_,fp,hp,h=>by
  unfold Rel at h
  obtain⟨a,vs,e,hl,hr⟩:=h
  simp only[PV.mapF]
  unfold Rel
  exact⟨a,vs,e,hl,RelL.lend hp hr⟩
 | .obj f c ks xs,_,fp,hp,h=>by
  unfold Rel at h
  obtain⟨a,dx,vs,fp',e,hl,hk,hr,hf,ha⟩:=h
  simp only[PV.mapF]
  unfold Rel
  cases f with
  | own =>
   obtain rfl:fp=a::fp':=hf
   have r:=RelL.lend (fun b hb=>hp b (List.mem_cons_of_mem _ hb)) hr
   exact⟨a,dx,vs,[],e,hl,⟨by rw[r.length,hk.1,hr.length],hk.2⟩,r,⟨rfl,rfl⟩,hp a List.mem_cons_self⟩
  | frz | bor | lnt=>obtain⟨rfl,rfl⟩:=hf;have r:=RelL.lend hp hr;exact⟨a,dx,vs,[],e,hl,⟨by rw[r.length,hk.1,hr.length],hk.2⟩,r,⟨rfl,rfl⟩,ha⟩
  | mod=>exact ha.elim
 | .exc c,_,fp,hp,h=>by
  unfold Rel at h
  obtain⟨a,e,hl,rfl⟩:=h
  simp only[PV.mapF]
  unfold Rel
  exact⟨a,e,hl,rfl⟩
theorem RelL.lend:∀{xs:List PV}{vs:List V}{fp:List Addr},(∀a∈fp,L a)->RelL T F B L H xs vs fp->RelL T F B L H (mapL Fl.lend xs) vs []
 | [],_,_,_,h=>by unfold RelL at h;simp only[mapL];unfold RelL;exact⟨h.1,rfl⟩
 | x::xs,_,fp,hp,h=>by
  unfold RelL at h
  obtain⟨v,ws,f1,f2,e,h1,h2,rfl⟩:=h
  simp only[mapL]
  unfold RelL
  exact⟨v,ws,[],[],e,Rel.lend (fun b hb=>hp b (List.mem_append_left _ hb)) h1,RelL.lend (fun b hb=>hp b (List.mem_append_right _ hb)) h2,rfl⟩
end
end
end PR
namespace L2
open PySem PySem.Spec
theorem PE.wk(h:PE X e t)(w:∀σ H Q,t' σ H Q->t σ H Q):PE X e t':=fun pins s σ H Q I q=>h pins s σ H Q I (w σ H Q q)
theorem PA.wk(h:PA X e t)(w:∀σ H Q,t' σ H Q->t σ H Q):PA X e t':=fun pos pins s σ H Q I q=>h pos pins s σ H Q I (w σ H Q q)
theorem PT.wk(h:PT X e t)(w:∀σ H Q,t' σ H Q->t σ H Q):PT X e t':=fun pins s σ H Q I q=>h pins s σ H Q I (w σ H Q q)
theorem PW.wk(h:PW X e t)(w:∀σ H Q,t' σ H Q->t σ H Q):PW X e t':=fun wh pins s σ H Q I q=>h wh pins s σ H Q I (w σ H Q q)
theorem PS.wk(h:PS X e t)(w:∀D σ H,t' D σ H->t D σ H):PS X e t':=fun pins s σ H D I q=>h pins s σ H D I (w D σ H q)
theorem PSs.wk(h:PSs X e t)(w:∀D σ H,t' D σ H->t D σ H):PSs X e t':=fun pins s σ H D I q=>h pins s σ H D I (w D σ H q)
end L2
namespace PR
open PySem PySem.Spec L2
structure Zn where
 H0:Hp
 F0:Addr->Prop
 fp0:Addr->Prop
 B:Addr->Prop
 pin:Option V:=none
abbrev NoL:Addr->Prop:=fun _=>False
structure dv(T:Tb)(Z:Zn)(F:Addr->Prop)(H:Hp):Prop where
 bo:∀a,Z.B a->(∃o,Z.H0 a=some o)/\¬Z.fp0 a
 keep:∀a o,Z.H0 a=some o->¬Z.fp0 a->H a=some o
 f0:∀a,Z.F0 a->F a
 fn:∀a,F a->Z.F0 a\/Z.H0 a=none\/Z.fp0 a
 ft:∀a,F a->∃o,H a=some o
structure ar(T:Tb)(Z:Zn)(F:Addr->Prop)(H:Hp)(σ:St)(env:En)(fp:Nat->List Addr):Prop where
 hp:dv T Z F H
 len:σ.length=env.length
 rel:∀(i:Nat) (pv:PV),env[i]?=some (some pv)->∃v,σ[i]?=some (some v)/\Rel T F Z.B NoL H pv v (fp i)
 nd:∀i,(fp i).Nodup
 dj:∀i j,i≠j->∀a∈fp i,a∉fp j
 dis:∀i,∀a∈fp i,¬F a/\∃o,H a=some o
 new:∀i,∀a∈fp i,Z.H0 a=none\/Z.fp0 a
 ch:∀i,∀a∈fp i,∃o,H a=some o/\Chg o
 pn:∀v,Z.pin=some v->σ[0]?=some (some v)/\b8 env=true
def Own(fp:Nat->List Addr):Addr->Prop:=fun a=>∃i,a∈fp i
structure Gr(F:Addr->Prop)(H:Hp)(F':Addr->Prop)(H':Hp):Prop where
 ext:Ext H H'
 mono:∀a,F a->F' a
 only:∀a,F' a->F a\/H a=none
 dom:∀a,F' a->∃o,H' a=some o
theorem Gr.refl(h:∀a,F a->∃o,H a=some o):Gr F H F H:=⟨Ext.refl,fun _ h=>h,fun _ h=>.inl h,h⟩
theorem Gr.trans(a:Gr F H F1 H1)(b:Gr F1 H1 F2 H2):Gr F H F2 H2 :=
 ⟨a.ext.trans b.ext,fun c h=>b.mono c (a.mono c h),fun c h=>(b.only c h).elim (a.only c) fun z=>.inr (a.ext.free z),b.dom⟩
theorem Gr.same(h:∀a,F a->∃o,H a=some o)(e:Ext H H'):Gr F H F H':=⟨e,fun _ h=>h,fun _ h=>.inl h,fun a q=>let⟨o,z⟩:=h a q;⟨o,e a o z⟩⟩
section
variable{T:Tb}{Z:Zn}{F F':Addr->Prop}{H H':Hp}{σ:St}{env:En}{fp:Nat->List Addr}
theorem dv.grow(S:dv T Z F H)(g:Gr F H F' H'):dv T Z F' H' :=
 ⟨S.bo,fun a o h n=>g.ext a o (S.keep a o h n),fun a h=>g.mono a (S.f0 a h),fun a h=>by
  rcases g.only a h with z | z
  ·exact S.fn a z
  ·refine .inr ?_
   by_cases q:Z.fp0 a
   ·exact .inr q
   ·refine .inl ?_
    cases w:Z.H0 a with
    | none=>rfl
    | some o=>rw[S.keep a o w q]at z;exact(nomatch z),g.dom⟩
theorem ar.grow(S:ar T Z F H σ env fp)(g:Gr F H F' H'):ar T Z F' H' σ env fp :=
 ⟨S.hp.grow g,S.len,fun i pv h=>let ⟨v,q1,q2⟩:=S.rel i pv h;⟨v,q1,q2.ext g.ext g.mono⟩,S.nd,S.dj,fun i a h=>by
  obtain⟨n,o,q⟩:=S.dis i a h
  refine⟨fun z=>?_,o,g.ext a o q⟩
  rcases g.only a z with z | z
  ·exact n z
  ·rw[q]at z;exact(nomatch z),S.new,fun i a h=>let⟨o,q,c⟩:=S.ch i a h;⟨o,g.ext a o q,c⟩,S.pn⟩
end
def GE(T:Tb)(W:Nat->St->Hp->Prop)(B F L:Addr->Prop)(σ:St)(H:Hp)(Q:VK):Res PV->Prop
 | .ok pv=>∀v H' F' f,Gr F H F' H'->Rel T F' B L H' pv v f->(∀a∈f,¬F' a)->f.Nodup->(∀a∈f,H a=none)->Q v H'
 | .exc c=>∀H',Ext H H'->W c σ H'
 | .stuck=>False
def GA(T:Tb)(W:Nat->St->Hp->Prop)(B F L:Addr->Prop)(σ:St)(H:Hp)(Q:List V->Hp->Prop):Res (List PV)->Prop
 | .ok pvs=>∀vs H' F' f,Gr F H F' H'->RelL T F' B L H' pvs vs f->(∀a∈f,¬F' a)->f.Nodup->(∀a∈f,H a=none)->Q vs H'
 | .exc c=>∀H',Ext H H'->W c σ H'
 | .stuck=>False
def GT(W:Nat->St->Hp->Prop)(F:Addr->Prop)(σ:St)(H:Hp)(Q:Bool->Hp->Prop):Res Bool->Prop
 | .ok b=>∀H' F',Gr F H F' H'->Q b H'
 | .exc c=>∀H',Ext H H'->W c σ H'
 | .stuck=>False
def tE(T:Tb)(W:Nat->St->Hp->Prop)(m:ME):TE:=fun σ H Q=>∃Z F env fp,ar T Z F H σ env fp/\GE T W Z.B F (Own fp) σ H Q (m env)
def tA(T:Tb)(W:Nat->St->Hp->Prop)(m:MA):TA:=fun σ H Q=>∃Z F env fp,ar T Z F H σ env fp/\GA T W Z.B F (Own fp) σ H Q (m env)
def tT(T:Tb)(W:Nat->St->Hp->Prop)(m:MT):TT:=fun σ H Q=>∃Z F env fp,ar T Z F H σ env fp/\GT W F σ H Q (m env)
abbrev SE(X:Cx)(T:Tb)(W:Nat->St->Hp->Prop)(e:Expr)(m:ME):Prop:=PE X e (tE T W m)
abbrev SA(X:Cx)(T:Tb)(W:Nat->St->Hp->Prop)(es:List Expr)(m:MA):Prop:=PA X es (tA T W m)
abbrev ST(X:Cx)(T:Tb)(W:Nat->St->Hp->Prop)(e:Expr)(m:MT):Prop:=PT X e (tT T W m)
section
variable{X:Cx}{T:Tb}{W:Nat->St->Hp->Prop}{Z:Zn}{F F' B L:Addr->Prop}{H H':Hp}{σ:St}{env:En}{fp:Nat->List Addr}
theorem GE.scal{Q:VK}{pv:PV}{v:V}(q:GE T W B F L σ H Q (.ok pv))(g:Gr F H F' H')(r:Rel T F' B L H' pv v []):Q v H' :=
 q v H' F' [] g r (fun _ z=>(nomatch z)) List.nodup_nil (fun _ z=>(nomatch z))
theorem jr{v:V}{pv:PV}(h:PE X e (tC v))(r:∀F B L H,Rel T F B L H pv v []):SE X T W e (mC pv):=PE.wk h fun σ H Q ⟨Z,F,env,fp,S,q⟩=>q.scal (Gr.refl S.hp.ft) (r _ _ _ _)
theorem ah{i j pos}:SE X T W (.Constant (.int i) j pos) (mC (.int i)):=jr jz fun _ _ _ _=>by unfold Rel;exact⟨rfl,rfl⟩
theorem cw{b j pos}:SE X T W (.Constant (.bool b) j pos) (mC (.bl b)):=jr sX fun _ _ _ _=>by unfold Rel;exact⟨rfl,rfl⟩
theorem dw{j pos}:SE X T W (.Constant .none j pos) (mC .non):=jr yX fun _ _ _ _=>by unfold Rel;exact⟨rfl,rfl⟩
theorem bC{x j pos}:SE X T W (.Constant (.str x) j pos) (mC (.str x)):=jr sS fun _ _ _ _=>by unfold Rel;exact⟨rfl,rfl⟩
theorem yt(hN:X.N[i]?=some x)(hv:Vis X.env.scope x)(hd:(x ==("__debug__" : Str))=false:=by decide)(hcd:(x ==("__classdict__" : Str))=false:=by decide):SE X T W (.Name x pos) (aa i) :=
 PE.wk (cu hN hv hd hcd) fun σ H Q ⟨Z,F,env,fp,S,q⟩=>by
  unfold aa at q
  split at q
  ·rename_i pv e
   obtain⟨v,e1,r⟩:=S.rel i pv e
   refine⟨v,e1,q.scal (Gr.refl S.hp.ft) ?_⟩
   exact Rel.lend (fun a h=>⟨i,h⟩) (Rel.tr (fun _ h=>h) (fun _ h=>h) (fun _ h=>h.elim) (fun a o q _=>q) (fun a _ o q=>q) r)
  ·exact q.elim
theorem tE.bind(S:ar T Z F H σ env fp)(hx:∀c,m env=.exc c->∀H',Ext H H'->W c σ H')(hs:m env≠.stuck)
  (k:∀pv v H' F' f,m env=.ok pv->Gr F H F' H'->Rel T F' Z.B (Own fp) H' pv v f->(∀a∈f,¬F' a)->f.Nodup->(∀a∈f,H a=none)->Q v H'):tE T W m σ H Q:=by
 refine⟨Z,F,env,fp,S,?_⟩
 cases e:m env with
 | ok pv=>exact fun v H' F' f g r h1 h2 h3=>k pv v H' F' f e g r h1 h2 h3
 | exc c=>exact hx c e
 | stuck=>exact hs e
theorem tA.bind(S:ar T Z F H σ env fp)(hx:∀c,m env=.exc c->∀H',Ext H H'->W c σ H')(hs:m env≠.stuck)
  (k:∀pvs vs H' F' f,m env=.ok pvs->Gr F H F' H'->RelL T F' Z.B (Own fp) H' pvs vs f->(∀a∈f,¬F' a)->f.Nodup->(∀a∈f,H a=none)->Q vs H'):tA T W m σ H Q:=by
 refine⟨Z,F,env,fp,S,?_⟩
 cases e:m env with
 | ok pv=>exact fun v H' F' f g r h1 h2 h3=>k pv v H' F' f e g r h1 h2 h3
 | exc c=>exact hx c e
 | stuck=>exact hs e
theorem tT.bind(S:ar T Z F H σ env fp)(hx:∀c,m env=.exc c->∀H',Ext H H'->W c σ H')(hs:m env≠.stuck)
  (k:∀b H' F',m env=.ok b->Gr F H F' H'->Q b H'):tT T W m σ H Q:=by
 refine⟨Z,F,env,fp,S,?_⟩
 cases e:m env with
 | ok pv=>exact fun H' F' g=>k pv H' F' e g
 | exc c=>exact hx c e
 | stuck=>exact hs e
theorem af:SA X T W [] aj:=PA.wk eH fun σ H Q ⟨Z,F,env,fp,S,q⟩=>q [] H F [] (Gr.refl S.hp.ft) (by unfold RelL;exact⟨rfl,rfl⟩) (fun _ z=>(nomatch z)) List.nodup_nil (fun _ z=>(nomatch z))
theorem ac(ha:SE X T W e m)(hr:SA X T W es ms)(hs:starEach (e::es) X.env=(false,eval e X.env)::starEach es X.env:=by rfl):SA X T W (e::es) (ad m ms) :=
 PA.wk (bZ ha hr hs) fun σ H Q ⟨Z,F,env,fp,S,q⟩=>by
  unfold ad at q
  refine tE.bind S (fun c e=>by rw[e]at q;exact q) (fun e=>by rw[e]at q;exact q) fun x v H1 F1 f1 e1 g1 r1 n1 d1 w1=>?_
  rw[e1]at q
  simp only[Res.ok_bind]at q
  refine tA.bind (S.grow g1) (fun c e=>by rw[e]at q;exact fun H' x=>q H' (g1.ext.trans x)) (fun e=>by rw[e]at q;exact q) fun xs vs H2 F2 f2 e2 g2 r2 n2 d2 w2=>?_
  rw[e2]at q
  simp only[Res.ok_bind]at q
  have new1:∀a∈f1,¬F2 a:=fun a ha z=>by
   rcases g2.only a z with z | z
   ·exact n1 a ha z
   ·obtain⟨o,ho⟩:=r1.there a ha
    rw[ho]at z;cases z
  refine q (v::vs) H2 F2 (f1++f2) (g1.trans g2) (by unfold RelL;exact⟨v,vs,f1,f2,rfl,r1.ext g2.ext g2.mono,r2,rfl⟩) (fun a ha=>?_) ?_ (fun a ha=>?_)
  ·rcases List.mem_append.mp ha with ha | ha
   ·exact new1 a ha
   ·exact n2 a ha
  ·refine List.nodup_append.mpr ⟨d1,d2,fun a ha b hb z=>?_⟩
   subst z
   obtain⟨o,ho⟩:=r1.there a ha
   rw[w2 a hb]at ho;cases ho
  ·rcases List.mem_append.mp ha with ha | ha
   ·exact w1 a ha
   ·exact g1.ext.free (w2 a ha)
def ak(f:List PV->Res PV)(ms:MA):ME:=fun env=>(ms env).bind f
def Mir(T:Tb)(W:Nat->St->Hp->Prop)(f:List PV->Res PV)(r:List V->Hp->VK->Prop):Prop :=
 ∀(B F L:Addr->Prop) (σ:St) (H:Hp) (Q:VK) (F':Addr->Prop) (H':Hp) (xs:List PV) (vs:List V) (fx:List Addr),Gr F H F' H'->RelL T F' B L H' xs vs fx->(∀a∈fx,¬F' a)->fx.Nodup->(∀a∈fx,H a=none)->
  GE T W B F L σ H Q (f xs)->r vs H' Q
theorem tA.mir(hm:Mir T W f r)(h:tE T W (ak f ms) σ H Q):tA T W ms σ H fun vs H1=>r vs H1 Q:=by
 obtain⟨Z,F,env,fp,S,q⟩:=h
 unfold ak at q
 refine tA.bind S (fun c e=>by rw[e]at q;exact q) (fun e=>by rw[e]at q;exact q) fun xs vs H1 F1 f1 e1 g1 r1 n1 d1 w1=>?_
 rw[e1]at q
 exact hm Z.B F (Own fp) σ H Q F1 H1 xs vs f1 g1 r1 n1 d1 w1 q
theorem jt{id:String}{x:Str}{es:List Expr}{f:List PV->Res PV}{r:List V->Hp->VK->Prop}(hc:eW X (.builtin id) r)(hmir:Mir T W f r)(hg:Gl X x)(hm:X.mg x=none)(hv:bootBuiltins x=some (.builtin id))(ha:SA X T W (e::es) ms)
  (hn:x≠"__name__" := by decide) (hdb:(x ==("__debug__" : Str))=false:=by decide)
  (he:starEach (e::es) X.env=(false,eval e X.env)::starEach es X.env:=by rfl) (hpl:(backTo pos (starEach es X.env)).any (·.1)=false:=by rfl):SE X T W (.Call (.Name x p) (e::es) [] pos) (ak f ms) :=
 PE.wk (jA hc hg hm hv ha hn hdb he hpl) fun σ H Q h=>tA.mir hmir h
theorem kB{id:String}{x:Str}{es:List Expr}{f:List PV->Res PV}{r:List V->Hp->VK->Prop}(hc:eW X (.type id) r)(hmir:Mir T W f r)(hg:Gl X x)(hm:X.mg x=none)(hv:bootBuiltins x=some (.type id))(ha:SA X T W (e::es) ms)
  (hn:x≠"__name__" := by decide) (hdb:(x ==("__debug__" : Str))=false:=by decide)
  (he:starEach (e::es) X.env=(false,eval e X.env)::starEach es X.env:=by rfl) (hpl:(backTo pos (starEach es X.env)).any (·.1)=false:=by rfl):SE X T W (.Call (.Name x p) (e::es) [] pos) (ak f ms) :=
 PE.wk (kH hc hg hm hv ha hn hdb he hpl) fun σ H Q h=>tA.mir hmir h
def ii(T:Tb)(W:Nat->St->Hp->Prop)(f:PV->PV->Res PV)(r:R2):Prop :=
 ∀(B F L:Addr->Prop) (σ:St) (H:Hp) (Q:VK) (F':Addr->Prop) (H':Hp) (x y:PV) (v u:V) (fx fy:List Addr),Gr F H F' H'->Rel T F' B L H' x v fx->Rel T F' B L H' y u fy->(∀a∈fx++fy,¬F' a)->(fx++fy).Nodup->(∀a∈fx++fy,H a=none)->
  GE T W B F L σ H Q (f x y)->r v u H' Q
theorem tE.mir2(hm:ii T W f r)(h:tE T W (mOp f ma mb) σ H Q):tOp r (tE T W ma) (tE T W mb) σ H Q:=by
 obtain⟨Z,F,env,fp,S,q⟩:=h
 unfold mOp at q
 refine tE.bind S (fun c e=>by rw[e]at q;exact q) (fun e=>by rw[e]at q;exact q) fun x v H1 F1 f1 e1 g1 r1 n1 d1 w1=>?_
 rw[e1]at q
 simp only[Res.ok_bind]at q
 refine tE.bind (S.grow g1) (fun c e=>by rw[e]at q;exact fun H' x=>q H' (g1.ext.trans x)) (fun e=>by rw[e]at q;exact q) fun y u H2 F2 f2 e2 g2 r2 n2 d2 w2=>?_
 rw[e2]at q
 simp only[Res.ok_bind]at q
 have new1:∀a∈f1,¬F2 a:=fun a ha z=>by
  rcases g2.only a z with z | z
  ·exact n1 a ha z
  ·obtain⟨o,ho⟩:=r1.there a ha
   rw[ho]at z;cases z
 refine hm Z.B F (Own fp) σ H Q F2 H2 x y v u f1 f2 (g1.trans g2) (r1.ext g2.ext g2.mono) r2 (fun a ha=>?_) ?_ (fun a ha=>?_) q
 ·rcases List.mem_append.mp ha with ha | ha
  ·exact new1 a ha
  ·exact n2 a ha
 ·refine List.nodup_append.mpr ⟨d1,d2,fun a ha b hb z=>?_⟩
  subst z
  obtain⟨o,ho⟩:=r1.there a ha
  rw[w2 a hb]at ho;cases ho
 ·rcases List.mem_append.mp ha with ha | ha
  ·exact w1 a ha
  ·exact g1.ext.free (w2 a ha)
theorem mR(ho:OpR X (binaryOp op) r)(hm:ii T W f r)(ha:SE X T W a ma)(hb:SE X T W b mb):SE X T W (.BinOp a op b pos) (mOp f ma mb) :=
 PE.wk (BL (pos:=pos) ho ha hb) fun σ H Q h=>tE.mir2 hm h
theorem r9(ho:OpR X (compareOp op) r)(hm:ii T W f r)(ha:SE X T W a ma)(hb:SE X T W b mb)(hk:behindInMarks op b=false):SE X T W (.Compare a [op] [b] pos) (mOp f ma mb) :=
 PE.wk (v3 (pos:=pos) ho ha hb hk) fun σ H Q h=>tE.mir2 hm h
theorem xG(hr:IxR X r)(hm:ii T W f r)(ha:SE X T W a ma)(hb:SE X T W b mb)(hs:de b):SE X T W (.Subscript a b pos) (mOp f ma mb) :=
 PE.wk (mY (pos:=pos) hr ha hb hs) fun σ H Q h=>tE.mir2 hm h
theorem jH(hg:∀i j F B L H,Rel T F B L H (g' i j) (g i j) []):ii T W (jD g') (rI0 g):=by
  intro B F L σ H Q F' H' x y v u fx fy gr rx ry _ _ _ q
  cases x<;>cases y<;>first
    | exact q.elim
    | (unfold Rel at rx ry
       exact⟨_,_,rx.1,ry.1,q.scal gr (hg _ _ _ _ _ _)⟩)
theorem tW(hc:∀i j,C' i j=true->C i j)(hg:∀i j F B L H,Rel T F B L H (g' i j) (g i j) []):ii T W (eJ C' g') (rI C g):=by
  intro B F L σ H Q F' H' x y v u fx fy gr rx ry _ _ _ q
  cases x<;>cases y<;>first
    | exact q.elim
    | (unfold Rel at rx ry
       simp only[eJ]at q
       split at q
       . rename_i hh
         exact⟨_,_,rx.1,ry.1,hc _ _ hh,q.scal gr (hg _ _ _ _ _ _)⟩
       . exact q.elim)
theorem d6:Rel T F B L H (.int i) (.int i) []:=by unfold Rel;exact⟨rfl,rfl⟩
theorem gR:Rel T F B L H (.bl i) (.bl i) []:=by unfold Rel;exact⟨rfl,rfl⟩
theorem yH:Rel T F B L H .non .non []:=by unfold Rel;exact⟨rfl,rfl⟩
def jB:PV->PV->Res PV:=jD fun i j=>.int (i - j)
def bL:PV->PV->Res PV:=eJ (fun i j=>decide ((-(2 ^ 64) < i/\i < 2 ^ 64)\/(-(2 ^ 64) < j/\j < 2 ^ 64))) fun i j=>.int (i * j)
def cE:PV->PV->Res PV:=eJ (fun _ j=>decide (0 < j)) fun i j=>.int (i % j)
def cy:PV->PV->Res PV:=eJ (fun _ j=>decide (0 < j/\j < 1073741824)) fun i j=>.int (i / j)
def v5:PV->PV->Res PV:=eJ (fun i j=>decide (0<=j/\j<=1000000/\i.natAbs < 2 ^ 64)) fun i j=>.int (i ^ j.toNat)
def pLt:PV->PV->Res PV:=jD fun i j=>.bl (decide (i < j))
def pLe:PV->PV->Res PV:=jD fun i j=>.bl (decide (i<=j))
def pGt:PV->PV->Res PV:=jD fun i j=>.bl (decide (j < i))
def pGe:PV->PV->Res PV:=jD fun i j=>.bl (decide (j<=i))
variable{a b:Expr}{ma mb:ME}{pos:Pos}
theorem iq(ha:SE X T W a ma)(hb:SE X T W b mb):SE X T W (.BinOp a .Sub b pos) (mOp jB ma mb):=mR y_ (jH fun _ _ _ _ _ _=>d6) ha hb
theorem bD(ha:SE X T W a ma)(hb:SE X T W b mb):SE X T W (.BinOp a .Mult b pos) (mOp bL ma mb):=mR zc (tW (fun i j h=>(by simpa using h:(-(2 ^ 64) < i/\i < 2 ^ 64)\/(-(2 ^ 64) < j/\j < 2 ^ 64))) fun _ _ _ _ _ _=>d6) ha hb
theorem bw(ha:SE X T W a ma)(hb:SE X T W b mb):SE X T W (.BinOp a .Mod b pos) (mOp cE ma mb):=mR zd (tW (fun _ _ h=>of_decide_eq_true h) fun _ _ _ _ _ _=>d6) ha hb
theorem cD(ha:SE X T W a ma)(hb:SE X T W b mb):SE X T W (.BinOp a .FloorDiv b pos) (mOp cy ma mb):=mR v7 (tW (fun i j h=>(by simpa using h:0 < j/\j < 1073741824)) fun _ _ _ _ _ _=>d6) ha hb
theorem BA(ha:SE X T W a ma)(hb:SE X T W b mb):SE X T W (.Compare a [.LtE] [b] pos) (mOp pLe ma mb):=r9 BW (jH fun _ _ _ _ _ _=>gR) ha hb (e_ _)
end
def GS(T:Tb)(W:Nat->St->Hp->Prop)(Z:Zn)(D:Ends):Out->Prop
 | .next e=>∀F H σ fp,ar T Z F H σ e fp->D.nx σ H
 | .ret pv=>∀F H v f,dv T Z F H->Rel T F Z.B NoL H pv v f->f.Nodup->(∀a∈f,¬F a)->(∀a∈f,Z.H0 a=none\/Z.fp0 a)->D.rt v H
 | .brk e=>∀F H σ fp,ar T Z F H σ e fp->D.bk σ H
 | .cont e=>∀F H σ fp,ar T Z F H σ e fp->D.ct σ H
 | .exc c e=>∀F H σ fp,ar T Z F H σ e fp->W c σ H
 | .stuck=>False
def tS(T:Tb)(W:Nat->St->Hp->Prop)(m:MS):TS:=fun D σ H=>∃Z F env fp,ar T Z F H σ env fp/\GS T W Z D (m env)
abbrev SS(X:Cx)(T:Tb)(W:Nat->St->Hp->Prop)(st:Stmt)(m:MS):Prop:=PS X st (tS T W m)
abbrev SSs(X:Cx)(T:Tb)(W:Nat->St->Hp->Prop)(sts:List Stmt)(m:MS):Prop:=PSs X sts (tS T W m)
mutual
theorem Rel.noL:∀{x:PV}{v:V}{fp:List Addr},x.has Fl.isLnt=false->Rel T F B L H x v fp->Rel T F B L' H x v fp
 | .non,_,_,_,h | .bl _,_,_,_,h | .int _,_,_,_,h | .str _,_,_,_,h=>by unfold Rel at h ⊢;exact h
 | .lst f xs,_,fp,hp,h=>by
  unfold Rel at h ⊢
  simp only[PV.has,Bool.or_eq_false_iff]at hp
  obtain⟨a,vs,fp',e,hl,hr,hf⟩:=h
  refine⟨a,vs,fp',e,?_,RelL.noL hp.2 hr,hf⟩
  cases f with
  | lnt=>exact absurd hp.1 (by decide)
  | own | frz | bor | mod=>exact hl
 | .tup xs,_,fp,hp,h=>by
  unfold Rel at h ⊢
  simp only[PV.has]at hp
  obtain⟨a,vs,e,hl,hr⟩:=h
  exact⟨a,vs,e,hl,RelL.noL hp hr⟩
 | .obj f c ks xs,_,fp,hp,h=>by
  unfold Rel at h ⊢
  simp only[PV.has,Bool.or_eq_false_iff]at hp
  obtain⟨a,dx,vs,fp',e,hl,hk,hr,hf,ha⟩:=h
  refine⟨a,dx,vs,fp',e,hl,hk,RelL.noL hp.2 hr,hf,?_⟩
  cases f with
  | lnt=>exact absurd hp.1 (by decide)
  | own | frz | bor | mod=>exact ha
 | .exc c,_,fp,hp,h=>by
  unfold Rel at h ⊢
  exact h
theorem RelL.noL:∀{xs:List PV}{vs:List V}{fp:List Addr},hasL Fl.isLnt xs=false->RelL T F B L H xs vs fp->RelL T F B L' H xs vs fp
 | [],_,_,_,h=>by unfold RelL at h ⊢;exact h
 | x::xs,_,fp,hp,h=>by
  unfold RelL at h ⊢
  simp only[hasL,Bool.or_eq_false_iff]at hp
  obtain⟨v,ws,f1,f2,e,h1,h2,rfl⟩:=h
  exact⟨v,ws,f1,f2,e,Rel.noL hp.1 h1,RelL.noL hp.2 h2,rfl⟩
end
section
variable{X:Cx}{T:Tb}{W:Nat->St->Hp->Prop}{Z:Zn}{F F' B L:Addr->Prop}{H H':Hp}{σ:St}{env:En}{fp:Nat->List Addr}{D:Ends}
def bj(fp:Nat->List Addr)(i:Nat)(f:List Addr):Nat->List Addr:=fun j=>if j=i then f else fp j
theorem ar.put(S:ar T Z F H σ env fp){i:Nat}{pv:PV}{v:V}{f:List Addr}(r:Rel T F Z.B NoL H pv v f)(nd:f.Nodup)(nf:∀a∈f,¬F a)(new:∀a∈f,Z.H0 a=none\/Z.fp0 a)(dj:∀a∈f,∀j,j≠i->a∉fp j)(ho:a7 i env=true) :
  ar T Z F H (σ.set i (some v)) (env.set i (some pv)) (bj fp i f):=by
 refine⟨S.hp,by rw[List.length_set,List.length_set,S.len],fun j pv' e=>?_,fun j=>?_,fun j k hjk a ha=>?_,fun j a ha=>?_,fun j a ha=>?_,fun j a ha=>?_,fun w hw=>?_⟩
 ·by_cases hj:j=i
  ·subst hj
   have hl:j < env.length:=by
    have:=(List.getElem?_eq_some_iff.mp e).1
    simpa using this
   rw[List.getElem?_set_self hl]at e
   cases e
   refine⟨v,List.getElem?_set_self (by rw[S.len];exact hl),?_⟩
   unfold bj
   rw[if_pos rfl]
   exact r
  ·rw[List.getElem?_set_ne (Ne.symm hj)]at e
   obtain⟨w,h1,h2⟩:=S.rel j pv' e
   refine⟨w,by rw[List.getElem?_set_ne (Ne.symm hj)];exact h1,?_⟩
   unfold bj
   rw[if_neg hj]
   exact h2
 ·unfold bj;split
  ·exact nd
  ·exact S.nd j
 ·unfold bj at ha ⊢
  by_cases h1:j=i
  ·subst h1
   rw[if_pos rfl]at ha
   rw[if_neg (Ne.symm hjk)]
   exact dj a ha k (Ne.symm hjk)
  ·rw[if_neg h1]at ha
   by_cases h2:k=i
   ·subst h2
    rw[if_pos rfl]
    exact fun z=>dj a z j h1 ha
   ·rw[if_neg h2]
    exact S.dj j k hjk a ha
 ·unfold bj at ha
  by_cases h1:j=i
  ·rw[if_pos h1]at ha;exact⟨nf a ha,r.there a ha⟩
  ·rw[if_neg h1]at ha;exact S.dis j a ha
 ·unfold bj at ha
  by_cases h1:j=i
  ·rw[if_pos h1]at ha;exact new a ha
  ·rw[if_neg h1]at ha;exact S.new j a ha
 ·unfold bj at ha
  by_cases h1:j=i
  ·rw[if_pos h1]at ha;exact r.chg a ha
  ·rw[if_neg h1]at ha;exact S.ch j a ha
 ·obtain⟨h1,h2⟩:=S.pn w hw
  have hi:i≠0:=fun z=>by
   rw[z]at ho
   simp[a7,h2]at ho
  refine⟨by rw[List.getElem?_set_ne hi];exact h1,?_⟩
  unfold b8 at h2 ⊢
  rw[List.getElem?_set_ne hi]
  exact h2
theorem ar.putN(S:ar T Z F H σ env fp)(g:Gr F H F' H'){i:Nat}{pv:PV}{v:V}{f:List Addr}(ho:a7 i env=true)(r:Rel T F' Z.B L H' pv v f)(hl:pv.noLnt=true)(nf:∀a∈f,¬F' a)(nd:f.Nodup)(w:∀a∈f,H a=none) :
  ar T Z F' H' (σ.set i (some v)) (env.set i (some pv)) (bj fp i f):=by
 refine(S.grow g).put (Rel.noL (by simpa[PV.noLnt]using hl) r) nd nf (fun a ha=>?_) (fun a ha j _ hj=>?_) ho
 ·by_cases q:Z.fp0 a
  ·exact .inr q
  ·refine .inl ?_
   cases e:Z.H0 a with
   | none=>rfl
   | some o =>
    have:=S.hp.keep a o e q
    rw[w a ha]at this;cases this
 ·obtain⟨_,o,ho⟩:=S.dis j a hj
  rw[w a ha]at ho;cases ho
theorem aE:SSs X T W [] aL:=PSs.wk ls fun D σ H ⟨Z,F,env,fp,S,q⟩=>q F H σ fp S
theorem ae{aN:List Stmt}(h1:SS X T W st a)(h2:SSs X T W aN b):SSs X T W (st::aN) (ao a b) :=
 PSs.wk (jx h1 h2) fun D σ H ⟨Z,F,env,fp,S,q⟩=>by
  refine⟨Z,F,env,fp,S,?_⟩
  unfold ao at q
  cases e:a env with
  | next e'=>rw[e]at q;exact fun F' H' σ' fp' S'=>⟨Z,F',e',fp',S',q⟩
  | ret v | brk e' | cont e' | exc c e' | stuck=>rw[e]at q;exact q
theorem ai(h1:SS X T W st a):SSs X T W [st] a:=lq h1
def t5:MS:=.brk
theorem rS:SS X T W (.Break pos) t5:=PS.wk sJ fun D σ H ⟨Z,F,env,fp,S,q⟩=>q F H σ fp S
theorem aM(hc:ST X T W c mc)(ha:SSs X T W a ma)(hb:SSs X T W b mb):SS X T W (.If c a b pos) (mBr mc ma mb) :=
 PS.wk (sH (pos:=pos) hc ha hb) fun D σ H ⟨Z,F,env,fp,S,q⟩=>by
  unfold mBr at q
  refine tT.bind S (fun c e H' x=>?_) (fun e=>by rw[e]at q;exact q) fun b H' F' e g=>?_
  ·rw[e]at q
   exact q F H' σ fp (S.grow (Gr.same S.hp.ft x))
  ·cases b with
   | true=>rw[e]at q;exact(if_pos rfl).mpr ⟨Z,F',env,fp,S.grow g,q⟩
   | false=>rw[e]at q;exact(if_neg (by decide)).mpr ⟨Z,F',env,fp,S.grow g,q⟩
theorem rN(hN:X.N.Nodup)(hi:X.N[i]?=some x)(hx:Loc X.env.scope x)(he:SE X T W e m)(hs:swapsWith e (some (.Name x pos')) pos.line X.env=pure false:=by rfl)
  (hf:X.fn x=true\/X.env.scope.names.lookup x=some .local:=by first | exact .inl rfl | exact .inr rfl | assumption):SS X T W (.Assign [.Name x pos'] e pos) (aI i m) :=
 PS.wk (sG (pos:=pos) hN hi hx he hs hf) fun D σ H ⟨Z,F,env,fp,S,q⟩=>by
  unfold aI at q
  refine tE.bind S (fun c e H' x=>?_) (fun e=>by rw[e]at q;exact q) fun pv v H1 F1 f e g r h1 h2 h3=>?_
  ·rw[e]at q
   exact q F H' σ fp (S.grow (Gr.same S.hp.ft x))
  ·rw[e]at q
   simp only at q
   split at q
   ·rename_i hl
    rw[Bool.and_eq_true]at hl
    exact q F1 H1 _ _ (S.putN g hl.2 r hl.1 h1 h2 h3)
   ·exact q.elim
theorem dv.newE(S:dv T Z F H){f:List Addr}(w:∀a∈f,H a=none):∀a∈f,Z.H0 a=none\/Z.fp0 a:=fun a ha=>by
 by_cases q:Z.fp0 a
 ·exact .inr q
 ·refine .inl ?_
  cases e:Z.H0 a with
  | none=>rfl
  | some o =>
   have:=S.keep a o e q
   rw[w a ha]at this;cases this
theorem aB(he:SE X T W e m):SS X T W (.Return (some e) pos) (bt m) :=
 PS.wk (iy (pos:=pos) he) fun D σ H ⟨Z,F,env,fp,S,q⟩=>by
  unfold bt at q
  refine tE.bind S (fun c e H' x=>?_) (fun e=>by rw[e]at q;exact q) fun pv v H1 F1 f e g r h1 h2 h3=>?_
  ·rw[e]at q
   exact q F H' σ fp (S.grow (Gr.same S.hp.ft x))
  ·rw[e]at q
   simp only at q
   split at q
   ·rename_i hl
    exact q F1 H1 v f (S.hp.grow g) (Rel.noL (by simpa[PV.noLnt]using hl) r) h2 h1 (S.hp.newE h3)
   ·exact q.elim
theorem et(hN:X.N[i]?=some x)(hv:Vis X.env.scope x)(hd:(x ==("__debug__" : Str))=false:=by decide)(hcd:(x ==("__classdict__" : Str))=false:=by decide):SS X T W (.Return (some (.Name x pos')) pos) (fG i) :=
 PS.wk (iy (pos:=pos) (cu hN hv hd hcd)) fun D σ H ⟨Z,F,env,fp,S,q⟩=>by
  unfold fG at q
  split at q
  ·rename_i pv e
   obtain⟨v,e1,r⟩:=S.rel i pv e
   exact⟨v,e1,q F H v (fp i) S.hp r (S.nd i) (fun a ha=>(S.dis i a ha).1) (S.new i)⟩
  ·exact q.elim
theorem CY:SS X T W (.Return none pos) (bt (mC .non)) :=
 PS.wk (vT (pos:=pos)) fun D σ H ⟨Z,F,env,fp,S,q⟩=>q F H .non [] S.hp yH List.nodup_nil (fun _ z=>(nomatch z)) (fun _ z=>(nomatch z))
theorem eY(he:SE X T W e m)(hs:swapsWith e none pos.line X.env=pure false:=by rfl):SS X T W (.Expr e pos) (fT m) :=
 PS.wk (f7 (pos:=pos) he hs) fun D σ H ⟨Z,F,env,fp,S,q⟩=>by
  unfold fT at q
  refine tE.bind S (fun c e H' x=>?_) (fun e=>by rw[e]at q;exact q) fun pv v H1 F1 f e g r h1 h2 h3=>?_
  ·rw[e]at q
   exact q F H' σ fp (S.grow (Gr.same S.hp.ft x))
  ·rw[e]at q
   exact q F1 H1 σ fp (S.grow g)
mutual
theorem Rel.freeze(hF:∀a,F a->F' a):∀{x:PV}{v:V}{fp:List Addr},(∀a∈fp,F' a)->Rel T F B L H x v fp->Rel T F' B L H (x.mapF Fl.freeze) v []
 | .non,_,_,_,h | .bl _,_,_,_,h | .int _,_,_,_,h | .str _,_,_,_,h=>by unfold Rel at h;simp only[PV.mapF];unfold Rel;exact⟨h.1,rfl⟩
 | .lst f xs,_,fp,hp,h=>by
  unfold Rel at h
  obtain⟨a,vs,fp',e,hl,hr,hf⟩:=h
  simp only[PV.mapF]
  unfold Rel
  cases f with
  | own =>
   obtain rfl:fp=a::fp':=hf
   exact⟨a,vs,[],e,⟨hp a List.mem_cons_self,.inl hl⟩,RelL.freeze hF (fun b hb=>hp b (List.mem_cons_of_mem _ hb)) hr,rfl,rfl⟩
  | frz=>obtain⟨rfl,rfl⟩:=hf;exact⟨a,vs,[],e,⟨hF a hl.1,hl.2⟩,RelL.freeze hF hp hr,rfl,rfl⟩
  | bor | lnt | mod=>obtain⟨rfl,rfl⟩:=hf;exact⟨a,vs,[],e,hl,RelL.freeze hF hp hr,rfl,rfl⟩
 | .tup xs,_,fp,hp,h=>by
  unfold Rel at h
  obtain⟨a,vs,e,hl,hr⟩:=h
  simp only[PV.mapF]
  unfold Rel
  exact⟨a,vs,e,hl,RelL.freeze hF hp hr⟩
 | .obj f c ks xs,_,fp,hp,h=>by
  unfold Rel at h
  obtain⟨a,dx,vs,fp',e,hl,hk,hr,hf,ha⟩:=h
  simp only[PV.mapF]
  unfold Rel
  cases f with
  | own =>
   obtain rfl:fp=a::fp':=hf
   have r:=RelL.freeze hF (fun b hb=>hp b (List.mem_cons_of_mem _ hb)) hr
   exact⟨a,dx,vs,[],e,hl,⟨by rw[r.length,hk.1,hr.length],hk.2⟩,r,⟨rfl,rfl⟩,hp a List.mem_cons_self⟩
  | frz=>obtain⟨rfl,rfl⟩:=hf;have r:=RelL.freeze hF hp hr;exact⟨a,dx,vs,[],e,hl,⟨by rw[r.length,hk.1,hr.length],hk.2⟩,r,⟨rfl,rfl⟩,hF a ha⟩
  | bor | lnt=>obtain⟨rfl,rfl⟩:=hf;have r:=RelL.freeze hF hp hr;exact⟨a,dx,vs,[],e,hl,⟨by rw[r.length,hk.1,hr.length],hk.2⟩,r,⟨rfl,rfl⟩,ha⟩
  | mod=>exact ha.elim
 | .exc c,_,fp,hp,h=>by
  unfold Rel at h
  obtain⟨a,e,hl,rfl⟩:=h
  simp only[PV.mapF]
  unfold Rel
  exact⟨a,e,hl,rfl⟩
theorem RelL.freeze(hF:∀a,F a->F' a):∀{xs:List PV}{vs:List V}{fp:List Addr},(∀a∈fp,F' a)->RelL T F B L H xs vs fp->RelL T F' B L H (mapL Fl.freeze xs) vs []
 | [],_,_,_,h=>by unfold RelL at h;simp only[mapL];unfold RelL;exact⟨h.1,rfl⟩
 | x::xs,_,fp,hp,h=>by
  unfold RelL at h
  obtain⟨v,ws,f1,f2,e,h1,h2,rfl⟩:=h
  simp only[mapL]
  unfold RelL
  exact⟨v,ws,[],[],e,Rel.freeze hF (fun b hb=>hp b (List.mem_append_left _ hb)) h1,RelL.freeze hF (fun b hb=>hp b (List.mem_append_right _ hb)) h2,rfl⟩
end
theorem ar.frz(S:ar T Z F H σ env fp){i:Nat}{pv:PV}(e:env[i]?=some (some pv)):ar T Z (fun a=>F a\/a∈fp i) H σ (env.set i (some (pv.mapF Fl.freeze))) (bj fp i []):=by
 have hi:i < env.length:=(List.getElem?_eq_some_iff.mp e).1
 refine⟨⟨S.hp.bo,S.hp.keep,fun a h=>.inl (S.hp.f0 a h),fun a h=>h.elim (S.hp.fn a) fun z=>.inr (S.new i a z),fun a h=>h.elim (S.hp.ft a) fun z=>(S.dis i a z).2⟩,by rw[List.length_set,S.len],fun j pv' e'=>?_,fun j=>?_,fun j k hjk a ha=>?_,fun j a ha=>?_,fun j a ha=>?_,fun j a ha=>?_,fun w hw=>?_⟩
 ·by_cases hj:j=i
  ·subst hj
   rw[List.getElem?_set_self hi]at e'
   cases e'
   obtain⟨v,h1,h2⟩:=S.rel j pv e
   refine⟨v,h1,?_⟩
   unfold bj
   rw[if_pos rfl]
   exact Rel.freeze (fun _ h=>.inl h) (fun a h=>.inr h) h2
  ·rw[List.getElem?_set_ne (Ne.symm hj)]at e'
   obtain⟨w,h1,h2⟩:=S.rel j pv' e'
   refine⟨w,h1,?_⟩
   unfold bj
   rw[if_neg hj]
   exact h2.ext Ext.refl fun _ h=>.inl h
 ·unfold bj;split
  ·exact List.nodup_nil
  ·exact S.nd j
 ·unfold bj at ha ⊢
  by_cases h1:j=i
  ·rw[if_pos h1]at ha;cases ha
  ·rw[if_neg h1]at ha
   by_cases h2:k=i
   ·rw[if_pos h2];exact fun z=>nomatch z
   ·rw[if_neg h2];exact S.dj j k hjk a ha
 ·unfold bj at ha
  by_cases h1:j=i
  ·rw[if_pos h1]at ha;cases ha
  ·rw[if_neg h1]at ha
   exact⟨fun z=>z.elim (S.dis j a ha).1 fun z=>S.dj j i h1 a ha z,(S.dis j a ha).2⟩
 ·unfold bj at ha
  by_cases h1:j=i
  ·rw[if_pos h1]at ha;cases ha
  ·rw[if_neg h1]at ha;exact S.new j a ha
 ·unfold bj at ha
  by_cases h1:j=i
  ·rw[if_pos h1]at ha;cases ha
  ·rw[if_neg h1]at ha;exact S.ch j a ha
 ·obtain⟨h1,h2⟩:=S.pn w hw
  refine⟨h1,?_⟩
  unfold b8 at h2 ⊢
  by_cases hi0:i=0
  ·subst hi0
   rw[e]at h2
   rw[List.getElem?_set_self hi]
   cases pv<;>first | exact h2 |(cases h2;done) | rfl
  ·rw[List.getElem?_set_ne hi0]
   exact h2
theorem dP{i:Nat}{sts:List Stmt}(h:SSs X T W sts m):SSs X T W sts (ao (fS i) m):=PSs.wk h fun D σ H ⟨Z,F,env,fp,S,q⟩=>by
 cases e:env[i]? with
 | none=>simp[ao,fS,e]at q;exact q.elim
 | some w =>
  cases w with
  | none=>simp[ao,fS,e]at q;exact q.elim
  | some pv =>
   simp only[ao,fS,e]at q
   exact⟨Z,_,_,_,S.frz e,q⟩
def Zn.re(Z:Zn)(F:Addr->Prop)(H:Hp)(fp:Nat->List Addr):Zn:=⟨H,F,Own fp,Z.B,Z.pin⟩
theorem ar.enter(S:ar T Z F H σ env fp):ar T (Z.re F H fp) F H σ env fp :=
 ⟨⟨fun a h=>by
   obtain⟨⟨o,h1⟩,h2⟩:=S.hp.bo a h
   refine⟨⟨o,S.hp.keep a o h1 h2⟩,fun⟨i,hi⟩=>?_⟩
   rcases S.new i a hi with z | z
   ·rw[h1]at z;cases z
   ·exact h2 z,fun _ _ h _=>h,fun _ h=>h,fun _ h=>.inl h,S.hp.ft⟩,S.len,S.rel,S.nd,S.dj,S.dis,fun i a ha=>.inr ⟨i,ha⟩,S.ch,S.pn⟩
theorem dv.leave(S:ar T Z F H σ env fp)(S':dv T (Z.re F H fp) F' H'):dv T Z F' H' :=
 ⟨S.hp.bo,fun a o h n=>S'.keep a o (S.hp.keep a o h n) fun ⟨i,hi⟩=>by
   rcases S.new i a hi with z | z
   ·rw[h]at z;cases z
   ·exact n z,fun a h=>S'.f0 a (S.hp.f0 a h),fun a h=>by
  rcases S'.fn a h with z | z |⟨i,hi⟩
  ·exact S.hp.fn a z
  ·refine .inr ?_
   by_cases q:Z.fp0 a
   ·exact .inr q
   ·refine .inl ?_
    cases w:Z.H0 a with
    | none=>rfl
    | some o =>
     have z':H a=none:=z
     rw[S.hp.keep a o w q]at z';cases z'
  ·exact .inr (S.new i a hi),S'.ft⟩
theorem ar.newL(S:ar T Z F H σ env fp)(h:(Z.re F H fp).H0 a=none \/(Z.re F H fp).fp0 a):Z.H0 a=none\/Z.fp0 a:=by
 rcases h with z |⟨i,hi⟩
 ·by_cases q:Z.fp0 a
  ·exact .inr q
  ·refine .inl ?_
   cases w:Z.H0 a with
   | none=>rfl
   | some o =>
    have z':H a=none:=z
    rw[S.hp.keep a o w q]at z';cases z'
 ·exact S.new i a hi
theorem ar.leave(S:ar T Z F H σ env fp)(S':ar T (Z.re F H fp) F' H' σ' env' fp'):ar T Z F' H' σ' env' fp' :=
 ⟨dv.leave S S'.hp,S'.len,S'.rel,S'.nd,S'.dj,S'.dis,fun i a ha=>S.newL (S'.new i a ha),S'.ch,S'.pn⟩
abbrev SW(X:Cx)(T:Tb)(W:Nat->St->Hp->Prop)(e:Expr)(m:MT):Prop:=PW X e (tT T W m)
theorem tT.test(h:tT T W (aw m) σ H Q):tE T W m σ H fun x H'=>∃k,x=.bl k/\Q k H':=by
 obtain⟨Z,F,env,fp,S,q⟩:=h
 unfold aw at q
 refine tE.bind S (fun c e=>by rw[e]at q;exact q) (fun e=>by rw[e]at q;exact q) fun x v H1 F1 f1 e1 g1 r1 n1 d1 w1=>?_
 rw[e1]at q
 cases x with
 | bl b =>
  unfold Rel at r1
  exact⟨b,r1.1,q H1 F1 g1⟩
 | _=>exact q.elim
theorem eX(ho:OpR X (compareOp op) r)(hm:ii T W f r)(ha:SE X T W a ma)(hb:SE X T W b mb)(hk:behindInMarks op b=false):ST X T W (.Compare a [op] [b] pos) (aw (mOp f ma mb)) :=
 PT.wk (pB (pos:=pos) ho ha hb hk) fun σ H Q h=>by
  obtain⟨Z,F,env,fp,S,q⟩:=tT.test h
  exact tE.mir2 hm ⟨Z,F,env,fp,S,q⟩
theorem cB(h:ST X T W a m):ST X T W (.UnaryOp .Not a pos) (cS m):=PT.wk (ou (pos:=pos) h) fun σ H Q ⟨Z,F,env,fp,S,q⟩=>by
 unfold cS at q
 refine tT.bind S (fun c e=>by rw[e]at q;exact q) (fun e=>by rw[e]at q;exact q) fun b H1 F1 e1 g1=>?_
 rw[e1]at q
 exact q H1 F1 g1
theorem d_(h:ST X T W a m):SW X T W (.BoolOp .And [a] pos) m:=vS h
theorem dO(h:ST X T W a m):SW X T W (.BoolOp .Or [a] pos) m:=sD h
theorem fI{aN:List Expr}(h:ST X T W a m)(h2:SW X T W (.BoolOp .And (b::aN) pos) n):SW X T W (.BoolOp .And (a::b::aN) pos) (eT m n):=PW.wk (yM h h2) fun σ H Q ⟨Z,F,env,fp,S,q⟩=>by
 unfold eT at q
 refine tT.bind S (fun c e=>by rw[e]at q;exact q) (fun e=>by rw[e]at q;exact q) fun b H1 F1 e1 g1=>?_
 rw[e1]at q
 cases b with
 | true =>
  refine(if_pos rfl).mpr ⟨Z,F1,env,fp,S.grow g1,?_⟩
  simp only[Res.ok_bind,if_true]at q
  cases e2:n env with
  | ok b=>rw[e2]at q;exact fun H2 F2 g2=>q H2 F2 (g1.trans g2)
  | exc c=>rw[e2]at q;exact fun H' x=>q H' (g1.ext.trans x)
  | stuck=>rw[e2]at q;exact q
 | false=>exact(if_neg (by decide)).mpr (q H1 F1 g1)
theorem eM{aN:List Expr}(h:ST X T W a m)(h2:SW X T W (.BoolOp .Or (b::aN) pos) n):SW X T W (.BoolOp .Or (a::b::aN) pos) (gh m n):=PW.wk (xL h h2) fun σ H Q ⟨Z,F,env,fp,S,q⟩=>by
 unfold gh at q
 refine tT.bind S (fun c e=>by rw[e]at q;exact q) (fun e=>by rw[e]at q;exact q) fun b H1 F1 e1 g1=>?_
 rw[e1]at q
 cases b with
 | false =>
  refine(if_neg (by decide)).mpr ⟨Z,F1,env,fp,S.grow g1,?_⟩
  simp only[Res.ok_bind,Bool.false_eq_true,if_false]at q
  cases e2:n env with
  | ok b=>rw[e2]at q;exact fun H2 F2 g2=>q H2 F2 (g1.trans g2)
  | exc c=>rw[e2]at q;exact fun H' x=>q H' (g1.ext.trans x)
  | stuck=>rw[e2]at q;exact q
 | true=>exact(if_pos rfl).mpr (q H1 F1 g1)
theorem SW.st(h:SW X T W e m):ST X T W e m:=PW.pt h
theorem aK(hK:X.K=T.K)(h:SE X T W a m)(he:∀whole,isTrue a X.env whole=(do let v <- whole;standAt a.pos;holding [v] (truthy v)):=by intro _;rfl):ST X T W a (aU m):=PT.wk (sE h he) fun σ H Q ⟨Z,F,env,fp,S,q⟩=>by
 unfold aU at q
 refine tE.bind S (fun c e=>by rw[e]at q;exact q) (fun e=>by rw[e]at q;exact q) fun x v H1 F1 f1 e1 g1 r1 n1 d1 w1=>?_
 rw[e1]at q
 rw[hK]
 cases x with
 | non=>unfold Rel at r1;rw[r1.1];exact⟨false,rfl,q H1 F1 g1⟩
 | bl b=>unfold Rel at r1;rw[r1.1];exact⟨b,rfl,q H1 F1 g1⟩
 | int i=>unfold Rel at r1;rw[r1.1];exact⟨_,rfl,q H1 F1 g1⟩
 | str i=>exact q.elim
 | lst f xs =>
  unfold Rel at r1
  obtain⟨a,vs,fp',rfl,hl,hr,_⟩:=r1
  have hl':SqL T.K H1 a vs:=hl.sq
  have e:(!xs.isEmpty)=!vs.isEmpty:=by
   have:=hr.length
   cases xs<;>cases vs<;>simp_all
  exact⟨_,.inl ⟨vs,hl',rfl⟩,by rw[<- e];exact q H1 F1 g1⟩
 | tup xs =>
  unfold Rel at r1
  obtain⟨a,vs,rfl,hl,hr⟩:=r1
  have e:(!xs.isEmpty)=!vs.isEmpty:=by
   have:=hr.length
   cases xs<;>cases vs<;>simp_all
  exact⟨_,.inr (.inl ⟨vs,hl,rfl⟩),by rw[<- e];exact q H1 F1 g1⟩
 | obj f c ks xs | exc c=>exact q.elim
theorem gN(hc:ST X T W c mc)(ha:SE X T W a ma)(hb:SE X T W b mb):SE X T W (.IfExp c a b pos) (lL mc ma mb):=PE.wk (sU (pos:=pos) hc ha hb) fun σ H Q ⟨Z,F,env,fp,S,q⟩=>by
 unfold lL at q
 refine tT.bind S (fun c e=>by rw[e]at q;exact q) (fun e=>by rw[e]at q;exact q) fun b H1 F1 e1 g1=>?_
 rw[e1]at q
 have lift:∀m:ME,GE T W Z.B F (Own fp) σ H Q (m env)->tE T W m σ H1 Q:=fun m q=>by
  refine⟨Z,F1,env,fp,S.grow g1,?_⟩
  cases e2:m env with
  | ok b=>rw[e2]at q;exact fun v H2 F2 f g2 r n d w=>q v H2 F2 f (g1.trans g2) r n d fun a ha=>g1.ext.free (w a ha)
  | exc c=>rw[e2]at q;exact fun H' x=>q H' (g1.ext.trans x)
  | stuck=>rw[e2]at q;exact q
 cases b with
 | true=>exact(if_pos rfl).mpr (lift ma q)
 | false=>exact(if_neg (by decide)).mpr (lift mb q)
def pK(a:ME):ME:=fun env=>(a env).bind fun
 | .bl b=>.ok (.bl (!b))
 | _=>.stuck
def jL(a b:ME):ME:=fun env=>(a env).bind fun
 | .bl true=>b env
 | .bl false=>.ok (.bl false)
 | _=>.stuck
def tY(a b:ME):ME:=fun env=>(a env).bind fun
 | .bl false=>b env
 | .bl true=>.ok (.bl true)
 | _=>.stuck
theorem yu(ha:SE X T W a ma):SE X T W (.UnaryOp .Not a pos) (pK ma):=PE.wk (yW (pos:=pos) ha) fun σ H Q ⟨Z,F,env,fp,S,q⟩=>by
 unfold pK at q
 refine tE.bind S (fun c e=>by rw[e]at q;exact q) (fun e=>by rw[e]at q;exact q) fun x v H1 F1 f1 e1 g1 r1 n1 d1 w1=>?_
 rw[e1]at q
 cases x with
 | bl b=>unfold Rel at r1;exact⟨b,r1.1,q.scal g1 gR⟩
 | _=>exact q.elim
theorem ld(ha:SE X T W a ma):SE X T W (.BoolOp op [a] pos) ma:=yV ha
theorem tE.later(S:ar T Z F H σ env fp)(g1:Gr F H F' H')(q:GE T W Z.B F (Own fp) σ H Q (m env)):tE T W m σ H' Q:=by
 refine⟨Z,F',env,fp,S.grow g1,?_⟩
 cases e2:m env with
 | ok b=>rw[e2]at q;exact fun v H2 F2 f g2 r n d w=>q v H2 F2 f (g1.trans g2) r n d fun a ha=>g1.ext.free (w a ha)
 | exc c=>rw[e2]at q;exact fun H' x=>q H' (g1.ext.trans x)
 | stuck=>rw[e2]at q;exact q
theorem oj{aN:List Expr}(ha:SE X T W a ma)(hb:SE X T W (.BoolOp .And (b::aN) pos) mb):SE X T W (.BoolOp .And (a::b::aN) pos) (jL ma mb):=PE.wk (y3 ha hb) fun σ H Q ⟨Z,F,env,fp,S,q⟩=>by
 unfold jL at q
 refine tE.bind S (fun c e=>by rw[e]at q;exact q) (fun e=>by rw[e]at q;exact q) fun x v H1 F1 f1 e1 g1 r1 n1 d1 w1=>?_
 rw[e1]at q
 cases x with
 | bl b =>
  unfold Rel at r1
  refine⟨b,r1.1,?_⟩
  cases b with
  | true=>exact(if_pos rfl).mpr (tE.later S g1 q)
  | false=>exact(if_neg (by decide)).mpr (q.scal g1 gR)
 | _=>exact q.elim
theorem Bz{aN:List Expr}(ha:SE X T W a ma)(hb:SE X T W (.BoolOp .Or (b::aN) pos) mb):SE X T W (.BoolOp .Or (a::b::aN) pos) (tY ma mb):=PE.wk (BK ha hb) fun σ H Q ⟨Z,F,env,fp,S,q⟩=>by
 unfold tY at q
 refine tE.bind S (fun c e=>by rw[e]at q;exact q) (fun e=>by rw[e]at q;exact q) fun x v H1 F1 f1 e1 g1 r1 n1 d1 w1=>?_
 rw[e1]at q
 cases x with
 | bl b =>
  unfold Rel at r1
  refine⟨b,r1.1,?_⟩
  cases b with
  | false=>exact(if_neg (by decide)).mpr (tE.later S g1 q)
  | true=>exact(if_pos rfl).mpr (q.scal g1 gR)
 | _=>exact q.elim
def xq(T:Tb)(W:Nat->St->Hp->Prop)(f:PV->Res PV)(r:V->Hp->VK->Prop):Prop :=
 ∀(B F L:Addr->Prop) (σ:St) (H:Hp) (Q:VK) (F':Addr->Prop) (H':Hp) (x:PV) (v:V) (fx:List Addr),Gr F H F' H'->Rel T F' B L H' x v fx->(∀a∈fx,¬F' a)->fx.Nodup->(∀a∈fx,H a=none)->GE T W B F L σ H Q (f x)->r v H' Q
theorem tE.mir1(hm:xq T W f r)(h:tE T W (mUn f m) σ H Q):tUn r (tE T W m) σ H Q:=by
 obtain⟨Z,F,env,fp,S,q⟩:=h
 unfold mUn at q
 refine tE.bind S (fun c e=>by rw[e]at q;exact q) (fun e=>by rw[e]at q;exact q) fun x v H1 F1 f1 e1 g1 r1 n1 d1 w1=>?_
 rw[e1]at q
 exact hm Z.B F (Own fp) σ H Q F1 H1 x v f1 g1 r1 n1 d1 w1 q
def jC:PV->Res PV
 | .int i=>.ok (.int (-i))
 | _=>.stuck
theorem ir(ha:SE X T W a m):SE X T W (.UnaryOp .USub a pos) (mUn jC m):=PE.wk (BJ (pos:=pos) yg ha) fun σ H Q h=>tE.mir1 (fun B F L σ H Q F' H' x v fx g r _ _ _ q=>by
 cases x with
 | int i=>unfold Rel at r;exact⟨i,r.1,q.scal g d6⟩
 | _=>exact q.elim) h
def cK(k:Nat):List Nat->List PV->Option PV
 | j::ks,v::vs=>if j=k then some v else cK k ks vs
 | _,_=>none
def Fl.isOwn:Fl->Bool
 | .own=>true
 | _=>false
def aT(k:Nat):PV->Res PV
 | .obj f _ ks vs=>match cK k ks vs with
  | some v=>if f.isOwn&&v.has Fl.isOwn then .stuck else .ok v
  | none=>.stuck
 | _=>.stuck
mutual
theorem Rel.noOwn:∀{x:PV}{v:V}{fp:List Addr},x.has Fl.isOwn=false->Rel T F B L H x v fp->fp=[]
 | .non,_,_,_,h | .bl _,_,_,_,h | .int _,_,_,_,h | .str _,_,_,_,h=>by unfold Rel at h;exact h.2
 | .lst f xs,_,fp,hp,h=>by
  unfold Rel at h
  simp only[PV.has,Bool.or_eq_false_iff]at hp
  obtain⟨a,vs,fp',e,hl,hr,hf⟩:=h
  cases f with
  | own=>exact absurd hp.1 (by decide)
  | frz | bor | lnt | mod=>exact hf.2
 | .tup xs,_,fp,hp,h=>by
  unfold Rel at h
  simp only[PV.has]at hp
  obtain⟨a,vs,e,hl,hr⟩:=h
  exact RelL.noOwn hp hr
 | .obj f c ks xs,_,fp,hp,h=>by
  unfold Rel at h
  simp only[PV.has,Bool.or_eq_false_iff]at hp
  obtain⟨a,dx,vs,fp',e,hl,hk,hr,hf,ha⟩:=h
  cases f with
  | own=>exact absurd hp.1 (by decide)
  | frz | bor | lnt | mod=>exact hf.2
 | .exc c,_,fp,hp,h=>by
  unfold Rel at h
  obtain⟨a,_,_,e⟩:=h
  exact e
theorem RelL.noOwn:∀{xs:List PV}{vs:List V}{fp:List Addr},hasL Fl.isOwn xs=false->RelL T F B L H xs vs fp->fp=[]
 | [],_,_,_,h=>by unfold RelL at h;exact h.2
 | x::xs,_,fp,hp,h=>by
  unfold RelL at h
  simp only[hasL,Bool.or_eq_false_iff]at hp
  obtain⟨v,ws,f1,f2,e,h1,h2,rfl⟩:=h
  rw[Rel.noOwn hp.1 h1,RelL.noOwn hp.2 h2]
  rfl
end
theorem RelL.get:∀{xs:List PV}{vs:List V}{fp:List Addr}{i:Nat}{x:PV},RelL T F B L H xs vs fp->xs[i]?=some x->∃v f,vs[i]?=some v/\Rel T F B L H x v f/\f.Sublist fp
 | [],_,_,_,_,_,e=>by simp at e
 | y::xs,_,fp,0,x,h,e=>by
  unfold RelL at h
  obtain⟨v,ws,f1,f2,rfl,h1,h2,rfl⟩:=h
  simp at e
  subst e
  exact⟨v,f1,by simp,h1,List.sublist_append_left _ _⟩
 | y::xs,_,fp,i+1,x,h,e=>by
  unfold RelL at h
  obtain⟨v,ws,f1,f2,rfl,h1,h2,rfl⟩:=h
  obtain⟨w,f,e1,r,s⟩:=RelL.get (i:=i) h2 (by simpa using e)
  exact⟨w,f,by simpa using e1,r,s.trans (List.sublist_append_right _ _)⟩
theorem nC:∀{ks:List Nat}{xs:List PV}{vs:List V}{fp:List Addr}{x:PV},RelL T F B L H xs vs fp->cK k ks xs=some x->∃v f,((ks.map T.att).zip vs).lookup (T.att k)=some v/\Rel T F B L H x v f/\f.Sublist fp
 | [],_,_,_,_,_,e | j::ks,[],_,_,_,_,e=>by simp[cK]at e
 | j::ks,y::xs,_,fp,x,h,e=>by
  unfold RelL at h
  obtain⟨v,ws,f1,f2,rfl,h1,h2,rfl⟩:=h
  unfold cK at e
  by_cases hj:j=k
  ·rw[if_pos hj]at e
   cases e
   subst hj
   exact⟨v,f1,by simp,h1,List.sublist_append_left _ _⟩
  ·rw[if_neg hj]at e
   obtain⟨w,f,e1,r,s⟩:=nC (ks:=ks) h2 e
   refine⟨w,f,?_,r,s.trans (List.sublist_append_right _ _)⟩
   have:(T.att k==T.att j)=false:=by
    rw[beq_eq_false_iff_ne]
    exact fun z=>hj (T.inj _ _ z).symm
   rw[List.map_cons,List.zip_cons_cons,List.lookup_cons,this]
   exact e1
theorem vx(hK:X.K=T.K)(hf:T.att k=f)(hc:∀c < T.nc,Cls T.K (T.cls c))(hn:∀c < T.nc,dA T.K (T.cls c) f)(h:tE T W (mUn (aT k) m) σ H Q):Br X.K (tE T W m) f σ H Q:=by
 obtain⟨Z,F,env,fp,S,q⟩:=h
 unfold mUn at q
 refine tE.bind S (fun c e=>by rw[e]at q;exact q) (fun e=>by rw[e]at q;exact q) fun x v H1 F1 f1 e1 g1 r1 n1 d1 w1=>?_
 rw[e1]at q
 cases x with
 | obj fl c ks xs =>
  simp only[Res.ok_bind,aT]at q
  cases e2:cK k ks xs with
  | none=>rw[e2]at q;exact q.elim
  | some y =>
   rw[e2]at q
   dsimp only at q
   unfold Rel at r1
   obtain⟨a,dx,vs,fp',rfl,hl,hk,hr,hfl,_⟩:=r1
   obtain⟨w,f',l1,l2,l3⟩:=nC hr e2
   have e0:f'=[]:=by
    cases fl with
    | own =>
     simp only[Fl.isOwn,Bool.true_and]at q
     by_cases ho:y.has Fl.isOwn=true
     ·rw[if_pos ho]at q;exact q.elim
     ·exact Rel.noOwn (by simpa using ho) l2
    | frz | bor | lnt | mod=>obtain⟨rfl,_⟩:=hfl;exact List.sublist_nil.mp l3
   subst e0
   by_cases hb:(fl.isOwn&&y.has Fl.isOwn)=true
   ·rw[if_pos hb]at q;exact q.elim
   ·rw[if_neg hb]at q
    rw[hK]
    exact⟨a,_,dx,_,w,rfl,hl,hc c hk.2,hn c hk.2,by rw[<- hf];exact l1,q.scal g1 l2⟩
 | _=>exact q.elim
theorem vM(hK:X.K=T.K)(hf:T.att k=f)(hc:∀c < T.nc,Cls T.K (T.cls c))(hn:∀c < T.nc,dA T.K (T.cls c) f)(he:SE X T W e m)(hb:attributeBase e f X.env (eval e X.env)=eval e X.env:=by rfl) :
  SE X T W (.Attribute e f pos) (mUn (aT k) m):=PE.wk (yZ (pos:=pos) he hb) fun σ H Q h=>vx hK hf hc hn h
end
end PR
namespace L2
open PySem PySem.Spec
theorem cW.there(x:cW P w H h a o):∃u,h.get? a=some u:=by
 cases o with
 | lst xs=>obtain⟨_,_,_,_,e⟩:=x;exact⟨_,e⟩
 | tup xs=>obtain⟨_,_,_,o,e,_⟩:=x;exact⟨_,e⟩
 | dK kvs | dT kvs=>obtain⟨_,_,_,_,o,_,_,e,_⟩:=x;exact⟨_,e⟩
 | set S n=>obtain⟨o,_,_,_,e,_⟩:=x;exact⟨_,e⟩
 | ins C dx fs=>obtain⟨_,_,_,e,_⟩:=x;exact⟨_,e⟩
 | own y=>exact x
 | xd fs=>obtain⟨_,⟨_,_,_,e,_⟩,_⟩:=x;exact⟨_,e⟩
 | rng lo hi=>obtain⟨_,_,_,e⟩:=x;exact⟨_,e⟩
 | frz ob u=>obtain⟨e,_⟩:=x;exact⟨_,e⟩
 | tbl ps | met f y=>exact⟨_,(show h.get? a=some _ from x)⟩
 | ext φ=>obtain⟨_,q,_⟩:=x;exact q
end L2
namespace PR
open PySem PySem.Spec L2
structure Fly(P:Program)(w:World)(outer:List Env)(H:Hp)(s:Shared)(cls:Value)(H':Hp)(e:Value)(s':Shared):Prop where
 os:s'.os=s.os
 bare:PyProof.Rows.AllBare s'.gens
 un:Un (frs outer) [] H H' s.heap s'.heap
 hok:HOk P w H' s'.heap
 fly:∃x a0 Bh,e=.ref x/\Heap.FlyingW Bh outer x cls a0 s'.heap/\(∀b o u,H' b=some u->s'.heap.get? b=some o->Bh.get? b=some o)/\
  (∀b o o',s'.heap.get? b=some o->s.heap.get? b=some o'->b∉frs outer->Bh.get? b=some o)
def CXP(P:Program)(w:World):CXT:=fun outer H s E e s'=>∃cls H',Fly P w outer H s cls H' e s'/\E cls none H'
def XF(X:Cx)(T:Tb)(W:Nat->St->Hp->Prop):Prop:=∀(pins:List (Addr×Obj)) (σ:St) (H:Hp) (s:Shared) (c:Nat) (H':Hp) (e:Value) (s':Shared),L2.Inv X pins σ H s->Fly X.prog X.w X.stack H s (.ref (T.xcl c)) H' e s'->W c σ H'->X.xe e s'
def XM(X:Cx)(T:Tb)(W:Nat->St->Hp->Prop):Prop:=∀(pins:List (Addr×Obj)) (σ:St) (H:Hp) (s:Shared) (c:Nat) (h':Heap) (e:Addr) (vs:List Value),L2.Inv X pins σ H s->Heap.MadeExcOf s.heap h' e (.ref (T.xcl c)) vs->W c σ H->X.xe (.ref e) { s with heap:=h' }
section
variable{P:Program}{w:World}{K:PySem.W.Frag}{mg:Str->Option Value}{base:Heap}{N:List Str}{qual:Str}{scope:Scope}{f:Addr}{cd:Value}{A:Around}{outer:List Env}{s:Shared}{H:Hp}{E:XK}
theorem wK{H:Hp}{h h' Bh:Heap}(ok:HOk P w H h)(k:∀b o u,H b=some u->h.get? b=some o->Bh.get? b=some o)(st:Bh.StaysIn h'):HOk P w H h':=fun a o e =>
 (ok a o e).stay (fun b u hb q=>by
  rcases hb with rfl | hb
  ·exact st _ _ (k b u _ e q)
  ·exact st _ _ (k b u _ hb q)) (fun _ q=>q) fun _ _ q=>q
theorem kO(I:L2.Inv X pins σ H1 s1)(hst:X.stack=X.env::X.outer)(hex:X.ex=[])(hfrm:X.env.frame=some X.env.locals)
  (hos:os2=s1.os) (hb:PyProof.Rows.AllBare g2) (u2:Un (frs X.stack) [] H1 H2 s1.heap h2) (ok:HOk X.prog X.w H2 h2) (tr:∀b o u,H2 b=some u->h2.get? b=some o->Bh.get? b=some o)
  (ol:∀b o o',h2.get? b=some o->s1.heap.get? b=some o'->b∉frs X.stack->Bh.get? b=some o) (fl:Heap.FlyingW Bh X.outer x cls a0 h') (up:h2.UpToSlots h') :
  Fly X.prog X.w X.outer X.H₀ X.s₀ cls H2 (.ref x) ⟨h',g2,d2,t2,os2⟩:=by
 have u1:=I.base
 rw[hex]at u1
 have hfs:frs X.stack=X.env.locals::frs X.outer:=by
  rw[hst]
  show List.filterMap _ _=_
  rw[List.filterMap_cons,hfrm]
  rfl
 have u:Un (frs X.stack) [] X.H₀ H2 X.s₀.heap h2:=(u1.mono (fun b hb=>by rw[hfs];exact List.mem_cons_of_mem _ hb) fun _ z=>z).trans u2
 have neL:∀b o,X.s₀.heap.get? b=some o->b≠X.env.locals:=fun b o e=>Nat.ne_of_lt (Nat.lt_of_lt_of_le (Heap.lt_size e) I.ok.above)
 have nst:∀b o,X.s₀.heap.get? b=some o->b∉frs X.outer->b∉frs X.stack:=fun b o e hn hb=>by
  rw[hfs]at hb
  rcases List.mem_cons.mp hb with z | z
  ·exact neL b o e z
  ·exact hn z
 have data:∀b o,X.s₀.heap.get? b=some o->b∈frs X.outer->∀vs,o.data≠.fields vs:=fun b o e hb vs z=>by
  obtain⟨_,o',ho',hd'⟩:=I.ok.funs.mem hb
  rw[e]at ho'
  cases ho'
  exact hd' vs z
 refine⟨hos.trans I.os,hb,⟨fun b o e n hf _=>?_,fun b o e n hf _=>?_,u.free,fun b o e _=>?_,u.tups,u.frzs,u.tbls⟩,wK ok tr fl.1,⟨x,a0,Bh,rfl,fl,fun b o v e q=>?_,fun b o o' e q hf=>?_⟩⟩
 ·have q:=u.keep b o e n (nst b o e hf) (by simp)
  obtain⟨o1,e1⟩:=u1.there b o e (by simp)
  exact fl.1 b o (ol b o o1 q e1 (nst b o e hf))
 ·obtain⟨sl,q⟩:=u.slot b o e n (by rw[hfs];exact List.mem_cons_of_mem _ hf) (by simp)
  obtain⟨sl',q'⟩:=up b _ q (data b o e hf)
  exact⟨sl',q'⟩
 ·by_cases hf:b∈frs X.outer
  ·obtain⟨_,o2,ho2,_⟩:=fl.2.2.1.mem hf
   exact⟨o2,ho2⟩
  ·obtain⟨o1,e1⟩:=u1.there b o e (by simp)
   obtain⟨o2,e2⟩:=u2.there b o1 e1 (by simp)
   exact⟨o2,fl.1 b o2 (ol b o2 o1 e2 e1 (nst b o e hf))⟩
 ·have hlt:=ok.lt e
  obtain⟨o2,e2⟩:∃o2,h2.get? b=some o2:=by
   have x:=ok b v e
   exact cW.there x
  have:=fl.1 b o2 (tr b o2 v e e2)
  rw[q]at this
  cases this
  exact tr b o v e e2
 ·obtain⟨o1,e1⟩:=u1.there b o' q (by simp)
  obtain⟨o2,e2⟩:=u2.there b o1 e1 (by simp)
  have hB:=ol b o2 o1 e2 e1 (nst b o' q hf)
  have:=fl.1 b o2 hB
  rw[e]at this
  cases this
  exact hB
variable{T:Tb}
abbrev WD(T:Tb)(E:XK):Nat->St->Hp->Prop:=fun c _ H=>E (.ref (T.xcl c)) none H
theorem yf:XF (cH (CXP P w) P w K mg base N qual scope f cd A outer s H E) T (WD T E):=by
 intro pins σ H1 s1 c H2 e s2 I fl hW
 obtain⟨x,a0,Bh,rfl,fly,tr,ol⟩:=fl.fly
 refine wpAny_leaves_onW (L:=s.heap.objs.size) I.ok.frames rfl fly fun h' fly' up=>?_
 obtain⟨h2,g2,d2,t2,os2⟩:=s2
 exact⟨_,H2,kO I rfl rfl rfl fl.os fl.bare fl.un fl.hok tr ol fly' up,hW⟩
theorem dM:XM (cH (CXP P w) P w K mg base N qual scope f cd A outer s H E) T (WD T E):=by
 intro pins σ H1 s1 c h2 e vs I mx hW
 have hin:∀env ∈(cH (CXP P w) P w K mg base N qual scope f cd A outer s H E).stack,∀b,env.frame=some b->b∈frs (cH (CXP P w) P w K mg base N qual scope f cd A outer s H E).stack:=fun env he b hb=>List.mem_filterMap.mpr ⟨env,he,hb⟩
 refine wpAny_leaves_madeW (base:=PySem.W.hideAll s1.heap (frs (cH (CXP P w) P w K mg base N qual scope f cd A outer s H E).stack)) (h:=s1.heap) (L:=s.heap.objs.size) I.ok.frames rfl (fun b o q=>PySem.W.of_hideAll _ q) (PySem.W.funFrames_hide I.stack hin) mx fun h' t fly' _ _ up=>?_
 obtain⟨h1,g1,d1,t1,os1⟩:=s1
 have fresh:∀b o,h1.get? b=some o->h2.get? b=some o:=mx.keeps
 have nfr:∀b u,H1 b=some u->b∉frs (cH (CXP P w) P w K mg base N qual scope f cd A outer s H E).stack:=fun b u e hb=>by
  rw[I.stkFree b hb]at e;cases e
 refine⟨_,H1,kO I rfl rfl rfl rfl I.bare (h2:=h2) (Bh:=PySem.W.hideAll h1 (frs (cH (CXP P w) P w K mg base N qual scope f cd A outer s H E).stack)) (Un.kept fresh) (I.hok.kept fresh) (fun b o u e q=>?_) (fun b o o' e q hb=>?_) fly' up,hW⟩
 ·obtain⟨o1,e1⟩:=cW.there (I.hok b u e)
  have:=fresh b o1 e1
  rw[q]at this;cases this
  exact PySem.W.hideAll_get _ e1 (nfr b u e)
 ·have:=fresh b o' q
  rw[e]at this;cases this
  exact PySem.W.hideAll_get _ q hb
end
structure Ee(X:Cx)(x:Str)(C:Addr):Prop where
 bm:X.mg x=some (.ref C)
 obj:∃bm N nm q bs hdct sn sub ab col dd k0 k1 k2 k3 k5 mN,X.base.get? C=some (excClassObj nm q C N bs bm hdct sn sub ab col dd k0 k1 k2 k3 k5 "ValueError.__new__")/\X.base.Ns N mN/\mN "__init__" = none /\
  OwnTail X.base [.type "ValueError", .type "Exception", .type "BaseException", .type "object"] bm
section
variable{X:Cx}{T:Tb}{W:Nat->St->Hp->Prop}
theorem rR(O:Ee X x (T.xcl c))(hx:XM X T W)(hc:X.calm=true)(hg:Gl X x)(ha:SA X T W (e::es) ms)(hne:∀env pvs,ms env=.ok pvs->pvs.length<=100)(hd:(x ==("__debug__" : Str))=false:=by decide)
  (he:starEach (e::es) X.env=(false,eval e X.env)::starEach es X.env:=by rfl) (hpl:(backTo cpos (starEach es X.env)).any (·.1)=false:=by rfl) :
  SS X T W (.Raise (some (.Call (.Name x np) (e::es) [] cpos)) none pos) (fun env=>match ms env with
   | .ok _=>.exc c env
   | .exc k=>.exc k env
   | .stuck=>.stuck):=by
 intro pins s σ H D I h
 obtain⟨Z,F,env,fp,S,q⟩:=h
 dsimp only at q
 obtain⟨tl,N,nm,qn,bs,hdct,sn,sub,ab,col,dd,k0,k1,k2,k3,k5,mN,hC,hN,hni,TL⟩:=O.obj
 refine wpAny_Raise_call_subT (C:=T.xcl c) (nm:=nm) (q:=qn) (N:=N) (bs:=bs) (bm:=tl) (hdct:=hdct) (sn:=sn) (sub:=sub) (ab:=ab) (col:=col) (dd:=dd) (k0:=k0) (k1:=k1) (k2:=k2) (k3:=k3) (k5:=k5)
  PySem.F.excBase_ValueError (mN:=mN) (TL.hasType PySem.F.excBase_ValueError.hasBase) (I.ok.hd hc) (by rw[he];show(false ||(backTo cpos (starEach es X.env)).any (·.1))=false;rw[hpl];rfl) hni (fk I hg O.bm ⟨rfl,?_⟩ hd)
 have h2:=ha cpos pins s σ H (fun vs H'=>vs.length <= 100/\W c σ H') I (tA.bind S (fun k e H' x=>by rw [e] at q;exact q F H' σ fp (S.grow (Gr.same S.hp.ft x))) (fun e=>by rw [e] at q;exact q) fun pvs vs H' F' f e g r _ _ _=>by
  rw[e]at q
  exact⟨by rw[<- r.length];exact hne env pvs e,q F' H' σ fp (S.grow g)⟩)
 rw[he]at h2 ⊢
 refine Calls.evalArgs_plain (wpAny_mono h2 (fun vs s₂ h₂=>?_) fun _ _ y=>y)
 obtain⟨vs',H',I2,rv,hl,hw⟩:=h₂
 refine⟨rfl,?_,I2.bk _ _ hC,hN.keeps I2.bk,TL.keeps I2.bk,fun h' e' mx=>hx pins σ H' s₂ c h' e' vs I2 mx hw⟩
 rw[<- rv.length,sizeLine_eq]
 omega
end
def ax(m:List PV->Res PV)(xs:List PV):Res PV:=match m (mapL Fl.toBor xs)with
 | .ok v=>if v.has Fl.isBor then .stuck else .ok v
 | .exc c=>.exc c
 | .stuck=>.stuck
def bG(n:Nat)(m:MS)(args:List PV):Res PV:=match m (args.map some++List.replicate (n - args.length) none)with
 | .next _=>.ok .non
 | .ret v=>.ok v
 | .exc c _=>.exc c
 | _=>.stuck
def GF(T:Tb)(Z:Zn)(Q:VK)(E:XK):Res PV->Prop
 | .ok pv=>∀F H v f,dv T Z F H->Rel T F Z.B NoL H pv v f->f.Nodup->(∀a∈f,¬F a)->(∀a∈f,Z.H0 a=none\/Z.fp0 a)->Q v H
 | .exc c=>∀H,(∀a o,Z.H0 a=some o->¬Z.fp0 a->H a=some o)->E (.ref (T.xcl c)) none H
 | .stuck=>False
structure mG(T:Tb)(F B:Addr->Prop)(H:Hp)(pvs:List PV)(vs:List V)(f:List Addr):Prop where
 rel:RelL T F B NoL H pvs vs f
 nd:f.Nodup
 nf:∀a∈f,¬F a
 bo:∀a,B a->(∃o,H a=some o)/\a∉f
 ft:∀a,F a->∃o,H a=some o
def spM(T:Tb)(n:Nat)(m:List PV->Res PV):Sp:=fun vs H Q E=>vs.length=n/\∃pvs F B f,mG T F B H pvs vs f/\GF T ⟨H,F,(·∈f),B,none⟩ Q E (m pvs)
theorem RelL.split:∀{xs:List PV}{vs:List V}{f:List Addr},RelL T F B L H xs vs f->f.Nodup ->
  ∃g:Nat->List Addr,(∀(i:Nat) x v,xs[i]?=some x->vs[i]?=some v->Rel T F B L H x v (g i))/\(∀i,(g i).Nodup)/\(∀i j,i≠j->∀a∈g i,a∉g j)/\∀i a,a∈g i->a∈f
 | [],_,_,_,_=>⟨fun _=>[],fun i x v e=>by simp at e,fun _=>List.nodup_nil,fun _ _ _ _ z=>(nomatch z),fun _ _ z=>(nomatch z)⟩
 | x::xs,_,_,h,nd=>by
  unfold RelL at h
  obtain⟨v,ws,f1,f2,rfl,h1,h2,rfl⟩:=h
  obtain⟨n1,n2,n3⟩:=List.nodup_append.mp nd
  obtain⟨g,g1,g2,g3,g4⟩:=RelL.split h2 n2
  refine⟨fun i=>match i with | 0=>f1 | j+1=>g j,fun i y u e1 e2=>?_,fun i=>?_,fun i j hij a ha=>?_,fun i a ha=>?_⟩
  ·cases i with
   | zero=>simp at e1 e2;subst e1 e2;exact h1
   | succ i=>exact g1 i y u (by simpa using e1) (by simpa using e2)
  ·cases i with
   | zero=>exact n1
   | succ i=>exact g2 i
  ·cases i with
   | zero =>
    cases j with
    | zero=>exact absurd rfl hij
    | succ j=>exact fun z=>n3 a ha a (g4 j a z) rfl
   | succ i =>
    cases j with
    | zero=>exact fun z=>n3 a z a (g4 i a ha) rfl
    | succ j=>exact g3 i j (fun z=>hij (by rw[z])) a ha
  ·cases i with
   | zero=>exact List.mem_append_left _ ha
   | succ i=>exact List.mem_append_right _ (g4 i a ha)
section
variable{P:Program}{w:World}{K:PySem.W.Frag}{mg:Str->Option Value}{base:Heap}{T:Tb}
theorem gf(N:List Str)(R:mG T F B H pvs vs f)(pin:Option V)(hpin:∀v,pin=some v->vs[0]?=some v/\∃fl c ks xs,pvs[0]?=some (.obj fl c ks xs)) :
  ∃fp,ar T ⟨H,F,(·∈f),B,pin⟩ F H (L2.eh N vs) (pvs.map some++List.replicate (N.length - pvs.length) none) fp:=by
 obtain⟨g,g1,g2,g3,g4⟩:=R.rel.split R.nd
 have hl:=R.rel.length
 refine⟨g,⟨R.bo,fun _ _ h _=>h,fun _ h=>h,fun _ h=>.inl h,R.ft⟩,?_,fun i pv e=>?_,g2,g3,fun i a ha=>⟨R.nf a (g4 i a ha),R.rel.there a (g4 i a ha)⟩,fun i a ha=>.inr (g4 i a ha),fun i a ha=>R.rel.chg a (g4 i a ha),fun v hv=>?_⟩
 ·unfold L2.eh
  simp[hl]
 ·by_cases hi:i < pvs.length
  ·rw[List.getElem?_append_left (by simpa using hi),List.getElem?_map]at e
   obtain⟨x,e1,e2⟩:=Option.map_eq_some_iff.mp e
   cases e2
   obtain⟨v,_,ev,_⟩:=R.rel.get e1
   refine⟨v,?_,g1 i pv v e1 ev⟩
   unfold L2.eh
   rw[List.getElem?_append_left (by simpa[<- hl]using hi),List.getElem?_map,ev]
   rfl
  ·rw[List.getElem?_append_right (by simpa using hi),List.getElem?_replicate]at e
   split at e<;>cases e
 ·obtain⟨h1,fl,c,ks,xs,h2⟩:=hpin v hv
  have hl0:0 < vs.length:=(List.getElem?_eq_some_iff.mp h1).1
  have hp0:0 < pvs.length:=(List.getElem?_eq_some_iff.mp h2).1
  unfold L2.eh b8
  rw[List.getElem?_append_left (by simpa using hl0),List.getElem?_append_left (by simpa using hp0),List.getElem?_map,List.getElem?_map,h1,h2]
  exact⟨rfl,rfl⟩
theorem CM(F:Fun K x qual st f fd)(S:b_ N ps (am st))
  (body:∀ (cdv:Value) (A:Around) (outer:List Env) (s:Shared) (H:Hp) (E:XK),cL k (A.deeper (PyProof.Rows.envOfC qual (am st) s.heap.objs.size f cdv)) ->
   SSs (cH (CXP P w) P w K mg base N qual (am st) f cdv A outer s H E) T (WD T E) (aP st) m):bS P w K mg base (CXP P w) (k+1) f fd ps (spM T ps.length (bG N.length m)):=by
 obtain⟨oc,od,kV,doc,pm,an,cdv,ct,osl,rfl,lk,hcd⟩:=F.ex
 refine nD lk hcd S (fun vs H Q E h=>h.1) fun A outer s H vs Q E hr hsp=>⟨_,body cdv A outer s H E hr,?_⟩
 obtain⟨_,pvs,F,B,fl,R,q⟩:=hsp
 obtain⟨fp,S0⟩:=gf N R none (fun _ h=>nomatch h)
 refine⟨_,F,_,fp,S0,?_⟩
 unfold bG at q
 cases e:m (pvs.map some++List.replicate (N.length - pvs.length) none)with
 | next e'=>rw[e]at q;exact fun F' H' σ' fp' S'=>q F' H' .non [] S'.hp yH List.nodup_nil (fun _ z=>(nomatch z)) (fun _ z=>(nomatch z))
 | ret v=>rw[e]at q;exact q
 | brk e' | cont e'=>rw[e]at q;exact q.elim
 | exc c e'=>rw[e]at q;exact fun F' H' σ' fp' S'=>q H' S'.hp.keep
 | stuck=>rw[e]at q;exact q.elim
end
mutual
theorem Rel.toBor(hB:∀a,B a->B' a)(hL:∀a,L a->B' a):∀{x:PV}{v:V}{fp:List Addr},Rel T F B L H x v fp->Rel T F B' L' H (x.mapF Fl.toBor) v fp
 | .non,_,_,h | .bl _,_,_,h | .int _,_,_,h | .str _,_,_,h=>by unfold Rel at h;simp only[PV.mapF];unfold Rel;exact h
 | .lst f xs,_,fp,h=>by
  unfold Rel at h
  obtain⟨a,vs,fp',e,hl,hr,hf⟩:=h
  simp only[PV.mapF]
  unfold Rel
  cases f with
  | own | frz=>exact⟨a,vs,fp',e,hl,RelL.toBor hB hL hr,hf⟩
  | bor=>exact⟨a,vs,fp',e,⟨hB a hl.1,hl.2⟩,RelL.toBor hB hL hr,hf⟩
  | lnt=>exact⟨a,vs,fp',e,⟨hL a hl.1,.inl hl.2⟩,RelL.toBor hB hL hr,hf⟩
  | mod=>exact⟨a,vs,fp',e,hl,RelL.toBor hB hL hr,hf⟩
 | .tup xs,_,fp,h=>by
  unfold Rel at h
  obtain⟨a,vs,e,hl,hr⟩:=h
  simp only[PV.mapF]
  unfold Rel
  exact⟨a,vs,e,hl,RelL.toBor hB hL hr⟩
 | .obj f c ks xs,_,fp,h=>by
  unfold Rel at h
  obtain⟨a,dx,vs,fp',e,hl,hk,hr,hf,ha⟩:=h
  simp only[PV.mapF]
  unfold Rel
  have r:=RelL.toBor hB hL (L':=L') hr
  have hk':ks.length=(mapL Fl.toBor xs).length/\c < T.nc:=⟨by rw[r.length,hk.1,hr.length],hk.2⟩
  cases f with
  | own | frz=>exact⟨a,dx,vs,fp',e,hl,hk',r,hf,ha⟩
  | bor=>exact⟨a,dx,vs,fp',e,hl,hk',r,hf,hB a ha⟩
  | lnt=>exact⟨a,dx,vs,fp',e,hl,hk',r,hf,hL a ha⟩
  | mod=>exact ha.elim
 | .exc c,_,fp,h=>by unfold Rel at h;simp only[PV.mapF];unfold Rel;exact h
theorem RelL.toBor(hB:∀a,B a->B' a)(hL:∀a,L a->B' a):∀{xs:List PV}{vs:List V}{fp:List Addr},RelL T F B L H xs vs fp->RelL T F B' L' H (mapL Fl.toBor xs) vs fp
 | [],_,_,h=>by unfold RelL at h;simp only[mapL];unfold RelL;exact h
 | x::xs,_,fp,h=>by
  unfold RelL at h
  obtain⟨v,ws,f1,f2,e,h1,h2,rfl⟩:=h
  simp only[mapL]
  unfold RelL
  exact⟨v,ws,f1,f2,e,Rel.toBor hB hL h1,RelL.toBor hB hL h2,rfl⟩
end
mutual
theorem Rel.noB:∀{x:PV}{v:V}{fp:List Addr},x.has Fl.isBor=false->Rel T F B L H x v fp->Rel T F B' L H x v fp
 | .non,_,_,_,h | .bl _,_,_,_,h | .int _,_,_,_,h | .str _,_,_,_,h=>by unfold Rel at h ⊢;exact h
 | .lst f xs,_,fp,hp,h=>by
  unfold Rel at h ⊢
  simp only[PV.has,Bool.or_eq_false_iff]at hp
  obtain⟨a,vs,fp',e,hl,hr,hf⟩:=h
  refine⟨a,vs,fp',e,?_,RelL.noB hp.2 hr,hf⟩
  cases f with
  | bor=>exact absurd hp.1 (by decide)
  | own | frz | lnt | mod=>exact hl
 | .tup xs,_,fp,hp,h=>by
  unfold Rel at h ⊢
  simp only[PV.has]at hp
  obtain⟨a,vs,e,hl,hr⟩:=h
  exact⟨a,vs,e,hl,RelL.noB hp hr⟩
 | .obj f c ks xs,_,fp,hp,h=>by
  unfold Rel at h ⊢
  simp only[PV.has,Bool.or_eq_false_iff]at hp
  obtain⟨a,dx,vs,fp',e,hl,hk,hr,hf,ha⟩:=h
  refine⟨a,dx,vs,fp',e,hl,hk,RelL.noB hp.2 hr,hf,?_⟩
  cases f with
  | bor=>exact absurd hp.1 (by decide)
  | own | frz | lnt | mod=>exact ha
 | .exc c,_,fp,hp,h=>by
  unfold Rel at h ⊢
  exact h
theorem RelL.noB:∀{xs:List PV}{vs:List V}{fp:List Addr},hasL Fl.isBor xs=false->RelL T F B L H xs vs fp->RelL T F B' L H xs vs fp
 | [],_,_,_,h=>by unfold RelL at h ⊢;exact h
 | x::xs,_,fp,hp,h=>by
  unfold RelL at h ⊢
  simp only[hasL,Bool.or_eq_false_iff]at hp
  obtain⟨v,ws,f1,f2,e,h1,h2,rfl⟩:=h
  exact⟨v,ws,f1,f2,e,Rel.noB hp.1 h1,RelL.noB hp.2 h2,rfl⟩
end
theorem RelL.append:∀{xs ys:List PV}{vs us:List V}{f g:List Addr},RelL T F B L H xs vs f->RelL T F B L H ys us g->RelL T F B L H (xs++ys) (vs++us) (f++g)
 | [],_,_,_,_,_,h,r=>by unfold RelL at h;obtain⟨rfl,rfl⟩:=h;exact r
 | x::xs,_,_,_,_,_,h,r=>by
  unfold RelL at h
  obtain⟨v,ws,f1,f2,rfl,h1,h2,rfl⟩:=h
  show RelL T F B L H (x::(xs++_)) (v::(ws++_)) _
  unfold RelL
  exact⟨v,_,f1,_,rfl,h1,RelL.append h2 r,by rw[List.append_assoc]⟩
section
variable{X:Cx}{T:Tb}{W:Nat->St->Hp->Prop}{Z:Zn}{F F1:Addr->Prop}{H H1:Hp}{σ:St}{env:En}{fp:Nat->List Addr}
theorem xH
  (G:bS X.prog X.w X.K X.mg X.base (CXP X.prog X.w) k f fd ps (spM T ps.length m)) (hr:cL k X.A) (hb:cX X.K fd ps ds) (hd:aG dvs ds) (hdp:∀F B L H,RelL T F B L H dps dvs []) (hx:XF X T W)
  (S:ar T Z F H σ env fp) (g:Gr F H F1 H1) (r:RelL T F1 Z.B (Own fp) H1 xs vs fx) (nf:∀a∈fx,¬F1 a) (nd:fx.Nodup) (new:∀a∈fx,H a=none) (q:GE T W Z.B F (Own fp) σ H Q (ax m (xs++dps)))
  (I1:L2.Inv X pins σ H1 s1) (rv:aG vs us) (hlen:vs.length+dvs.length=ps.length):wpAny (model X.prog X.w) X.A (call (.ref f) us) (EP X pins σ Q) X.xe s1:=by
 have r2:aG (vs++dvs) (us++ds):=rv.append hd
 have hl:(us++ds).length=ps.length:=by rw[<- r2.length,List.length_append];exact hlen
 have rr:RelL T F1 Z.B (Own fp) H1 (xs++dps) (vs++dvs) fx:=by
  have:=RelL.append r (hdp F1 Z.B (Own fp) H1)
  rwa [List.append_nil]at this
 have hBo:∀a,Z.B a->(∃o,H1 a=some o)/\a∉fx:=fun a h=>by
  obtain⟨⟨o,h1⟩,h2⟩:=S.hp.bo a h
  have h3:=S.hp.keep a o h1 h2
  exact⟨⟨o,g.ext a o h3⟩,fun z=>by rw[new a z]at h3;cases h3⟩
 have hOw:∀a,Own fp a->(∃o,H1 a=some o)/\a∉fx:=fun a ⟨i,hi⟩=>by
  obtain⟨_,o,ho⟩:=S.dis i a hi
  exact⟨⟨o,g.ext a o ho⟩,fun z=>by rw[new a z]at ho;cases ho⟩
 have R:mG T F1 (fun a=>(∃o,H1 a=some o)/\a∉fx) H1 (mapL Fl.toBor (xs++dps)) (vs++dvs) fx:=⟨RelL.toBor hBo hOw rr,nd,nf,fun a h=>h,g.dom⟩
 refine wpAny_call (codeAny_mono (G.run X.A X.stack s1 H1 ⟨us,[]⟩ (us ++ ds) (vs ++ dvs) Q (fun cls _ H'=>∃ c,cls=.ref (T.xcl c)/\W c σ H') hr I1.env0 (hb s1 us I1.kIn hl) r2
  ⟨by rw[r2.length,hl],_,F1,_,fx,R,?_⟩) fun rs s' hq=>?_)
 ·unfold ax at q
  cases e:m (mapL Fl.toBor (xs++dps))with
  | ok v =>
   rw[e]at q
   dsimp only at q
   intro F2 H2 u f2 hp2 r3 nd2 nf2 new2
   by_cases hbr:v.has Fl.isBor=true
   ·rw[if_pos hbr]at q;exact q.elim
   ·rw[if_neg hbr]at q
    have hbr':v.has Fl.isBor=false:=by simpa using hbr
    refine q u H2 F2 f2 ⟨fun a o h=>hp2.keep a o (g.ext a o h) fun z=>(by rw[new a z]at h;cases h),fun a h=>hp2.f0 a (g.mono a h),fun a h=>?_,hp2.ft⟩ ?_ nf2 nd2 fun a ha=>?_
    ·rcases hp2.fn a h with z | z | z
     ·exact g.only a z
     ·exact .inr (g.ext.free z)
     ·exact .inr (new a z)
    ·exact Rel.tr (fun _ h=>h) (fun _ h=>h) (fun _ h=>h.elim) (fun _ _ h _=>h) (fun _ _ _ h=>h) (Rel.noB (B':=Z.B) hbr' r3)
    ·rcases new2 a ha with z | z
     ·exact g.ext.free z
     ·exact new a z
  | exc c =>
   rw[e]at q
   exact fun H' h=>⟨c,rfl,q H' fun a o z=>h a o (g.ext a o z) fun z'=>by rw[new a z']at z;cases z⟩
  | stuck=>rw[e]at q;exact q.elim
 ·cases rs with
  | error e =>
   obtain⟨cls,H',fl,c,rfl,hw⟩:=hq
   exact hx pins σ H1 s1 c H' e s' I1 fl hw
  | ok fl =>
   cases fl with
   | ret u=>exact I1.after hq
   | next | brk | cont=>exact False.elim hq
theorem pd
  (G:bS X.prog X.w X.K X.mg X.base (CXP X.prog X.w) k f fd ps (spM T ps.length m)) (hr:cL k X.A) (hg:Gl X x) (hm:X.mg x=some (.ref f)) (hk:PySem.W.keepIn X.K (.ref f)=true) (hb:cX X.K fd ps ds) (hd:aG dvs ds) (hdp:∀F B L H,RelL T F B L H dps dvs []) (hx:XF X T W)
  (hn:∀env xs,ms env=.ok xs->xs.length+dvs.length=ps.length) (ha:SA X T W (e::es) ms)
  (hdb:(x ==("__debug__" : Str))=false:=by decide) (he:starEach (e::es) X.env=(false,eval e X.env)::starEach es X.env:=by rfl) (hpl:(backTo pos (starEach es X.env)).any (·.1)=false:=by rfl) :
  SE X T W (.Call (.Name x p) (e::es) [] pos) (ak (fun xs=>ax m (xs++dps)) ms):=by
 intro pins s σ H Q I h
 obtain⟨Z,F,env,fp,S,q⟩:=h
 unfold ak at q
 refine wpAny_Call_Name_kw (fk I hg hm ?_ hdb)
 refine PySem.W.callWith_K (h₀:=X.base) I.ok.mod.kin hk (thn (ha pos pins s σ H (fun vs H1=>∀ us s1,L2.Inv X pins σ H1 s1->aG vs us->wpAny (model X.prog X.w) X.A (call (.ref f) us) (EP X pins σ Q) X.xe s1) I
  (tA.bind S (fun c e=>by rw[e]at q;exact q) (fun e=>by rw[e]at q;exact q) fun xs vs H1 F1 f1 e1 g1 r1 n1 d1 w1 us s1 I1 rv=>?_)) fun us s1 ⟨vs,H1,I1,r,q1⟩=>⟨I1.kIn,q1 us s1 I1 r⟩) he hpl
 rw[e1]at q
 exact xH G hr hb hd hdp hx S g1 r1 n1 d1 w1 q I1 rv (by rw[<- r1.length];exact hn env xs e1)
def nV(X:Cx)(T:Tb)(k:Nat)(mn:Str)(ps:List Str)(ds:List Value)(disp:Nat->Option (List PV->Res PV)):Prop :=
 ∀c m,c < T.nc->disp c=some m->∃f fd,xr X.K (T.cls c) mn f/\cX X.K fd ps ds/\bS X.prog X.w X.K X.mg X.base (CXP X.prog X.w) k f fd ps (spM T ps.length m)
def pL(disp:Nat->Option (List PV->Res PV))(dps:List PV)(o:ME)(ms:MA):ME:=fun env=>(o env).bind fun ov=>match ov with
 | .obj _ c _ _=>match disp c with
  | some m=>(ms env).bind fun xs=>ax m ((ov::xs)++ dps)
  | none=>.stuck
 | _=>.stuck
theorem iO(hm:∀k,T.att k≠mn):∀(ks:List Nat) (vs:List V),((ks.map T.att).zip vs).lookup mn=none
 | [],_ | j::ks,[]=>rfl
 | j::ks,v::vs=>by
  rw[List.map_cons,List.zip_cons_cons,List.lookup_cons,show(mn==T.att j)=false by rw[beq_eq_false_iff_ne];exact(hm j).symm]
  exact iO hm ks vs
theorem wp
  (hK:X.K=T.K) (hc:∀c < T.nc,Cls T.K (T.cls c)) (hm:∀k,T.att k≠mn) (D:nV X T k mn ps ds disp) (e:disp c=some m) (r:Rel T F1 B L H1 (.obj fl c ks xs) v f1) (I1:L2.Inv X pins σ H1 s1) (ru:bp v u)
  (h:∀a f fd,u=.ref a->PySem.W.keepIn X.K (.ref f)=true->cX X.K fd ps ds->bS X.prog X.w X.K X.mg X.base (CXP X.prog X.w) k f fd ps (spM T ps.length m)->Q (.ref f,[.ref a]) s1) :
  wpAny (model X.prog X.w) X.A (getMethod u mn pl) Q X.xe s1:=by
 unfold Rel at r
 obtain⟨a,dx,vs,fp',rfl,hl,hk,hr,_,_⟩:=r
 obtain⟨f,fd,M,hb,G⟩:=D c m hk.2 e
 obtain rfl:u=Value.ref a:=ru
 refine oO I1 hl (by rw[hK];exact hc c hk.2) M (iO hm _ _) (h a f fd rfl M.kp hb G)
theorem vI
  (hK:X.K=T.K) (hc:∀c < T.nc,Cls T.K (T.cls c)) (hm:∀k,T.att k≠mn) (D:nV X T k mn ps ds disp) (hr:cL k X.A) (hd:aG dvs ds) (hdp:∀F B L H,RelL T F B L H dps dvs []) (hx:XF X T W)
  (hn:∀env xs,ms env=.ok xs->xs.length+1+dvs.length=ps.length) (ho:SE X T W o mo) (ha:SA X T W (e::es) ms)
  (hst:starEach (e::es) X.env=(false,eval e X.env)::starEach es X.env:=by rfl) (hpl:(backTo pos (starEach es X.env)).any (·.1)=false:=by rfl)
  (ht:eval (.Call (.Attribute o mn apos) (e::es) [] pos) X.env=(do
   let ov <- eval o X.env
   standAt apos.atName
   let(f,first) <- holding [ov] (getMethod ov mn pl)
   callWith pos f first (backTo pos (starEach (e::es) X.env)) (backToKw pos (keywordEach [] X.env))):=by rfl) :
  SE X T W (.Call (.Attribute o mn apos) (e::es) [] pos) (pL disp dps mo ms):=by
 intro pins s σ H Q I h
 obtain⟨Z,F,env,fp,S,q⟩:=h
 unfold pL at q
 refine PySem.W.methodCall_KW (pl:=pl) (thn (ho pins s σ H (fun v H1=>∃ ov F1 f1,mo env=.ok ov/\Gr F H F1 H1/\Rel T F1 Z.B (Own fp) H1 ov v f1/\(∀ a ∈ f1,¬ F1 a)/\f1.Nodup/\∀ a ∈ f1,H a=none) I
  (tE.bind S (fun c e=>by rw[e]at q;exact q) (fun e=>by rw[e]at q;exact q) fun ov v H1 F1 f1 e1 g1 r1 n1 d1 w1=>⟨ov,F1,f1,e1,g1,r1,n1,d1,w1⟩)) fun u s1 ⟨v,H1,I1,ru,ov,F1,f1,e1,g1,r1,n1,d1,w1⟩=>?_) ht
 rw[e1]at q
 simp only[Res.ok_bind]at q
 by_cases hobj:∃fl c ks xs m,ov=.obj fl c ks xs/\disp c=some m
 ·obtain⟨fl,c,ks,ys,m,rfl,em⟩:=hobj
  dsimp only at q
  rw[em]at q
  dsimp only at q
  refine wp hK hc hm D em r1 I1 ru fun a f fd eu hkp hb G=>?_
  subst eu
  refine PySem.W.callWith_K (first:=[.ref a]) (h₀:=X.base) I.ok.mod.kin hkp (thn (ha pos pins s1 σ H1 (fun vs H2=>∀ us s2,L2.Inv X pins σ H2 s2->aG vs us->wpAny (model X.prog X.w) X.A (call (.ref f) (.ref a::us)) (EP X pins σ Q) X.xe s2) I1
   (tA.bind (S.grow g1) (fun c e=>by rw[e]at q;exact fun H' x=>q H' (g1.ext.trans x)) (fun e=>by rw[e]at q;exact q) fun xs vs H2 F2 f2 e2 g2 r2 n2 d2 w2 us s2 I2 rv=>?_)) fun us s2 ⟨vs,H2,I2,r,q2⟩=>⟨I2.kIn,q2 us s2 I2 r⟩) hst hpl
  rw[e2]at q
  simp only[Res.ok_bind]at q
  have nn:∀b∈f1,¬F2 b:=fun b hb z=>by
   rcases g2.only b z with z | z
   ·exact n1 b hb z
   ·obtain⟨oo,hoo⟩:=r1.there b hb
    rw[hoo]at z;cases z
  refine xH (xs:=.obj fl c ks ys::xs) (vs:=v::vs) (us:=.ref a::us) (fx:=f1++f2) G hr hb hd hdp hx S (g1.trans g2) (by unfold RelL;exact⟨v,vs,f1,f2,rfl,r1.ext g2.ext g2.mono,r2,rfl⟩) (fun b hb=>?_) ?_ (fun b hb=>?_) q I2 (.cons ru rv) ?_
  ·rcases List.mem_append.mp hb with hb | hb
   ·exact nn b hb
   ·exact n2 b hb
  ·refine List.nodup_append.mpr ⟨d1,d2,fun b hb c hc z=>?_⟩
   subst z
   obtain⟨oo,hoo⟩:=r1.there b hb
   rw[w2 b hc]at hoo;cases hoo
  ·rcases List.mem_append.mp hb with hb | hb
   ·exact w1 b hb
   ·exact g1.ext.free (w2 b hb)
  ·have:=hn env xs e2
   rw[List.length_cons,<- r2.length]
   exact this
 ·exfalso
  cases ov with
  | obj fl c ks ys =>
   cases em:disp c with
   | none=>simp only[em]at q;exact q
   | some m=>exact hobj ⟨fl,c,ks,ys,m,rfl,em⟩
  | _=>exact q
end
def dB(ms:MA)(n:Nat):Prop:=∀env xs,ms env=.ok xs->xs.length=n
theorem bc:dB aj 0:=fun _ _ h=>by cases h;rfl
theorem ay(h:dB ms n):dB (ad m ms) (n+1):=fun env xs e=>by
 unfold ad at e
 cases e1:m env with
 | ok x =>
  rw[e1]at e
  simp only[Res.ok_bind]at e
  cases e2:ms env with
  | ok ys =>
   rw[e2]at e
   simp only[Res.ok_bind]at e
   cases e
   rw[List.length_cons,h env ys e2]
  | exc c | stuck=>rw[e2]at e;cases e
 | exc c | stuck=>rw[e1]at e;cases e
def a_:PV->Option (List PV)
 | .lst _ xs | .tup xs=>some xs
 | _=>none
section
variable{X:Cx}{T:Tb}{W:Nat->St->Hp->Prop}{Z:Zn}{F F1 B L:Addr->Prop}{H H1:Hp}{σ:St}{env:En}{fp:Nat->List Addr}{D:Ends}
theorem Rel.seq(r:Rel T F B L H x v fx)(e:a_ x=some xs):∃a vs fx',v=.ref a/\(SqL T.K H a vs\/SqT T.K H a vs)/\RelL T F B L H xs vs fx'/\fx'.Sublist fx:=by
 cases x with
 | lst f ys =>
  cases e
  unfold Rel at r
  obtain⟨a,vs,fp',rfl,hl,hr,hf⟩:=r
  refine⟨a,vs,fp',rfl,.inl hl.sq,hr,?_⟩
  cases f with
  | own=>obtain rfl:fx=a::fp':=hf;exact List.sublist_cons_self _ _
  | frz | bor | lnt | mod=>obtain⟨rfl,rfl⟩:=hf;exact List.Sublist.refl _
 | tup ys =>
  cases e
  unfold Rel at r
  obtain⟨a,vs,rfl,hl,hr⟩:=r
  exact⟨a,vs,fx,rfl,.inr hl,hr,List.Sublist.refl _⟩
 | _=>cases e
theorem GE.newL(q:GE T W B F L σ H Q (.ok (.lst .own ys)))(g:Gr F H F1 H1)(r:RelL T F1 B L H1 ys vs fx)(nf:∀a∈fx,¬F1 a)(nd:fx.Nodup)(new:∀a∈fx,H a=none) :
  ∀p,H1 p=none->Q (.ref p) (upd H1 p (.lst vs)):=fun p hp=>by
 refine q (.ref p) (upd H1 p (.lst vs)) F1 (p::fx) (g.trans (Gr.same g.dom (Ext.upd hp))) ?_ (fun a ha=>?_) ?_ (fun a ha=>?_)
 ·unfold Rel
  exact⟨p,vs,fx,rfl,bq,r.ext (Ext.upd hp) fun _ h=>h,rfl⟩
 ·rcases List.mem_cons.mp ha with rfl | ha
  ·intro z
   obtain⟨o,ho⟩:=g.dom _ z
   rw[hp]at ho;cases ho
  ·exact nf a ha
 ·refine List.nodup_cons.mpr ⟨fun z=>?_,nd⟩
  obtain⟨o,ho⟩:=r.there p z
  rw[hp]at ho;cases ho
 ·rcases List.mem_cons.mp ha with rfl | ha
  ·exact g.ext.free hp
  ·exact new a ha
theorem GE.newT(q:GE T W B F L σ H Q (.ok (.tup ys)))(g:Gr F H F1 H1)(r:RelL T F1 B L H1 ys vs fx)(nf:∀a∈fx,¬F1 a)(nd:fx.Nodup)(new:∀a∈fx,H a=none) :
  ∀p,H1 p=none->Q (.ref p) (upd H1 p (.tup vs)):=fun p hp=>by
 refine q (.ref p) (upd H1 p (.tup vs)) F1 fx (g.trans (Gr.same g.dom (Ext.upd hp))) ?_ nf nd new
 unfold Rel
 exact⟨p,vs,rfl,SqT.of bq,r.ext (Ext.upd hp) fun _ h=>h⟩
theorem o8(h:n<=1000):n<=sizeLine:=by rw[sizeLine_eq];omega
def b7(ms:MA):ME:=fun env=>(ms env).bind fun xs=>.ok (.lst .own xs)
def cY(ms:MA):ME:=fun env=>(ms env).bind fun xs=>.ok (.tup xs)
theorem rZ(ha:SA X T W es ms)(hn:dB ms n)(hs:n<=1000:=by decide):SE X T W (.List es pos) (b7 ms):=PE.wk (yY (pos:=pos) ha) fun σ H Q ⟨Z,F,env,fp,S,q⟩=>by
 unfold b7 at q
 refine tA.bind S (fun c e=>by rw[e]at q;exact q) (fun e=>by rw[e]at q;exact q) fun xs vs H1 F1 f1 e1 g1 r1 n1 d1 w1=>?_
 rw[e1]at q
 exact⟨o8 (by rw[<- r1.length,hn env xs e1];exact hs),GE.newL q g1 r1 n1 d1 w1⟩
theorem rY{x1}(ha:SA X T W es ms)(hn:dB ms n)(hs:n<=1000:=by decide):SE X T W (.Tuple es x1 pos) (cY ms):=PE.wk (ox (pos:=pos) ha) fun σ H Q ⟨Z,F,env,fp,S,q⟩=>by
 unfold cY at q
 refine tA.bind S (fun c e=>by rw[e]at q;exact q) (fun e=>by rw[e]at q;exact q) fun xs vs H1 F1 f1 e1 g1 r1 n1 d1 w1=>?_
 rw[e1]at q
 exact⟨o8 (by rw[<- r1.length,hn env xs e1];exact hs),GE.newT q g1 r1 n1 d1 w1⟩
def p1(f:PV->Res PV):List PV->Res PV
 | [x]=>f x
 | _=>.stuck
theorem RelL.one(r:RelL T F B L H [x] vs f):∃v,vs=[v]/\Rel T F B L H x v f:=by
 unfold RelL at r
 obtain⟨v,ws,f1,f2,rfl,h1,h2,rfl⟩:=r
 unfold RelL at h2
 obtain⟨rfl,rfl⟩:=h2
 exact⟨v,rfl,by rwa [List.append_nil]⟩
def b6:PV->Res PV:=fun x=>match a_ x with
 | some xs=>.ok (.int xs.length)
 | none=>.stuck
theorem wj(hK:X.K=T.K):Mir T W (p1 b6) (fun xs H Q=>∃p ys,xs=[.ref p]/\(SqL X.K H p ys\/SqT X.K H p ys)/\Q (.int ys.length) H):=by
 intro B F L σ H Q F' H' xs vs fx g r _ _ _ q
 match xs,r,q with
 | [x],r,q =>
  obtain⟨v,rfl,r1⟩:=r.one
  simp only[p1,b6]at q
  cases e:a_ x with
  | none=>rw[e]at q;exact q.elim
  | some ys =>
   rw[e]at q
   obtain⟨a,ws,fx',rfl,hs,hr,_⟩:=r1.seq e
   exact⟨a,ws,rfl,by rw[hK];exact hs,q.scal g (by rw[<- hr.length];exact d6)⟩
 | [],_,q | _::_::_,_,q=>exact q.elim
theorem bu(hK:X.K=T.K)(hg:Gl X "len")(hm:X.mg "len" = none)(ha:SE X T W e m)(he:starEach [e] X.env=[(false,eval e X.env)]:=by rfl):SE X T W (.Call (.Name "len" p) [e] [] pos) (ak (p1 b6) (ad m aj)) :=
 jt mw (wj hK) hg hm PySem.boot_len (ac ha af he) (he:=he)
def BS:PV->Res PV:=fun x=>match a_ x with
 | some xs=>.ok (.lst .own xs)
 | none=>.stuck
def gs:PV->Res PV:=fun x=>match a_ x with
 | some xs=>.ok (.tup xs)
 | none=>.stuck
theorem qC(hK:X.K=T.K):Mir T W (p1 gs) (fun xs H Q=>∃p ys,xs=[.ref p]/\((SqL X.K H p ys/\∀l,H l=none->Q (.ref l) (upd H l (.tup ys)))\/(SqT X.K H p ys/\Q (.ref p) H))):=by
 intro B F L σ H Q F' H' xs vs fx g r nf nd new q
 match xs,r,q with
 | [x],r,q =>
  obtain⟨v,rfl,r1⟩:=r.one
  simp only[p1,gs]at q
  cases x with
  | lst f ys =>
   simp only[a_]at q
   unfold Rel at r1
   obtain⟨a,ws,fp',rfl,hl,hr,hf⟩:=r1
   have sl:fp'.Sublist fx:=by
    cases f with
    | own=>obtain rfl:fx=a::fp':=hf;exact List.sublist_cons_self _ _
    | frz | bor | lnt | mod=>obtain⟨rfl,rfl⟩:=hf;exact List.Sublist.refl _
   exact⟨a,ws,rfl,.inl ⟨by rw[hK];exact hl.sq,GE.newT q g hr (fun b hb=>nf b (sl.subset hb)) (nd.sublist sl) (fun b hb=>new b (sl.subset hb))⟩⟩
  | tup ys =>
   simp only[a_]at q
   have r2:=r1
   unfold Rel at r2
   obtain⟨a,ws,rfl,hs,hr⟩:=r2
   exact⟨a,ws,rfl,.inr ⟨by rw[hK];exact hs,q _ _ _ fx g r1 nf nd new⟩⟩
  | _=>exact q.elim
 | [],_,q | _::_::_,_,q=>exact q.elim
theorem mQ(hK:X.K=T.K)(hg:Gl X "tuple")(hm:X.mg "tuple" = none)(hv:bootBuiltins "tuple" = some (.type "tuple"))(ha:SE X T W e m)(he:starEach [e] X.env=[(false,eval e X.env)]:=by rfl):SE X T W (.Call (.Name "tuple" p) [e] [] pos) (ak (p1 gs) (ad m aj)) :=
 kB ko (qC hK) hg hm hv (ac ha af he) (he:=he)
def au:PV->PV->Res PV
 | x,.int i=>match a_ x with
  | some xs=>match atI xs i with
   | some y=>if x.has Fl.isOwn&&y.has Fl.isOwn then .stuck else .ok y
   | none=>.stuck
  | none=>.stuck
 | _,_=>.stuck
theorem qf(r:RelL T F B L H xs vs f)(e:atI xs i=some y):∃v f',atI vs i=some v/\Rel T F B L H y v f'/\f'.Sublist f:=by
 unfold atI at e ⊢
 rw[<- r.length]
 cases e1:ixN xs.length i with
 | none=>rw[e1]at e;cases e
 | some j =>
  rw[e1]at e
  exact r.get e
theorem wo(hK:X.K=T.K):ii T W au (fun x y H Q=>vQ X.K x y H Q \/(vO X.K x y H Q\/vP x y H Q)):=by
 intro B F L σ H Q F' H' x y v u fx fy g rx ry nf nd new q
 cases y with
 | int i =>
  unfold Rel at ry
  obtain⟨rfl,rfl⟩:=ry
  simp only[au]at q
  cases e:a_ x with
  | none=>rw[e]at q;exact q.elim
  | some xs =>
   rw[e]at q
   dsimp only at q
   obtain⟨a,ws,fx',rfl,hs,hr,sl⟩:=rx.seq e
   cases e2:atI xs i with
   | none=>rw[e2]at q;exact q.elim
   | some z =>
    rw[e2]at q
    dsimp only at q
    obtain⟨w,f',h1,h2,h3⟩:=qf hr e2
    have e0:f'=[]:=by
     by_cases ho:x.has Fl.isOwn=true
     ·by_cases hz:z.has Fl.isOwn=true
      ·rw[ho,hz]at q;exact q.elim
      ·exact Rel.noOwn (by simpa using hz) h2
     ·have:=Rel.noOwn (by simpa using ho) rx
      subst this
      exact List.sublist_nil.mp (h3.trans sl)
    subst e0
    by_cases hb:(x.has Fl.isOwn&&z.has Fl.isOwn)=true
    ·rw[if_pos hb]at q;exact q.elim
    ·rw[if_neg hb]at q
     rcases hs with hs | hs
     ·exact .inl ⟨a,ws,i,w,rfl,rfl,by rw[hK];exact hs,h1,q.scal g h2⟩
     ·exact .inr (.inl ⟨a,ws,i,w,rfl,rfl,by rw[hK];exact hs,h1,q.scal g h2⟩)
 | _=>exact q.elim
theorem yx(hK:X.K=T.K)(ha:SE X T W a ma)(hb:SE X T W b mb)(hs:de b):SE X T W (.Subscript a b pos) (mOp au ma mb) :=
 xG jO (wo hK) ha hb hs
abbrev MO:=En->Res (Option Int)
def fg:MO:=fun _=>.ok none
def iM(m:ME):MO:=fun env=>(m env).bind fun
 | .int i=>.ok (some i)
 | _=>.stuck
def mf(xs:List PV)(lo hi:Option Int):List PV:=(xs.drop (HT.sIx xs.length 0 lo)).take (HT.sIx xs.length xs.length hi - HT.sIx xs.length 0 lo)
def fQ(o:ME)(lo hi:MO):ME:=fun env=>(o env).bind fun x=>(lo env).bind fun l=>(hi env).bind fun h=>match x with
 | .lst _ xs=>.ok (.lst .own (mf xs l h))
 | _=>.stuck
theorem RelL.drop:∀{xs:List PV}{vs:List V}{f:List Addr} (n:Nat),RelL T F B L H xs vs f->∃f',RelL T F B L H (xs.drop n) (vs.drop n) f'/\f'.Sublist f
 | xs,vs,f,0,h=>⟨f,h,List.Sublist.refl _⟩
 | [],vs,f,n+1,h=>by unfold RelL at h;obtain⟨rfl,rfl⟩:=h;exact⟨[],by simp[RelL],List.Sublist.refl _⟩
 | x::xs,_,_,n+1,h=>by
  unfold RelL at h
  obtain⟨v,ws,f1,f2,rfl,h1,h2,rfl⟩:=h
  obtain⟨f',r,s⟩:=RelL.drop n h2
  exact⟨f',by simpa using r,s.trans (List.sublist_append_right _ _)⟩
theorem RelL.take:∀{xs:List PV}{vs:List V}{f:List Addr} (n:Nat),RelL T F B L H xs vs f->∃f',RelL T F B L H (xs.take n) (vs.take n) f'/\f'.Sublist f
 | xs,vs,f,0,h=>⟨[],by simp[RelL],List.nil_sublist _⟩
 | [],vs,f,n+1,h=>by unfold RelL at h;obtain⟨rfl,rfl⟩:=h;exact⟨[],by simp[RelL],List.Sublist.refl _⟩
 | x::xs,_,_,n+1,h=>by
  unfold RelL at h
  obtain⟨v,ws,f1,f2,rfl,h1,h2,rfl⟩:=h
  obtain⟨f',r,s⟩:=RelL.take n h2
  refine⟨f1++f',?_,List.Sublist.append (List.Sublist.refl _) s⟩
  rw[List.take_succ_cons,List.take_succ_cons]
  unfold RelL
  exact⟨v,_,f1,f',rfl,h1,r,rfl⟩
def tO(T:Tb)(W:Nat->St->Hp->Prop)(m:MO):TO:=fun σ H Q=>∃Z F env fp,ar T Z F H σ env fp/\match m env with
 | .ok o=>∀H' F',Gr F H F' H'->Q o H'
 | .exc c=>∀H',Ext H H'->W c σ H'
 | .stuck=>False
abbrev SO(X:Cx)(T:Tb)(W:Nat->St->Hp->Prop)(e:Option Expr)(m:MO):Prop:=PO X e (tO T W m)
theorem i4:SO X T W none fg:=fun pins s σ H Q I ⟨Z,F,env,fp,S,q⟩=>vV pins s σ H Q I (q H F (Gr.refl S.hp.ft))
theorem i3(h:SE X T W e m):SO X T W (some e) (iM m):=fun pins s σ H Q I ⟨Z,F,env,fp,S,q⟩=>vU h pins s σ H Q I (by
 unfold iM at q
 refine tE.bind S (fun c e=>by rw[e]at q;exact q) (fun e=>by rw[e]at q;exact q) fun x v H1 F1 f1 e1 g1 r1 n1 d1 w1=>?_
 rw[e1]at q
 cases x with
 | int i=>unfold Rel at r1;exact⟨i,r1.1,q H1 F1 g1⟩
 | _=>exact q.elim)
theorem gK(hK:X.K=T.K)(he:SE X T W e m)(hl:SO X T W lo ml)(hu:SO X T W hi mh):SE X T W (.Subscript e (.Slice lo hi none p2) pos) (fQ m ml mh) :=
 PE.wk (sT (pos:=pos) (p2:=p2) vD he hl hu) fun σ H Q ⟨Z,F,env,fp,S,q⟩=>by
  unfold fQ at q
  refine tE.bind S (fun c e=>by rw[e]at q;exact q) (fun e=>by rw[e]at q;exact q) fun x v H1 F1 f1 e1 g1 r1 n1 d1 w1=>?_
  rw[e1]at q
  simp only[Res.ok_bind]at q
  refine⟨Z,F1,env,fp,S.grow g1,?_⟩
  cases e2:ml env with
  | exc c=>rw[e2]at q;exact fun H' x=>q H' (g1.ext.trans x)
  | stuck=>rw[e2]at q;exact q
  | ok l =>
   rw[e2]at q
   intro H2 F2 g2
   refine⟨Z,F2,env,fp,(S.grow g1).grow g2,?_⟩
   simp only[Res.ok_bind]at q
   cases e3:mh env with
   | exc c=>rw[e3]at q;exact fun H' x=>q H' ((g1.ext.trans g2.ext).trans x)
   | stuck=>rw[e3]at q;exact q
   | ok h =>
    rw[e3]at q
    intro H3 F3 g3
    simp only[Res.ok_bind]at q
    cases x with
    | lst f xs =>
     have g:=(g1.trans g2).trans g3
     have r3:=(r1.ext (g2.trans g3).ext (g2.trans g3).mono)
     have nf3:∀a∈f1,¬F3 a:=fun a ha z=>by
      rcases(g2.trans g3).only a z with z | z
      ·exact n1 a ha z
      ·obtain⟨o,ho⟩:=r1.there a ha
       rw[ho]at z;cases z
     unfold Rel at r3
     obtain⟨a,ws,fp',rfl,hll,hr,hf⟩:=r3
     have sl:fp'.Sublist f1:=by
      cases f with
      | own=>obtain rfl:f1=a::fp':=hf;exact List.sublist_cons_self _ _
      | frz | bor | lnt | mod=>obtain⟨rfl,rfl⟩:=hf;exact List.Sublist.refl _
     obtain⟨f4,h4,s4⟩:=RelL.drop (HT.sIx xs.length 0 l) hr
     obtain⟨f5,h5,s5⟩:=RelL.take (HT.sIx xs.length xs.length h - HT.sIx xs.length 0 l) h4
     have sl2:=(s5.trans s4).trans sl
     refine⟨a,ws,rfl,by rw[hK];exact hll.sq,?_⟩
     unfold uH
     rw[<- hr.length]
     exact GE.newL q g h5 (fun b hb=>nf3 b (sl2.subset hb)) (d1.sublist sl2) (fun b hb=>w1 b (sl2.subset hb))
    | _=>exact q.elim
def xJ(K:PySem.W.Frag):R2:=fun x y H Q=>∃l b xs zs,x=.ref l/\y=.ref b/\Rd H l (.lst xs)/\Rd H b (.lst zs)/\xs.length+zs.length<=sizeLine/\∀p,H p=none->Q (.ref p) (upd H p (.lst (xs++zs)))
theorem v8:OpR X (binaryOp .Add) (xJ K):=by
 intro pins s σ H x y v u Q I rx ry h
 obtain⟨l,b,xs,zs,rfl,rfl,hH,hB,hz,q⟩:=h
 cases rx
 cases ry
 obtain⟨z,its,n,r,e⟩:=hH.ok I.hok
 obtain⟨z2,its2,n2,r2,e2⟩:=hB.ok I.hok
 have hl:=r.length
 have hl2:=r2.length
 refine PySem.P.add_list e e2 ?_ (by rw[List.size_toArray,List.size_toArray];omega)
 have ea:its.toArray++its2.toArray=(its++its2).toArray:=by simp
 rw[ea]
 exact⟨.ref _,_,I.lnew (t':=s.toks) (r.append r2) (by rw[List.length_append];omega),rfl,q _ I.fresh⟩
def aY:PV->PV->Res PV
 | .int i,.int j=>.ok (.int (i+j))
 | .lst f xs,.lst g ys=>if f=.mod\/g=.mod\/¬xs.length+ys.length<=10000000 then .stuck else .ok (.lst .own (xs++ys))
 | _,_=>.stuck
theorem nT.rd(h:nT T F B L H f a vs)(n:f≠.mod):Rd H a (.lst vs):=by
 cases f with
 | own=>exact .inl h
 | lnt=>exact .inl h.2
 | frz | bor=>exact h.2
 | mod=>exact absurd rfl n
theorem xw.sub(hf:xw f a fp' fx):fp'.Sublist fx:=by
 cases f with
 | own=>obtain rfl:fx=a::fp':=hf;exact List.sublist_cons_self _ _
 | frz | bor | lnt | mod=>obtain⟨rfl,rfl⟩:=hf;exact List.Sublist.refl _
theorem tL:ii T W aY (fun x y H Q=>(rI0 fun i j=>.int (i+j)) x y H Q\/xJ T.K x y H Q):=by
 intro B F L σ H Q F' H' x y v u fx fy g rx ry nf nd new q
 cases x with
 | int i =>
  cases y with
  | int j=>unfold Rel at rx ry;exact .inl ⟨i,j,rx.1,ry.1,q.scal g d6⟩
  | _=>exact q.elim
 | lst f xs =>
  cases y with
  | lst f' ys =>
   simp only[aY]at q
   by_cases hc:f=.mod\/f'=.mod\/¬xs.length+ys.length<=10000000
   ·rw[if_pos hc]at q;exact q.elim
   ·rw[if_neg hc]at q
    unfold Rel at rx ry
    obtain⟨a,vs,fp1,rfl,hl1,hr1,hf1⟩:=rx
    obtain⟨b,us,fp2,rfl,hl2,hr2,hf2⟩:=ry
    have sl:=List.Sublist.append hf1.sub hf2.sub
    have h3:xs.length+ys.length<=10000000:=by
     rcases Nat.lt_or_ge 10000000 (xs.length+ys.length)with z | z
     ·exact absurd (.inr (.inr (by omega))) hc
     ·exact z
    refine .inr ⟨a,b,vs,us,rfl,rfl,hl1.rd fun z=>hc (.inl z),hl2.rd fun z=>hc (.inr (.inl z)),by rw[<- hr1.length,<- hr2.length,sizeLine_eq];omega,?_⟩
    exact GE.newL q g (RelL.append hr1 hr2) (fun b hb=>nf b (sl.subset hb)) (nd.sublist sl) (fun b hb=>new b (sl.subset hb))
  | _=>exact q.elim
 | _=>exact q.elim
theorem OpR.or(h:OpR X f r)(h':OpR X f r'):OpR X f (fun x y H Q=>r x y H Q\/r' x y H Q):=by
 intro pins s σ H x y v u Q I rx ry q
 rcases q with q | q
 ·exact h pins s σ H x y v u Q I rx ry q
 ·exact h' pins s σ H x y v u Q I rx ry q
theorem bh(ha:SE X T W a ma)(hb:SE X T W b mb):SE X T W (.BinOp a .Add b pos) (mOp aY ma mb):=mR (OpR.or zg v8) tL ha hb
end
mutual
def PV.data:PV->PyData
 | .non=>.none
 | .bl b=>.bool b
 | .int i=>.int i
 | .str x=>.str x
 | .lst _ xs=>.list (dataL xs)
 | .tup xs=>.tuple (dataL xs)
 | .obj _ _ _ _ | .exc _=>.dict []
def dataL:List PV->List PyData
 | []=>[]
 | x::xs=>x.data::dataL xs
end
def shp(x:PV):Bool:=SeqAt.shaped x.data
section
variable{X:Cx}{T:Tb}{W:Nat->St->Hp->Prop}{Z:Zn}{F F1 B L:Addr->Prop}{H H1:Hp}{σ:St}{env:En}{fp:Nat->List Addr}{D:Ends}{pins:List (Addr×Obj)}{s:Shared}
mutual
theorem Rel.reads(hK:X.K=T.K)(I:L2.Inv X pins σ H s):∀{x:PV}{v:V}{f:List Addr}{u:Value},Rel T F B L H x v f->bp v u->x.data.canLay0=true->∃as,Reads s.heap u x.data as
 | .non,_,_,_,r,ru,_=>by unfold Rel at r;obtain⟨rfl,_⟩:=r;cases ru;exact⟨[],.none⟩
 | .bl b,_,_,_,r,ru,_=>by unfold Rel at r;obtain⟨rfl,_⟩:=r;cases ru;exact⟨[],.bool b⟩
 | .int i,_,_,_,r,ru,_=>by unfold Rel at r;obtain⟨rfl,_⟩:=r;obtain⟨t,rfl⟩:=ru;exact⟨[],.int i t⟩
 | .str x,_,_,_,r,ru,_=>by unfold Rel at r;obtain⟨rfl,_⟩:=r;obtain⟨t,rfl⟩:=ru;exact⟨[],.str x t⟩
 | .lst f xs,_,_,_,r,ru,hc=>by
  unfold Rel at r
  obtain⟨a,vs,fp',rfl,hl,hr,_⟩:=r
  cases ru
  obtain⟨its,rv,⟨o,n,ho,hcl,_,hd⟩,_⟩:=I.list (by rw[hK];exact hl.sq)
  obtain⟨as,ra⟩:=RelL.reads hK I hr rv (by simpa[PV.data,PyData.canLay0]using hc)
  exact⟨_,.list ho hcl hd (by simpa using ra)⟩
 | .tup xs,_,_,_,r,ru,hc=>by
  unfold Rel at r
  obtain⟨a,vs,rfl,hl,hr⟩:=r
  cases ru
  obtain⟨its,rv,⟨o,ho,hcl,n,hd⟩,_⟩:=I.tuple (by rw[hK];exact hl)
  obtain⟨as,ra⟩:=RelL.reads hK I hr rv (by simpa[PV.data,PyData.canLay0]using hc)
  exact⟨_,.tuple ho hcl hd (by simpa using ra)⟩
 | .obj _ _ _ _,_,_,_,_,_,hc | .exc _,_,_,_,_,_,hc=>by simp[PV.data,PyData.canLay0]at hc
theorem RelL.reads(hK:X.K=T.K)(I:L2.Inv X pins σ H s):∀{xs:List PV}{vs:List V}{f:List Addr}{us:List Value},RelL T F B L H xs vs f->aG vs us->PyData.canLayAll0 (dataL xs)=true->∃as,ReadsAll s.heap us (dataL xs) as
 | [],_,_,_,r,ru,_=>by unfold RelL at r;obtain⟨rfl,_⟩:=r;cases ru;exact⟨[],.nil⟩
 | x::xs,_,_,_,r,ru,hc=>by
  unfold RelL at r
  obtain⟨v,ws,f1,f2,rfl,h1,h2,_⟩:=r
  cases ru with
  | cons r1 r2 =>
   simp only[dataL,PyData.canLayAll0,Bool.and_eq_true]at hc
   obtain⟨as,ra⟩:=Rel.reads hK I h1 r1 hc.1
   obtain⟨bs,rb⟩:=RelL.reads hK I h2 r2 hc.2
   exact⟨_,.cons ra rb⟩
end
def pEq:PV->PV->Res PV:=fun x y=>if shp x&&shp y then .ok (.bl (PyData.eqv x.data y.data))else .stuck
def pNe:PV->PV->Res PV:=fun x y=>if shp x&&shp y then .ok (.bl (!PyData.eqv x.data y.data))else .stuck
def sA(X:Cx)(T:Tb)(g:PyData->PyData->Bool):R2:=fun v u H Q=>∃x y F B L fx fy,Rel T F B L H x v fx/\Rel T F B L H y u fy/\shp x=true/\shp y=true/\Q (.bl (g x.data y.data)) H
theorem s_(hK:X.K=T.K)(hu:X.A.units+64 < cLine):OpR X (compareOp .Eq) (sA X T fun a b=>PyData.eqv a b):=by
 intro pins s σ H v u v' u' Q I rv ru h
 obtain⟨x,y,F,B,L,fx,fy,rx,ry,hx,hy,q⟩:=h
 obtain⟨as,ra⟩:=rx.reads hK I rv (SeqAt.canLay_of_shaped hx)
 obtain⟨bs,rb⟩:=ry.reads hK I ru (SeqAt.canLay_of_shaped hy)
 exact PyProof.Rows.eq_dataH ra rb hx hy hu ⟨.bl _,H,I,rfl,q⟩
theorem zb(hK:X.K=T.K)(hu:X.A.units+64 < cLine):OpR X (compareOp .NotEq) (sA X T fun a b=>!PyData.eqv a b):=by
 intro pins s σ H v u v' u' Q I rv ru h
 obtain⟨x,y,F,B,L,fx,fy,rx,ry,hx,hy,q⟩:=h
 obtain⟨as,ra⟩:=rx.reads hK I rv (SeqAt.canLay_of_shaped hx)
 obtain⟨bs,rb⟩:=ry.reads hK I ru (SeqAt.canLay_of_shaped hy)
 exact PyProof.Rows.ne_dataH ra rb hx hy hu ⟨.bl _,H,I,rfl,q⟩
theorem jG:ii T W (fun x y=>if shp x&&shp y then .ok (.bl (g x.data y.data))else .stuck) (sA X T g):=by
 intro B F L σ H Q F' H' x y v u fx fy gr rx ry nf nd new q
 dsimp only at q
 by_cases hc:(shp x&&shp y)=true
 ·rw[if_pos hc]at q
  rw[Bool.and_eq_true]at hc
  exact⟨x,y,F',B,L,fx,fy,rx,ry,hc.1,hc.2,q.scal gr gR⟩
 ·rw[if_neg hc]at q;exact q.elim
variable{a b:Expr}{ma mb:ME}{pos:Pos}
theorem fE(hK:X.K=T.K)(hu:X.A.units+64 < cLine)(ha:SE X T W a ma)(hb:SE X T W b mb):SE X T W (.Compare a [.Eq] [b] pos) (mOp pEq ma mb):=r9 (s_ hK hu) jG ha hb (e_ _)
theorem eO(hK:X.K=T.K)(hu:X.A.units+64 < cLine)(ha:SE X T W a ma)(hb:SE X T W b mb):ST X T W (.Compare a [.Eq] [b] pos) (aw (mOp pEq ma mb)):=eX (s_ hK hu) jG ha hb (e_ _)
theorem el(hK:X.K=T.K)(hu:X.A.units+64 < cLine)(ha:SE X T W a ma)(hb:SE X T W b mb):ST X T W (.Compare a [.NotEq] [b] pos) (aw (mOp pNe ma mb)):=eX (zb hK hu) (jG (g:=fun a b=>!PyData.eqv a b)) ha hb (e_ _)
theorem gG(ha:SE X T W a ma)(hb:SE X T W b mb):ST X T W (.Compare a [.Lt] [b] pos) (aw (mOp pLt ma mb)):=eX BV (jH fun _ _ _ _ _ _=>gR) ha hb (e_ _)
theorem iK(ha:SE X T W a ma)(hb:SE X T W b mb):ST X T W (.Compare a [.Gt] [b] pos) (aw (mOp pGt ma mb)):=eX BX (jH fun _ _ _ _ _ _=>gR) ha hb (e_ _)
theorem xE(ha:SE X T W a ma)(hb:SE X T W b mb):ST X T W (.Compare a [.GtE] [b] pos) (aw (mOp pGe ma mb)):=eX BY (jH fun _ _ _ _ _ _=>gR) ha hb (e_ _)
def inL(x:PV)(ys:List PV):Bool:=ys.any fun y=>PyData.eqv y.data x.data
def pIn:PV->PV->Res PV:=fun x y=>match a_ y with
 | some ys=>if shp x&&ys.all shp then .ok (.bl (inL x ys))else .stuck
 | none=>.stuck
def cO:PV->PV->Res PV:=fun x y=>match a_ y with
 | some ys=>if shp x&&ys.all shp then .ok (.bl (!inL x ys))else .stuck
 | none=>.stuck
theorem jX(hK:X.K=T.K)(I:L2.Inv X pins σ H s)(hu:A.units+64 < cLine)(rx:Rel T F B L H x v fx)(ry:Rel T F B L H y u fy)(rv:bp v v')(ru:bp u u')(hx:shp x=true)(hy:shp y=true) :
  SeqAt.EqAt A s v' u' (PyData.eqv x.data y.data):=by
 obtain⟨as,ra⟩:=rx.reads hK I rv (SeqAt.canLay_of_shaped hx)
 obtain⟨bs,rb⟩:=ry.reads hK I ru (SeqAt.canLay_of_shaped hy)
 exact SeqAt.eqAt_reads _ _ A s v' u' as bs ra rb (SeqAt.canLay_of_shaped hx) (SeqAt.canLay_of_shaped hy) (SeqAt.room_of_shaped hx hu)
theorem hZ(hK:X.K=T.K)(I:L2.Inv X pins σ H s)(hu:A.units+64 < cLine)(rx:Rel T F B L H x v fx)(rv:bp v v')(hx:shp x=true) :
  ∀{ys:List PV}{us:List V}{fy:List Addr}{us':List Value},RelL T F B L H ys us fy->aG us us'->ys.all shp=true->∃e:Value->Bool,(∀w∈us',SeqAt.EqAt A s w v' (e w))/\us'.any e=inL x ys:=by
 intro ys us fy us' r rv' hs
 have one:∀(ys:List PV) (us:List V) (fy:List Addr) (us':List Value),RelL T F B L H ys us fy->aG us us'->ys.all shp=true->∀w∈us',∃b,SeqAt.EqAt A s w v' b/\(b=true->inL x ys=true):=by
  intro ys
  induction ys with
  | nil =>
   intro us fy us' r rv' _ w hw
   unfold RelL at r
   obtain⟨rfl,_⟩:=r
   cases rv'
   cases hw
  | cons y ys ih =>
   intro us fy us' r rv' hs w hw
   unfold RelL at r
   obtain⟨u,ws,f1,f2,rfl,h1,h2,_⟩:=r
   cases rv' with
   | cons r1 r2 =>
    rw[List.all_cons,Bool.and_eq_true]at hs
    rcases List.mem_cons.mp hw with rfl | hw
    ·exact⟨_,jX hK I hu h1 rx r1 rv hs.1 hx,fun z=>by simp[inL,z]⟩
    ·obtain⟨b,h3,h4⟩:=ih ws f2 _ h2 r2 hs.2 w hw
     exact⟨b,h3,fun z=>by have:=h4 z;unfold inL at this ⊢;simp[this]⟩
 have some_:∀(ys:List PV) (us:List V) (fy:List Addr) (us':List Value),RelL T F B L H ys us fy->aG us us'->ys.all shp=true->inL x ys=true->∃w∈us',SeqAt.EqAt A s w v' true:=by
  intro ys
  induction ys with
  | nil=>intro us fy us' r rv' _ h;simp[inL]at h
  | cons y ys ih =>
   intro us fy us' r rv' hs h
   unfold RelL at r
   obtain⟨u,ws,f1,f2,rfl,h1,h2,_⟩:=r
   cases rv' with
   | cons r1 r2 =>
    rw[List.all_cons,Bool.and_eq_true]at hs
    by_cases hy:PyData.eqv y.data x.data=true
    ·refine⟨_,List.mem_cons_self,?_⟩
     have:=jX hK I hu h1 rx r1 rv hs.1 hx
     rwa [hy]at this
    ·have h':inL x ys=true:=by
      unfold inL at h ⊢
      rw[List.any_cons]at h
      simpa[hy]using h
     obtain⟨w,hw,q⟩:=ih ws f2 _ h2 r2 hs.2 h'
     exact⟨w,List.mem_cons_of_mem _ hw,q⟩
 by_cases hin:inL x ys=true
 ·obtain⟨w0,hw0,q0⟩:=some_ ys us fy us' r rv' hs hin
  refine⟨fun w=>@decide (SeqAt.EqAt A s w v' true) (Classical.propDecidable _),fun w hw=>?_,?_⟩
  ·obtain⟨b,h1,_⟩:=one ys us fy us' r rv' hs w hw
   by_cases ht:SeqAt.EqAt A s w v' true
   ·simp only[ht,decide_true]
   ·simp only[ht,decide_false]
    cases b with
    | true=>exact absurd h1 ht
    | false=>exact h1
  ·rw[hin,List.any_eq_true]
   exact⟨w0,hw0,by simp[q0]⟩
 ·have hin':inL x ys=false:=by simpa using hin
  refine⟨fun _=>false,fun w hw=>?_,by rw[hin'];simp⟩
  obtain⟨b,h1,h2⟩:=one ys us fy us' r rv' hs w hw
  cases b with
  | true=>exact absurd (h2 rfl) hin
  | false=>exact h1
def yK(X:Cx)(T:Tb)(neg:Bool):R2:=fun v u H Q=>∃x ys a vs F B L fx fy,u=.ref a/\(SqL T.K H a vs\/SqT T.K H a vs)/\Rel T F B L H x v fx/\RelL T F B L H ys vs fy/\shp x=true/\ys.all shp=true/\Q (.bl (if neg then !inL x ys else inL x ys)) H
theorem zf(hK:X.K=T.K)(hu:X.A.units+66 < cLine):OpR X (compareOp .In) (yK X T false):=by
 intro pins s σ H v u v' u' Q I rv ru h
 obtain⟨x,ys,a,vs,F,B,L,fx,fy,rfl,hs,rx,ry,hx,hy,q⟩:=h
 cases ru
 have hu1:X.A.in1.units+64 < cLine:=by show X.A.units+1+64 < cLine;omega
 rcases hs with hs | hs
 ·obtain⟨its,r,pl,_⟩:=I.list (by rw[hK];exact hs)
  obtain⟨e,h1,h2⟩:=hZ hK I hu1 rx rv hx ry r hy
  refine SeqAt.in_listAt e pl.isList (fun w hw=>h1 w (by simpa using hw)) ⟨.bl _,H,I,rfl,?_⟩
  rw[show its.toArray.any e=its.any e by simp,h2]
  exact q
 ·obtain⟨its,r,pl,_⟩:=I.tuple (by rw[hK];exact hs)
  obtain⟨e,h1,h2⟩:=hZ hK I hu1 rx rv hx ry r hy
  refine SeqAt.in_tupleAt e pl (fun w hw=>h1 w (by simpa using hw)) ⟨.bl _,H,I,rfl,?_⟩
  rw[show its.toArray.any e=its.any e by simp,h2]
  exact q
theorem qA(hK:X.K=T.K)(hu:X.A.units+66 < cLine):OpR X (compareOp .NotIn) (yK X T true):=by
 intro pins s σ H v u v' u' Q I rv ru h
 obtain⟨x,ys,a,vs,F,B,L,fx,fy,rfl,hs,rx,ry,hx,hy,q⟩:=h
 cases ru
 have hu1:X.A.in1.units+64 < cLine:=by show X.A.units+1+64 < cLine;omega
 rcases hs with hs | hs
 ·obtain⟨its,r,pl,_⟩:=I.list (by rw[hK];exact hs)
  obtain⟨e,h1,h2⟩:=hZ hK I hu1 rx rv hx ry r hy
  refine SeqAt.notIn_listAt e pl.isList (fun w hw=>h1 w (by simpa using hw)) ⟨.bl _,H,I,rfl,?_⟩
  rw[show its.toArray.any e=its.any e by simp,h2]
  exact q
 ·obtain⟨its,r,pl,_⟩:=I.tuple (by rw[hK];exact hs)
  obtain⟨e,h1,h2⟩:=hZ hK I hu1 rx rv hx ry r hy
  refine SeqAt.notIn_tupleAt e pl (fun w hw=>h1 w (by simpa using hw)) ⟨.bl _,H,I,rfl,?_⟩
  rw[show its.toArray.any e=its.any e by simp,h2]
  exact q
theorem tQ:ii T W (fun x y=>match a_ y with
 | some ys=>if shp x&&ys.all shp then .ok (.bl (if neg then !inL x ys else inL x ys))else .stuck
 | none=>.stuck) (yK X T neg):=by
 intro B F L σ H Q F' H' x y v u fx fy gr rx ry nf nd new q
 dsimp only at q
 cases e:a_ y with
 | none=>rw[e]at q;exact q.elim
 | some ys =>
  rw[e]at q
  dsimp only at q
  by_cases hc:(shp x&&ys.all shp)=true
  ·rw[if_pos hc]at q
   rw[Bool.and_eq_true]at hc
   obtain⟨a,ws,f',rfl,hs,hr,_⟩:=ry.seq e
   exact⟨x,ys,a,ws,F',B,L,fx,f',rfl,hs,rx,hr,hc.1,hc.2,q.scal gr gR⟩
  ·rw[if_neg hc]at q;exact q.elim
theorem st_in(hK:X.K=T.K)(hu:X.A.units+66 < cLine)(ha:SE X T W a ma)(hb:SE X T W b mb)(hk:behindInMarks .In b=false:=by with_unfolding_all rfl):ST X T W (.Compare a [.In] [b] pos) (aw (mOp pIn ma mb)):=eX (zf hK hu) (tQ (neg:=false)) ha hb hk
theorem ji(hK:X.K=T.K)(hu:X.A.units+66 < cLine)(ha:SE X T W a ma)(hb:SE X T W b mb)(hk:behindInMarks .NotIn b=false:=by with_unfolding_all rfl):ST X T W (.Compare a [.NotIn] [b] pos) (aw (mOp cO ma mb)):=eX (qA hK hu) (tQ (neg:=true)) ha hb hk
def PV.isNon:PV->Bool
 | .non=>true
 | _=>false
def fM:PV->PV->Res PV
 | x,.non=>.ok (.bl x.isNon)
 | _,_=>.stuck
def gS:PV->PV->Res PV
 | x,.non=>.ok (.bl (!x.isNon))
 | _,_=>.stuck
theorem Rel.isNon(r:Rel T F B L H x v f):decide (v=.non)=x.isNon:=by
 cases x with
 | non | bl b | int i | str i=>unfold Rel at r;rw[r.1];rfl
 | lst f xs=>unfold Rel at r;obtain⟨a,_,_,rfl,_⟩:=r;rfl
 | tup xs=>unfold Rel at r;obtain⟨a,_,rfl,_⟩:=r;rfl
 | obj f c ks xs=>unfold Rel at r;obtain⟨a,_,_,_,rfl,_⟩:=r;rfl
 | exc c=>unfold Rel at r;obtain⟨a,rfl,_⟩:=r;rfl
theorem wm:ii T W fM (fun x y H Q=>y=.non/\Q (.bl (decide (x=.non))) H):=by
 intro B F L σ H Q F' H' x y v u fx fy gr rx ry nf nd new q
 cases y with
 | non=>unfold Rel at ry;refine⟨ry.1,?_⟩;rw[rx.isNon];exact GE.scal (pv:=.bl x.isNon) (by simpa[fM]using q) gr gR
 | _=>simp only[fM]at q;exact q.elim
theorem tN:ii T W gS (fun x y H Q=>y=.non/\Q (.bl (!decide (x=.non))) H):=by
 intro B F L σ H Q F' H' x y v u fx fy gr rx ry nf nd new q
 cases y with
 | non=>unfold Rel at ry;refine⟨ry.1,?_⟩;rw[rx.isNon];exact GE.scal (pv:=.bl (!x.isNon)) (by simpa[gS]using q) gr gR
 | _=>simp only[gS]at q;exact q.elim
theorem k9(ha:SE X T W a ma)(hb:SE X T W b mb):ST X T W (.Compare a [.Is] [b] pos) (aw (mOp fM ma mb)):=eX ze wm ha hb (e_ _)
theorem vz(ha:SE X T W a ma)(hb:SE X T W b mb):ST X T W (.Compare a [.IsNot] [b] pos) (aw (mOp gS ma mb)):=eX v6 tN ha hb (e_ _)
end
abbrev TgM:=PV->En->Option En
abbrev oU:=List PV->En->Option En
def tgN(i:Nat):TgM:=fun v env=>if a7 i env then some (env.set i (some v))else none
def b5:oU:=fun vs env=>match vs with
 | []=>some env
 | _=>none
def aD(t:TgM)(u:oU):oU:=fun vs env=>match vs with
 | v::r=>match t v env with
  | some e=>u r e
  | none=>none
 | []=>none
def tgT(n:Nat)(u:oU):TgM:=fun v env=>match v with
 | .tup xs=>if xs.length=n then u xs env else none
 | _=>none
structure rm(Z:Zn)(F:Addr->Prop)(fp:Nat->List Addr)(f:List Addr):Prop where
 nd:f.Nodup
 nf:∀a∈f,¬F a
 new:∀a∈f,Z.H0 a=none\/Z.fp0 a
 dj:∀a∈f,∀j,a∉fp j
theorem rm.nil:rm Z F fp []:=⟨List.nodup_nil,fun _ z=>(nomatch z),fun _ z=>(nomatch z),fun _ z=>(nomatch z)⟩
def GG(T:Tb)(Z:Zn)(F:Addr->Prop)(H:Hp)(Q:St->Hp->Prop):Option En->Prop
 | some e=>∀σ fp,ar T Z F H σ e fp->Q σ H
 | none=>False
def tG(T:Tb)(m:TgM):TG:=fun v σ H Q=>∃Z F env fp pv f,ar T Z F H σ env fp/\Rel T F Z.B NoL H pv v f/\rm Z F fp f/\GG T Z F H Q (m pv env)
def tGs(T:Tb)(m:oU):TGs:=fun vs σ H Q=>∃Z F env fp pvs f,ar T Z F H σ env fp/\RelL T F Z.B NoL H pvs vs f/\rm Z F fp f/\GG T Z F H Q (m pvs env)
abbrev SG(X:Cx)(T:Tb)(tg:Expr)(m:TgM):Prop:=PG X tg (tG T m)
abbrev SGs(X:Cx)(T:Tb)(ts:List Expr)(m:oU):Prop:=PGs X ts (tGs T m)
section
variable{X:Cx}{T:Tb}{W:Nat->St->Hp->Prop}{Z:Zn}{F F1 B L:Addr->Prop}{H H1:Hp}{σ:St}{env:En}{fp:Nat->List Addr}{D:Ends}
theorem PG.wk(h:PG X tg t)(w:∀v σ H Q,t' v σ H Q->t v σ H Q):PG X tg t':=fun pins s σ H v u Q I r q=>h pins s σ H v u Q I r (w v σ H Q q)
theorem PGs.wk(h:PGs X ts t)(w:∀v σ H Q,t' v σ H Q->t v σ H Q):PGs X ts t':=fun pins s σ H v u Q I r q=>h pins s σ H v u Q I r (w v σ H Q q)
theorem vE(hN:X.N.Nodup)(hi:X.N[i]?=some x)(hx:Loc X.env.scope x)(hf:X.fn x=true\/X.env.scope.names.lookup x=some .local:=by first | exact .inl rfl | exact .inr rfl | assumption):SG X T (.Name x pos) (tgN i) :=
 PG.wk (pD (pos:=pos) hN hi hx hf) fun v σ H Q ⟨Z,F,env,fp,pv,f,S,r,fr,q⟩=>by
  unfold tgN at q
  by_cases ho:a7 i env=true
  ·rw[if_pos ho]at q
   exact q _ _ (S.put r fr.nd fr.nf fr.new (fun a ha j _=>fr.dj a ha j) ho)
  ·rw[if_neg ho]at q;exact q.elim
theorem bY:SGs X T [] b5:=PGs.wk vZ fun vs σ H Q ⟨Z,F,env,fp,pvs,f,S,r,fr,q⟩=>by
 cases pvs with
 | nil=>unfold RelL at r;exact⟨r.1,q σ fp S⟩
 | cons x xs=>exact q.elim
theorem aH(hN:X.N.Nodup)(hi:X.N[i]?=some x)(hx:Loc X.env.scope x)(h2:SGs X T es u)
  (hs:(assignEach (.Name x pos::es) X.env).map (·.2)=assign (.Name x pos) X.env::(assignEach es X.env).map (·.2):=by rfl)
  (hf:X.fn x=true\/X.env.scope.names.lookup x=some .local:=by first | exact .inl rfl | exact .inr rfl | assumption):SGs X T (.Name x pos::es) (aD (tgN i) u) :=
 PGs.wk (sR (pD (pos:=pos) hN hi hx hf) h2 hs) fun vs σ H Q ⟨Z,F,env,fp,pvs,f,S,r,fr,q⟩=>by
  cases pvs with
  | nil=>exact q.elim
  | cons y ys =>
   unfold RelL at r
   obtain⟨v,ws,f1,f2,rfl,r1,r2,rfl⟩:=r
   obtain⟨n1,n2,n3⟩:=List.nodup_append.mp fr.nd
   by_cases ho:a7 i env=true
   case neg=>simp only[aD,tgN,if_neg ho]at q;exact q.elim
   simp only[aD,tgN,if_pos ho]at q
   refine⟨v,ws,rfl,Z,F,env.set i (some y),bj fp i f1,ys,f2,S.put r1 n1 (fun a ha=>fr.nf a (List.mem_append_left _ ha)) (fun a ha=>fr.new a (List.mem_append_left _ ha)) (fun a ha j _=>fr.dj a (List.mem_append_left _ ha) j) ho,r2,⟨n2,fun a ha=>fr.nf a (List.mem_append_right _ ha),fun a ha=>fr.new a (List.mem_append_right _ ha),fun a ha j=>?_⟩,q⟩
   unfold bj
   split
   ·exact fun z=>n3 a z a ha rfl
   ·exact fr.dj a (List.mem_append_right _ ha) j
theorem cC(hK:X.K=T.K)(hc:X.calm=true)(h:SGs X T es u)(hn:(assignEach es X.env).length=n:=by rfl)(hst:(assignEach es X.env).findIdx? (·.1)=none:=by rfl):SG X T (.Tuple es k pos) (tgT n u) :=
 PG.wk (yT (pos:=pos) (k:=k) hc h hn hst) fun v σ H Q ⟨Z,F,env,fp,pv,f,S,r,fr,q⟩=>by
  cases pv with
  | tup xs =>
   unfold Rel at r
   obtain⟨a,vs,rfl,hl,hr⟩:=r
   simp only[tgT]at q
   by_cases hx:xs.length=n
   ·rw[if_pos hx]at q
    exact⟨a,vs,rfl,by rw[hK];exact hl,by rw[<- hr.length];exact hx,Z,F,env,fp,xs,f,S,hr,fr,q⟩
   ·rw[if_neg hx]at q;exact q.elim
  | _=>exact q.elim
def qH(tg:TgM)(e:ME):MS:=fun env=>match e env with
 | .ok v=>if v.noLnt then (match tg v env with
  | some e'=>.next e'
  | none=>.stuck)else .stuck
 | .exc k=>.exc k env
 | .stuck=>.stuck
theorem rT(he:SE X T W e m)(hg:SG X T tg g)(hs:swapsWithSole [tg] e pos.line X.env=pure false:=by rfl)(hw:swappedStores [tg] e X.env=pure none:=by rfl)
  (h1:(assignEach [tg] X.env).map (·.2)=[assign tg X.env]:=by rfl):SS X T W (.Assign [tg] e pos) (qH g m):=PS.wk (sK (pos:=pos) he hg hs hw h1) fun D σ H ⟨Z,F,env,fp,S,q⟩=>by
 unfold qH at q
 refine tE.bind S (fun c e H' x=>?_) (fun e=>by rw[e]at q;exact q) fun pv v H1 F1 f e g r h1 h2 h3=>?_
 ·rw[e]at q
  exact q F H' σ fp (S.grow (Gr.same S.hp.ft x))
 ·rw[e]at q
  dsimp only at q
  split at q
  ·rename_i hl
   refine⟨Z,F1,env,fp,pv,f,S.grow g,Rel.noL (by simpa[PV.noLnt]using hl) r,⟨h2,h1,S.hp.newE h3,fun a ha j hj=>?_⟩,?_⟩
   ·obtain⟨_,o,ho⟩:=S.dis j a hj
    rw[h3 a ha]at ho;cases ho
   ·split at q
    ·rename_i e' he'
     rw[he']
     exact fun σ' fp' S'=>q F1 H1 σ' fp' S'
    ·exact q.elim
  ·exact q.elim
abbrev MI:=En->Res (List PV)
def ItR(T:Tb)(F B:Addr->Prop)(Ow:Addr->Prop)(H1:Hp)(J:It)(xs:List PV):Prop :=
 ∀H2,(∀a o,H1 a=some o->¬Ow a->H2 a=some o)->(∀(i:Nat) x,xs[i]?=some x->J.go i H2/\∀v H3,J.yld i H2 v H3->Ext H2 H3/\Rel T F B NoL H3 x v [])/\J.stop xs.length H2
theorem ItR.of0(h:∀H2,(∀a o,H1 a=some o->¬Ow a->H2 a=some o)->(∀(i:Nat) x,xs[i]?=some x->J.go i H2/\∀v H3,J.yld i H2 v H3->H3=H2/\Rel T F B NoL H2 x v [])/\J.stop xs.length H2):ItR T F B Ow H1 J xs:=fun H2 hk=>by
 obtain⟨a,b⟩:=h H2 hk
 refine⟨fun i x e=>⟨(a i x e).1,fun v H3 hy=>?_⟩,b⟩
 obtain⟨rfl,r⟩:=(a i x e).2 v H3 hy
 exact⟨Ext.refl,r⟩
def GI(T:Tb)(W:Nat->St->Hp->Prop)(B F Ow:Addr->Prop)(σ:St)(H:Hp)(R:It->Hp->Prop):Res (List PV)->Prop
 | .ok xs=>∀J H1 F1,Gr F H F1 H1->ItR T F1 B Ow H1 J xs->R J H1
 | .exc c=>∀H',Ext H H'->W c σ H'
 | .stuck=>False
def tI(T:Tb)(W:Nat->St->Hp->Prop)(m:MI):TI:=fun σ H R=>∃Z F env fp,ar T Z F H σ env fp/\GI T W Z.B F (Own fp) σ H R (m env)
abbrev SI(X:Cx)(T:Tb)(W:Nat->St->Hp->Prop)(tg iter:Expr)(m:MI):Prop:=PI X tg iter (tI T W m)
theorem sP(hl:PE X l tl):PI X tg l (fun σ H R=>tl σ H fun x H1=>∃a,x=.ref a/\((∃xs,SqL X.K H1 a xs/\R (Itl X.K a) H1)\/ ∃xs,SqT X.K H1 a xs/\R (Itt X.K a) H1)):=by
 intro pins s σ H R I h
 refine thn (hl pins s σ H _ I h) fun v s1 ⟨x,H1,I1,r1,q1⟩=>?_
 obtain⟨a,e,q⟩:=q1
 subst e
 cases r1
 rcases q with⟨xs,hq,q⟩ |⟨xs,hq,q⟩
 ·obtain⟨its,rv,p,hz⟩:=I1.list hq
  refine wpAny_pyIter_list p.isList ?_
  refine⟨s1.heap.objs.size,[s1.heap.objs.size],_,_,H1,rfl,I1.kept (t':=s1.toks) fun b o e=>Heap.get?_push_of_some _ e,qi a _,⟨_,Heap.get?_push_size _ rfl,rfl,rfl⟩,fun b hb=>?_,q⟩
  have e:b=s1.heap.objs.size:=by simpa using hb
  subst e
  exact I1.fpOk (Nat.le_refl _) (I1.hok.fresh (Nat.le_refl _))
 ·obtain⟨its,rv,p,hz⟩:=I1.tuple hq
  refine wpAny_pyIter_tuple (show s1.heap.IsTuple a its.toArray from p) ?_
  refine⟨s1.heap.objs.size,[s1.heap.objs.size],_,_,H1,rfl,I1.kept (t':=s1.toks) fun b o e=>Heap.get?_push_of_some _ e,nY a _,⟨_,Heap.get?_push_size _ rfl,rfl,rfl⟩,fun b hb=>?_,q⟩
  have e:b=s1.heap.objs.size:=by simpa using hb
  subst e
  exact I1.fpOk (Nat.le_refl _) (I1.hok.fresh (Nat.le_refl _))
def d7(xs:List PV):Bool:=!hasL Fl.isOwn xs&&!hasL Fl.isLnt xs
def dD(m:ME):MI:=fun env=>(m env).bind fun x=>match x with
 | .lst f xs=>if !f.isLnt&&d7 xs then .ok xs else .stuck
 | .tup xs=>if d7 xs then .ok xs else .stuck
 | _=>.stuck
theorem dY{H2:Hp}{Ow:Addr->Prop}(hF:∀a,F1 a->¬Ow a)(hB:∀a,B a->¬Ow a)(hO:∀a o,Ow a->H1 a=some o->Chg o)(hk:∀a o,H1 a=some o->¬Ow a->H2 a=some o){xs:List PV}{vs:List V}(r:RelL T F1 B NoL H1 xs vs []){i:Nat}{x:PV}{v:V}(e:xs[i]?=some x)(ev:vs[i]?=some v):Rel T F1 B NoL H2 x v []:=by
 obtain⟨w,f,e1,r1,sl⟩:=r.get e
 rw[ev]at e1
 cases e1
 obtain rfl:=List.sublist_nil.mp sl
 refine Rel.tr (fun _ h=>h) (fun _ h=>h) (fun _ h=>h) (fun a o q h=>hk a o q ?_) (fun _ z=>(nomatch z)) r1
 rcases h with h | h | h | h
 ·exact hF a h
 ·exact hB a h
 ·exact h.elim
 ·intro z
  have:=hO a o z q
  cases o with
  | lst _ | ins _ _ _=>exact h
  | _=>exact this
theorem ar.bow(S:ar T Z F H σ env fp):∀a,Z.B a->¬Own fp a:=fun a h ⟨i,hi⟩=>by
 obtain⟨⟨o,h1⟩,h2⟩:=S.hp.bo a h
 rcases S.new i a hi with z | z
 ·rw[h1]at z;cases z
 ·exact h2 z
theorem ar.fow(S:ar T Z F H σ env fp):∀a,F a->¬Own fp a:=fun a h ⟨i,hi⟩=>(S.dis i a hi).1 h
theorem ar.oow(S:ar T Z F H σ env fp):∀a o,Own fp a->H a=some o->Chg o:=fun a o ⟨i,hi⟩ e=>by
 obtain⟨o',h1,h2⟩:=S.ch i a hi
 rw[e]at h1;cases h1;exact h2
theorem dh(h:d7 xs=true)(r:RelL T F B L H xs vs f):f=[]/\RelL T F B NoL H xs vs f:=by
 simp only[d7,Bool.and_eq_true,Bool.not_eq_true']at h
 exact⟨RelL.noOwn h.1 r,RelL.noL h.2 r⟩
theorem eC(hK:X.K=T.K)(he:SE X T W e m):SI X T W tg e (dD m):=fun pins s σ H R I h=>sP he pins s σ H R I (by
 obtain⟨Z,F,env,fp,S,q⟩:=h
 unfold dD at q
 refine tE.bind S (fun c e=>by rw[e]at q;exact q) (fun e=>by rw[e]at q;exact q) fun x v H1 F1 f1 e1 g1 r1 n1 d1 w1=>?_
 rw[e1]at q
 simp only[Res.ok_bind]at q
 have S1:=S.grow g1
 rw[hK]
 cases x with
 | lst f xs =>
  dsimp only at q
  by_cases hc:(!f.isLnt&&d7 xs)=true
  ·rw[if_pos hc]at q
   rw[Bool.and_eq_true]at hc
   unfold Rel at r1
   obtain⟨a,vs,fp',rfl,hl,hr,hf⟩:=r1
   obtain⟨rfl,hr'⟩:=dh hc.2 hr
   refine⟨a,rfl,.inl ⟨vs,hl.sq,q _ H1 F1 g1 (ItR.of0 fun H2 hk=>?_)⟩⟩
   have na:f≠.mod->∀o,H1 a=some o->H2 a=some o:=fun hn o ho=>by
    refine hk a o ho ?_
    cases f with
    | own =>
     rintro⟨i,hi⟩
     obtain⟨_,o',ho'⟩:=S.dis i a hi
     obtain rfl:f1=[a]:=hf
     rw[w1 a List.mem_cons_self]at ho';cases ho'
    | frz=>exact S1.fow a hl.1
    | bor=>exact S1.bow a hl.1
    | lnt=>exact absurd hc.1 (by decide)
    | mod=>exact absurd rfl hn
   have hl2:SqL T.K H2 a vs:=by
    by_cases hn:f=.mod
    ·subst hn;exact .inr hl
    ·exact .inl (Rd.tr (na hn) (hl.rd hn))
   refine⟨fun i x ex=>?_,⟨vs,hl2,by rw[hr.length];exact Nat.le_refl _⟩⟩
   obtain⟨v,_,ev,_,_⟩:=hr.get ex
   refine⟨⟨vs,v,hl2,ev⟩,fun w H3 hy=>⟨hy.1,?_⟩⟩
   have e3:=hy.2 vs hl2
   exact dY S1.fow S1.bow S1.oow hk hr' ex e3
  ·rw[if_neg hc]at q;exact q.elim
 | tup xs =>
  dsimp only at q
  by_cases hc:d7 xs=true
  ·rw[if_pos hc]at q
   unfold Rel at r1
   obtain⟨a,vs,rfl,hl,hr⟩:=r1
   obtain⟨rfl,hr'⟩:=dh hc hr
   refine⟨a,rfl,.inr ⟨vs,hl,q _ H1 F1 g1 (ItR.of0 fun H2 hk=>?_)⟩⟩
   have hl2:SqT T.K H2 a vs:=SqT.tr (fun o ho hfx=>hk a o ho fun z=>by
    have:=S1.oow a o z ho
    cases o with
    | lst _ | ins _ _ _=>exact hfx
    | _=>exact this) hl
   refine⟨fun i x ex=>?_,⟨vs,hl2,by rw[hr.length];exact Nat.le_refl _⟩⟩
   obtain⟨v,_,ev,_,_⟩:=hr.get ex
   refine⟨⟨vs,v,hl2,ev⟩,fun w H3 hy=>⟨hy.1,?_⟩⟩
   exact dY S1.fow S1.bow S1.oow hk hr' ex (hy.2 vs hl2)
  ·rw[if_neg hc]at q;exact q.elim
 | _=>exact q.elim)
def cN(lo:Int)(n:Nat):List PV:=(List.range n).map fun k=>.int (lo+(k:Nat))
def inR(i:Int):Bool:=decide (-(2 ^ 62)<= i/\i < 2 ^ 62)
def bO(ms:MA):MI:=fun env=>(ms env).bind fun xs=>match xs with
 | [.int n]=>if inR n then .ok (cN 0 n.toNat)else .stuck
 | _=>.stuck
theorem wD:ItR T F1 B Ow H1 (Itr lo n) (cN lo n):=by
 apply ItR.of0
 intro H2 _
 refine⟨fun i x ex=>?_,by simp[cN,Itr]⟩
 have hi:i < n:=by
  have:=(List.getElem?_eq_some_iff.mp ex).1
  simpa[cN]using this
 refine⟨hi,fun v H3 hy=>⟨hy.1,?_⟩⟩
 obtain⟨_,rfl⟩:=hy
 have:x=.int (lo+(i:Nat)):=by
  simp[cN,hi]at ex
  exact ex.symm
 subst this
 exact d6
theorem cb(hg:Gl X "range")(hm:X.mg "range" = none)(ha:SA X T W [a] ms)(hs:starEach [a] X.env=[(false,eval a X.env)]:=by rfl):SI X T W tg (.Call (.Name "range" p) [a] [] pos) (bO ms):=fun pins s σ H R I h=>kG hg hm ha hs pins s σ H R I (by
 obtain⟨Z,F,env,fp,S,q⟩:=h
 unfold bO at q
 refine tA.bind S (fun c e=>by rw[e]at q;exact q) (fun e=>by rw[e]at q;exact q) fun xs vs H1 F1 f1 e1 g1 r1 n1 d1 w1=>?_
 rw[e1]at q
 simp only[Res.ok_bind]at q
 split at q
 ·rename_i n
  split at q
  ·rename_i hc
   obtain⟨v,rfl,r2⟩:=r1.one
   unfold Rel at r2
   obtain⟨rfl,_⟩:=r2
   have hc':-(2 ^ 62)<= n/\n < 2 ^ 62:=by simpa[inR]using hc
   exact⟨n,rfl,hc'.1,hc'.2,q _ H1 F1 g1 wD⟩
  ·exact q.elim
 ·exact q.elim)
def bW(it:MI)(tg:TgM)(body:MS):MS:=fun env=>match it env with
 | .ok xs=>kj (fun x e=>match tg x e with
  | some e'=>body e'
  | none=>.stuck) xs env
 | .exc c=>.exc c env
 | .stuck=>.stuck
theorem bB(hp:PassesOwn (model X.prog X.w) X.A X.env X.xe)(hc:X.calm=true)(hi:SI X T W tg iter mi)(hg:SG X T tg g)(hb:SSs X T W body mb)
  (hs:∀x,foldedSetIterable iter X.env x=pure x:=by intro _;rfl):SS X T W (.For tg iter body [] pos) (bW mi g mb):=PS.wk (yP (pos:=pos) hp hc hi hg hb hs) fun D σ H ⟨Z,F,env,fp,S,q⟩=>by
 unfold bW at q
 refine⟨Z,F,env,fp,S,?_⟩
 cases em:mi env with
 | exc c=>rw[em]at q;exact fun H' x=>q F H' σ fp (S.grow (Gr.same S.hp.ft x))
 | stuck=>rw[em]at q;exact q
 | ok xs =>
  rw[em]at q
  dsimp only at q
  intro J H1 F1 g1 it
  have S1:=S.grow g1
  generalize hbd:(fun (x:PV) (e:En)=>match g x e with
   | some e'=>mb e'
   | none=>Out.stuck)=bd at q
  refine⟨fun i m σ2 H2=>m=xs.length - i/\i<=xs.length/\∃F2 env2 fp2,ar T (Z.re F1 H1 fp) F2 H2 σ2 env2 fp2/\GS T W Z D (kj bd (xs.drop i) env2),⟨xs.length,by simp,Nat.zero_le _,F1,env,fp,S1.enter,q⟩,?_⟩
  rintro i m σ2 H2 ⟨rfl,hi,F2,env2,fp2,S2,q2⟩
  obtain⟨go,stop⟩:=it H2 S2.hp.keep
  by_cases hlt:i < xs.length
  ·have hx:xs[i]?=some xs[i]:=by simp[hlt]
   obtain⟨g1',yl⟩:=go i _ hx
   refine .inr ⟨g1',fun σ3 H3=>∃F3 env3 fp3,ar T (Z.re F1 H1 fp) F3 H3 σ3 env3 fp3/\GS T W Z D (kj bd (xs.drop (i+1)) env3),fun σ3 H3 h3=>⟨xs.length - (i+1),by omega,rfl,hlt,h3⟩,fun v H3 hy=>?_⟩
   obtain⟨ex3,r⟩:=yl v H3 hy
   rw[List.drop_eq_getElem_cons hlt]at q2
   unfold kj at q2
   rw[<- hbd]at q2
   dsimp only at q2
   refine⟨Z.re F1 H1 fp,F2,env2,fp2,xs[i],[],S2.grow (Gr.same S2.hp.ft ex3),r.ext Ext.refl S2.hp.f0,rm.nil,?_⟩
   cases eg:g xs[i] env2 with
   | none=>rw[eg]at q2;exact q2
   | some e' =>
    rw[eg]at q2
    dsimp only at q2
    intro σ' fp' S'
    refine⟨Z.re F1 H1 fp,F2,e',fp',S',?_⟩
    cases eb:mb e' with
    | next e2 | cont e2=>rw[eb]at q2;exact fun F3 H3 σ3 fp3 S3=>⟨F3,e2,fp3,S3,by rw[<- hbd];exact q2⟩
    | brk e2=>rw[eb]at q2;exact fun F3 H3 σ3 fp3 S3=>q2 F3 H3 σ3 fp3 (S1.leave S3)
    | ret v=>rw[eb]at q2;exact fun F3 H3 v f hp r nd nf new=>q2 F3 H3 v f (dv.leave S1 hp) r nd nf fun a ha=>S1.newL (new a ha)
    | exc c e2=>rw[eb]at q2;exact fun F3 H3 σ3 fp3 S3=>q2 F3 H3 σ3 fp3 (S1.leave S3)
    | stuck=>rw[eb]at q2;exact q2
  ·have e:i=xs.length:=by omega
   subst e
   rw[List.drop_length]at q2
   exact .inl ⟨stop,q2 F2 H2 σ2 fp2 (S1.leave S2)⟩
end
end PR
namespace L2
open PySem PySem.Spec
def da(cells:List (Str×Addr)):List (Str×NameKind)->List (Str×Addr)->List (Str×Addr)
 | [],acc=>acc
 | (n,k)::r,acc=>if (k == .free)=true then (match cells.lookup n with
  | some c=>da cells r ((n,c)::acc)
  | none=>da cells r acc)else da cells r acc
theorem gy:∀(names:List (Str×NameKind)) (acc:List (Str×Addr)),(∀y∈names,y.2=.free->∃c,env.cells.lookup y.1=some c)->
  (forIn names acc fun (x:Str × NameKind) (cs:List (Str × Addr))=>match x with
   |(name,kind)=>if(kind==.free)=true then do let c <- cellOf env name;pure (ForInStep.yield ((name,c)::cs))else pure (ForInStep.yield cs):Sem (List (Str×Addr)))=pure (da env.cells names acc)
 | [],acc,_=>by simp[da]
 |(n,k)::r,acc,h=>by
  rw[List.forIn_cons]
  by_cases hk:(k==NameKind.free)=true
  ·obtain⟨c,hc⟩:=h (n,k) List.mem_cons_self (by simpa using hk)
   dsimp only at hc
   simp only[hk,if_true,cellOf,hc,pure_bind]
   rw[da,if_pos hk,hc]
   exact gy r _ fun y hy=>h y (List.mem_cons_of_mem _ hy)
  ·simp only[hk,Bool.false_eq_true,if_false,pure_bind]
   rw[da,if_neg hk]
   exact gy r _ fun y hy=>h y (List.mem_cons_of_mem _ hy)
theorem km(h:∀y∈scope.names,y.2=.free->∃c,env.cells.lookup y.1=some c):closureFor scope env=pure (da env.cells scope.names []):=by
 unfold closureFor
 simp only[]
 rw[<- gy scope.names [] h]
 simp
theorem eV{cells:List (Str×Addr)}:∀{names:List (Str×NameKind)}{acc:List (Str×Addr)},(∀p∈acc,cells.lookup p.1=some p.2)->∀p∈da cells names acc,cells.lookup p.1=some p.2
 | [],_,h=>h
 |(n,k)::r,acc,h=>by
  unfold da
  split
  ·split
   ·rename_i c hc
    exact eV fun p hp=>by
     rcases List.mem_cons.mp hp with rfl | hp
     ·exact hc
     ·exact h p hp
   ·exact eV h
  ·exact eV h
theorem ic:∀{names:List (Str×NameKind)}{acc:List (Str×Addr)}{p:Str×Addr},p∈acc->p∈da cells names acc
 | [],_,_,h=>h
 |(n,k)::r,acc,p,h=>by
  unfold da
  split
  ·split
   ·exact ic (List.mem_cons_of_mem _ h)
   ·exact ic h
  ·exact ic h
theorem fX{cells:List (Str×Addr)}{x:Str}{c:Addr}(hc:cells.lookup x=some c):∀{names:List (Str×NameKind)}{acc:List (Str×Addr)},(x,NameKind.free)∈ names->(x,c)∈ da cells names acc
 | [],_,h=>nomatch h
 |(n,k)::r,acc,h=>by
  unfold da
  rcases List.mem_cons.mp h with e | h
  ·cases e
   rw[if_pos (by rfl),hc]
   exact ic List.mem_cons_self
  ·split
   ·split
    ·exact fX hc h
    ·exact fX hc h
   ·exact fX hc h
theorem gp{cells l:List (Str×Addr)}(h:∀p∈l,cells.lookup p.1=some p.2){x:Str}{c:Addr}(m:(x,c)∈ l):l.lookup x=some c:=by
 induction l with
 | nil=>cases m
 | cons p r ih =>
  obtain⟨n,d⟩:=p
  rw[List.lookup_cons]
  by_cases e:x=n
  ·subst e
   simp only[beq_self_eq_true]
   have h1:=h (x,d) List.mem_cons_self
   have h2:=h (x,c) m
   dsimp only at h1 h2
   rw[h1]at h2
   exact h2
  ·rw[show(x==n)=false by simpa using e]
   refine ih (fun p hp=>h p (List.mem_cons_of_mem _ hp)) ?_
   rcases List.mem_cons.mp m with z | z
   ·cases z;exact absurd rfl e
   ·exact z
theorem eU{cells:List (Str×Addr)}{names:List (Str×NameKind)}{x:Str}{c:Addr}(h:(da cells names []).lookup x=some c):cells.lookup x=some c :=
 eV (names:=names) (acc:=[]) (fun _ z=>nomatch z) (x,c) (PySem.mem_of_lookup h)
theorem j6:∀(names:List (Str×NameKind)) (a:Nat) (l acc:List (Str×Addr)),cellsFrom a names (l++acc)=cellsFrom a names l++acc
 | [],_,_,_=>rfl
 |(n,k)::r,a,l,acc=>by
  unfold cellsFrom
  split
  ·exact j6 r (a+1) ((n,a)::l) acc
  ·exact j6 r a l acc
theorem j5:∀{names:List (Str×NameKind)}{a:Nat}{l:List (Str×Addr)}{p:Str×Addr},p∈cellsFrom a names l->p∈l \/(a<=p.2/\(p.1,NameKind.cell)∈ names)
 | [],_,_,_,h=>.inl h
 |(n,k)::r,a,l,p,h=>by
  unfold cellsFrom at h
  split at h
  ·rename_i hk
   have hk:k=.cell:=by simpa using hk
   subst hk
   rcases j5 h with h | h
   ·rcases List.mem_cons.mp h with rfl | h
    ·exact .inr ⟨Nat.le_refl _,List.mem_cons_self⟩
    ·exact .inl h
   ·exact .inr ⟨by omega,List.mem_cons_of_mem _ h.2⟩
  ·rcases j5 h with h | h
   ·exact .inl h
   ·exact .inr ⟨h.1,List.mem_cons_of_mem _ h.2⟩
theorem mq:∀{names:List (Str×NameKind)}{a:Nat}{l:List (Str×Addr)}{x:Str},((x,NameKind.cell)∈ names \/(l.lookup x).isSome=true)->((cellsFrom a names l).lookup x).isSome=true
 | [],_,_,_,h=>h.resolve_left (fun z=>nomatch z)
 |(n,k)::r,a,l,x,h=>by
  unfold cellsFrom
  split
  ·rename_i hk
   have hk:k=.cell:=by simpa using hk
   subst hk
   refine mq ?_
   by_cases e:x=n
   ·subst e;exact .inr (by simp)
   ·rcases h with h | h
    ·rcases List.mem_cons.mp h with z | h
     ·cases z;exact absurd rfl e
     ·exact .inl h
    ·exact .inr (by rw[List.lookup_cons,show(x==n)=false by simpa using e];exact h)
  ·rename_i hk
   refine mq ?_
   rcases h with h | h
   ·rcases List.mem_cons.mp h with z | h
    ·cases z;exact absurd rfl hk
    ·exact .inl h
   ·exact .inr h
theorem j7:∀{names:List (Str×NameKind)}{a:Nat}{l:List (Str×Addr)},(∀p∈l,p.2 < a)->(l.Pairwise fun x y=>x.2≠y.2)->(cellsFrom a names l).Pairwise fun x y=>x.2≠y.2
 | [],_,_,_,h=>h
 |(n,k)::r,a,l,hl,h=>by
  unfold cellsFrom
  split
  ·refine j7 (fun p hp=>?_) (List.pairwise_cons.mpr ⟨fun y hy e=>?_,h⟩)
   ·rcases List.mem_cons.mp hp with rfl | hp
    ·exact Nat.lt_succ_self _
    ·exact Nat.lt_succ_of_lt (hl p hp)
   ·have e':a=y.2:=e
    exact Nat.lt_irrefl _ (Nat.lt_of_lt_of_eq (hl y hy) e')
  ·exact j7 hl h
theorem g8{α:Type}{x:Str}:∀{l m:List (Str×α)},(l++m).lookup x=(l.lookup x).or (m.lookup x)
 | [],m=>by simp
 |(n,c)::l,m=>by
  rw[List.cons_append,List.lookup_cons,List.lookup_cons,g8 (l:=l)]
  cases x==n<;>simp
abbrev nO(X:Cx)(scope:Scope)(C:Addr):List (Str×Addr):=cellsFrom (C+1) scope.names (da X.env.cells scope.names [])
theorem j8{X:Cx}{scope:Scope}{C:Addr}{x:Str}{c:Addr}(h:(nO X scope C).lookup x=some c):(C+1<=c/\(x,NameKind.cell)∈ scope.names/\(x,c)∈ cellsFrom (C+1) scope.names [])\/(da X.env.cells scope.names []).lookup x=some c:=by
 unfold nO at h
 rw[show da X.env.cells scope.names []=[]++ da X.env.cells scope.names []from rfl,j6,g8]at h
 cases e:(cellsFrom (C+1) scope.names []).lookup x with
 | some d =>
  rw[e]at h
  cases h
  have m:=PySem.mem_of_lookup e
  rcases j5 m with z | z
  ·cases z
  ·exact .inl ⟨z.1,z.2,m⟩
 | none =>
  rw[e]at h
  exact .inr (by simpa using h)
theorem Aa(hx:(x,NameKind.cell)∉ scope.names)(h:(da X.env.cells scope.names []).lookup x=some c):(nO X scope C).lookup x=some c:=by
 unfold nO
 rw[show da X.env.cells scope.names []=[]++ da X.env.cells scope.names []from rfl,j6,g8]
 cases e:(cellsFrom (C+1) scope.names []).lookup x with
 | some d =>
  rcases j5 (PySem.mem_of_lookup e)with z | z
  ·cases z
  ·exact absurd z.2 hx
 | none=>simpa using h
theorem m_{M:Model}{A:Around}{E:Value->Shared->Prop}{s:Shared}{scope:Scope}{globals:Addr}{closure:List (Str×Addr)}{qual:Str}{func:Option Addr}{code:Value}{outer:Env}{builtins:Addr}{Q:Env->Shared->Prop}
  (hQ:∀ h',h'.Ns s.heap.objs.size (fun _=>none)->(∀ b o,s.heap.get? b=some o->h'.get? b=some o)->(∀ n c,(n,c) ∈ cellsFrom (s.heap.objs.size+1) scope.names []->h'.IsCell c none) ->
   Q (newEnv scope s.heap.objs.size globals (cellsFrom (s.heap.objs.size+1) scope.names closure) qual func code (some outer) builtins) { s with heap:=h' }) :
  wpAny M A (newFunctionEnv scope globals closure [] qual func code (some outer) builtins) Q E s:=by
 simp only[newFunctionEnv,Option.isSome_some,if_true]
 refine wpAny_bind (wpAny_alloc ?_)
 refine wpAny_bind (wpAny_layCells _ (fun name kind cells=>by cases hkc:kind==NameKind.cell<;>simp[hkc]) _ _ _ _ ?_)
 have ok:=cellsFrom_ok scope.names (s.heap.push { cls:=.type "dict", data:=.dict #[] }) (s.heap.objs.size+1) [] ⟨fun _ _ hm=>(nomatch hm),List.Pairwise.nil⟩ (by rw[Heap.size_push];exact Nat.le_refl _)
 rw[Heap.size_push]at ok
 rw[show({ s with heap:=s.heap.push { cls:=.type "dict", data:=.dict #[] } }:Shared).heap.objs.size=s.heap.objs.size+1 from Heap.size_push ..]
 refine wpAny_bind ?_
 rw[List.forIn_nil]
 exact wpAny_pure (wpAny_pure (hQ _ ((Heap.Ns.new s.heap (.type "dict")).keeps (pushCells_keeps _ _)) (fun b o e=>pushCells_keeps _ _ b o (Heap.get?_push_of_some _ e)) fun n c hm=>(ok.empty n c hm).1))
def cxC(X:Cx)(scope:Scope)(C:Addr)(N:List Str)(s:Shared)(H:Hp)(ex:List Addr):Cx :=
 { X with env:=compEnvC scope (nO X scope C) C X.env,N:=N,s₀:=s,H₀:=H,outer:=X.stack,stack:=X.stack,ex:=ex,fn:=fun x=>scope.names.lookup x==some .cell,pn:=[],xe:=fun _ _=>False }
structure db(X:Cx)(scope:Scope)(caps:List Nat)(N tn:List Str):Prop where
 kind:scope.kind=.function
 cel:∀y∈scope.names,y.2=.cell->scope.names.lookup y.1=some .cell
 names:∀y∈scope.names,y.2=.local->scope.names.lookup y.1=some .local
 free:∀y∈scope.names,y.2=.free->X.env.kindOf y.1=some .cell\/X.env.kindOf y.1=some .free
 eN:N=caps.map (fun i=>X.N.getD i "")++ tn
 capN:∀i∈caps,i < X.N.length
 capF:∀i∈caps,∀x,X.N[i]?=some x->(x,NameKind.free)∈ scope.names/\scope.names.lookup x=some .free
 nd:N.Nodup
theorem gP{scope:Scope}{env:Env}{x:Str}{k:NameKind}(h:(relabel scope env).names.lookup x=some k)(hc:k=.cell\/k=.free):(x,NameKind.free)∈ scope.names \/(x,NameKind.cell)∈ scope.names:=by
 have m:=PySem.mem_of_lookup h
 obtain⟨⟨n,k0⟩,hm,e⟩:=List.mem_map.mp m
 dsimp only at e
 split at e
 ·rename_i hh
  cases e
  have:k0=.free:=by
   simp only[Bool.and_eq_true,beq_iff_eq]at hh
   exact hh.1.1
  subst this
  exact .inl hm
 ·cases e
  rcases hc with rfl | rfl
  ·exact .inr hm
  ·exact .inl hm
theorem gQ{scope:Scope}{env:Env}{x:Str}:∀{names:List (Str×NameKind)},names.lookup x=some .free ->
  (names.map fun(n,k)=>if(k==NameKind.free&&env.scope.kind==.function&&env.kindOf n==some .cell)then(n,NameKind.cell)else(n,k)).lookup x=some .cell \/
  (names.map fun(n,k)=>if(k==NameKind.free&&env.scope.kind==.function&&env.kindOf n==some .cell)then(n,NameKind.cell)else(n,k)).lookup x=some .free
 | [],h=>by simp at h
 |(n,k)::r,h=>by
  show List.lookup x ((if(k==NameKind.free&&env.scope.kind==.function&&env.kindOf n==some .cell)=true then(n,NameKind.cell)else(n,k))::_)=_\/List.lookup x ((if(k==NameKind.free&&env.scope.kind==.function&&env.kindOf n==some .cell)=true then(n,NameKind.cell)else(n,k))::_)=_
  have ih:=@gQ scope env x r
  cases hx:x==n with
  | true =>
   simp only[List.lookup_cons,hx]at h
   cases h
   split
   ·exact .inl (by simp[List.lookup_cons,hx])
   ·exact .inr (by simp[List.lookup_cons,hx])
  | false =>
   simp only[List.lookup_cons,hx]at h
   split
   ·simpa only[List.lookup_cons,hx]using ih h
   ·simpa only[List.lookup_cons,hx]using ih h
section
variable{X:Cx}{scope:Scope}{caps:List Nat}{N tn:List Str}{pins:List (Addr×Obj)}{σ:St}{H:Hp}{s:Shared}{fp:List Addr}{C:Addr}
theorem oS(cs:db X scope caps N tn)(I:Inv X pins σ H s)(hf:∀b∈fp,kf X pins H b)(hlt:∀b∈fp,b < s.heap.objs.size)(hC:s.heap.objs.size<=C):(cxC X scope C N s H fp).Ok where
 mod:=I.ok.mod
 kind:=by show(relabel scope X.env).kind=_;exact cs.kind
 glob:=I.ok.glob
 blt:=I.ok.blt
 above:=hC
 inj:=fun x y c h1 h2=>by
  have old:∀z,(da X.env.cells scope.names []).lookup z=some c->c < s.heap.objs.size:=fun z hz=>let⟨_,hv⟩:=I.cell z c (eU hz);hv.lt
  rcases j8 h1 with⟨l1,_,m1⟩ | h1<;>rcases j8 h2 with⟨l2,_,m2⟩ | h2
  ·exact name_of_addr (j7 (l:=[]) (fun _ z=>nomatch z) List.Pairwise.nil) m1 m2
  ·exact absurd (Nat.lt_of_lt_of_le (old y h2) (Nat.le_trans hC (Nat.le_trans (Nat.le_succ _) l1))) (Nat.lt_irrefl _)
  ·exact absurd (Nat.lt_of_lt_of_le (old x h1) (Nat.le_trans hC (Nat.le_trans (Nat.le_succ _) l2))) (Nat.lt_irrefl _)
  ·exact I.ok.inj x y c (eU h1) (eU h2)
 has:=fun x hx=>by
  have hx:(relabel scope X.env).names.lookup x=some .cell \/(relabel scope X.env).names.lookup x=some .free:=hx
  have m:(x,NameKind.free)∈ scope.names \/(x,NameKind.cell)∈ scope.names:=by
   rcases hx with h | h
   ·exact gP h (.inl rfl)
   ·exact gP h (.inr rfl)
  refine Option.isSome_iff_exists.mp (mq (l:=da X.env.cells scope.names []) ?_)
  rcases m with m | m
  ·obtain⟨c,hc⟩:=I.ok.has x (cs.free _ m rfl)
   exact .inr (by rw[gp (eV (acc:=[]) fun _ z=>nomatch z) (fX hc m)];rfl)
  ·exact .inl m
 cab:=fun x c h hc=>by
  have h':(scope.names.lookup x==some NameKind.cell)=true:=h
  have hx:scope.names.lookup x=some .cell:=by simpa using h'
  have hs:s.heap.objs.size<=C:=hC
  have hc:(nO X scope C).lookup x=some c:=hc
  obtain⟨d,hd⟩:=Option.isSome_iff_exists.mp (mq (a:=C+1) (l:=[]) (.inl (PySem.mem_of_lookup hx)))
  unfold nO at hc
  rw[show da X.env.cells scope.names []=[]++ da X.env.cells scope.names []from rfl,j6,g8,hd]at hc
  cases hc
  rcases j5 (PySem.mem_of_lookup hd)with z | z
  ·cases z
  ·exact Nat.le_trans hs (Nat.le_trans (Nat.le_succ _) z.1)
 hd:=I.ok.hd
 frames:=I.ok.frames
 stk:=.inl rfl
 exf:=fun b hb=>⟨Nat.ne_of_lt (Nat.lt_of_lt_of_le (hlt b hb) hC),fun x c h=>by
  rcases j8 h with⟨l1,_,_⟩ | h
  ·exact fun z=>absurd (Nat.lt_of_lt_of_le (hlt b hb) (Nat.le_trans hC (Nat.le_trans (Nat.le_succ _) l1))) (by rw[z];exact Nat.lt_irrefl _)
  ·exact(hf b hb).2.2.2.2.1 x c (eU h)⟩
 bs:=I.bs
 bsz:=Nat.le_trans I.ok.bsz I.sz
 noex:=fun b o e hb=>by
  rcases(hf b hb).2.2.2.1 with z | z
  ·exact I.ok.noex b o e z
  ·exact absurd (Nat.lt_of_lt_of_le (Heap.lt_size e) (Nat.le_trans I.ok.bsz z)) (Nat.lt_irrefl _)
 exfs:=fun b hb hs=>by
  rcases List.mem_cons.mp (I.stkSub b hs)with z | z
  ·exact(hf b hb).2.1 z
  ·exact(hf b hb).2.2.1 z
 funs:=I.stack
 frf:=I.stkFree
def mr(caps:List Nat)(k:Nat)(σ:St):St:=caps.map (fun i=>(σ[i]?).join)++ List.replicate k none
theorem ua(cs:db X scope caps N tn)(I:Inv X pins σ H s)(hf:∀b∈fp,kf X pins H b)(hlt:∀b∈fp,b < s.heap.objs.size)
  (hns:h₁.Ns (s.heap.objs.size+1) fun _=>none) (hD:h₁.get? s.heap.objs.size=some { cls:=.type "list", data:=.seq ([]:List Value).toArray }) (old:∀b o,s.heap.get? b=some o->h₁.get? b=some o)
  (hcl:∀n c,(n,c)∈ cellsFrom (s.heap.objs.size+1+1) scope.names []->h₁.IsCell c none) :
  Inv (cxC X scope (s.heap.objs.size+1) N s H fp) [] (mr caps tn.length σ) (upd H s.heap.objs.size (.lst [])) { s with heap:=h₁,toks:=t }:=by
 have fresh:∀b,s.heap.objs.size<=b->H b=none:=fun b hb=>I.hok.fresh hb
 have neD:s.heap.objs.size+1≠s.heap.objs.size:=Nat.succ_ne_self _
 have ltc:∀x c,(da X.env.cells scope.names []).lookup x=some c->∃v,s.heap.IsCell c v:=fun x c h=>I.cell x c (eU h)
 refine⟨oS cs I hf hlt (Nat.le_succ _),rfl,I.bare,Un.laid old (Nat.le_refl _) (fresh _ (Nat.le_refl _)),⟨_,hns,fun i y v h1 h2 h3=>?_⟩,fun x c h=>?_,?_,fun x c h=>?_,fun p hp=>absurd (show p ∈([]:List (Addr×Obj))from hp) (by simp),?_,?_⟩
 ·have hi:i < caps.length:=by
   unfold mr at h2
   by_cases hi:i < caps.length
   ·exact hi
   ·rw[List.getElem?_append_right (by simpa using hi),List.getElem?_replicate]at h2
    split at h2<;>cases h2
  unfold mr at h2
  rw[List.getElem?_append_left (by simpa using hi),List.getElem?_map]at h2
  obtain⟨j,hj,e2⟩:=Option.map_eq_some_iff.mp h2
  have hjc:j∈caps:=List.mem_of_getElem? hj
  have hjN:=cs.capN j hjc
  have hy:X.N[j]?=some y:=by
   have h1':N[i]?=some y:=h1
   rw[cs.eN,List.getElem?_append_left (by simpa using hi),List.getElem?_map,hj]at h1'
   have:X.N.getD j "" = y:=by simpa using h1'
   rw[<- this]
   simp[hjN]
  have hσ:σ[j]?=some (some v):=by
   cases e:σ[j]? with
   | none=>rw[e]at e2;cases e2
   | some w=>rw[e]at e2;simp only[Option.join_some]at e2;rw[e2]
  obtain⟨m0,hn0,hl⟩:=I.loc
  obtain⟨hm,hlk⟩:=cs.capF j hjc y hy
  have hk:=cs.free _ hm rfl
  dsimp only at hk
  have hvis:Vis X.env.scope y:=by
   rcases hk with z | z
   ·exact .inr (.inl z)
   ·exact .inr (.inr z)
  obtain⟨u,ru,lk⟩:=hl j y v hy hσ hvis
  refine⟨u,ru,.inr ?_⟩
  rcases lk with⟨z,_⟩ |⟨_,c,hc,hcell⟩
  ·rcases hk with w | w
   ·rw[z]at w;cases w
   ·rw[z]at w;cases w
  ·refine⟨gQ (scope:=scope) hlk,c,Aa (fun z=>?_) (gp (eV (acc:=[]) fun _ z=>nomatch z) (fX hc hm)),hcell.keeps old⟩
   have:=cs.cel _ z rfl
   rw[hlk]at this
   cases this
 ·rcases j8 h with⟨_,_,m⟩ | h
  ·exact⟨none,hcl x c m⟩
  ·obtain⟨v,hv⟩:=ltc x c h
   exact⟨v,hv.keeps old⟩
 ·show upd H _ _ (s.heap.objs.size+1)=none
  rw[aF neD]
  exact fresh _ (Nat.le_succ _)
 ·rcases j8 h with⟨l1,_,_⟩ | h
  ·rw[aF (Nat.ne_of_gt (Nat.lt_of_lt_of_le (Nat.lt_succ_of_lt (Nat.lt_succ_self _)) l1))]
   exact fresh _ (Nat.le_trans (Nat.le_succ_of_le (Nat.le_succ _)) l1)
  ·obtain⟨v,hv⟩:=ltc x c h
   rw[aF (Nat.ne_of_lt hv.lt)]
   exact I.freeC x c (eU h)
 ·exact I.hok.laid old (Nat.le_refl _) ⟨Nat.zero_le _,[],_,.nil,hD⟩
 ·show(mr caps tn.length σ).length=N.length
  rw[cs.eN]
  simp[mr]
end
end L2
namespace PR
open PySem PySem.Spec L2
def Fl.borrow:Fl->Fl
 | .own | .lnt=>.bor
 | f=>f
def PV.borrow(x:PV):PV:=x.mapF Fl.borrow
mutual
theorem Rel.borrow(hB:∀a,B a->B' a)(hL:∀a,L a->B' a):∀{x:PV}{v:V}{fp:List Addr},(∀a∈fp,B' a)->Rel T F B L H x v fp->Rel T F B' L' H (x.mapF Fl.borrow) v []
 | .non,_,_,_,h | .bl _,_,_,_,h | .int _,_,_,_,h | .str _,_,_,_,h=>by unfold Rel at h;simp only[PV.mapF];unfold Rel;exact⟨h.1,rfl⟩
 | .lst f xs,_,fp,hp,h=>by
  unfold Rel at h
  obtain⟨a,vs,fp',e,hl,hr,hf⟩:=h
  simp only[PV.mapF]
  unfold Rel
  cases f with
  | own =>
   obtain rfl:fp=a::fp':=hf
   exact⟨a,vs,[],e,⟨hp a List.mem_cons_self,.inl hl⟩,RelL.borrow hB hL (fun b hb=>hp b (List.mem_cons_of_mem _ hb)) hr,rfl,rfl⟩
  | frz=>obtain⟨rfl,rfl⟩:=hf;exact⟨a,vs,[],e,hl,RelL.borrow hB hL hp hr,rfl,rfl⟩
  | bor=>obtain⟨rfl,rfl⟩:=hf;exact⟨a,vs,[],e,⟨hB a hl.1,hl.2⟩,RelL.borrow hB hL hp hr,rfl,rfl⟩
  | lnt=>obtain⟨rfl,rfl⟩:=hf;exact⟨a,vs,[],e,⟨hL a hl.1,.inl hl.2⟩,RelL.borrow hB hL hp hr,rfl,rfl⟩
  | mod=>obtain⟨rfl,rfl⟩:=hf;exact⟨a,vs,[],e,hl,RelL.borrow hB hL hp hr,rfl,rfl⟩
 | .tup xs,_,fp,hp,h=>by
  unfold Rel at h
  obtain⟨a,vs,e,hl,hr⟩:=h
  simp only[PV.mapF]
  unfold Rel
  exact⟨a,vs,e,hl,RelL.borrow hB hL hp hr⟩
 | .obj f c ks xs,_,fp,hp,h=>by
  unfold Rel at h
  obtain⟨a,dx,vs,fp',e,hl,hk,hr,hf,ha⟩:=h
  simp only[PV.mapF]
  unfold Rel
  cases f with
  | own =>
   obtain rfl:fp=a::fp':=hf
   have r:=RelL.borrow hB hL (L':=L') (fun b hb=>hp b (List.mem_cons_of_mem _ hb)) hr
   exact⟨a,dx,vs,[],e,hl,⟨by rw[r.length,hk.1,hr.length],hk.2⟩,r,⟨rfl,rfl⟩,hp a List.mem_cons_self⟩
  | frz=>obtain⟨rfl,rfl⟩:=hf;have r:=RelL.borrow hB hL (L':=L') hp hr;exact⟨a,dx,vs,[],e,hl,⟨by rw[r.length,hk.1,hr.length],hk.2⟩,r,⟨rfl,rfl⟩,ha⟩
  | bor=>obtain⟨rfl,rfl⟩:=hf;have r:=RelL.borrow hB hL (L':=L') hp hr;exact⟨a,dx,vs,[],e,hl,⟨by rw[r.length,hk.1,hr.length],hk.2⟩,r,⟨rfl,rfl⟩,hB a ha⟩
  | lnt=>obtain⟨rfl,rfl⟩:=hf;have r:=RelL.borrow hB hL (L':=L') hp hr;exact⟨a,dx,vs,[],e,hl,⟨by rw[r.length,hk.1,hr.length],hk.2⟩,r,⟨rfl,rfl⟩,hL a ha⟩
  | mod=>exact ha.elim
 | .exc c,_,fp,hp,h=>by
  unfold Rel at h
  obtain⟨a,e,hl,rfl⟩:=h
  simp only[PV.mapF]
  unfold Rel
  exact⟨a,e,hl,rfl⟩
theorem RelL.borrow(hB:∀a,B a->B' a)(hL:∀a,L a->B' a):∀{xs:List PV}{vs:List V}{fp:List Addr},(∀a∈fp,B' a)->RelL T F B L H xs vs fp->RelL T F B' L' H (mapL Fl.borrow xs) vs []
 | [],_,_,_,h=>by unfold RelL at h;simp only[mapL];unfold RelL;exact⟨h.1,rfl⟩
 | x::xs,_,fp,hp,h=>by
  unfold RelL at h
  obtain⟨v,ws,f1,f2,e,h1,h2,rfl⟩:=h
  simp only[mapL]
  unfold RelL
  exact⟨v,ws,[],[],e,Rel.borrow hB hL (fun b hb=>hp b (List.mem_append_left _ hb)) h1,RelL.borrow hB hL (fun b hb=>hp b (List.mem_append_right _ hb)) h2,rfl⟩
end
mutual
theorem gz:∀x:PV,(x.mapF Fl.borrow).has Fl.isOwn=false
 | .non | .bl _ | .int _ | .str _=>rfl
 | .lst f xs=>by simp only[PV.mapF,PV.has,borrow_ownL xs,Bool.or_false];cases f<;>rfl
 | .tup xs=>by simp only[PV.mapF,PV.has,borrow_ownL xs]
 | .obj f c ks xs=>by simp only[PV.mapF,PV.has,borrow_ownL xs,Bool.or_false];cases f<;>rfl
 | .exc _=>rfl
theorem borrow_ownL:∀xs:List PV,hasL Fl.isOwn (mapL Fl.borrow xs)=false
 | []=>rfl
 | x::xs=>by simp only[mapL,hasL,gz x,borrow_ownL xs,Bool.or_false]
end
def ItC(T:Tb)(F B L:Addr->Prop)(H1:Hp)(J:It)(xs:List PV):Prop :=
 ∀H2,Ext H1 H2->(∀(i:Nat) x,xs[i]?=some x->J.go i H2/\∀v H3,J.yld i H2 v H3->Ext H2 H3/\∃f,(∀a∈f,∃o,H1 a=some o)/\Rel T F B L H3 x v f)/\J.stop xs.length H2
theorem ItC.of0(h:∀H2,Ext H1 H2->(∀(i:Nat) x,xs[i]?=some x->J.go i H2/\∀v H3,J.yld i H2 v H3->H3=H2/\∃f,Rel T F B L H1 x v f)/\J.stop xs.length H2):ItC T F B L H1 J xs:=fun H2 hk=>by
 obtain⟨a,b⟩:=h H2 hk
 refine⟨fun i x e=>⟨(a i x e).1,fun v H3 hy=>?_⟩,b⟩
 obtain⟨rfl,f,r⟩:=(a i x e).2 v H3 hy
 exact⟨Ext.refl,f,fun a ha=>r.there a ha,r.ext hk fun _ h=>h⟩
def GIc(T:Tb)(W:Nat->St->Hp->Prop)(B F L:Addr->Prop)(σ:St)(H:Hp)(R:It->Hp->Prop):Res (List PV)->Prop
 | .ok xs=>∀J H1 F1,Gr F H F1 H1->ItC T F1 B L H1 J xs->R J H1
 | .exc c=>∀H',Ext H H'->W c σ H'
 | .stuck=>False
def tIc(T:Tb)(W:Nat->St->Hp->Prop)(m:MI):TI:=fun σ H R=>∃Z F env fp,ar T Z F H σ env fp/\GIc T W Z.B F (Own fp) σ H R (m env)
abbrev SIc(X:Cx)(T:Tb)(W:Nat->St->Hp->Prop)(tg iter:Expr)(m:MI):Prop:=PI X tg iter (tIc T W m)
def bA(m:ME):MI:=fun env=>(m env).bind fun x=>match a_ x with
 | some xs=>.ok xs
 | none=>.stuck
section
variable{X:Cx}{T:Tb}{W:Nat->St->Hp->Prop}{Z:Zn}{F F1 B L:Addr->Prop}{H H1:Hp}{σ:St}{env:En}{fp:Nat->List Addr}{D:Ends}
theorem bU(hK:X.K=T.K)(he:SE X T W e m):SIc X T W tg e (bA m):=fun pins s σ H R I h=>sP he pins s σ H R I (by
 obtain⟨Z,F,env,fp,S,q⟩:=h
 unfold bA at q
 refine tE.bind S (fun c e=>by rw[e]at q;exact q) (fun e=>by rw[e]at q;exact q) fun x v H1 F1 f1 e1 g1 r1 n1 d1 w1=>?_
 rw[e1]at q
 simp only[Res.ok_bind]at q
 cases es:a_ x with
 | none=>rw[es]at q;exact q.elim
 | some xs =>
  rw[es]at q
  obtain⟨a,vs,f',rfl,hs,hr,_⟩:=r1.seq es
  refine⟨a,rfl,?_⟩
  rw[hK]
  rcases hs with hs | hs
  ·refine .inl ⟨vs,hs,q _ H1 F1 g1 (ItC.of0 fun H2 hx=>?_)⟩
   have h2:SqL T.K H2 a vs:=by
    rcases hs with z | z
    ·exact .inl (Rd.tr (fun o q=>hx a o q) z)
    ·exact .inr z
   refine⟨fun i x ex=>?_,⟨vs,h2,by rw[hr.length];exact Nat.le_refl _⟩⟩
   obtain⟨v,f,ev,rv,_⟩:=hr.get ex
   refine⟨⟨vs,v,h2,ev⟩,fun w H3 hy=>⟨hy.1,f,?_⟩⟩
   have:=hy.2 vs h2
   rw[ev]at this
   cases this
   exact rv
  ·refine .inr ⟨vs,hs,q _ H1 F1 g1 (ItC.of0 fun H2 hx=>?_)⟩
   have h2:SqT T.K H2 a vs:=SqT.tr (fun o q _=>hx a o q) hs
   refine⟨fun i x ex=>?_,⟨vs,h2,by rw[hr.length];exact Nat.le_refl _⟩⟩
   obtain⟨v,f,ev,rv,_⟩:=hr.get ex
   refine⟨⟨vs,v,h2,ev⟩,fun w H3 hy=>⟨hy.1,f,?_⟩⟩
   have:=hy.2 vs h2
   rw[ev]at this
   cases this
   exact rv)
theorem wE:ItC T F1 B L H1 (Itr lo n) (cN lo n):=by
 apply ItC.of0
 intro H2 _
 refine⟨fun i x ex=>?_,by simp[cN,Itr]⟩
 have hi:i < n:=by
  have:=(List.getElem?_eq_some_iff.mp ex).1
  simpa[cN]using this
 refine⟨hi,fun v H3 hy=>⟨hy.1,[],?_⟩⟩
 obtain⟨_,rfl⟩:=hy
 have:x=.int (lo+(i:Nat)):=by
  simp[cN,hi]at ex
  exact ex.symm
 subst this
 exact d6
theorem cZ(hg:Gl X "range")(hm:X.mg "range" = none)(ha:SA X T W [a] ms)(hs:starEach [a] X.env=[(false,eval a X.env)]:=by rfl):SIc X T W tg (.Call (.Name "range" p) [a] [] pos) (bO ms):=fun pins s σ H R I h=>kG hg hm ha hs pins s σ H R I (by
 obtain⟨Z,F,env,fp,S,q⟩:=h
 unfold bO at q
 refine tA.bind S (fun c e=>by rw[e]at q;exact q) (fun e=>by rw[e]at q;exact q) fun xs vs H1 F1 f1 e1 g1 r1 n1 d1 w1=>?_
 rw[e1]at q
 simp only[Res.ok_bind]at q
 split at q
 ·rename_i n
  split at q
  ·rename_i hc
   obtain⟨v,rfl,r2⟩:=r1.one
   unfold Rel at r2
   obtain⟨rfl,_⟩:=r2
   have hc':-(2 ^ 62)<= n/\n < 2 ^ 62:=by simpa[inR]using hc
   exact⟨n,rfl,hc'.1,hc'.2,q _ H1 F1 g1 wE⟩
  ·exact q.elim
 ·exact q.elim)
abbrev WF:Nat->St->Hp->Prop:=fun _ _ _=>False
def STs(X:Cx)(T:Tb)(W:Nat->St->Hp->Prop)(ifs:List Expr)(m:MT):Prop :=
 ∀(pins:List (Addr×Obj)) (s:Shared) (σ:St) (H:Hp) (Q:Bool->Hp->Prop),L2.Inv X pins σ H s->tT T W m σ H Q ->
  wpAny (model X.prog X.w) X.A (forIn ifs true fun c r=>if r=true then do let ok <- isTrue c X.env (eval c X.env);pure (ForInStep.yield ok)else pure (ForInStep.yield r)) (TP X pins σ Q) X.xe s
def br:MT:=fun _=>.ok true
theorem bJ:STs X T W [] br:=fun pins s σ H Q I ⟨Z,F,env,fp,S,q⟩=>wpAny_tests_nil ⟨H,I,q H F (Gr.refl S.hp.ft)⟩
theorem iY(h:ST X T W c m):STs X T W [c] m:=fun pins s σ H Q I q=>wpAny_tests_one (h pins s σ H Q I q)
structure fD(g:TgM)(k:Nat):Prop where
 keep:∀x env e',g x env=some e'->e'.length=env.length/\∀j < k,e'[j]?=env[j]?
 own:∀x env e',g x env=some e'->x.has Fl.isOwn=false->∀(j:Nat) pv,e'[j]?=some (some pv)->env[j]?=some (some pv)\/ pv.has Fl.isOwn=false
structure jf(g:oU)(k:Nat):Prop where
 keep:∀x env e',g x env=some e'->e'.length=env.length/\∀j < k,e'[j]?=env[j]?
 own:∀x env e',g x env=some e'->hasL Fl.isOwn x=false->∀(j:Nat) pv,e'[j]?=some (some pv)->env[j]?=some (some pv)\/ pv.has Fl.isOwn=false
theorem rD(h:k<=i):fD (tgN i) k:=by
 refine⟨fun x env e' e=>?_,fun x env e' e hx j pv hj=>?_⟩
 ·unfold tgN at e
  split at e
  ·cases e
   exact⟨by simp,fun j hj=>List.getElem?_set_ne (by omega)⟩
  ·cases e
 ·unfold tgN at e
  split at e
  ·cases e
   by_cases hij:i=j
   ·subst hij
    have hl:i < env.length:=by
     have:=(List.getElem?_eq_some_iff.mp hj).1
     simpa using this
    rw[List.getElem?_set_self hl]at hj
    cases hj
    exact .inr hx
   ·rw[List.getElem?_set_ne hij]at hj
    exact .inl hj
  ·cases e
theorem gE:jf b5 k:=by
 refine⟨fun x env e' e=>?_,fun x env e' e _ j pv hj=>?_⟩
 ·cases x with
  | nil=>cases e;exact⟨rfl,fun _ _=>rfl⟩
  | cons _ _=>cases e
 ·cases x with
  | nil=>cases e;exact .inl hj
  | cons _ _=>cases e
theorem cI(h1:fD g k)(h2:jf u k):jf (aD g u) k:=by
 refine⟨fun x env e' e=>?_,fun x env e' e hx j pv hj=>?_⟩
 ·cases x with
  | nil=>cases e
  | cons y ys =>
   simp only[aD]at e
   cases e1:g y env with
   | none=>rw[e1]at e;cases e
   | some e2 =>
    rw[e1]at e
    obtain⟨l1,k1⟩:=h1.keep y env e2 e1
    obtain⟨l2,k2⟩:=h2.keep ys e2 e' e
    exact⟨l2.trans l1,fun j hj=>(k2 j hj).trans (k1 j hj)⟩
 ·cases x with
  | nil=>cases e
  | cons y ys =>
   simp only[hasL,Bool.or_eq_false_iff]at hx
   simp only[aD]at e
   cases e1:g y env with
   | none=>rw[e1]at e;cases e
   | some e2 =>
    rw[e1]at e
    rcases h2.own ys e2 e' e hx.2 j pv hj with z | z
    ·exact h1.own y env e2 e1 hx.1 j pv z
    ·exact .inr z
theorem iW(h:jf u k):fD (tgT n u) k:=by
 refine⟨fun x env e' e=>?_,fun x env e' e hx j pv hj=>?_⟩
 ·cases x with
  | tup xs =>
   simp only[tgT]at e
   split at e
   ·exact h.keep xs env e' e
   ·cases e
  | _=>cases e
 ·cases x with
  | tup xs =>
   simp only[tgT]at e
   simp only[PV.has]at hx
   split at e
   ·exact h.own xs env e' e hx j pv hj
   ·cases e
  | _=>cases e
def bT(caps:List Nat)(k:Nat)(env:En):En:=caps.map (fun i=>((env[i]?).join).map PV.borrow)++ List.replicate k none
def dE(g:TgM)(mc:MT)(me:ME)(env:En):List PV->Res (List PV)
 | []=>.ok []
 | x::xs=>match g x.borrow env with
  | none=>.stuck
  | some e=>(mc e).bind fun b=>if b then(me e).bind fun y=>if y.has Fl.isBor||y.has Fl.isLnt then .stuck else(dE g mc me env xs).bind fun ys=>.ok (y::ys)else dE g mc me env xs
def aV(caps:List Nat)(k:Nat)(mi:MI)(g:TgM)(mc:MT)(me:ME):ME:=fun env=>(mi env).bind fun xs=>if xs.length <= 10000000 then (match dE g mc me (bT caps k env) xs with
 | .ok ys=>.ok (.lst .own ys)
 | _=>.stuck)else .stuck
end
section
variable{prog:Program}{w:World}{A:Around}{R:Result->Shared->Prop}{s:Shared}
theorem mj(I:Nat->Shared->Prop)
  (turn:∀ n s,I n s->wpAny (model prog w) A (pyNext it) (fun r s₁=>match r with
   | none=>R (.ok .next) s₁
   | some v=>wpAny (model prog w) A (letOwnedTupleGo target it v) (fun _ s₁'=>wpAny (model prog w) A (assign target env v) (fun _ s₂ =>
     wpAny (model prog w) A (forIn ifs true fun c r=>if r=true then do let ok <- isTrue c env (eval c env);pure (ForInStep.yield ok) else pure (ForInStep.yield r)) (fun ok s₃ =>
      if ok=true then wpAny (model prog w) A (eval elt env) (fun x s₄ =>
       wpAny (model prog w) A (call (.builtin "list.append") [acc,x]) (fun _ s₅=>∃m,m < n/\I m s₅) (notedBy (model prog w) A env fun e s'=>R (.error e) s') s₄) (notedBy (model prog w) A env fun e s'=>R (.error e) s') s₃
      else ∃m,m < n/\I m s₃) (notedBy (model prog w) A env fun e s'=>R (.error e) s') s₂) (notedBy (model prog w) A env fun e s'=>R (.error e) s') s₁') (notedBy (model prog w) A env fun e s'=>R (.error e) s') s₁) (notedBy (model prog w) A env fun e s'=>R (.error e) s') s)
  (n:Nat) (h:I n s) :
  codeAny (model prog w) A (.compLoop (.ListComp elt [⟨target,iter,ifs,0⟩] scope pos) 0 it acc env) R s:=by
 refine codeAny_loop rfl I (fun n s hI=>?_) n h
 show wpAny _ A ((compTurn (.ListComp elt [⟨target,iter,ifs,0⟩] scope pos) 0 it acc env).onRaise (fun x=>do noteFrame x env;theTreesLotGoes x)) _ _ s
 refine wpAny_noted ?_
 rw[compTurn_list]
 refine wpAny_bind (wpAny_standAt (wpAny_bind (wpAny_mono (turn n s hI) (fun r s₁ h₁=>?_) fun _ _ h'=>h')))
 cases r with
 | none=>exact wpAny_pure h₁
 | some v =>
  refine wpAny_bind (wpAny_mono h₁ (fun _ s₁' h₁'=>?_) fun _ _ h'=>h')
  refine wpAny_bind (wpAny_mono h₁' (fun _ s₂ h₂=>wpAny_bind (wpAny_mono h₂ (fun ok s₃ h₃=>?_) fun _ _ h'=>h')) fun _ _ h'=>h')
  cases ok with
  | false=>exact wpAny_pure ⟨rfl,h₃⟩
  | true =>
   exact wpAny_bind (wpAny_bind (wpAny_mono h₃ (fun x s₄ h₄=>wpAny_bind (wpAny_mono h₄ (fun _ s₅ h₅=>wpAny_pure (wpAny_pure ⟨rfl,h₅⟩)) fun _ _ h'=>h')) fun _ _ h'=>h'))
end
end PR
namespace PR
open PySem PySem.Spec L2
section
variable{X:Cx}{T:Tb}{W:Nat->St->Hp->Prop}{Z:Zn}{F F1 B L:Addr->Prop}{H H1:Hp}{σ:St}{env:En}{fp:Nat->List Addr}{D:Ends}
theorem ar.wk(S:ar T Z F H σ env fp)(hpin:Z.pin=none)(hl:e2.length=env.length)(h:∀(i:Nat) pv,e2[i]?=some (some pv)->env[i]?=some (some pv)):ar T Z F H σ e2 fp :=
 ⟨S.hp,S.len.trans hl.symm,fun i pv e=>S.rel i pv (h i pv e),S.nd,S.dj,S.dis,S.new,S.ch,fun v hv=>by rw[hpin]at hv;cases hv⟩
theorem ar.noOwn(S:ar T Z F H σ env fp)(h:∀(i:Nat) pv,env[i]?=some (some pv)->pv.has Fl.isOwn=false):ar T Z F H σ env (fun _=>[]) :=
 ⟨S.hp,S.len,fun i pv e=>by
  obtain⟨v,h1,h2⟩:=S.rel i pv e
  have:=Rel.noOwn (h i pv e) h2
  rw[this]at h2
  exact⟨v,h1,h2⟩,fun _=>List.nodup_nil,fun _ _ _ _ z=>(nomatch z),fun _ _ z=>(nomatch z),fun _ _ z=>(nomatch z),fun _ _ z=>(nomatch z),S.pn⟩
theorem ar.updD(S:ar T Z F H σ env (fun _=>[]))(hF:¬F Dd)(h0:Z.H0 Dd=none)(hD:H Dd=some o)(hfx:¬hV o):ar T Z F (upd H Dd o') σ env (fun _=>[]):=by
 have ne:∀a u,H a=some u->(F a\/Z.B a\/NoL a\/hV u)->a≠Dd:=fun a u e h z=>by
  subst z
  rcases h with h | h | h | h
  ·exact hF h
  ·obtain⟨⟨u',e'⟩,_⟩:=S.hp.bo _ h
   rw[h0]at e';cases e'
  ·exact h
  ·rw[hD]at e;cases e;exact hfx h
 refine⟨⟨S.hp.bo,fun a u e n=>?_,S.hp.f0,S.hp.fn,fun a h=>?_⟩,S.len,fun i pv e=>?_,S.nd,S.dj,fun _ _ z=>(nomatch z),S.new,fun _ _ z=>(nomatch z),S.pn⟩
 ·have:a≠Dd:=fun z=>by rw[z,h0]at e;cases e
  rw[aF this]
  exact S.hp.keep a u e n
 ·obtain⟨u,e⟩:=S.hp.ft a h
  exact⟨u,by rw[aF (show a≠Dd from fun z=>hF (by rw[<- z];exact h))];exact e⟩
 ·obtain⟨v,h1,h2⟩:=S.rel i pv e
  refine⟨v,h1,Rel.tr (fun _ h=>h) (fun _ h=>h) (fun _ h=>h) (fun a u q h=>?_) (fun _ z=>(nomatch z)) h2⟩
  rw[aF (ne a u q h)]
  exact q
def zC(F:Addr->Prop)(H:Hp):Zn:=⟨H,F,fun _=>False,fun a=>∃o,H a=some o,none⟩
theorem qY(S:ar T Z F H σ env fp)(hD:H Dd=none)(hFD:¬F Dd) :
  ar T (zC F H) F (upd H Dd (.lst [])) (mr caps k σ) (bT caps k env) (fun _=>[]):=by
 have ext:Ext H (upd H Dd (.lst [])):=Ext.upd hD
 refine⟨⟨fun a h=>⟨h,fun z=>z⟩,fun a o h _=>ext a o h,fun _ h=>h,fun _ h=>.inl h,fun a h=>let⟨o,e⟩:=S.hp.ft a h;⟨o,ext a o e⟩⟩,by simp[mr,bT],fun i pv e=>?_,fun _=>List.nodup_nil,fun _ _ _ _ z=>(nomatch z),fun _ _ z=>(nomatch z),fun _ _ z=>(nomatch z),fun _ _ z=>(nomatch z),fun _ h=>(nomatch h)⟩
 unfold bT at e
 unfold mr
 by_cases hi:i < caps.length
 ·rw[List.getElem?_append_left (by simpa using hi),List.getElem?_map]at e ⊢
  obtain⟨j,hj,e2⟩:=Option.map_eq_some_iff.mp e
  rw[hj]
  obtain⟨pv0,e3,rfl⟩:=Option.map_eq_some_iff.mp e2
  have e4:env[j]?=some (some pv0):=by
   cases e5:env[j]? with
   | none=>rw[e5]at e3;cases e3
   | some w=>rw[e5]at e3;simp only[Option.join_some]at e3;rw[e3]
  obtain⟨v,h1,h2⟩:=S.rel j pv0 e4
  refine⟨v,by simp[h1],?_⟩
  refine Rel.borrow (B:=fun a=>∃o,H a=some o) (L:=NoL) (fun _ h=>h) (fun _ h=>h.elim) (fun a ha=>(S.dis j a ha).2) ?_
  exact Rel.tr (fun _ h=>h) (fun a h=>let⟨⟨o,h1⟩,h2⟩:=S.hp.bo a h;⟨o,S.hp.keep a o h1 h2⟩) (fun _ h=>h) (fun a o q _=>ext a o q) (fun a _ o q=>ext a o q) h2
 ·rw[List.getElem?_append_right (by simpa using hi),List.getElem?_replicate]at e
  split at e<;>cases e
set_option maxHeartbeats 1000000 in
theorem kS
  (cs:db X scope caps N tn) (hc:X.calm=true) (hi:SIc X T W tg iter mi) (hk:fD g caps.length)
  (hb:∀C s H ex,SG (cxC X scope C N s H ex) T tg g/\STs (cxC X scope C N s H ex) T WF ifs mc/\SE (cxC X scope C N s H ex) T WF elt me)
  (hs:∀x,foldedSetIterable iter X.env x=pure x) (I:L2.Inv X pins σ H s) (h:tE T W (aV caps tn.length mi g mc me) σ H Q)
  (hfin:∀(Dd C:Addr) (H':Hp) (s6:Shared) (m:Str->Option Value),Q (.ref Dd) H'->L2.Inv X pins σ H' s6->s6.heap.Ns C m->H' C=none->C≠X.env.locals->C∉X.fs->X.s₀.heap.objs.size<=C->(∀x c,X.env.cells.lookup x=some c->c≠C)->(∀p∈X.pn++pins,p.1≠C)->compPost (model X.prog X.w) X.A X.xe use Q' (.ref Dd) C (.ok .next) s6) :
  wpAny (model X.prog X.w) X.A (comprehension (.ListComp elt [⟨tg,iter,ifs,0⟩] scope pos) scope X.env p' (newList []) false (eval iter X.env) use) Q' X.xe s:=by
 obtain⟨Z,F,env,fp,S,q⟩:=h
 unfold aV at q
 refine wpAny_comprehension_free (use:=use) rfl hs (km fun y hy hf=>I.ok.has y.1 (cs.free y hy hf)) cs.kind cs.names ?_
 refine thn (hi pins s σ H (fun J H1=>∃F1 xs,mi env=.ok xs/\Gr F H F1 H1/\ItC T F1 Z.B (Own fp) H1 J xs) I ⟨Z,F,env,fp,S,?_⟩) fun xv s1 h1=>thn h1 fun itv s2 h2=>?_
 ·cases em:mi env with
  | ok xs=>exact fun J H1 F1 g1 it=>⟨F1,xs,rfl,g1,it⟩
  | exc c | stuck=>rw[em]at q;exact q
 obtain⟨it,fpi,tn_,J,H2,rfl,I2,Tn,st2,f2,F1,xs,em,g1,itc⟩:=h2
 rw[em]at q
 simp only[Res.ok_bind]at q
 split at q
 case isFalse=>exact q.elim
 rename_i hlen
 cases ec:dE g mc me (bT caps tn.length env) xs with
 | exc c | stuck=>rw[ec]at q;exact q.elim
 | ok full =>
 rw[ec]at q
 dsimp only at q
 have S2:=S.grow g1
 have hlt:∀b∈fpi,b < s2.heap.objs.size:=fun b hb=>by
  obtain⟨o,ho,_⟩:=Tn.obj 0 _ st2 b hb
  exact Heap.lt_size ho
 refine PySem.wpAny_newObj_type (m_ fun h₁ hns₁ hsb₁ hcl₁=>?_)
 dsimp only at hns₁ hsb₁ hcl₁ ⊢
 generalize hH2:s2.heap.push { cls:=.type "list", dict:=none,data:=.seq ([]:List Value).toArray }=P2 at hns₁ hsb₁ hcl₁ ⊢
 have hC:P2.objs.size=s2.heap.objs.size+1:=by rw[<- hH2,Heap.size_push]
 have old:∀b o,s2.heap.get? b=some o->h₁.get? b=some o:=fun b o e=>hsb₁ b o (hH2▸Heap.get?_push_of_some _ e)
 have hDo:h₁.get? s2.heap.objs.size=some { cls:=.type "list", data:=.seq ([]:List Value).toArray }:=hsb₁ _ _ (hH2▸Heap.get?_push_size _ rfl)
 rw[hC]at hns₁ hcl₁
 have inv0:=ua (t:=s2.toks) cs I2 f2 hlt hns₁ hDo old hcl₁
 have hDH:H2 s2.heap.objs.size=none:=I2.hok.fresh (Nat.le_refl _)
 have hDF:¬F1 s2.heap.objs.size:=fun z=>by obtain⟨o,e⟩:=g1.dom _ z;rw[hDH]at e;cases e
 have SB:=qY (caps:=caps) (k:=tn.length) S2 hDH hDF
 obtain⟨hgN,hts,hel⟩:=hb (s2.heap.objs.size+1) s2 H2 fpi
 have never:∀{α:Type}{t:Sem α}{Qa:α->Shared->Prop}{E':Value->Shared->Prop}{s':Shared},wpAny (model X.prog X.w) X.A t Qa (fun _ _=>False) s'->wpAny (model X.prog X.w) X.A t Qa E' s':=fun h=>wpAny_mono h (fun _ _ x=>x) fun _ _ z=>z.elim
 have fpok:∀{H':Hp}{pins':List (Addr×Obj)},(∀p∈pins',p.1∉fpi)->(∀b∈fpi,H' b=none)->∀b∈fpi,kf (cxC X scope (s2.heap.objs.size+1) N s2 H2 fpi) pins' H' b:=fun {H' pins'} hp hn b hb=>by
  refine⟨hn b hb,Nat.ne_of_lt (Nat.lt_succ_of_lt (hlt b hb)),(oS cs I2 f2 hlt (Nat.le_succ _)).exfs b hb,.inl hb,((oS cs I2 f2 hlt (Nat.le_succ _)).exf b hb).2,fun p hp' z=>?_⟩
  rcases List.mem_append.mp hp' with w | w
  ·exact absurd (show p ∈([]:List (Addr×Obj))from w) (by simp)
  ·exact hp p w (z▸hb)
 have key:∀s4:Shared,L2.Inv (cxC X scope (s2.heap.objs.size+1) N s2 H2 fpi) [] (mr caps tn.length σ) (upd H2 s2.heap.objs.size (.lst [])) s4->tn_ 0 s4.heap ->
   codeAny (model X.prog X.w) X.A (.compLoop (.ListComp elt [⟨tg,iter,ifs,0⟩] scope pos) 0 (.ref it) (.ref s2.heap.objs.size) (compEnvC scope (nO X scope (s2.heap.objs.size+1)) (s2.heap.objs.size+1) X.env))
    (compPost (model X.prog X.w) X.A X.xe use Q' (.ref s2.heap.objs.size) (s2.heap.objs.size+1)) s4:=by
  intro s4 inv4 st4
  refine mj (fun n s'=>∃ (i:Nat) (σ':St) (H':Hp) (Fi:Addr->Prop) (ys zs:List PV) (vs:List V) (f:List Addr),n=xs.length - i/\i <= xs.length/\L2.Inv (cxC X scope (s2.heap.objs.size+1) N s2 H2 fpi) [] σ' H' s'/\tn_ i s'.heap/\(∀ b ∈ fpi,H' b=none) /\
   ar T (zC F1 H2) Fi H' σ' (bT caps tn.length env) (fun _=>[])/\H' s2.heap.objs.size=some (.lst vs)/\RelL T Fi Z.B (Own fp) H' ys vs f/\f.Nodup/\(∀a∈f,¬Fi a/\H2 a=none/\a≠s2.heap.objs.size)/\¬Fi s2.heap.objs.size/\ys.length<=i /\
   dE g mc me (bT caps tn.length env) (xs.drop i)=.ok zs/\full=ys++zs) ?_ xs.length ?_
  case refine_2 =>
   refine⟨0,_,_,F1,[],full,[],[],by simp,Nat.zero_le _,inv4,st4,fun b hb=>?_,SB,bq,by unfold RelL;exact⟨rfl,rfl⟩,List.nodup_nil,fun _ z=>(nomatch z),hDF,Nat.zero_le _,ec,rfl⟩
   rw[aF (Nat.ne_of_lt (hlt b hb))]
   exact(f2 b hb).1
  rintro n s5 ⟨i,σ',H',Fi,ys,zs,vs,f,rfl,hil,inv5,st5,fr5,SI5,hD5,ry,nd5,nf5,nFD,hyl,ecl,efull⟩
  have ext5:Ext H2 H':=fun a o e=>SI5.hp.keep a o e fun z=>z
  have gr5:Gr F1 H2 Fi H':=⟨ext5,SI5.hp.f0,fun a h=>by
   rcases SI5.hp.fn a h with z | z | z
   ·exact .inl z
   ·exact .inr z
   ·exact z.elim,SI5.hp.ft⟩
  obtain⟨go,stop⟩:=itc H' ext5
  by_cases hlt5:i < xs.length
  ·have hx:xs[i]?=some xs[i]:=by simp[hlt5]
   obtain⟨g5,yl⟩:=go i _ hx
   rw[List.drop_eq_getElem_cons hlt5]at ecl
   unfold dE at ecl
   cases eg:g xs[i].borrow (bT caps tn.length env)with
   | none=>rw[eg]at ecl;cases ecl
   | some e' =>
   rw[eg]at ecl
   dsimp only at ecl
   refine thn (Tn.item (cxC X scope (s2.heap.objs.size+1) N s2 H2 fpi) rfl rfl rfl hc i [] s5 σ' H' _ inv5 (fpok (fun _ z=>absurd z (by simp)) fr5) st5 g5) fun r s6 ⟨u,hr,h6⟩=>?_
   subst hr
   refine thn h6 fun _ s7 ⟨v,H7,inv7,rv,yy,st7,fr7⟩=>?_
   obtain⟨ex7,fx,tx,rx⟩:=yl v H7 yy
   replace SI5:=SI5.grow (Gr.same SI5.hp.ft ex7)
   replace ry:=ry.ext ex7 fun _ h=>h
   replace hD5:=ex7 _ _ hD5
   replace gr5:=gr5.trans (Gr.same gr5.dom ex7)
   replace ext5:=gr5.ext
   have pinv:=inv7.pinned (fpok (fun _ z=>absurd z (by simp)) fr7) (Tn.obj _ _ st7)
   have rxb:Rel T Fi (zC F1 H2).B NoL H7 xs[i].borrow v []:=by
    refine Rel.borrow (B:=fun a=>∃o,H2 a=some o) (L:=Own fp) (fun _ h=>h) (fun a ⟨j,hj⟩=>(S2.dis j a hj).2) (fun a ha=>tx a ha) ?_
    exact Rel.tr SI5.hp.f0 (fun a h=>let⟨⟨o,h1⟩,h2⟩:=S2.hp.bo a h;⟨o,S2.hp.keep a o h1 h2⟩) (fun _ h=>h) (fun a o q _=>q) (fun a _ o q=>q) rx
   refine never (thn (hgN _ s7 σ' H7 v u (fun σ8 H8=>H8=H7/\∃fp8,ar T (zC F1 H2) Fi H7 σ8 e' fp8) pinv rv ⟨zC F1 H2,Fi,bT caps tn.length env,fun _=>[],xs[i].borrow,[],SI5,rxb,rm.nil,?_⟩) fun _ s8 ⟨σ8,H8,inv8,e8,fp8,S8⟩=>?_)
   ·rw[eg]
    exact fun σ8 fp8 S8=>⟨rfl,fp8,S8⟩
   subst e8
   obtain⟨kl,kk⟩:=hk.keep _ _ _ eg
   have capOwn:∀(j:Nat) pv,(bT caps tn.length env)[j]?=some (some pv)->pv.has Fl.isOwn=false:=fun j pv ej=>by
    unfold bT at ej
    by_cases hj:j < caps.length
    ·rw[List.getElem?_append_left (by simpa using hj),List.getElem?_map]at ej
     obtain⟨jj,_,e2⟩:=Option.map_eq_some_iff.mp ej
     obtain⟨pv0,_,rfl⟩:=Option.map_eq_some_iff.mp e2
     exact gz pv0
    ·rw[List.getElem?_append_right (by simpa using hj),List.getElem?_replicate]at ej
     split at ej<;>cases ej
   have S8':ar T (zC F1 H2) Fi H8 σ8 e' (fun _=>[]):=S8.noOwn fun j pv ej=>by
    rcases hk.own _ _ _ eg (gz _) j pv ej with z | z
    ·exact capOwn j pv z
    ·exact z
   have back:∀{F9:Addr->Prop}{H9:Hp},ar T (zC F1 H2) F9 H9 σ8 e' (fun _=>[])->ar T (zC F1 H2) F9 H9 σ8 (bT caps tn.length env) (fun _=>[]):=fun S9=>S9.wk rfl kl.symm fun j pv ej=>by
    have hj:j < caps.length:=by
     by_cases hj:j < caps.length
     ·exact hj
     ·unfold bT at ej
      rw[List.getElem?_append_right (by simpa using hj),List.getElem?_replicate]at ej
      split at ej<;>cases ej
    rw[kk j hj]
    exact ej
   have pinback:∀{H9:Hp}{s9:Shared},L2.Inv (cxC X scope (s2.heap.objs.size+1) N s2 H2 fpi) ([]++ jy fpi s7.heap) σ8 H9 s9->L2.Inv (cxC X scope (s2.heap.objs.size+1) N s2 H2 fpi) [] σ8 H9 s9/\tn_ (i+1) s9.heap/\∀b∈fpi,H9 b=none:=fun {H9 s9} i9 =>
    ⟨i9.unpinned,Tn.keep _ _ _ st7 fun b hb o e=>(i9.pin (b,o) (List.mem_append_right _ (List.mem_append_right _ (fe hb e)))).1,fun b hb=>by
     obtain⟨o,e,_⟩:=Tn.obj _ _ st7 b hb
     exact(i9.pin (b,o) (List.mem_append_right _ (List.mem_append_right _ (fe hb e)))).2.1⟩
   cases emc:mc e' with
   | exc c | stuck=>rw[emc]at ecl;cases ecl
   | ok bb =>
   rw[emc]at ecl
   simp only[Res.ok_bind]at ecl
   refine never (thn (hts _ s8 σ8 H8 (fun b H9=>b=bb/\∃F9,Gr Fi H8 F9 H9) inv8 ⟨zC F1 H2,Fi,e',fun _=>[],S8',?_⟩) fun ok s9 ⟨H9,inv9,eb,F9,g9⟩=>?_)
   ·rw[emc]
    exact fun H9 F9 g9=>⟨rfl,F9,g9⟩
   subst eb
   have S9:=S8'.grow g9
   have ry9:=ry.ext g9.ext g9.mono
   have nf9:∀a∈f,¬F9 a:=fun a ha z=>by
    rcases g9.only a z with z | z
    ·exact(nf5 a ha).1 z
    ·obtain⟨o,e⟩:=ry.there a ha
     rw[e]at z;cases z
   have nFD9:¬F9 s2.heap.objs.size:=fun z=>by
    rcases g9.only _ z with z | z
    ·exact nFD z
    ·rw[hD5]at z;cases z
   cases ok with
   | false =>
    simp only[Bool.false_eq_true,if_false]at ecl ⊢
    obtain⟨i10,st10,fr10⟩:=pinback inv9
    exact⟨xs.length - (i+1),by omega,i+1,σ8,H9,F9,ys,zs,vs,f,rfl,hlt5,i10,st10,fr10,back S9,g9.ext _ _ hD5,ry9,nd5,fun a ha=>⟨nf9 a ha,(nf5 a ha).2⟩,nFD9,by omega,ecl,efull⟩
   | true =>
    simp only[if_true]at ecl ⊢
    cases eme:me e' with
    | exc c | stuck=>rw[eme]at ecl;cases ecl
    | ok y =>
    rw[eme]at ecl
    simp only[Res.ok_bind]at ecl
    split at ecl
    case isTrue=>cases ecl
    rename_i hyb
    simp only[Bool.or_eq_true,not_or,Bool.not_eq_true]at hyb
    cases ecr:dE g mc me (bT caps tn.length env) (xs.drop (i+1))with
    | exc c | stuck=>rw[ecr]at ecl;cases ecl
    | ok zs' =>
    rw[ecr]at ecl
    simp only[Res.ok_bind]at ecl
    cases ecl
    refine never (thn (hel _ s9 σ8 H9 (fun v' H10=>∃F10 f10,Gr F9 H9 F10 H10/\Rel T F10 (zC F1 H2).B (Own fun _=>[]) H10 y v' f10/\(∀a∈f10,¬F10 a)/\f10.Nodup/\∀a∈f10,H9 a=none) inv9 ⟨zC F1 H2,F9,e',fun _=>[],S9,?_⟩) fun w s10 ⟨v',H10,inv10,rw10,F10,f10,g10,r10,n10,d10,w10⟩=>?_)
    ·rw[eme]
     exact fun v' H10 F10 f10 g10 r10 n10 d10 w10=>⟨F10,f10,g10,r10,n10,d10,w10⟩
    have hvl:vs.length < sizeLine:=by
     have h1:=ry.length
     have h2:sizeLine=16777216:=sizeLine_eq
     omega
    have hD10:H10 s2.heap.objs.size=some (.lst vs):=g10.ext _ _ (g9.ext _ _ hD5)
    refine never (thn (iB _ s10 σ8 H10 (.ref s2.heap.objs.size) [v'] (.ref s2.heap.objs.size) [w] (fun _ H11=>H11=upd H10 s2.heap.objs.size (.lst (vs++[v']))) inv10 rfl (.cons rw10 .nil) ⟨s2.heap.objs.size,vs,v',rfl,rfl,hD10,hvl,rfl⟩) fun _ s11 ⟨_,H11,inv11,_,e11⟩=>?_)
    subst e11
    obtain⟨i12,st12,fr12⟩:=pinback inv11
    have S10:=S9.grow g10
    have nFD10:¬F10 s2.heap.objs.size:=fun z=>by
     rcases g10.only _ z with z | z
     ·exact nFD9 z
     ·rw[g9.ext _ _ hD5]at z;cases z
    have ry10:=ry9.ext g10.ext g10.mono
    have ryy:RelL T F10 Z.B (Own fp) (upd H10 s2.heap.objs.size (.lst (vs++[v']))) (ys++[y]) (vs++[v']) (f++f10):=by
     have ry1:Rel T F10 Z.B (Own fp) H10 y v' f10:=Rel.noL hyb.2 (Rel.noB (B':=Z.B) hyb.1 r10)
     have all:RelL T F10 Z.B (Own fp) H10 (ys++[y]) (vs++[v']) (f++f10):=RelL.append ry10 (by unfold RelL;exact⟨v',[],f10,[],rfl,ry1,by unfold RelL;exact⟨rfl,rfl⟩,by simp⟩)
     refine RelL.tr (fun _ h=>h) (fun _ h=>h) (fun _ h=>h) (fun a o e h=>?_) (fun a ha o e=>?_) all
     ·refine(aF fun z=>?_).trans e
      subst z
      rcases h with h | h | h | h
      ·exact nFD10 h
      ·obtain⟨⟨o',h1⟩,h2⟩:=S2.hp.bo _ h
       rw[S2.hp.keep _ o' h1 h2]at hDH;cases hDH
      ·obtain⟨j,hj⟩:=h
       obtain⟨_,o',ho'⟩:=S2.dis j _ hj
       rw[hDH]at ho';cases ho'
      ·rw[hD10]at e;cases e;exact h
     ·refine(aF fun z=>?_).trans e
      subst z
      rcases List.mem_append.mp ha with ha | ha
      ·exact(nf5 _ ha).2.2 rfl
      ·have:=w10 _ ha
       rw[g9.ext _ _ hD5]at this;cases this
    have nf10:∀a∈f,¬F10 a:=fun a ha z=>by
     rcases g10.only a z with z | z
     ·exact nf9 a ha z
     ·obtain⟨o,e⟩:=ry9.there a ha
      rw[e]at z;cases z
    refine⟨xs.length - (i+1),by omega,i+1,σ8,_,F10,ys++[y],zs',vs++[v'],f++f10,rfl,hlt5,i12,st12,fr12,back (S10.updD nFD10 hDH hD10 (fun z=>z)),bq,ryy,?_,fun a ha=>?_,nFD10,by simp;omega,ecr,by rw[efull,List.append_assoc];rfl⟩
    ·refine List.nodup_append.mpr ⟨nd5,d10,fun a ha b hb z=>?_⟩
     subst z
     obtain⟨o,e⟩:=ry9.there a ha
     rw[w10 a hb]at e;cases e
    ·rcases List.mem_append.mp ha with ha | ha
     ·exact⟨nf10 a ha,(nf5 a ha).2⟩
     ·refine⟨n10 a ha,?_,fun z=>?_⟩
      ·have:=w10 a ha
       exact ext5.free (g9.ext.free this)
      ·subst z
       have:=w10 _ ha
       rw[g9.ext _ _ hD5]at this;cases this
  ·have e:i=xs.length:=by omega
   subst e
   rw[List.drop_length]at ecl
   unfold dE at ecl
   cases ecl
   rw[List.append_nil]at efull
   subst efull
   refine thn (Tn.done (cxC X scope (s2.heap.objs.size+1) N s2 H2 fpi) rfl rfl rfl hc xs.length [] s5 σ' H' _ inv5 (fpok (fun _ z=>absurd z (by simp)) fr5) st5 stop) fun r s6 ⟨hr,inv6⟩=>?_
   subst hr
   obtain⟨m,hn,_⟩:=id inv6.loc
   have hlc:X.env.locals < s2.heap.objs.size+1:=Nat.lt_succ_of_lt I2.lt
   have iX:L2.Inv X pins σ H' s6:=I2.call' inv6.os inv6.base inv6.hok inv6.bare fun b hb=>⟨(f2 b hb).2.2.2.1,(f2 b hb).2.1,(f2 b hb).2.2.2.2.1,(f2 b hb).2.2.2.2.2⟩
   refine hfin _ (s2.heap.objs.size+1) H' s6 m ?_ iX hn inv6.free (Nat.ne_of_gt hlc) (I2.nofs (Nat.le_succ _)) (Nat.le_trans I2.sz (Nat.le_succ _)) (fun x c e z=>?_) (fun p hp z=>?_)
   case refine_2 =>
    obtain⟨v,hv⟩:=I2.cell x c e
    rw[z]at hv
    exact absurd hv.lt (Nat.not_lt.mpr (Nat.le_succ _))
   case refine_3 =>
    have:=Heap.lt_size (I2.pin p hp).1
    rw[z]at this
    exact absurd this (Nat.not_lt.mpr (Nat.le_succ _))
   refine q (.ref s2.heap.objs.size) H' Fi (s2.heap.objs.size::f) (g1.trans gr5) ?_ (fun a ha=>?_) ?_ (fun a ha=>?_)
   ·unfold Rel
    exact⟨_,vs,f,rfl,hD5,ry,rfl⟩
   ·rcases List.mem_cons.mp ha with rfl | ha
    ·exact nFD
    ·exact(nf5 a ha).1
   ·exact List.nodup_cons.mpr ⟨fun z=>(nf5 _ z).2.2 rfl,nd5⟩
   ·rcases List.mem_cons.mp ha with rfl | ha
    ·exact g1.ext.free hDH
    ·exact g1.ext.free (nf5 a ha).2.1
 have st0:tn_ 0 h₁:=Tn.keep _ _ _ st2 fun b _ o e=>old b o e
 have lp:=key _ inv0 st0
 simp only[hC]
 exact codeAny_compStart_list lp (Tn.self _ 0 _ _ _ st0 lp)
theorem vL
  (cs:db X scope caps N tn) (hc:X.calm=true) (hi:SIc X T W tg iter mi) (hk:fD g caps.length)
  (hb:∀C s H ex,SG (cxC X scope C N s H ex) T tg g/\STs (cxC X scope C N s H ex) T WF ifs mc/\SE (cxC X scope C N s H ex) T WF elt me)
  (hs:∀x,foldedSetIterable iter X.env x=pure x:=by intro _;rfl):SE X T W (.ListComp elt [⟨tg,iter,ifs,0⟩] scope pos) (aV caps tn.length mi g mc me):=by
 intro pins s σ H Q I h
 rw[eval_ListComp]
 refine kS cs hc hi hk hb hs I h fun Dd C H' s6 m hq iX hn hCn hCl hCf hC0 hCc hCp=>⟨m,hn,fun h' hs'=>⟨.ref Dd,H',?_,rfl,hq⟩⟩
 exact iX.turned (t':=s6.toks) (fun b o hb e=>(hs'.2 b hb).trans e) hCn hCl (.inr hC0) hCc hCp
theorem vA
  (cs:db X scope caps N tn) (hc:X.calm=true) (hN:X.N.Nodup) (hy:X.N[i]?=some y) (hx:Loc X.env.scope y) (hi:SIc X T W tg iter mi) (hk:fD g caps.length)
  (hb:∀C s H ex,SG (cxC X scope C N s H ex) T tg g/\STs (cxC X scope C N s H ex) T WF ifs mc/\SE (cxC X scope C N s H ex) T WF elt me)
  (hsw:swapsWith (.ListComp elt [⟨tg,iter,ifs,0⟩] scope pos) (some (.Name y py)) spos.line X.env=pure true:=by rfl)
  (hs:∀x,foldedSetIterable iter X.env x=pure x:=by intro _;rfl)
  (hf:X.fn y=true\/X.env.scope.names.lookup y=some .local:=by first | exact .inl rfl | exact .inr rfl | assumption) :
  SS X T W (.Assign [.Name y py] (.ListComp elt [⟨tg,iter,ifs,0⟩] scope pos) spos) (aI i (aV caps tn.length mi g mc me)):=by
 intro pins s σ H D I h
 obtain⟨Z,F,env,fp,S,q⟩:=h
 unfold aI at q
 rw[exec_Assign_Name_used _ _ _ _ hsw]
 refine wpAny_bind (wpAny_standAt (wpAny_bind ?_))
 show wpAny _ X.A (do let _ <- comprehension (.ListComp elt [⟨tg,iter,ifs,0⟩] scope pos) scope X.env _ (newList []) false (eval iter X.env) (some (assign (.Name y py) X.env))) _ _ s
 refine wpAny_bind (wpAny_mono (kS (use:=some (assign (.Name y py) X.env)) (Q':=fun _ s'=>SP X pins D .next s') (Q:=fun v H1=>D.nx (σ.set i (some v)) H1) cs hc hi hk hb hs I ?_ fun Dd C H' s6 m hq iX hn hCn hCl hCf hC0 hCc hCp=>?_) (fun _ s' hq=>wpAny_pure (wpAny_pure hq)) fun _ _ e=>e)
 ·refine tE.bind S (fun c e H' x=>?_) (fun e=>by rw[e]at q;exact q) fun pv v H1 F1 f e g r h1 h2 h3=>?_
  ·rw[e]at q
   exact q F H' σ fp (S.grow (Gr.same S.hp.ft x))
  ·rw[e]at q
   simp only at q
   split at q
   ·rename_i hl
    rw[Bool.and_eq_true]at hl
    exact q F1 H1 _ _ (S.putN g hl.2 r hl.1 h1 h2 h3)
   ·exact q.elim
 ·refine wpAny_assign_Name (kz (v:=.ref Dd) (u:=.ref Dd) iX hN hy hx rfl (fun s7 i7 ⟨a,hsa,ha⟩=>?_) hf)
  have hCa:C≠a:=by
   rcases ha with ha | ha
   ·rw[ha];exact hCl
   ·exact fun z=>hCc y a ha z.symm
  refine⟨m,hn.sameBut hsa hCa,fun h' hs'=>⟨_,H',?_,hq⟩⟩
  exact i7.turned (t':=s7.toks) (fun b o hb e=>(hs'.2 b hb).trans e) hCn hCl (.inr hC0) hCc hCp
end
def GFI(T:Tb)(Z:Zn)(v0:V)(Q:VK)(E:XK):Res PV->Prop
 | .ok pv=>∀F H f,dv T Z F H->Rel T F Z.B NoL H pv v0 f->f.Nodup->(∀a∈f,¬F a)->(∀a∈f,Z.H0 a=none\/Z.fp0 a)->Q .non H
 | .exc c=>∀H,(∀a o,Z.H0 a=some o->¬Z.fp0 a->H a=some o)->E (.ref (T.xcl c)) none H
 | .stuck=>False
def spI(T:Tb)(n:Nat)(m:List PV->Res PV):Sp:=fun vs H Q E=>vs.length=n/\∃v0 pvs F B f,vs[0]?=some v0/\mG T F B H pvs vs f/\(∃fl c ks xs,pvs[0]?=some (.obj fl c ks xs))/\GFI T ⟨H,F,(·∈f),B,some v0⟩ v0 Q E (m pvs)
def mT(n:Nat)(m:MS)(args:List PV):Res PV:=match m (args.map some++List.replicate (n - args.length) none)with
 | .next e=>match e[0]? with
  | some (some o)=>.ok o
  | _=>.stuck
 | .exc c _=>.exc c
 | _=>.stuck
section
variable{P:Program}{w:World}{K:PySem.W.Frag}{mg:Str->Option Value}{base:Heap}{T:Tb}
theorem zR(F:Fun K x qual st f fd)(S:b_ N ps (am st))
  (body:∀ (cdv:Value) (A:Around) (outer:List Env) (s:Shared) (H:Hp) (E:XK),cL k (A.deeper (PyProof.Rows.envOfC qual (am st) s.heap.objs.size f cdv)) ->
   SSs (cH (CXP P w) P w K mg base N qual (am st) f cdv A outer s H E) T (WD T E) (aP st) m):bS P w K mg base (CXP P w) (k+1) f fd ps (spI T ps.length (mT N.length m)):=by
 obtain⟨oc,od,kV,doc,pm,an,cdv,ct,osl,rfl,lk,hcd⟩:=F.ex
 refine nD lk hcd S (fun vs H Q E h=>h.1) fun A outer s H vs Q E hr hsp=>⟨_,body cdv A outer s H E hr,?_⟩
 obtain⟨_,v0,pvs,F,B,fl,hv0,R,hob,q⟩:=hsp
 obtain⟨fp,S0⟩:=gf N R (some v0) (fun v hv=>by cases hv;exact⟨hv0,hob⟩)
 refine⟨_,F,_,fp,S0,?_⟩
 unfold mT at q
 cases e:m (pvs.map some++List.replicate (N.length - pvs.length) none)with
 | next e' =>
  rw[e]at q
  dsimp only at q
  intro F' H' σ' fp' S'
  obtain⟨h1,_⟩:=S'.pn v0 rfl
  cases e0:e'[0]? with
  | none=>rw[e0]at q;exact q.elim
  | some o0 =>
   cases o0 with
   | none=>rw[e0]at q;exact q.elim
   | some o =>
    rw[e0]at q
    obtain⟨v,h2,r⟩:=S'.rel 0 o e0
    rw[h1]at h2
    cases h2
    exact q F' H' (fp' 0) S'.hp r (S'.nd 0) (fun a ha=>(S'.dis 0 a ha).1) (S'.new 0)
 | ret v | brk e' | cont e'=>rw[e]at q;exact q.elim
 | exc c e'=>rw[e]at q;exact fun F' H' σ' fp' S'=>q H' S'.hp.keep
 | stuck=>rw[e]at q;exact q.elim
variable{X:Cx}{W:Nat->St->Hp->Prop}{Z:Zn}{F F1 B L:Addr->Prop}{H H1:Hp}{σ:St}{env:En}{fp:Nat->List Addr}{D:Ends}
theorem yD
  (M:Mk X.K (T.cls c) f) (hcn:c < T.nc) (G:bS X.prog X.w X.K X.mg X.base (CXP X.prog X.w) k f fd ps (spI T ps.length m)) (hr:cL (k+1) X.A) (hb:cX X.K fd ps ds) (hd:aG dvs ds) (hdp:∀F B L H,RelL T F B L H dps dvs []) (hx:XF X T W)
  (S:ar T Z F H σ env fp) (g:Gr F H F1 H1) (r:RelL T F1 Z.B (Own fp) H1 xs vs fx) (nf:∀a∈fx,¬F1 a) (nd:fx.Nodup) (new:∀a∈fx,H a=none) (q:GE T W Z.B F (Own fp) σ H Q (ax m (.obj .own c [] []::(xs++dps))))
  (I1:L2.Inv X pins σ H1 s1) (rv:aG vs us) (hlen:vs.length+dvs.length+1=ps.length):wpAny (model X.prog X.w) X.A (call (.ref (T.cls c)) us) (EP X pins σ Q) X.xe s1:=by
 have hxn:H1 (s1.heap.objs.size+1)=none:=I1.hok.fresh (Nat.le_succ _)
 have hdn:H1 s1.heap.objs.size=none:=I1.hok.fresh (Nat.le_refl _)
 have hne:s1.heap.objs.size≠s1.heap.objs.size+1:=Nat.ne_of_lt (Nat.lt_succ_self _)
 generalize hH2:upd (upd H1 s1.heap.objs.size (.own (s1.heap.objs.size+1))) (s1.heap.objs.size+1) (.ins (T.cls c) s1.heap.objs.size [])=H2
 have ext2:Ext H1 H2:=by
  rw[<- hH2]
  exact(Ext.upd hdn).trans (Ext.upd (by rw[aF hne.symm];exact hxn))
 have free2:∀a,H2 a=none->H1 a=none:=fun a h=>ext2.free h
 have hx2:H2 (s1.heap.objs.size+1)=some (.ins (T.cls c) s1.heap.objs.size []):=by rw[<- hH2];exact bq
 have I2:=L2.Inv.made (C:=T.cls c) I1
 rw[hH2]at I2
 have r2:aG (V.ref (s1.heap.objs.size+1)::(vs++dvs)) (Value.ref (s1.heap.objs.size+1)::(us++ds)):=.cons rfl (rv.append hd)
 have hl:(Value.ref (s1.heap.objs.size+1)::us++ds).length=ps.length:=by
  have e:=r2.length
  simp only[List.length_cons,List.length_append]at e hlen ⊢
  omega
 have rr:RelL T F1 Z.B (Own fp) H1 (xs++dps) (vs++dvs) fx:=by
  have:=RelL.append r (hdp F1 Z.B (Own fp) H1)
  rwa [List.append_nil]at this
 have nx:s1.heap.objs.size+1∉fx:=fun z=>by
  obtain⟨o,ho⟩:=r.there _ z
  rw[hxn]at ho;cases ho
 have hBo:∀a,Z.B a->(∃o,H2 a=some o)/\a ∉(s1.heap.objs.size+1)::fx:=fun a h=>by
  obtain⟨⟨o,h1⟩,h2⟩:=S.hp.bo a h
  have h3:=S.hp.keep a o h1 h2
  refine⟨⟨o,ext2 a o (g.ext a o h3)⟩,fun z=>?_⟩
  rcases List.mem_cons.mp z with z | z
  ·rw[z]at h3;rw[g.ext _ _ h3]at hxn;cases hxn
  ·rw[new a z]at h3;cases h3
 have hOw:∀a,Own fp a->(∃o,H2 a=some o)/\a ∉(s1.heap.objs.size+1)::fx:=fun a ⟨i,hi⟩=>by
  obtain⟨_,o,ho⟩:=S.dis i a hi
  refine⟨⟨o,ext2 a o (g.ext a o ho)⟩,fun z=>?_⟩
  rcases List.mem_cons.mp z with z | z
  ·rw[z]at ho;rw[g.ext _ _ ho]at hxn;cases hxn
  ·rw[new a z]at ho;cases ho
 have nF:¬F1 (s1.heap.objs.size+1):=fun z=>by
  obtain⟨o,ho⟩:=g.dom _ z
  rw[hxn]at ho;cases ho
 have R:mG T F1 (fun a=>(∃o,H2 a=some o)/\a ∉(s1.heap.objs.size+1)::fx) H2 (.obj .own c [] []::mapL Fl.toBor (xs++dps)) (.ref (s1.heap.objs.size+1)::(vs++dvs)) ((s1.heap.objs.size+1)::fx):=by
  refine⟨?_,List.nodup_cons.mpr ⟨nx,nd⟩,fun a ha=>?_,fun a h=>h,fun a h=>let⟨o,ho⟩:=g.dom a h;⟨o,ext2 a o ho⟩⟩
  ·unfold RelL
   refine⟨_,_,[s1.heap.objs.size+1],fx,rfl,?_,RelL.toBor hBo hOw (rr.ext ext2 fun _ h=>h),rfl⟩
   unfold Rel
   exact⟨_,s1.heap.objs.size,[],[],rfl,by simpa using hx2,⟨rfl,hcn⟩,by unfold RelL;exact⟨rfl,rfl⟩,rfl,True.intro⟩
  ·rcases List.mem_cons.mp ha with rfl | ha
   ·exact nF
   ·exact nf a ha
 have newx:∀a ∈(s1.heap.objs.size+1)::fx,H a=none:=fun a ha=>by
  rcases List.mem_cons.mp ha with rfl | ha
  ·exact g.ext.free hxn
  ·exact new a ha
 refine wpAny_call (tX (f:=f) I1.kIn M.makes M.init (beq_iff_eq.mp M.fn) (codeAny_mono (G.run _ X.stack _ _ ⟨Value.ref (s1.heap.objs.size+1)::us,[]⟩ (Value.ref (s1.heap.objs.size+1)::(us ++ ds)) _ (fun v H3=>v=.non/\Q (.ref (s1.heap.objs.size+1)) H3) (fun cls _ H'=>∃ c,cls=.ref (T.xcl c)/\W c σ H') (hr.make (T.cls c) us [])
  (I2.env0.make (T.cls c) us []) (hb _ (Value.ref (s1.heap.objs.size+1)::us) I2.kIn hl) r2 ⟨by rw[r2.length];exact hl,_,_,F1,_,_,rfl,R,⟨.own,c,[],[],rfl⟩,?_⟩) fun rs s' hq'=>?_))
 ·unfold ax at q
  have e0:mapL Fl.toBor (PV.obj .own c [] []::(xs++dps))=.obj .own c [] []::mapL Fl.toBor (xs++dps):=by simp[mapL,PV.mapF,Fl.toBor]
  rw[e0]at q
  cases e:m (.obj .own c [] []::mapL Fl.toBor (xs++dps))with
  | ok v =>
   rw[e]at q
   dsimp only at q
   intro F3 H3 f3 hp3 r3 nd3 nf3 new3
   refine⟨rfl,?_⟩
   by_cases hbr:v.has Fl.isBor=true
   ·rw[if_pos hbr]at q;exact q.elim
   ·rw[if_neg hbr]at q
    have hbr':v.has Fl.isBor=false:=by simpa using hbr
    refine q _ H3 F3 f3 ⟨fun a o h=>hp3.keep a o (ext2 a o (g.ext a o h)) fun z=>(by rw[newx a z]at h;cases h),fun a h=>hp3.f0 a (g.mono a h),fun a h=>?_,hp3.ft⟩ ?_ nf3 nd3 fun a ha=>?_
    ·rcases hp3.fn a h with z | z | z
     ·exact g.only a z
     ·exact .inr (g.ext.free (free2 a z))
     ·exact .inr (newx a z)
    ·exact Rel.tr (fun _ h=>h) (fun _ h=>h) (fun _ h=>h.elim) (fun _ _ h _=>h) (fun _ _ _ h=>h) (Rel.noB (B':=Z.B) hbr' r3)
    ·rcases new3 a ha with z | z
     ·exact g.ext.free (free2 a z)
     ·exact newx a z
  | exc c' =>
   rw[e]at q
   exact fun H' h=>⟨c',rfl,q H' fun a o z=>h a o (ext2 a o (g.ext a o z)) fun z'=>by rw[newx a z']at z;cases z⟩
  | stuck=>rw[e]at q;exact q.elim
 ·cases rs with
  | error e =>
   obtain⟨cls,H',fl,c',rfl,hw⟩:=hq'
   exact hx pins σ H2 _ c' H' e s' I2 fl hw
  | ok fl =>
   cases fl with
   | ret u =>
    obtain⟨v,H',I3,rv',ev,q3⟩:=I2.after hq'
    subst ev
    exact⟨rv',⟨V.ref (s1.heap.objs.size+1),H',I3,rfl,q3⟩⟩
   | next | brk | cont=>exact False.elim hq'
theorem vJ
  (M:Mk X.K (T.cls c) f) (hcn:c < T.nc) (G:bS X.prog X.w X.K X.mg X.base (CXP X.prog X.w) k f fd ps (spI T ps.length m)) (hr:cL (k+1) X.A) (hg:Gl X x) (hm:X.mg x=some (.ref (T.cls c))) (hb:cX X.K fd ps ds) (hd:aG dvs ds) (hdp:∀F B L H,RelL T F B L H dps dvs []) (hx:XF X T W)
  (hn:dB ms n) (hps:n+dvs.length+1=ps.length) (ha:SA X T W (e::es) ms)
  (hdb:(x ==("__debug__" : Str))=false:=by decide) (he:starEach (e::es) X.env=(false,eval e X.env)::starEach es X.env:=by rfl) (hpl:(backTo pos (starEach es X.env)).any (·.1)=false:=by rfl) :
  SE X T W (.Call (.Name x p) (e::es) [] pos) (ak (fun xs=>ax m (.obj .own c [] []::(xs++dps))) ms):=by
 intro pins s σ H Q I h
 obtain⟨Z,F,env,fp,S,q⟩:=h
 unfold ak at q
 refine wpAny_Call_Name_kw (fk I hg hm ?_ hdb)
 refine PySem.W.callWith_K (h₀:=X.base) I.ok.mod.kin M.kp (thn (ha pos pins s σ H (fun vs H1=>∀ us s1,L2.Inv X pins σ H1 s1->aG vs us->wpAny (model X.prog X.w) X.A (call (.ref (T.cls c)) us) (EP X pins σ Q) X.xe s1) I
  (tA.bind S (fun c e=>by rw[e]at q;exact q) (fun e=>by rw[e]at q;exact q) fun xs vs H1 F1 f1 e1 g1 r1 n1 d1 w1 us s1 I1 rv=>?_)) fun us s1 ⟨vs,H1,I1,r,q1⟩=>⟨I1.kIn,q1 us s1 I1 r⟩) he hpl
 rw[e1]at q
 exact yD M hcn G hr hb hd hdp hx S g1 r1 n1 d1 w1 q I1 rv (by rw[<- r1.length,hn env xs e1];exact hps)
theorem ar.mut(S:ar T Z F H σ env fp)(hi:i < env.length)(hv:σ[i]?=some (some v))(ha:a∈fp i)(r:Rel T F Z.B NoL (upd H a o') pv' v f')(nd:f'.Nodup)(nf:∀b∈f',¬F b)
  (new:∀b∈f',Z.H0 b=none\/Z.fp0 b) (dj:∀b∈f',∀j,j≠i->b∉fp j) (ho:i=0->b8 env=true->∃fl c ks xs,pv'=.obj fl c ks xs):ar T Z F (upd H a o') σ (env.set i (some pv')) (bj fp i f'):=by
 obtain⟨oa,hoa,hch⟩:=S.ch i a ha
 have nFa:¬F a:=(S.dis i a ha).1
 have nBa:¬Z.B a:=fun z=>S.bow a z ⟨i,ha⟩
 have ne:∀b u,H b=some u->(F b\/Z.B b\/NoL b\/hV u)->b≠a:=fun b u e h z=>by
  subst z
  rcases h with h | h | h | h
  ·exact nFa h
  ·exact nBa h
  ·exact h
  ·rw[hoa]at e
   cases e
   cases oa with
   | lst _ | ins _ _ _=>exact h
   | _=>exact hch
 have nz:∀b u,Z.H0 b=some u->¬Z.fp0 b->b≠a:=fun b u e n z=>by
  subst z
  rcases S.new i _ ha with w | w
  ·rw[e]at w;cases w
  ·exact n w
 have nj:∀j,j≠i->∀b∈fp j,b≠a:=fun j hj b hb z=>by
  subst z
  exact S.dj j i hj _ hb ha
 refine⟨⟨S.hp.bo,fun b u e n=>by rw[aF (nz b u e n)];exact S.hp.keep b u e n,S.hp.f0,S.hp.fn,fun b h=>?_⟩,by rw[List.length_set,S.len],fun j pv e=>?_,fun j=>?_,fun j k hjk b hb=>?_,fun j b hb=>?_,fun j b hb=>?_,fun j b hb=>?_,fun w hw=>?_⟩
 ·obtain⟨u,e⟩:=S.hp.ft b h
  exact⟨u,by rw[aF (show b≠a from fun z=>nFa (by rw[<- z];exact h))];exact e⟩
 ·by_cases hj:j=i
  ·subst hj
   rw[List.getElem?_set_self hi]at e
   cases e
   refine⟨v,hv,?_⟩
   unfold bj
   rw[if_pos rfl]
   exact r
  ·rw[List.getElem?_set_ne (Ne.symm hj)]at e
   obtain⟨w,h1,h2⟩:=S.rel j pv e
   refine⟨w,h1,?_⟩
   unfold bj
   rw[if_neg hj]
   exact Rel.tr (fun _ h=>h) (fun _ h=>h) (fun _ h=>h) (fun b u q h=>by rw[aF (ne b u q h)];exact q) (fun b hb u q=>by rw[aF (nj j hj b hb)];exact q) h2
 ·unfold bj;split
  ·exact nd
  ·exact S.nd j
 ·unfold bj at hb ⊢
  by_cases h1:j=i
  ·subst h1
   rw[if_pos rfl]at hb
   rw[if_neg (Ne.symm hjk)]
   exact dj b hb k (Ne.symm hjk)
  ·rw[if_neg h1]at hb
   by_cases h2:k=i
   ·subst h2
    rw[if_pos rfl]
    exact fun z=>dj b z j h1 hb
   ·rw[if_neg h2]
    exact S.dj j k hjk b hb
 ·unfold bj at hb
  by_cases h1:j=i
  ·rw[if_pos h1]at hb;exact⟨nf b hb,r.there b hb⟩
  ·rw[if_neg h1]at hb
   obtain⟨n,u,e⟩:=S.dis j b hb
   exact⟨n,u,by rw[aF (nj j h1 b hb)];exact e⟩
 ·unfold bj at hb
  by_cases h1:j=i
  ·rw[if_pos h1]at hb;exact new b hb
  ·rw[if_neg h1]at hb;exact S.new j b hb
 ·unfold bj at hb
  by_cases h1:j=i
  ·rw[if_pos h1]at hb;exact r.chg b hb
  ·rw[if_neg h1]at hb
   obtain⟨u,e,c⟩:=S.ch j b hb
   exact⟨u,by rw[aF (nj j h1 b hb)];exact e,c⟩
 ·obtain⟨h1,h2⟩:=S.pn w hw
  refine⟨h1,?_⟩
  by_cases hi0:i=0
  ·obtain⟨fl,c,ks,xs,e⟩:=ho hi0 h2
   subst hi0 e
   unfold b8
   rw[List.getElem?_set_self hi]
  ·unfold b8 at h2 ⊢
   rw[List.getElem?_set_ne hi0]
   exact h2
def jK(i k:Nat)(e:ME):MS:=fun env=>match e env with
 | .ok v=>(match env[i]? with
  | some (some (.obj .own c ks vs))=>if v.noLnt&&!ks.contains k&&decide (ks.length < 900)then .next (env.set i (some (.obj .own c (ks++[k]) (vs++[v]))))else .stuck
  | _=>.stuck)
 | .exc c=>.exc c env
 | .stuck=>.stuck
theorem mX:∀{ks:List Nat}{ws:List V},ks.contains k=false->ks.length=ws.length->eZ (T.att k) y ((ks.map T.att).zip ws)=((ks++[k]).map T.att).zip (ws++[y])
 | [],[],_,_=>rfl
 | j::ks,w::ws,h,hl=>by
  simp only[List.contains_cons,Bool.or_eq_false_iff,beq_eq_false_iff_ne]at h
  show eZ (T.att k) y ((T.att j,w)::(ks.map T.att).zip ws)=(T.att j,w)::((ks++[k]).map T.att).zip (ws++[y])
  unfold eZ
  rw[if_neg (fun z=>h.1 (T.inj _ _ z).symm),mX h.2 (by simpa using hl)]
 | [],_::_,_,hl | _::_,[],_,hl=>by simp at hl
theorem yp(hK:X.K=T.K)(hf:T.att k=f)(hc:∀c < T.nc,Cls T.K (T.cls c))(hn:∀c < T.nc,dA T.K (T.cls c) f)(hN:X.N[i]?=some x)(hv:Vis X.env.scope x)(he:SE X T W e m)
  (hs:swapsWith e (some (.Attribute (.Name x px) f pos')) pos.line X.env=pure false:=by rfl) (hd:(x ==("__debug__" : Str))=false:=by decide) (hcd:(x ==("__classdict__" : Str))=false:=by decide) :
  SS X T W (.Assign [.Attribute (.Name x px) f pos'] e pos) (jK i k m):=PS.wk (yQ (pos:=pos) (pos':=pos') (cu (pos:=px) hN hv hd hcd) he hs) fun D σ H ⟨Z,F,env,fp,S,q⟩=>by
 unfold jK at q
 refine tE.bind S (fun c e H' x=>?_) (fun e=>by rw[e]at q;exact q) fun pv v H1 F1 f1 e g r h1 h2 h3=>?_
 ·rw[e]at q
  exact q F H' σ fp (S.grow (Gr.same S.hp.ft x))
 ·rw[e]at q
  dsimp only at q
  split at q
  ·rename_i c ks vs eo
   split at q
   ·rename_i hcnd
    simp only[Bool.and_eq_true,Bool.not_eq_true',decide_eq_true_eq]at hcnd
    obtain⟨⟨hln,hkn⟩,hkl⟩:=hcnd
    have S1:=S.grow g
    obtain⟨vo,ho1,ho2⟩:=S1.rel i _ eo
    have ho3:=ho2
    unfold Rel at ho3
    obtain⟨a,dx,ws,fp',rfl,hl,hk,hr,hfl,_⟩:=ho3
    have hfl':fp i=a::fp':=hfl
    have hil:i < env.length:=(List.getElem?_eq_some_iff.mp eo).1
    refine⟨_,ho1,a,_,dx,_,rfl,hl,by rw[hK];exact hc c hk.2,by rw[hK];exact hn c hk.2,?_,?_⟩
    ·have:=hr.length
     rw[List.length_zip,List.length_map]
     omega
    ·rw[<- hf,mX hkn (by rw[<- hr.length];exact hk.1)]
     have ha:a∈fp i:=by rw[hfl'];exact List.mem_cons_self
     have nd:(a::fp').Nodup:=by rw[<- hfl'];exact S1.nd i
     have old:∀b∈f1,∀j,b∉fp j:=fun b hb j hj=>by
      obtain⟨_,o,e⟩:=S.dis j b hj
      rw[h3 b hb]at e;cases e
     have hrv:Rel T F1 Z.B NoL H1 pv v f1:=Rel.noL (by simpa[PV.noLnt]using hln) r
     have nea:∀b u,H1 b=some u->(F1 b\/Z.B b\/NoL b\/hV u)->b≠a:=fun b u e h z=>by
      subst z
      rcases h with h | h | h | h
      ·exact(S1.dis i _ ha).1 h
      ·exact S1.bow _ h ⟨i,ha⟩
      ·exact h
      ·rw[hl]at e;cases e;exact h
     refine q F1 _ σ _ (S1.mut (f':=a::(fp'++f1)) hil ho1 ha ?_ ?_ (fun b hb=>?_) (fun b hb=>?_) (fun b hb j hj=>?_) fun _ _=>⟨_,_,_,_,rfl⟩)
     ·unfold Rel
      have hrr:RelL T F1 Z.B NoL H1 (vs++[pv]) (ws++[v]) (fp'++f1):=RelL.append hr (by unfold RelL;exact⟨v,[],f1,[],rfl,hrv,by unfold RelL;exact⟨rfl,rfl⟩,by simp⟩)
      refine⟨a,dx,ws++[v],fp'++f1,rfl,bq,⟨by simp[hk.1],hk.2⟩,?_,rfl,True.intro⟩
      refine RelL.tr (fun _ h=>h) (fun _ h=>h) (fun _ h=>h) (fun b u e h=>by rw[aF (nea b u e h)];exact e) (fun b hb u e=>?_) hrr
      refine(aF fun z=>?_).trans e
      subst z
      rcases List.mem_append.mp hb with hb | hb
      ·exact(List.nodup_cons.mp nd).1 hb
      ·exact old _ hb i ha
     ·refine List.nodup_cons.mpr ⟨fun z=>?_,List.nodup_append.mpr ⟨(List.nodup_cons.mp nd).2,h2,fun b hb b' hb' z=>?_⟩⟩
      ·rcases List.mem_append.mp z with z | z
       ·exact(List.nodup_cons.mp nd).1 z
       ·exact old _ z i ha
      ·subst z
       exact old b hb' i (by rw[hfl'];exact List.mem_cons_of_mem _ hb)
     ·rcases List.mem_cons.mp hb with rfl | hb
      ·exact(S1.dis i _ ha).1
      ·rcases List.mem_append.mp hb with hb | hb
       ·exact(S1.dis i b (by rw[hfl'];exact List.mem_cons_of_mem _ hb)).1
       ·exact h1 b hb
     ·rcases List.mem_cons.mp hb with rfl | hb
      ·exact S1.new i _ ha
      ·rcases List.mem_append.mp hb with hb | hb
       ·exact S1.new i b (by rw[hfl'];exact List.mem_cons_of_mem _ hb)
       ·exact S.hp.newE h3 b hb
     ·rcases List.mem_cons.mp hb with rfl | hb
      ·exact fun z=>S1.dj i j (Ne.symm hj) _ ha z
      ·rcases List.mem_append.mp hb with hb | hb
       ·exact fun z=>S1.dj i j (Ne.symm hj) b (by rw[hfl'];exact List.mem_cons_of_mem _ hb) z
       ·exact old b hb j
   ·exact q.elim
  ·exact q.elim
theorem ar.mutL{i:Nat}{xs ys:List PV}{ws us:List V}{a:Addr}{v:V}{f' fp':List Addr}(S:ar T Z F H σ env fp)(eo:env[i]?=some (some (.lst .own xs)))(hv:σ[i]?=some (some (.ref a)))(hfp:fp i=a::fp')(r:RelL T F Z.B NoL H ys us f')(nd:f'.Nodup)
  (hf:∀b∈f',(b∈fp')\/(¬F b/\(Z.H0 b=none\/Z.fp0 b)/\∀j,b∉fp j)) (hl:H a=some (.lst ws)):ar T Z F (upd H a (.lst us)) σ (env.set i (some (.lst .own ys))) (bj fp i (a::f')):=by
 have ha:a∈fp i:=by rw[hfp];exact List.mem_cons_self
 have ndi:(a::fp').Nodup:=by rw[<- hfp];exact S.nd i
 have sub:∀b∈fp',b∈fp i:=fun b hb=>by rw[hfp];exact List.mem_cons_of_mem _ hb
 have na:∀b∈f',b≠a:=fun b hb z=>by
  subst z
  rcases hf _ hb with h | h
  ·exact(List.nodup_cons.mp ndi).1 h
  ·exact h.2.2 i ha
 have hil:i < env.length:=(List.getElem?_eq_some_iff.mp eo).1
 have nea:∀b u,H b=some u->(F b\/Z.B b\/NoL b\/hV u)->b≠a:=fun b u e h z=>by
  subst z
  rcases h with h | h | h | h
  ·exact(S.dis i _ ha).1 h
  ·exact S.bow _ h ⟨i,ha⟩
  ·exact h
  ·rw[hl]at e;cases e;exact h
 refine S.mut hil hv ha ?_ (List.nodup_cons.mpr ⟨fun z=>na a z rfl,nd⟩) (fun b hb=>?_) (fun b hb=>?_) (fun b hb j hj=>?_) fun h0 h1=>?_
 ·unfold Rel
  exact⟨a,us,f',rfl,bq,RelL.tr (fun _ h=>h) (fun _ h=>h) (fun _ h=>h) (fun b u e h=>by rw[aF (nea b u e h)];exact e) (fun b hb u e=>by rw[aF (na b hb)];exact e) r,rfl⟩
 ·rcases List.mem_cons.mp hb with rfl | hb
  ·exact(S.dis i _ ha).1
  ·rcases hf b hb with h | h
   ·exact(S.dis i b (sub b h)).1
   ·exact h.1
 ·rcases List.mem_cons.mp hb with rfl | hb
  ·exact S.new i _ ha
  ·rcases hf b hb with h | h
   ·exact S.new i b (sub b h)
   ·exact h.2.1
 ·rcases List.mem_cons.mp hb with rfl | hb
  ·exact fun z=>S.dj i j (Ne.symm hj) _ ha z
  ·rcases hf b hb with h | h
   ·exact fun z=>S.dj i j (Ne.symm hj) b (sub b h) z
   ·exact h.2.2 j
 ·subst h0
  unfold b8 at h1
  rw[eo]at h1
  cases h1
theorem ar.lst{i:Nat}{xs:List PV}(S:ar T Z F H σ env fp)(eo:env[i]?=some (some (.lst .own xs))):∃a ws fp',σ[i]?=some (some (.ref a))/\H a=some (.lst ws)/\RelL T F Z.B NoL H xs ws fp'/\fp i=a::fp':=by
 obtain⟨v,h1,h2⟩:=S.rel i _ eo
 unfold Rel at h2
 obtain⟨a,ws,fp',rfl,hl,hr,hf⟩:=h2
 exact⟨a,ws,fp',h1,hl,hr,hf⟩
theorem ar.beside{f1:List Addr}(S:ar T Z F H σ env fp)(g:Gr F H F1 H1)(h1:∀ a ∈ f1,¬ F1 a)(h3:∀ a ∈ f1,H a=none):∀ b ∈ f1,¬ F1 b/\(Z.H0 b=none \/ Z.fp0 b)/\∀ j,b ∉ fp j:=fun b hb=>⟨h1 b hb,S.hp.newE h3 b hb,fun j hj=>by
 obtain⟨_,o,e⟩:=S.dis j b hj
 rw[h3 b hb]at e;cases e⟩
def cT(i:Nat)(e:ME):MS:=fun env=>match e env with
 | .ok v=>(match env[i]? with
  | some (some (.lst .own xs))=>if v.noLnt&&decide (xs.length < 10000000)then .next (env.set i (some (.lst .own (xs++[v]))))else .stuck
  | _=>.stuck)
 | .exc c=>(match env[i]? with
  | some (some (.lst .own _))=>.exc c env
  | _=>.stuck)
 | .stuck=>.stuck
theorem qp{i:Nat}{x:Str}{e:Expr}{m:ME}{pos px apos cpos:Pos}(hK:X.K=T.K)(hN:X.N[i]?=some x)(hv:Vis X.env.scope x)(he:SE X T W e m)
  (hs:swapsWith (.Call (.Attribute (.Name x px) "append" apos) [e] [] cpos) none pos.line X.env=pure false:=by rfl) (hst:starEach [e] X.env=[(false,eval e X.env)]:=by rfl)
  (hfew:((backTo cpos (starEach [e] X.env)).all (fun x=>!x.1)&&(backToKw cpos (keywordEach [] X.env)).all (fun x=>x.1.isSome)&&decide ([e].length+([]:List Keyword).length+(if([]:List Keyword).isEmpty then 0 else 1) < 30))=true:=by rfl)
  (hline:(apos.endLine==cpos.line)=true:=by rfl) (hd:(x ==("__debug__" : Str))=false:=by decide) (hcd:(x ==("__classdict__" : Str))=false:=by decide) :
  SS X T W (.Expr (.Call (.Attribute (.Name x px) "append" apos) [e] [] cpos) pos) (cT i m) :=
 PS.wk (f7 (pos:=pos) (sW (cpos:=cpos) (apos:=apos) PySem.F.plainAttrs_list PySem.F.slot_list_append PySem.F.type_list_append iB (cu (pos:=px) hN hv hd hcd) (ac he af hst) rfl hfew hline hst) hs) fun D σ H ⟨Z,F,env,fp,S,q⟩=>by
  unfold cT at q
  cases em:m env with
  | stuck=>rw[em]at q;exact q.elim
  | exc c =>
   rw[em]at q
   dsimp only at q
   split at q
   ·rename_i xs eo
    obtain⟨a,ws,fp',h1,hl,hr,hf⟩:=S.lst eo
    refine⟨_,h1,.inl ⟨rfl,ws,by rw[hK];exact SqL.of hl⟩,Z,F,env,fp,S,?_⟩
    unfold ad
    rw[em]
    exact fun H' x=>q F H' σ fp (S.grow (Gr.same S.hp.ft x))
   ·exact q.elim
  | ok v =>
   rw[em]at q
   dsimp only at q
   split at q
   ·rename_i xs eo
    split at q
    ·rename_i hc
     simp only[Bool.and_eq_true,decide_eq_true_eq]at hc
     obtain⟨a,ws,fp',h1,hl,hr,hf⟩:=S.lst eo
     refine⟨_,h1,.inl ⟨rfl,ws,by rw[hK];exact SqL.of hl⟩,Z,F,env,fp,S,?_⟩
     unfold ad aj
     rw[em]
     intro vs H1 F1 f1 g r n1 d1 w1
     obtain⟨u,rfl,ru⟩:=r.one
     have S1:=S.grow g
     have hl1:=g.ext a _ hl
     refine⟨a,ws,u,rfl,rfl,hl1,?_,?_⟩
     ·rw[<- hr.length,sizeLine_eq];omega
     ·have rone:RelL T F1 Z.B NoL H1 [v] [u] f1:=by unfold RelL;exact⟨u,[],f1,[],rfl,Rel.noL (by simpa[PV.noLnt]using hc.1) ru,by unfold RelL;exact⟨rfl,rfl⟩,by simp⟩
      refine q F1 _ σ _ (S1.mutL (v:=u) eo h1 hf (RelL.append (hr.ext g.ext g.mono) rone) ?_ (fun b hb=>?_) hl1)
      ·have ndi:(a::fp').Nodup:=by rw[<- hf];exact S.nd i
       refine List.nodup_append.mpr ⟨(List.nodup_cons.mp ndi).2,d1,fun b hb b' hb' z=>?_⟩
       subst z
       exact(S.beside g n1 w1 b hb').2.2 i (by rw[hf];exact List.mem_cons_of_mem _ hb)
      ·rcases List.mem_append.mp hb with hb | hb
       ·exact .inl hb
       ·exact .inr (S.beside g n1 w1 b hb)
    ·exact q.elim
   ·exact q.elim
def tZ(i:Nat):MS:=fun env=>match env[i]? with
 | some (some (.lst .own _))=>.next (env.set i (some (.lst .own [])))
 | _=>.stuck
theorem Bw{i:Nat}{x:Str}{pos px apos cpos:Pos}(hK:X.K=T.K)(hN:X.N[i]?=some x)(hv:Vis X.env.scope x)
  (hs:swapsWith (.Call (.Attribute (.Name x px) "clear" apos) [] [] cpos) none pos.line X.env=pure false:=by rfl) (hline:(apos.endLine==cpos.line)=true:=by rfl) (hd:(x ==("__debug__" : Str))=false:=by decide) (hcd:(x ==("__classdict__" : Str))=false:=by decide) :
  SS X T W (.Expr (.Call (.Attribute (.Name x px) "clear" apos) [] [] cpos) pos) (tZ i) :=
 PS.wk (f7 (pos:=pos) (sV (cpos:=cpos) (apos:=apos) PySem.F.plainAttrs_list PySem.F.slot_list_clear PySem.F.type_list_clear ng (cu (pos:=px) hN hv hd hcd) rfl hline) hs) fun D σ H ⟨Z,F,env,fp,S,q⟩=>by
  unfold tZ at q
  split at q
  ·rename_i xs eo
   obtain⟨a,ws,fp',h1,hl,hr,hf⟩:=S.lst eo
   refine⟨_,h1,.inl ⟨rfl,ws,by rw[hK];exact SqL.of hl⟩,a,ws,rfl,rfl,hl,?_⟩
   exact q F _ σ _ (S.mutL (v:=.non) (f':=[]) eo h1 hf (by unfold RelL;exact⟨rfl,rfl⟩) List.nodup_nil (fun _ z=>(nomatch z)) hl)
  ·exact q.elim
def fR(i:Nat)(k e:ME):MS:=fun env=>match e env with
 | .ok v=>(match env[i]? with
  | some (some (.lst .own xs))=>(match k env with
   | .ok (.int j)=>(match ixN xs.length j with
    | some n=>if v.noLnt then .next (env.set i (some (.lst .own (xs.set n v))))else .stuck
    | none=>.stuck)
   | _=>.stuck)
  | _=>.stuck)
 | .exc c=>.exc c env
 | .stuck=>.stuck
theorem RelL.set{y:PV}{w:V}{g:List Addr}(ry:Rel T F B L H y w g):∀{xs:List PV}{vs:List V}{f:List Addr} (n:Nat),RelL T F B L H xs vs f->(f++g).Nodup->∃f',RelL T F B L H (xs.set n y) (vs.set n w) f'/\f'.Nodup/\∀b∈f',b∈f\/b∈g
 | [],vs,f,n,h,nd=>by unfold RelL at h;obtain⟨rfl,rfl⟩:=h;exact⟨[],by simp[RelL],List.nodup_nil,fun _ z=>(nomatch z)⟩
 | x::xs,_,_,0,h,nd=>by
  unfold RelL at h
  obtain⟨v,ws,f1,f2,rfl,h1,h2,rfl⟩:=h
  obtain⟨n1,n2,n3⟩:=List.nodup_append.mp nd
  obtain⟨m1,m2,m3⟩:=List.nodup_append.mp n1
  refine⟨g++f2,?_,List.nodup_append.mpr ⟨n2,m2,fun a ha b hb z=>n3 b (List.mem_append_right _ hb) a ha z.symm⟩,fun b hb=>?_⟩
  ·rw[List.set_cons_zero,List.set_cons_zero]
   unfold RelL
   exact⟨w,ws,g,f2,rfl,ry,h2,rfl⟩
  ·rcases List.mem_append.mp hb with hb | hb
   ·exact .inr hb
   ·exact .inl (List.mem_append_right _ hb)
 | x::xs,_,_,n+1,h,nd=>by
  unfold RelL at h
  obtain⟨v,ws,f1,f2,rfl,h1,h2,rfl⟩:=h
  obtain⟨n1,n2,n3⟩:=List.nodup_append.mp nd
  obtain⟨m1,m2,m3⟩:=List.nodup_append.mp n1
  obtain⟨f',r,d,s⟩:=RelL.set ry n h2 (List.nodup_append.mpr ⟨m2,n2,fun a ha b hb=>n3 a (List.mem_append_right _ ha) b hb⟩)
  refine⟨f1++f',?_,List.nodup_append.mpr ⟨m1,d,fun a ha b hb z=>?_⟩,fun b hb=>?_⟩
  ·rw[List.set_cons_succ,List.set_cons_succ]
   unfold RelL
   exact⟨v,_,f1,f',rfl,h1,r,rfl⟩
  ·rcases s b hb with h | h
   ·exact m3 a ha b h z
   ·exact n3 a (List.mem_append_left _ ha) b h z
  ·rcases List.mem_append.mp hb with hb | hb
   ·exact .inl (List.mem_append_left _ hb)
   ·rcases s b hb with h | h
    ·exact .inl (List.mem_append_right _ h)
    ·exact .inr h
theorem jo{i:Nat}{x:Str}{k e:Expr}{mk me:ME}{pos px tpos:Pos}(hN:X.N[i]?=some x)(hv:Vis X.env.scope x)(hk:SE X T W k mk)(he:SE X T W e me)
  (ha:∀ v,assign (.Subscript (.Name x px) k tpos) X.env v=(do
   let ov <- holding [v] (eval (.Name x px) X.env)
   let iv <- holding [v,ov] (eval k X.env)
   standAt tpos
   holding [v,ov,iv] (setItem ov iv v)
   release [v,ov,iv] []):=by intro _;rfl)
  (hs:swapsWithSole [.Subscript (.Name x px) k tpos] e pos.line X.env=pure false:=by rfl) (hw:swappedStores [.Subscript (.Name x px) k tpos] e X.env=pure none:=by rfl)
  (h1:(assignEach [.Subscript (.Name x px) k tpos] X.env).map (·.2)=[assign (.Subscript (.Name x px) k tpos) X.env]:=by rfl) (hd:(x ==("__debug__" : Str))=false:=by decide) (hcd:(x ==("__classdict__" : Str))=false:=by decide) :
  SS X T W (.Assign [.Subscript (.Name x px) k tpos] e pos) (fR i mk me) :=
 PS.wk (sK (pos:=pos) he (yU (pos:=tpos) (cu (pos:=px) hN hv hd hcd) hk rX ha) hs hw h1) fun D σ H ⟨Z,F,env,fp,S,q⟩=>by
  unfold fR at q
  refine tE.bind S (fun c e H' x=>?_) (fun e=>by rw[e]at q;exact q) fun pv v H1 F1 f1 e g r n1 d1 w1=>?_
  ·rw[e]at q
   exact q F H' σ fp (S.grow (Gr.same S.hp.ft x))
  ·rw[e]at q
   dsimp only at q
   split at q
   ·rename_i xs eo
    have S1:=S.grow g
    obtain⟨a,ws,fp',h1,hl,hr,hf⟩:=S1.lst eo
    cases ek:mk env with
    | stuck | exc c=>rw[ek]at q;exact q.elim
    | ok kv =>
     rw[ek]at q
     refine⟨_,h1,Z,F1,env,fp,S1,?_⟩
     rw[ek]
     intro u H2 F2 f2 g2 r2 _ _ _
     cases kv with
     | int j =>
      dsimp only at q
      unfold Rel at r2
      obtain⟨rfl,_⟩:=r2
      cases en:ixN xs.length j with
      | none=>rw[en]at q;exact q.elim
      | some n =>
       rw[en]at q
       dsimp only at q
       split at q
       ·rename_i hln
        have S2:=S1.grow g2
        have hr2:=hr.ext g2.ext g2.mono
        have ndi:(a::fp').Nodup:=by rw[<- hf];exact S.nd i
        have g12:=g.trans g2
        have nn:∀b∈f1,¬F2 b:=fun b hb z=>by
         rcases g2.only b z with z | z
         ·exact n1 b hb z
         ·obtain⟨o,ho⟩:=r.there b hb
          rw[ho]at z;cases z
        obtain ⟨f',r',nd',sub'⟩:=RelL.set (T:=T) (Rel.noL (L':=NoL) (by simpa [PV.noLnt] using hln) (r.ext g2.ext g2.mono)) n hr2 (List.nodup_append.mpr ⟨(List.nodup_cons.mp ndi).2,d1,fun b hb b' hb' z=>by
         subst z
         exact(S.beside g12 nn w1 b hb').2.2 i (by rw[hf];exact List.mem_cons_of_mem _ hb)⟩)
        refine⟨a,ws,j,n,rfl,rfl,g2.ext a _ hl,by rw[<- hr.length];exact en,?_⟩
        refine q F2 _ σ _ (S2.mutL (v:=v) eo h1 hf r' nd' (fun b hb=>?_) (g2.ext a _ hl))
        rcases sub' b hb with h | h
        ·exact .inl h
        ·exact .inr (S.beside g12 nn w1 b h)
       ·exact q.elim
     | _=>exact q.elim
   ·exact q.elim
end
def wb(i:Nat):Str:=⟨#[1114112+i]⟩
def ie(l:List Str)(i:Nat):Str:=match l[i]? with
 | some x=>x
 | none=>wb i
def iz(x:Str):Bool:=x.cps.all fun c=>decide (c < 1114112)
theorem eK(i:Nat):iz (wb i)=false:=by
 simp[iz,wb]
theorem q9(nd:l.Nodup)(h:l.all iz=true)(i j:Nat)(e:ie l i=ie l j):i=j:=by
 have pl:∀(i:Nat) x,l[i]?=some x->iz x=true:=fun i x hx=>List.all_eq_true.mp h x (List.mem_of_getElem? hx)
 unfold ie at e
 cases ei:l[i]? with
 | some x =>
  cases ej:l[j]? with
  | some y =>
   rw[ei,ej]at e
   dsimp only at e
   subst e
   obtain⟨h1,e1⟩:=List.getElem?_eq_some_iff.mp ei
   obtain⟨h2,e2⟩:=List.getElem?_eq_some_iff.mp ej
   exact(List.getElem_inj nd).mp (e1.trans e2.symm)
  | none =>
   rw[ei,ej]at e
   dsimp only at e
   have:=pl i x ei
   rw[e,eK]at this
   cases this
 | none =>
  cases ej:l[j]? with
  | some y =>
   rw[ei,ej]at e
   dsimp only at e
   have:=pl j y ej
   rw[<- e,eK]at this
   cases this
  | none =>
   rw[ei,ej]at e
   dsimp only at e
   simpa[wb]using e
theorem u_(hp:iz m=true)(hm:m∉l)(k:Nat):ie l k≠m:=by
 unfold ie
 cases e:l[k]? with
 | some x=>exact fun z=>hm (z▸List.mem_of_getElem? e)
 | none =>
  intro z
  dsimp only at z
  rw[<- z,eK]at hp
  cases hp
structure Ctx(X:Cx)(T:Tb)(W:Nat->St->Hp->Prop)(k:Nat):Prop where
 hK:X.K=T.K
 calm:X.calm=true
 room:cL k X.A
 xf:XF X T W
 po:PassesOwn (model X.prog X.w) X.A X.env X.xe
theorem Ctx.hu(c:Ctx X T W k):X.A.units+64 < cLine:=c.room.units
theorem Ctx.hu2(c:Ctx X T W k):X.A.units+66 < cLine:=by
 have:=c.room.un
 omega
theorem jd
  (hr:cL k (A.deeper (PyProof.Rows.envOfC qual scope s.heap.objs.size f cd))):Ctx (cH (CXP P w) P w T.K mg base N qual scope f cd A outer s H E) T (WD T E) k:=⟨rfl,rfl,hr,yf,PassesOwn.leaving⟩
theorem Ctx.comp(c:Ctx X T W k):Ctx (cxC X scope C N s H ex) T WF k:=⟨c.hK,c.calm,c.room,fun _ _ _ _ _ _ _ _ _ _ h=>h.elim,PassesOwn.never⟩
def j1(scD scope:Scope)(NX:List Str)(caps:List Nat)(N tn:List Str):Bool :=
 decide (scope.kind=.function)&&scope.names.all (fun y=>decide (y.2=.cell->scope.names.lookup y.1=some .cell))&&scope.names.all (fun y=>decide (y.2=.local->scope.names.lookup y.1=some .local)) &&
 scope.names.all (fun y=>decide (y.2=.free->scD.names.lookup y.1=some .cell\/scD.names.lookup y.1=some .free))&&decide (N=caps.map (fun i=>NX.getD i "")++ tn)&&caps.all (fun i=>decide (i < NX.length)) &&
 caps.all (fun i=>match NX[i]? with | some x=>decide ((x,NameKind.free)∈ scope.names/\scope.names.lookup x=some .free) | none=>false)&&decide N.Nodup
theorem w9(h:j1 scD scope NX caps N tn=true)(hs:X.env.scope=scD)(hN:X.N=NX):db X scope caps N tn:=by
 simp only[j1,Bool.and_eq_true,decide_eq_true_eq,List.all_eq_true]at h
 obtain⟨⟨⟨⟨⟨⟨⟨h1,h2⟩,h3⟩,h4⟩,h5⟩,h6⟩,h7⟩,h9⟩:=h
 subst hs hN
 refine⟨h1,h2,h3,h4,h5,h6,fun i hi x hx=>?_,h9⟩
 have:=h7 i hi
 rw[hx]at this
 simpa using this
section
variable{X:Cx}{T:Tb}{W:Nat->St->Hp->Prop}
theorem sv(i:Nat)(hN:X.N[i]?=some x:=by rfl)(hv:Vis X.env.scope x:=by first | exact Or.inl rfl | exact Or.inr (Or.inl rfl) | exact Or.inr (Or.inr rfl))(hd:(x ==("__debug__" : Str))=false:=by decide)
  (hcd:(x ==("__classdict__" : Str))=false:=by decide):SE X T W (.Name x pos) (aa i):=yt hN hv hd hcd
def tyP:PV->String
 | .non => "NoneType"
 | .bl _ => "bool"
 | .int _ => "int"
 | .str _ => "str"
 | .lst _ _ => "list"
 | .tup _ => "tuple"
 | _ => ""
def fV(t c:String):Bool:=t==c ||(t=="bool"&&c=="int")
def lA(c:String):PV->Res PV:=fun x=>if tyP x = "" then .stuck else .ok (.bl (fV (tyP x) c))
def kg(m:ME)(c:String):ME:=fun env=>(m env).bind (lA c)
def oW(K:PySem.W.Frag)(c:String):Prop:=∀t∈["NoneType", "bool", "int", "str", "list", "tuple"],PySem.W.kitOne K (.type t) (.type c)=some (fV t c)
theorem wF(hK:X.K=T.K)(hc:oW T.K c)(I:L2.Inv X pins σ H s)(r:Rel T F B L H x v f)(ru:bp v u)(hx:tyP x≠"")
  (h:∀tk,Q (.bool (fV (tyP x) c)) { s with toks:=tk }):wpAny (model X.prog X.w) A (call (.builtin "isinstance") [u,.type c]) Q E s:=by
 have kin:T.K.In s.heap:=by rw[<- hK];exact I.kIn
 cases x with
 | non=>unfold Rel at r;obtain⟨rfl,_⟩:=r;cases ru;exact PySem.W.kia_one PySem.W.kitx_none kin True.intro (hc _ (by simp)) (fun z=>nomatch z) h
 | bl b=>unfold Rel at r;obtain⟨rfl,_⟩:=r;cases ru;exact PySem.W.kia_one PySem.W.kitx_bool kin True.intro (hc _ (by simp)) (fun z=>nomatch z) h
 | int i=>unfold Rel at r;obtain⟨rfl,_⟩:=r;obtain⟨t,rfl⟩:=ru;exact PySem.W.kia_one PySem.W.kitx_int kin True.intro (hc _ (by simp)) (fun z=>nomatch z) h
 | str i=>unfold Rel at r;obtain⟨rfl,_⟩:=r;obtain⟨t,rfl⟩:=ru;exact PySem.W.kia_one PySem.W.kitx_str kin True.intro (hc _ (by simp)) (fun z=>nomatch z) h
 | lst f xs =>
  unfold Rel at r
  obtain⟨a,vs,fp',rfl,hl,hr,_⟩:=r
  cases ru
  obtain⟨its,_,⟨o,n,ho,hcl,_,_⟩,_⟩:=I.list (by rw[hK];exact hl.sq)
  exact PySem.W.kia_one PySem.W.kitx_list kin ⟨_,ho,hcl⟩ (hc _ (by simp)) (fun z=>nomatch z) h
 | tup xs =>
  unfold Rel at r
  obtain⟨a,vs,rfl,hl,hr⟩:=r
  cases ru
  obtain⟨its,_,⟨o,ho,hcl,_⟩,_⟩:=I.tuple (by rw[hK];exact hl)
  exact PySem.W.kia_one PySem.W.kitx_tuple kin ⟨_,ho,hcl⟩ (hc _ (by simp)) (fun z=>nomatch z) h
 | obj f c ks xs | exc c=>exact absurd rfl hx
theorem gq(hK:X.K=T.K)(hc:oW T.K c)(hg:Gl X "isinstance")(hm:X.mg "isinstance" = none)(hb:bootBuiltins "isinstance" = some (.builtin "isinstance"))(hgc:Gl X cn)(hmc:X.mg cn=none)(hvc:bootBuiltins cn=some (.type c))(he:SE X T W e m)
  (hcn:cn≠"__name__" := by decide) (hcd:(cn ==("__debug__" : Str))=false:=by decide) (hst:starEach [e,.Name cn pc] X.env=[(false,eval e X.env),(false,eval (.Name cn pc) X.env)]:=by rfl)
  (hst2:starEach [.Name cn pc] X.env=[(false,eval (.Name cn pc) X.env)]:=by rfl):SE X T W (.Call (.Name "isinstance" p) [e,.Name cn pc] [] pos) (kg m c):=by
 have ht:PE X (.Name cn pc) (tC (.ty c)):=v4 hgc hmc hvc rfl hcn hcd
 have hcall:eW X (.builtin "isinstance") (fun vs H Q=>∃v x F B L f,vs=[v,.ty c]/\Rel T F B L H x v f/\tyP x≠"" /\ Q (.bl (fV (tyP x) c)) H):=by
  intro pins s σ H vs us Q I rv h
  obtain⟨v,x,F,B,L,f,rfl,r,hx,q⟩:=h
  cases rv with
  | cons r1 r2 =>
   cases r2 with
   | cons r3 r4 =>
    cases r4
    cases r3
    exact wF hK hc I r r1 hx fun tk=>⟨.bl _,H,I.tok tk,rfl,q⟩
 have hargs:PA X [e,.Name cn pc] (o5 (tE T W m) (o5 (tC (.ty c)) vw)):=bZ he (bZ ht eH hst2) (by rw[hst,hst2])
 refine PE.wk (jA (pos:=pos) (p:=p) hcall hg hm hb hargs (he:=by rw[hst,hst2]) (hpl:=by rw[hst2];rfl)) fun σ H Q ⟨Z,F,env,fp,S,q⟩=>?_
 unfold kg at q
 refine tE.bind S (fun c e=>by rw[e]at q;exact q) (fun e=>by rw[e]at q;exact q) fun x v H1 F1 f1 e1 g1 r1 n1 d1 w1=>?_
 rw[e1]at q
 simp only[Res.ok_bind,lA]at q
 by_cases hx:tyP x = ""
 ·rw[if_pos hx]at q;exact q.elim
 ·rw[if_neg hx]at q
  exact⟨v,x,F1,Z.B,Own fp,f1,rfl,r1,hx,q.scal g1 gR⟩
def t3(f g:PV->PV->Res PV)(a b c:ME):ME:=fun env=>(a env).bind fun x=>(b env).bind fun y=>(f x y).bind fun
 | .bl true=>(c env).bind fun z=>g y z
 | .bl false=>.ok (.bl false)
 | _=>.stuck
end
theorem r6(hg:Gl X x)(hm:X.mg x=some (.int i t))(hd:(x ==("__debug__" : Str))=false:=by decide):SE X T W (.Name x pos) (mC (.int i)) :=
 jr (v:=.int i) (ly hg hm ⟨t,rfl⟩ hd) fun _ _ _ _=>d6
end PR
namespace PR
open PySem PySem.Spec
structure Ej(K:PySem.W.Frag)(C:Addr):Prop where
 ga:PySem.W.findIn K (.ref C) "__getattribute__" = some (some (.builtin "BaseException.__getattribute__"))
 gt:PySem.W.findIn K (.ref C) "__getattr__" = some none
 ca:PySem.W.findIn K (.ref C) "__class__" = some (some (.builtin "object.__class__"))
 sb:PySem.W.mroIn K C (.type "BaseException")=some true
 so:PySem.W.mroIn K C (.type "object")=some true
 cl:(PySem.W.clsIn K C).isSome=true
end PR
namespace L2
open PySem PySem.Spec PyProof.Rows
abbrev Cx.hanX(X:Cx)(e:Value):Cx:={ X with A:=X.A.mark (some e),calm:=false,xe:=fun _ _=>False }
section
variable{X:Cx}{pins pins':List (Addr×Obj)}{σ:St}{H H':Hp}{s:Shared}{E:Value->Shared->Prop}{e:Value}
theorem Inv.hanX(I:Inv X pins σ H s):Inv (X.hanX e) pins σ H s :=
 ⟨⟨I.ok.mod,I.ok.kind,I.ok.glob,I.ok.blt,I.ok.above,I.ok.inj,I.ok.has,I.ok.cab,fun z=>(nomatch z),I.ok.frames,I.ok.stk,I.ok.exf,I.ok.bs,I.ok.bsz,I.ok.noex,I.ok.exfs,I.ok.funs,I.ok.frf⟩,
  I.os,I.bare,I.base,I.loc,I.cell,I.free,I.freeC,I.pin,I.hok,I.len⟩
end
end L2
namespace PR
open PySem PySem.Spec L2
theorem gn(F B L:Addr->Prop)(H:Hp):RelL T F B L H [] [] []:=by unfold RelL;exact⟨rfl,rfl⟩
def g6(disp:Nat->Option (List PV->Res PV))(o:ME)(ms:MA):ME:=fun env=>(o env).bind fun ov=>match ov with
 | .obj _ c _ _=>match disp c with
  | some m=>(ms env).bind fun xs=>ax m (ov::xs)
  | none=>.stuck
 | _=>.stuck
theorem wr(disp:Nat->Option (List PV->Res PV))(o:ME)(ms:MA):pL disp [] o ms=g6 disp o ms:=by
 funext env
 unfold pL g6
 congr 1
 funext ov
 cases ov with
 | obj f c ks vs=>simp only[List.append_nil,List.cons_append]<;>rfl
 | _=>rfl
def qG(c:Nat)(m:List PV->Res PV)(ms:MA):ME:=ak (fun xs=>ax m (.obj .own c [] []::xs)) ms
section
variable{X:Cx}{T:Tb}{W:Nat->St->Hp->Prop}
theorem mS
  (G:bS X.prog X.w X.K X.mg X.base (CXP X.prog X.w) k f fd ps (spM T ps.length m)) (cx:Ctx X T W kk) (hk:k<=kk) (hg:Gl X x) (hm:X.mg x=some (.ref f)) (hkp:PySem.W.keepIn X.K (.ref f)=true) (hb:cX X.K fd ps [])
  (hn:dB ms n) (hps:n=ps.length) (ha:SA X T W (e::es) ms)
  (hdb:(x ==("__debug__" : Str))=false:=by decide) (he:starEach (e::es) X.env=(false,eval e X.env)::starEach es X.env:=by rfl) (hpl:(backTo pos (starEach es X.env)).any (·.1)=false:=by rfl) :
  SE X T W (.Call (.Name x p) (e::es) [] pos) (ak (ax m) ms):=by
 have h:=pd (dvs:=[]) (dps:=[]) (p:=p) (pos:=pos) G (cx.room.mono hk) hg hm hkp hb .nil gn cx.xf (fun env xs q=>by rw[hn env xs q];exact hps) ha hdb he hpl
 simpa using h
theorem yw
  (cx:Ctx X T W kk) (hc:∀c < T.nc,Cls T.K (T.cls c)) (hm:∀k,T.att k≠mn) (D:nV X T k mn ps [] disp) (hk:k<=kk)
  (hn:dB ms n) (hps:n+1=ps.length) (ho:SE X T W o mo) (ha:SA X T W (e::es) ms)
  (hst:starEach (e::es) X.env=(false,eval e X.env)::starEach es X.env:=by rfl) (hpl:(backTo pos (starEach es X.env)).any (·.1)=false:=by rfl)
  (ht:eval (.Call (.Attribute o mn apos) (e::es) [] pos) X.env=(do
   let ov <- eval o X.env
   standAt apos.atName
   let(f,first) <- holding [ov] (getMethod ov mn pl)
   callWith pos f first (backTo pos (starEach (e::es) X.env)) (backToKw pos (keywordEach [] X.env))):=by rfl) :
  SE X T W (.Call (.Attribute o mn apos) (e::es) [] pos) (g6 disp mo ms):=by
 rw[<- wr]
 exact vI (pl:=pl) (dvs:=[]) (dps:=[]) cx.hK hc hm D (cx.room.mono hk) .nil gn cx.xf (fun env xs q=>by rw[hn env xs q];exact hps) ho ha hst hpl ht
theorem yv
  (M:Mk X.K (T.cls c) f) (hcn:c < T.nc) (G:bS X.prog X.w X.K X.mg X.base (CXP X.prog X.w) k f fd ps (spI T ps.length m)) (cx:Ctx X T W kk) (hk:k+1<=kk) (hg:Gl X x) (hm:X.mg x=some (.ref (T.cls c))) (hb:cX X.K fd ps [])
  (hn:dB ms n) (hps:n+1=ps.length) (ha:SA X T W (e::es) ms)
  (hdb:(x ==("__debug__" : Str))=false:=by decide) (he:starEach (e::es) X.env=(false,eval e X.env)::starEach es X.env:=by rfl) (hpl:(backTo pos (starEach es X.env)).any (·.1)=false:=by rfl) :
  SE X T W (.Call (.Name x p) (e::es) [] pos) (qG c m ms):=by
 have h:=vJ (dvs:=[]) (dps:=[]) (p:=p) (pos:=pos) M hcn G (cx.room.mono hk) hg hm hb .nil gn cx.xf hn hps ha hdb he hpl
 unfold qG
 simpa using h
end
theorem wT(X:K.In h)(q:PySem.W.excIn K C [.type "ValueError", .type "Exception", .type "BaseException", .type "object"] "ValueError.__new__" = true) :
  ∃bm N nm q bs hdct sn sub ab col dd k0 k1 k2 k3 k5 mN,h.get? C=some (excClassObj nm q C N bs bm hdct sn sub ab col dd k0 k1 k2 k3 k5 "ValueError.__new__")/\h.Ns N mN/\mN "__init__" = none /\
   OwnTail h [.type "ValueError", .type "Exception", .type "BaseException", .type "object"] bm:=by
 unfold PySem.W.excIn at q
 split at q
 ·rename_i dd cd sl ho
  split at q
  ·rename_i C' bm k0 k1 k2 k3 n k5 hm hs
   simp only[Bool.and_eq_true,beq_iff_eq,Bool.not_eq_true']at q
   obtain⟨⟨⟨⟨⟨rfl,rfl⟩,hdel⟩,ht⟩,hok⟩,hni⟩:=q
   cases cd
   cases sl
   dsimp only at hm hdel hok hni hs
   subst hm hdel hs
   exact⟨bm,_,_,_,_,_,_,_,_,_,dd,k0,k1,k2,k3,k5,_,X _ _ ho,.of_isNs (PySem.W.isNs_of_in X hok),PySem.W.nsMap_none_of_in X hok hni,PySem.W.tail_of_in X ht⟩
  ·cases q
 ·cases q
def cf(c:Nat)(ms:MA):MS:=fun env=>match ms env with
 | .ok _=>.exc c env
 | .exc k=>.exc k env
 | .stuck=>.stuck
theorem qo(cx:Ctx X T W k)(hm:X.mg x=some (.ref (T.xcl c)))(hB:T.K.In X.base)
  (hE:PySem.W.excIn T.K (T.xcl c) [.type "ValueError", .type "Exception", .type "BaseException", .type "object"] "ValueError.__new__" = true) (hx:XM X T W) (hg:Gl X x) (hn:dB ms n) (hn2:n<=100) (ha:SA X T W (e::es) ms)
  (hd:(x ==("__debug__" : Str))=false:=by decide)
  (he:starEach (e::es) X.env=(false,eval e X.env)::starEach es X.env:=by rfl) (hpl:(backTo cpos (starEach es X.env)).any (·.1)=false:=by rfl) :
  SS X T W (.Raise (some (.Call (.Name x np) (e::es) [] cpos)) none pos) (cf c ms) :=
 rR (np:=np) (cpos:=cpos) (pos:=pos) ⟨hm,wT hB hE⟩ hx cx.calm hg ha (fun env pvs q=>by rw[hn env pvs q];exact hn2) hd he hpl
structure Scr(fl:Fl):Prop where
 is:fl=.frz\/fl=.mod
theorem Scr.lend(h:Scr fl):fl.lend=fl:=by rcases h.is with rfl | rfl<;>rfl
theorem Scr.toBor(h:Scr fl):fl.toBor=fl:=by rcases h.is with rfl | rfl<;>rfl
theorem Scr.isBor(h:Scr fl):fl.isBor=false:=by rcases h.is with rfl | rfl<;>rfl
theorem Scr.isLnt(h:Scr fl):fl.isLnt=false:=by rcases h.is with rfl | rfl<;>rfl
theorem Scr.isOwn(h:Scr fl):fl.isOwn=false:=by rcases h.is with rfl | rfl<;>rfl
theorem Scr.freeze(h:Scr fl):fl.freeze=fl:=by rcases h.is with rfl | rfl<;>rfl
theorem Scr.borrow(h:Scr fl):fl.borrow=fl:=by rcases h.is with rfl | rfl<;>rfl
theorem iu:∀ns:List Int,RelL T F B L H (ns.map PV.int) (ns.map V.int) []
 | []=>gn _ _ _ _
 | n::ns=>by
  rw[List.map_cons,List.map_cons]
  unfold RelL
  exact⟨_,_,[],[],rfl,d6,iu ns,rfl⟩
def o6(K:PySem.W.Frag):Sp:=fun vs H Q _=>∃(a:Addr) (ns:List Int),vs=[.ref a]/\SqL K H a (ns.map V.int)/\ns.length<=63/\∀v H',v=.bl true->Q v H'
theorem zB(G:bS P w T.K mg base (CXP P w) k f fd [x] (spM T 1 m))
  (h:∀(fl:Fl) (ns:List Int),Scr fl->ns.length<=63->m [.lst fl (ns.map .int)]=.ok (.bl true)):bS P w T.K mg base (CXP P w) k f fd [x] (o6 T.K):=by
 refine G.imp fun vs H Q E q=>?_
 obtain⟨a,ns,rfl,hS,hl,hQ⟩:=q
 have fin:∀fl,Scr fl->∀Z:Zn,GF T Z Q E (m [.lst fl (ns.map .int)]):=fun fl hf Z=>by
  rw[h fl ns hf hl]
  intro F H' v f' _ r _ _ _
  unfold Rel at r
  exact hQ v H' r.1
 refine⟨rfl,?_⟩
 rcases hS with hS | hS
 ·refine⟨[.lst .frz (ns.map .int)],(·=a),fun _=>False,[],⟨?_,List.nodup_nil,fun _ z=>(nomatch z),fun _ z=>z.elim,fun b hb=>?_⟩,fin _ ⟨.inl rfl⟩ _⟩
  ·unfold RelL
   refine⟨_,_,[],[],rfl,?_,gn _ _ _ _,rfl⟩
   unfold Rel
   exact⟨a,_,[],rfl,⟨rfl,hS⟩,iu ns,rfl,rfl⟩
  ·subst hb
   rcases hS with e |⟨o,e⟩
   ·exact⟨_,e⟩
   ·exact⟨_,e⟩
 ·refine⟨[.lst .mod (ns.map .int)],fun _=>False,fun _=>False,[],⟨?_,List.nodup_nil,fun _ z=>(nomatch z),fun _ z=>z.elim,fun _ z=>z.elim⟩,fin _ ⟨.inr rfl⟩ _⟩
  unfold RelL
  refine⟨_,_,[],[],rfl,?_,gn _ _ _ _,rfl⟩
  unfold Rel
  exact⟨a,_,[],rfl,hS,iu ns,rfl,rfl⟩
theorem t8{l:PySem.W.OpenLaw}{k:Nat}{x:Str}{q:Program}{loose:List Str}{XP:(Str->Option Value)->Heap->Prop}{YP:World->Heap->Prop}{d:DefRec}{K:Params->PySem.W.Frag}(hn:l.most=some 63)(hdf:d.params.defaults=[])(hr:cL k callerA)
  (hY:∀(w:World) (h:Heap),YP w h->(K w.params).In h)
  (F:∀ (w:World) (mg:Str->Option Value) (fa:Addr) (h:Heap),(K w.params).In h->h.Ns mainGlobals mg->mg d.name=some (.ref fa) ->
   ∃fd:FuncData,(∀(s:Shared) (u:Value),BindsTo s fd ⟨[u],[]⟩ [(x,u)])/\∀base:Heap,(K w.params).In base->base.Ns mainGlobals mg->bS l.prog w (K w.params) mg base (CXP l.prog w) k fa fd [x] (o6 (K w.params))) :
  PySem.W.WalkO q loose XP YP l.row.toRowW d [] (fun f vs=>PySem.call f vs) :=
 L2.vm (n:=63) (k:=k) (x:=x) (CX:=fun w=>CXP l.prog w) (sp:=fun w=>o6 (K w.params)) hn (by decide) hdf hr hY F (fun _ _ a ns hl _ hS=>⟨a,ns,rfl,hS,hl,fun _ _ z=>z⟩) fun _ _ _ _ _ ⟨_,_,_,z⟩=>z
theorem wA:oW K "int" := by
 intro t ht
 simp only[List.mem_cons,List.not_mem_nil,or_false]at ht
 rcases ht with rfl | rfl | rfl | rfl | rfl | rfl<;>kernel_rfl
theorem t_:oW K "bool" := by
 intro t ht
 simp only[List.mem_cons,List.not_mem_nil,or_false]at ht
 rcases ht with rfl | rfl | rfl | rfl | rfl | rfl<;>kernel_rfl
theorem jN:oW K "list" := by
 intro t ht
 simp only[List.mem_cons,List.not_mem_nil,or_false]at ht
 rcases ht with rfl | rfl | rfl | rfl | rfl | rfl<;>kernel_rfl
theorem qK:oW K "tuple" := by
 intro t ht
 simp only[List.mem_cons,List.not_mem_nil,or_false]at ht
 rcases ht with rfl | rfl | rfl | rfl | rfl | rfl<;>kernel_rfl
theorem wz:oW K "str" := by
 intro t ht
 simp only[List.mem_cons,List.not_mem_nil,or_false]at ht
 rcases ht with rfl | rfl | rfl | rfl | rfl | rfl<;>kernel_rfl
theorem bR:bootBuiltins "isinstance" = some (.builtin "isinstance"):=by decide +kernel
theorem uN:bootBuiltins "int" = some (.type "int"):=by decide +kernel
theorem xm:bootBuiltins "bool" = some (.type "bool"):=by decide +kernel
theorem je:bootBuiltins "list" = some (.type "list"):=by decide +kernel
theorem j_:bootBuiltins "tuple" = some (.type "tuple"):=by decide +kernel
theorem Aj:bootBuiltins "str" = some (.type "str"):=by decide +kernel
def qU(K:PySem.W.Frag)(C:Addr):Bool :=
 decide (PySem.W.findIn K (.ref C) "__getattribute__" = some (some (.builtin "BaseException.__getattribute__")))&&decide (PySem.W.findIn K (.ref C) "__getattr__" = some none) &&
 decide (PySem.W.findIn K (.ref C) "__class__" = some (some (.builtin "object.__class__")))&&decide (PySem.W.mroIn K C (.type "BaseException")=some true)&&decide (PySem.W.mroIn K C (.type "object")=some true)&&(PySem.W.clsIn K C).isSome &&
 PySem.W.excIn K C [.type "ValueError", .type "Exception", .type "BaseException", .type "object"] "ValueError.__new__"
theorem wU(h:qU K C=true):Ej K C/\PySem.W.excIn K C [.type "ValueError", .type "Exception", .type "BaseException", .type "object"] "ValueError.__new__" = true:=by
 simp only[qU,Bool.and_eq_true,decide_eq_true_eq]at h
 obtain⟨⟨⟨⟨⟨⟨h1,h2⟩,h3⟩,h4⟩,h5⟩,h6⟩,h7⟩:=h
 exact⟨⟨h1,h2,h3,h4,h5,h6⟩,h7⟩
def vY(l:List Addr)(i:Nat):Addr:=l.getD i (l.headD 0)
def kF(l:List Bool)(i:Nat):Bool:=l.getD i (l.headD false)
theorem sN{α:Type}{f:Addr->Option α}{g:α->Bool}{l:List Addr}{bs:List Bool}{r:Bool->Option α}(hl:l≠[])(h:l.map f=bs.map r)(i:Nat):f (vY l i)=r (kF bs i):=by
 have hlen:l.length=bs.length:=by simpa using congrArg List.length h
 unfold vY kF
 rw[List.getD_eq_getElem?_getD,List.getD_eq_getElem?_getD]
 have key:∀j,(l[j]?).map f=(bs[j]?).map r:=fun j=>by rw[<- List.getElem?_map,<- List.getElem?_map,h]
 cases e:l[i]? with
 | some C =>
  have:=key i
  rw[e]at this
  cases e2:bs[i]? with
  | some b=>rw[e2]at this;simpa using this
  | none=>rw[e2]at this;simp at this
 | none =>
  have hb:bs[i]?=none:=by
   rw[List.getElem?_eq_none_iff]at e ⊢
   omega
  rw[hb]
  cases l with
  | nil=>exact absurd rfl hl
  | cons a l =>
   cases bs with
   | nil=>simp at hlen
   | cons b bs=>simpa using key 0
def PV.isBl(c:Bool):PV->Bool
 | .bl b=>b==c
 | _=>false
def DS:PV->PV->Res PV
 | x,.bl c=>.ok (.bl (x.isBl c))
 | _,_=>.stuck
def BO:PV->PV->Res PV
 | x,.bl c=>.ok (.bl (!x.isBl c))
 | _,_=>.stuck
section
variable{X:Cx}{T:Tb}{W:Nat->St->Hp->Prop}{F B L:Addr->Prop}{H:Hp}{a b:Expr}{ma mb:ME}{pos:Pos}
theorem Rel.isBl(c:Bool)(r:Rel T F B L H x v f):decide (v=.bl c)=x.isBl c:=by
 cases x with
 | non=>unfold Rel at r;rw[r.1];rfl
 | bl b=>unfold Rel at r;rw[r.1];cases b<;>cases c<;>rfl
 | int i | str i=>unfold Rel at r;rw[r.1];rfl
 | lst f xs=>unfold Rel at r;obtain⟨a,_,_,rfl,_⟩:=r;rfl
 | tup xs=>unfold Rel at r;obtain⟨a,_,rfl,_⟩:=r;rfl
 | obj f c ks xs=>unfold Rel at r;obtain⟨a,_,_,_,rfl,_⟩:=r;rfl
 | exc c=>unfold Rel at r;obtain⟨a,rfl,_⟩:=r;rfl
end
theorem oZ:∀(xs:List V) (ys:List Value),xs.length=ys.length->(∀(i:Nat) x y,xs[i]?=some x->ys[i]?=some y->bp x y)->aG xs ys
 | [],[],_,_=>.nil
 | x::xs,y::ys,hl,h=>.cons (h 0 x y rfl rfl) (oZ xs ys (by simpa using hl) fun i a b e1 e2=>h (i+1) a b (by simpa using e1) (by simpa using e2))
 | [],_::_,hl,_ | _::_,[],hl,_=>by simp at hl
section
variable{X:Cx}{T:Tb}{W:Nat->St->Hp->Prop}{Z:Zn}{F F1 B L:Addr->Prop}{H H1:Hp}{σ:St}{env:En}{fp:Nat->List Addr}
def pE:List PV->Res PV
 | [.int n]=>if decide (0<=n/\n<=1000000)then .ok (.lst .own (cN 0 n.toNat))else .stuck
 | _=>.stuck
end
def bz:List PV->Option (List Int)
 | []=>some []
 | .int i::xs=>(bz xs).map (i::·)
 | _::_=>none
def kQ(ns:List Int):Nat:=(PyProof.Rows.firstMet (fun i=>ns.getD i 0) ns.length).length
def gT:PV->Res PV
 | .lst _ xs=>match bz xs with
  | some ns=>if decide (ns.length<=1000)then .ok (.int (kQ ns))else .stuck
  | none=>.stuck
 | _=>.stuck
section
variable{X:Cx}{T:Tb}{W:Nat->St->Hp->Prop}{Z:Zn}{F F1 B L:Addr->Prop}{H H1:Hp}{σ:St}{env:En}{fp:Nat->List Addr}
theorem cG:∀{xs:List PV}{vs:List V}{f:List Addr}{ns:List Int},bz xs=some ns->RelL T F B L H xs vs f->vs=ns.map V.int
 | [],_,_,_,e,r=>by cases e;unfold RelL at r;exact r.1
 | .int i::xs,_,_,ns,e,r=>by
  unfold RelL at r
  obtain⟨v,ws,f1,f2,rfl,h1,h2,rfl⟩:=r
  simp only[bz]at e
  cases e2:bz xs with
  | none=>rw[e2]at e;cases e
  | some ms =>
   rw[e2]at e
   cases e
   unfold Rel at h1
   rw[h1.1,cG e2 h2]
   rfl
 | .non::_,_,_,_,e,_ | .bl _::_,_,_,_,e,_ | .str _::_,_,_,_,e,_ | .lst _ _::_,_,_,_,e,_ | .tup _::_,_,_,_,e,_ | .obj _ _ _ _::_,_,_,_,e,_ | .exc _::_,_,_,_,e,_=>by simp[bz]at e
theorem gD:∀{ns:List Int}{its:List Value},aG (ns.map V.int) its->PyProof.Rows.IntsAre its ns
 | [],_,r=>by cases r;exact .nil
 | n::ns,_,r=>by
  cases r with
  | cons h t =>
   obtain⟨tk,rfl⟩:=h
   exact .cons _ _ (gD t)
theorem kq(hc:X.calm=true):eW X (.type "set") (fun xs H Q=>∃p ns,xs=[.ref p]/\SqL X.K H p (ns.map V.int)/\ns.length<=1000/\∀r S,H r=none->Q (.ref r) (upd H r (.set S (kQ ns)))):=by
 intro pins s σ H xs us Q I rv h
 obtain⟨p,ns,rfl,hS,hl,q⟩:=h
 obtain⟨u,rfl,rx⟩:=gj rv
 cases rx
 obtain⟨its,r',pl,hz⟩:=I.list hS
 have hlen:=r'.length
 rw[List.length_map]at hlen
 refine call_set_list (I.ok.hd hc) pl.isList (ns:=ns) (by simpa using gD r') (by simp only[List.size_toArray,<- hlen];unfold scanBound;omega) fun h' tk hs kp=>?_
 have e:its.toArray.size=ns.length:=by simp[hlen]
 rw[e]at hs
 exact⟨.ref s.heap.objs.size,_,I.laid (t':=tk) (o:=.set (fun k'=>(PyProof.Rows.firstMet (fun i=>ns.getD i 0) ns.length).any (·==k')) (kQ ns)) (fun b o e=>kp b o (Heap.lt_size e) e) (Nat.le_refl _) hs,rfl,q _ _ (I.hok.fresh (Nat.le_refl _))⟩
theorem kr:eW X (.builtin "len") (fun xs H Q=>∃r S n,xs=[.ref r]/\H r=some (.set S n)/\Q (.int n) H):=by
 intro pins s σ H xs us Q I rv h
 obtain⟨r,S,n,rfl,hr,q⟩:=h
 obtain⟨u,rfl,rx⟩:=gj rv
 cases rx
 obtain⟨o,es,ep,t,ho,hex,hd,_,_,hb,hf,hn⟩:=I.hok r _ hr
 have hb':es.size < 4096:=hb
 exact call_len_set ho hex hd hf (by omega) ⟨.int n,H,I.tok _,⟨s.toks+1,by rw[hn]⟩,q⟩
theorem Ak:bootBuiltins "set" = some (.type "set"):=by decide +kernel
theorem qq(hK:X.K=T.K)(hc:X.calm=true)(hg:Gl X "len")(hm:X.mg "len" = none)(hg2:Gl X "set")(hm2:X.mg "set" = none)(he:SE X T W e m)
  (hs:starEach [e] X.env=[(false,eval e X.env)]:=by rfl)
  (hs2:starEach [.Call (.Name "set" p2) [e] [] pos2] X.env=[(false,eval (.Call (.Name "set" p2) [e] [] pos2) X.env)]:=by rfl) :
  SE X T W (.Call (.Name "len" p) [.Call (.Name "set" p2) [e] [] pos2] [] pos) (mUn gT m):=by
 refine PE.wk (jA (p:=p) (pos:=pos) kr hg hm boot_len (bZ (kH (p:=p2) (pos:=pos2) (kq hc) hg2 hm2 Ak (bZ he eH (by rw[hs];rfl)) (he:=by rw[hs];rfl) (hpl:=rfl)) eH (by rw[hs2];rfl)) (he:=by rw[hs2];rfl) (hpl:=rfl)) fun σ H Q ⟨Z,F,env,fp,S,q⟩=>?_
 unfold mUn at q
 refine tE.bind S (fun c e=>by rw[e]at q;exact q) (fun e=>by rw[e]at q;exact q) fun x v H1 F1 f1 e1 g1 r1 n1 d1 w1=>?_
 rw[e1]at q
 cases x with
 | lst fl xs =>
  simp only[Res.ok_bind,gT]at q
  cases en:bz xs with
  | none=>rw[en]at q;exact q.elim
  | some ns =>
   rw[en]at q
   dsimp only at q
   unfold Rel at r1
   obtain⟨a,vs,fp',rfl,hl,hr,_⟩:=r1
   by_cases hn:decide (ns.length<=1000)=true
   ·rw[if_pos hn]at q
    have hv:=cG en hr
    subst hv
    exact⟨a,ns,rfl,by rw[hK];exact hl.sq,of_decide_eq_true hn,fun r S hr=>⟨r,S,_,rfl,bq,q.scal (g1.trans (Gr.same g1.dom (Ext.upd hr))) d6⟩⟩
   ·rw[if_neg hn]at q;exact q.elim
 | _=>exact q.elim
end
def lI:List Int->Int
 | []=>0
 | [a]=>a
 | a::b::l=>min a (lI (b::l))
def c9:List Int->Int
 | []=>0
 | [a]=>a
 | a::b::l=>max a (c9 (b::l))
theorem nq:∀{l:List Int},l≠[]->lI l∈l/\∀x∈l,lI l<=x
 | [],h=>absurd rfl h
 | [a],_=>by simp[lI]
 | a::b::l,_=>by
  obtain⟨h1,h2⟩:=nq (l:=b::l) (by simp)
  unfold lI
  refine⟨?_,fun x hx=>?_⟩
  ·rcases Int.le_total a (lI (b::l))with h | h
   ·rw[Int.min_eq_left h];exact List.mem_cons_self
   ·rw[Int.min_eq_right h];exact List.mem_cons_of_mem _ h1
  ·rcases List.mem_cons.mp hx with rfl | hx
   ·exact Int.min_le_left _ _
   ·exact Int.le_trans (Int.min_le_right _ _) (h2 x hx)
theorem nr:∀{l:List Int},l≠[]->c9 l∈l/\∀x∈l,x<=c9 l
 | [],h=>absurd rfl h
 | [a],_=>by simp[c9]
 | a::b::l,_=>by
  obtain⟨h1,h2⟩:=nr (l:=b::l) (by simp)
  unfold c9
  refine⟨?_,fun x hx=>?_⟩
  ·rcases Int.le_total a (c9 (b::l))with h | h
   ·rw[Int.max_eq_right h];exact List.mem_cons_of_mem _ h1
   ·rw[Int.max_eq_left h];exact List.mem_cons_self
  ·rcases List.mem_cons.mp hx with rfl | hx
   ·exact Int.le_max_left _ _
   ·exact Int.le_trans (h2 x hx) (Int.le_max_right _ _)
section
variable{X:Cx}{T:Tb}{W:Nat->St->Hp->Prop}{Z:Zn}{F F1 B L:Addr->Prop}{H H1:Hp}{σ:St}{env:En}{fp:Nat->List Addr}{pins:List (Addr×Obj)}{s:Shared}
theorem jQ{h':Heap}{t:Nat}(I:L2.Inv X pins σ H s)(k:∀b o,s.heap.get? b=some o->h'.get? b=some o):L2.Inv X pins σ H { s with heap:=h',toks:=t }:=I.un (Un.kept k) (I.hok.kept k)
theorem fm{its:List Value}{ns:List Int}(r:aG (ns.map V.int) its):∀(i:Nat) (v:Value),its.toArray[i]?=some v->∃t,v=.int (ns.getD i 0) t:=by
 intro i v e
 have e':its[i]?=some v:=by simpa using e
 have hi:i < ns.length:=by
  have h1:=(List.getElem?_eq_some_iff.mp e').1
  have h2:=r.length
  rw[List.length_map]at h2
  omega
 have:∀{ns:List Int}{its:List Value}{i:Nat}{v:Value},aG (ns.map V.int) its->its[i]?=some v->∃t,v=.int (ns.getD i 0) t:=by
  intro ns
  induction ns with
  | nil=>intro its i v r e;cases r;simp at e
  | cons n ns ih =>
   intro its i v r e
   cases r with
   | cons h t =>
    obtain⟨tk,rfl⟩:=h
    cases i with
    | zero=>simp at e;exact⟨tk,by rw[<- e];rfl⟩
    | succ i =>
     obtain⟨tk',h'⟩:=ih t (by simpa using e)
     exact⟨tk',by rw[h'];rfl⟩
 exact this r e'
theorem uL{ns:List Int}(h:0 < ns.length):ns.getD (argBest (fun i j=>decide (ns.getD i 0 < ns.getD j 0)) (ns.length - 1)) 0=lI ns:=by
 obtain⟨h1,h2⟩:=argBest_lt (fun i=>ns.getD i 0) (ns.length - 1)
 obtain⟨m1,m2⟩:=nq (l:=ns) (by intro z;simp[z]at h)
 refine Int.le_antisymm ?_ (m2 _ ?_)
 ·obtain⟨i,hi,e⟩:=List.getElem_of_mem m1
  have:=h2 i (by omega)
  simp only[List.getD_eq_getElem?_getD,List.getElem?_eq_getElem hi,Option.getD_some,e]at this
  simpa[List.getD_eq_getElem?_getD]using this
 ·rw[List.getD_eq_getElem?_getD,List.getElem?_eq_getElem (by omega)]
  exact List.getElem_mem _
theorem uM{ns:List Int}(h:0 < ns.length):ns.getD (argBest (fun i j=>decide (ns.getD i 0 > ns.getD j 0)) (ns.length - 1)) 0=c9 ns:=by
 obtain⟨h1,h2⟩:=argBest_gt (fun i=>ns.getD i 0) (ns.length - 1)
 obtain⟨m1,m2⟩:=nr (l:=ns) (by intro z;simp[z]at h)
 refine Int.le_antisymm (m2 _ ?_) ?_
 ·rw[List.getD_eq_getElem?_getD,List.getElem?_eq_getElem (by omega)]
  exact List.getElem_mem _
 ·obtain⟨i,hi,e⟩:=List.getElem_of_mem m1
  have:=h2 i (by omega)
  simp only[List.getD_eq_getElem?_getD,List.getElem?_eq_getElem hi,Option.getD_some,e]at this
  simpa[List.getD_eq_getElem?_getD]using this
theorem k6{n:Nat}{l I:Addr}(hl:l < n)(e:I=n):∀b∈[I,l],b < n+1:=fun b hb=>by
 rcases List.mem_cons.mp hb with z | hb
 ·rw[z,e];exact Nat.lt_succ_self _
 ·rcases List.mem_cons.mp hb with rfl | hb
  ·exact Nat.lt_succ_of_lt hl
  ·cases hb
theorem gU{h h':Heap}{o:Obj}(hk:∀b u,b∉[h.objs.size]->(h.push o).get? b=some u->h'.get? b=some u):∀b u,h.get? b=some u->h'.get? b=some u:=fun b u e =>
 hk b u (fun hm=>by
  rcases List.mem_cons.mp hm with z | z
  ·exact absurd (z▸Heap.lt_size e) (Nat.lt_irrefl _)
  ·cases z) (Heap.get?_push_of_some _ e)
theorem xb(hc:X.calm=true):eW X (.builtin "min") (fun xs H Q=>∃p ns,xs=[.ref p]/\(SqL X.K H p (ns.map V.int)\/ SqT X.K H p (ns.map V.int))/\0 < ns.length/\Q (.int (lI ns)) H):=by
 intro pins s σ H xs us Q I rv h
 obtain⟨p,ns,rfl,hq,hn,q⟩:=h
 obtain⟨u,rfl,rx⟩:=gj rv
 cases rx
 have hh:=I.ok.hd hc
 have key:∀{its:List Value},aG (ns.map V.int) its->∀{v:Value}{h':Heap}{tk:Nat},its.toArray[argBest (fun i j=>decide (ns.getD i 0 < ns.getD j 0)) (its.toArray.size - 1)]?=some v->(∀b o,s.heap.get? b=some o->h'.get? b=some o)->EP X pins σ Q v { s with heap:=h',toks:=tk }:=by
  intro its r v h' tk hv k
  have hl:its.toArray.size=ns.length:=by
   have:=r.length
   simpa using this.symm
  rw[hl]at hv
  obtain⟨t,rfl⟩:=fm r _ _ hv
  rw[uL hn]
  exact⟨.int _,H,jQ I k,⟨t,rfl⟩,q⟩
 rcases hq with hq | hq
 ·obtain⟨its,r,pl,hz⟩:=I.list hq
  have hl:its.toArray.size=ns.length:=by
   have:=r.length
   simpa using this.symm
  obtain⟨o,ho,hcl,n,hd⟩:=pl.isList
  have hlt:=Heap.lt_size ho
  refine call_min_walk (wpAny_pyIter_list pl.isList ?_)
  refine⟨_,_,_,_,_,_,_,rfl,Walks.list (A:=X.A.in1) hh _ p (Nat.ne_of_lt hlt) its.toArray,⟨⟨_,Heap.get?_push_size _ rfl,rfl,rfl⟩,pl.isList.push _⟩,fun b hb=>?_,by omega,CmpOf.ints_lt (fun i=>ns.getD i 0) (fm r),fun v h' tk hP hk=>key r hP (gU hk)⟩
  show b <(s.heap.push _).objs.size
  rw[Heap.size_push]
  exact k6 hlt rfl b hb
 ·obtain⟨its,r,pl,hz⟩:=I.tuple hq
  have hl:its.toArray.size=ns.length:=by
   have:=r.length
   simpa using this.symm
  have pt:s.heap.IsTuple p its.toArray:=pl
  obtain⟨o,ho,hcl,n,hd⟩:=pl
  have hlt:=Heap.lt_size ho
  refine call_min_walk (wpAny_pyIter_tuple pt ?_)
  refine⟨_,_,_,_,_,_,_,rfl,Walks.tuple (A:=X.A.in1) hh _ p (Nat.ne_of_lt hlt) its.toArray,⟨⟨_,Heap.get?_push_size _ rfl,rfl,rfl⟩,pt.push _⟩,fun b hb=>?_,by omega,CmpOf.ints_lt (fun i=>ns.getD i 0) (fm r),fun v h' tk hP hk=>key r hP (gU hk)⟩
  show b <(s.heap.push _).objs.size
  rw[Heap.size_push]
  exact k6 hlt rfl b hb
theorem mt(hc:X.calm=true):eW X (.builtin "max") (fun xs H Q=>∃p ns,xs=[.ref p]/\(SqL X.K H p (ns.map V.int)\/ SqT X.K H p (ns.map V.int))/\0 < ns.length/\Q (.int (c9 ns)) H):=by
 intro pins s σ H xs us Q I rv h
 obtain⟨p,ns,rfl,hq,hn,q⟩:=h
 obtain⟨u,rfl,rx⟩:=gj rv
 cases rx
 have hh:=I.ok.hd hc
 have key:∀{its:List Value},aG (ns.map V.int) its->∀{v:Value}{h':Heap}{tk:Nat},its.toArray[argBest (fun i j=>decide (ns.getD i 0 > ns.getD j 0)) (its.toArray.size - 1)]?=some v->(∀b o,s.heap.get? b=some o->h'.get? b=some o)->EP X pins σ Q v { s with heap:=h',toks:=tk }:=by
  intro its r v h' tk hv k
  have hl:its.toArray.size=ns.length:=by
   have:=r.length
   simpa using this.symm
  rw[hl]at hv
  obtain⟨t,rfl⟩:=fm r _ _ hv
  rw[uM hn]
  exact⟨.int _,H,jQ I k,⟨t,rfl⟩,q⟩
 rcases hq with hq | hq
 ·obtain⟨its,r,pl,hz⟩:=I.list hq
  have hl:its.toArray.size=ns.length:=by
   have:=r.length
   simpa using this.symm
  obtain⟨o,ho,hcl,n,hd⟩:=pl.isList
  have hlt:=Heap.lt_size ho
  refine call_max_walk (wpAny_pyIter_list pl.isList ?_)
  refine⟨_,_,_,_,_,_,_,rfl,Walks.list (A:=X.A.in1) hh _ p (Nat.ne_of_lt hlt) its.toArray,⟨⟨_,Heap.get?_push_size _ rfl,rfl,rfl⟩,pl.isList.push _⟩,fun b hb=>?_,by omega,CmpOf.ints_gt (fun i=>ns.getD i 0) (fm r),fun v h' tk hP hk=>key r hP (gU hk)⟩
  show b <(s.heap.push _).objs.size
  rw[Heap.size_push]
  exact k6 hlt rfl b hb
 ·obtain⟨its,r,pl,hz⟩:=I.tuple hq
  have hl:its.toArray.size=ns.length:=by
   have:=r.length
   simpa using this.symm
  have pt:s.heap.IsTuple p its.toArray:=pl
  obtain⟨o,ho,hcl,n,hd⟩:=pl
  have hlt:=Heap.lt_size ho
  refine call_max_walk (wpAny_pyIter_tuple pt ?_)
  refine⟨_,_,_,_,_,_,_,rfl,Walks.tuple (A:=X.A.in1) hh _ p (Nat.ne_of_lt hlt) its.toArray,⟨⟨_,Heap.get?_push_size _ rfl,rfl,rfl⟩,pt.push _⟩,fun b hb=>?_,by omega,CmpOf.ints_gt (fun i=>ns.getD i 0) (fm r),fun v h' tk hP hk=>key r hP (gU hk)⟩
  show b <(s.heap.push _).objs.size
  rw[Heap.size_push]
  exact k6 hlt rfl b hb
def fF(g:List Int->Int):PV->Res PV:=fun x=>match a_ x with
 | some xs=>match bz xs with
  | some ns=>if ns.isEmpty then .stuck else .ok (.int (g ns))
  | none=>.stuck
 | none=>.stuck
theorem tP(hK:X.K=T.K):Mir T W (p1 (fF g)) (fun xs H Q=>∃p ns,xs=[.ref p]/\(SqL X.K H p (ns.map V.int)\/ SqT X.K H p (ns.map V.int))/\0 < ns.length/\Q (.int (g ns)) H):=by
 intro B F L σ H Q F' H' xs vs fx gr r nf nd new q
 match xs,r,q with
 | [x],r,q =>
  obtain⟨v,rfl,rv⟩:=RelL.one r
  simp only[p1,fF]at q
  cases e:a_ x with
  | none=>rw[e]at q;exact q.elim
  | some ys =>
   rw[e]at q
   dsimp only at q
   cases e2:bz ys with
   | none=>rw[e2]at q;exact q.elim
   | some ns =>
    rw[e2]at q
    dsimp only at q
    obtain⟨a,us,fx',rfl,hs,hr,_⟩:=rv.seq e
    have hu:=cG e2 hr
    subst hu
    cases ns with
    | nil=>exact q.elim
    | cons n ns=>exact⟨a,_,rfl,by rw[hK];exact hs,by simp,q.scal gr d6⟩
 | [],_,q=>exact q.elim
 | _::_::_,_,q=>simp only[p1]at q;exact q.elim
theorem Am:bootBuiltins "min" = some (.builtin "min"):=by decide +kernel
theorem An:bootBuiltins "max" = some (.builtin "max"):=by decide +kernel
theorem o9(hK:X.K=T.K)(hc:X.calm=true)(hg:Gl X "max")(hm:X.mg "max" = none)(ha:SE X T W e m)(he:starEach [e] X.env=[(false,eval e X.env)]:=by rfl):SE X T W (.Call (.Name "max" p) [e] [] pos) (ak (p1 (fF c9)) (ad m aj)) :=
 jt (mt hc) (tP hK) hg hm An (ac ha af (by rw[he];rfl)) (he:=by rw[he];rfl) (hpl:=rfl)
def lB(g:Int->Int->Int):List PV->Res PV
 | [.int i,.int j]=>.ok (.int (g i j))
 | _=>.stuck
theorem qE{g:Int->Int->Int}{g':Int->Int->Int}(hg:∀i j,g' i j=g i j):Mir T W (lB g) (fun xs H Q=>∃i j,xs=[.int i,.int j]/\Q (.int (g' i j)) H):=by
 intro B F L σ H Q F' H' xs vs fx gr r nf nd new q
 match xs,r,q with
 | [x,y],r,q =>
  cases x with
  | int i =>
   cases y with
   | int j =>
    unfold RelL at r
    obtain⟨v,ws,f1,f2,rfl,h1,h2,rfl⟩:=r
    obtain⟨u,rfl,h3⟩:=RelL.one h2
    unfold Rel at h1 h3
    obtain⟨rfl,_⟩:=h1
    obtain⟨rfl,_⟩:=h3
    exact⟨i,j,rfl,by rw[hg];exact q.scal gr d6⟩
   | _=>exact q.elim
  | _=>exact q.elim
 | [],_,q=>exact q.elim
 | [x],_,q=>cases x<;>exact q.elim
 | x::y::z::l,_,q=>cases x<;>cases y<;>exact q.elim
theorem vH(hc:X.calm=true)(hg:Gl X "min")(hm:X.mg "min" = none)(ha:SA X T W [a,b] ms)(he:starEach [a,b] X.env=[(false,eval a X.env),(false,eval b X.env)]:=by rfl)(he2:starEach [b] X.env=[(false,eval b X.env)]:=by rfl) :
  SE X T W (.Call (.Name "min" p) [a,b] [] pos) (ak (lB min) ms) :=
 jt (qZ hc) (qE fun i j=>by simp only[Int.min_def];split<;>split<;>omega) hg hm Am ha (he:=by rw[he,he2]) (hpl:=by rw[he2];rfl)
end
end PR
namespace PR
open PySem PySem.W PyProof.Rows
structure Ord(N:Nat)(lt:Nat->Nat->Bool):Prop where
 tr:∀i j k,i < N->j < N->k < N->lt i j=true->lt j k=true->lt i k=true
 tot:∀i j,i < N->j < N->i≠j->lt i j=false->lt j i=true
 irr:∀i,i < N->lt i i=false
structure Plc(N:Nat)(p:Array Nat):Prop where
 pm:p.toList.Perm (List.range N)
abbrev at_(p:Array Nat)(i:Nat):Nat:=p.getD i 0
section
variable{N:Nat}{lt:Nat->Nat->Bool}{p:Array Nat}
theorem Plc.sz(P:Plc N p):p.size=N:=by simpa using P.pm.length_eq
theorem Plc.get(P:Plc N p)(h:i < N):p[i]?=some (at_ p i):=by
 have:i < p.size:=by rw[P.sz];exact h
 simp[at_,this]
theorem Plc.inj(P:Plc N p)(hi:i < N)(hj:j < N)(e:at_ p i=at_ p j):i=j:=by
 have nd:p.toList.Nodup:=P.pm.nodup_iff.mpr List.nodup_range
 have h1:=P.get hi
 have h2:=P.get hj
 rw[e]at h1
 have h1':p.toList[i]?=some (at_ p j):=by simpa using h1
 have h2':p.toList[j]?=some (at_ p j):=by simpa using h2
 obtain⟨a1,b1⟩:=List.getElem?_eq_some_iff.mp h1'
 obtain⟨a2,b2⟩:=List.getElem?_eq_some_iff.mp h2'
 exact(List.getElem_inj nd).mp (b1.trans b2.symm)
variable{cmp:Nat->Nat->(Bool->Shared->Prop)->Shared->Prop}{s:Shared}
end
end PR
namespace PR
open PySem PySem.Spec L2 PyProof.Rows PySem.W
section
variable{prog:Program}{w:World}{A:Around}{E:Value->Shared->Prop}{s:Shared}
def mF(h:Heap):List Value->List (Int×Int)->Prop
 | [],[]=>True
 | v::vs,x::ps=>(∃a o n t u,v=.ref a/\h.get? a=some o/\o.cls=.type "tuple" /\ o.data=.seq #[.int x.1 t,.int x.2 u] n)/\mF h vs ps
 | _,_=>False
theorem mF.len:∀{vs:List Value}{ps:List (Int×Int)},mF h vs ps->vs.length=ps.length
 | [],[],_=>rfl
 | _::_,_::_,q=>by simp[q.2.len]
end
end PR
namespace PR
open PySem PySem.Spec L2 PyProof.Rows
def PrH(K:PySem.W.Frag)(H:Hp):List V->List (Int×Int)->Prop
 | [],[]=>True
 | v::vs,x::ps=>(∃a,v=.ref a/\SqT K H a [.int x.1,.int x.2])/\PrH K H vs ps
 | _,_=>False
theorem PrH.len{K:PySem.W.Frag}{H:Hp}:∀{vs:List V}{ps:List (Int×Int)},PrH K H vs ps->vs.length=ps.length
 | [],[],_=>rfl
 | _::_,_::_,q=>by simp[q.2.len]
end PR
namespace PR
open PySem PySem.Spec L2
def prV(x:Int×Int):PV:=.tup [.int x.1,.int x.2]
def sY:PV->Option (Int×Int)
 | .tup [.int a,.int b]=>some (a,b)
 | _=>none
def oz:List PV->Option (List (Int×Int))
 | []=>some []
 | x::xs=>match sY x,oz xs with
  | some y,some ys=>some (y::ys)
  | _,_=>none
section
variable{X:Cx}{T:Tb}{W:Nat->St->Hp->Prop}{Z:Zn}{F F1 B L:Addr->Prop}{H H1:Hp}{σ:St}{env:En}{fp:Nat->List Addr}
theorem PrH.rel:∀{vs:List V}{ps:List (Int×Int)},PrH T.K H vs ps->RelL T F B L H (ps.map prV) vs []
 | [],[],_=>gn _ _ _ _
 | _::_,x::ps,⟨⟨a,e,h⟩,q⟩=>by
  subst e
  rw[List.map_cons]
  unfold RelL
  refine⟨_,_,[],[],rfl,?_,q.rel,rfl⟩
  unfold prV Rel
  refine⟨a,_,rfl,h,?_⟩
  unfold RelL
  refine⟨_,_,[],[],rfl,d6,?_,rfl⟩
  unfold RelL
  exact⟨_,_,[],[],rfl,d6,gn _ _ _ _,rfl⟩
theorem PrH.get:∀{vs:List V}{ps:List (Int×Int)},PrH K H vs ps->∀i,i < vs.length->∃a,vs.getD i .non=.ref a/\SqT K H a [.int (ps.getD i (0,0)).1,.int (ps.getD i (0,0)).2]
 | _::_,_::_,⟨h,q⟩,0,_=>by simpa using h
 | _::_,_::_,⟨_,q⟩,i+1,hi=>by simpa using q.get i (by simpa using hi)
 | [],[],_,_,hi=>by simp at hi
theorem PrH.map(h:PrH K H vs ps)(q:List Nat)(hq:∀i∈q,i < vs.length):PrH K H (q.map fun i=>vs.getD i .non) (q.map fun i=>ps.getD i (0,0)):=by
 induction q with
 | nil=>trivial
 | cons i q ih=>exact⟨h.get i (hq i List.mem_cons_self),ih fun j hj=>hq j (List.mem_cons_of_mem _ hj)⟩
theorem lh(ns:List Int):RelL T F B L H (ns.map PV.int) (ns.map V.int) []:=by
 induction ns with
 | nil=>exact gn _ _ _ _
 | cons a l ih =>
  rw[List.map_cons,List.map_cons]
  unfold RelL
  exact⟨_,_,[],[],rfl,d6,ih,rfl⟩
theorem dQ(hg:Gl X x)(hm:∃t,X.mg x=some (.int i t))(hd:(x ==("__debug__" : Str))=false:=by decide):SE X T W (.Name x pos) (mC (.int i)):=by
 obtain⟨t,h⟩:=hm
 exact r6 hg h hd
end
def pA{α:Type}(n:Nat)(y:α)(xs:List α):List α:=xs.take n++y::xs.drop n
section
variable{X:Cx}{T:Tb}{W:Nat->St->Hp->Prop}{Z:Zn}{F F1 B L:Addr->Prop}{H H1:Hp}{σ:St}{env:En}{fp:Nat->List Addr}{D:Ends}
theorem RelL.ins(hv:Rel T F B L H v u []):∀(n:Nat) {xs:List PV}{ws:List V}{f:List Addr},RelL T F B L H xs ws f->RelL T F B L H (pA n v xs) (pA n u ws) f
 | 0,xs,ws,f,h=>by
  show RelL T F B L H (v::xs) (u::ws) f
  unfold RelL
  exact⟨u,ws,[],f,rfl,hv,h,rfl⟩
 | n+1,[],ws,f,h=>by
  unfold RelL at h
  obtain⟨rfl,rfl⟩:=h
  show RelL T F B L H [v] [u] []
  unfold RelL
  exact⟨u,[],[],[],rfl,hv,gn _ _ _ _,rfl⟩
 | n+1,x::xs,ws,f,h=>by
  unfold RelL at h
  obtain⟨w,ws,f1,f2,rfl,h1,h2,rfl⟩:=h
  show RelL T F B L H (x::pA n v xs) (w::pA n u ws) _
  unfold RelL
  exact⟨w,_,f1,f2,rfl,h1,RelL.ins hv n h2,rfl⟩
end
def fN:PV->PV->Res PV
 | x,.int i=>match a_ x with
  | some xs=>match atI xs i with
   | some y=>.ok y
   | none=>.stuck
  | none=>.stuck
 | _,_=>.stuck
section
variable{X:Cx}{T:Tb}{W:Nat->St->Hp->Prop}
theorem tR(hK:X.K=T.K):ii T W fN (fun x y H Q=>vQ X.K x y H Q \/(vO X.K x y H Q\/vP x y H Q)):=by
 intro B F L σ H Q F' H' x y v u fx fy g rx ry nf nd new q
 cases y with
 | int i =>
  simp only[fN]at q
  cases e:a_ x with
  | none=>rw[e]at q;exact q.elim
  | some xs =>
   rw[e]at q
   dsimp only at q
   obtain⟨a,ws,fx',rfl,hs,hr,sl⟩:=rx.seq e
   cases e2:atI xs i with
   | none=>rw[e2]at q;exact q.elim
   | some z =>
    rw[e2]at q
    dsimp only at q
    obtain⟨w,f',h1,h2,h3⟩:=qf hr e2
    unfold Rel at ry
    obtain⟨rfl,rfl⟩:=ry
    rw[List.append_nil]at nf nd new
    have s2:=h3.trans sl
    have q':Q w H':=q w H' F' f' g h2 (fun a ha=>nf a (s2.subset ha)) (nd.sublist s2) (fun a ha=>new a (s2.subset ha))
    rcases hs with hs | hs
    ·exact .inl ⟨a,ws,i,w,rfl,rfl,by rw[hK];exact hs,h1,q'⟩
    ·exact .inr (.inl ⟨a,ws,i,w,rfl,rfl,by rw[hK];exact hs,h1,q'⟩)
 | _=>exact q.elim
theorem pb(hK:X.K=T.K)(ha:SE X T W a ma)(hb:SE X T W b mb)(hs:de b):SE X T W (.Subscript a b pos) (mOp fN ma mb) :=
 xG jO (tR hK) ha hb hs
end
structure Sup(K:PySem.W.Frag)(C f:Addr):Prop where
 ga:PySem.W.specialIn K (.ref C) "__getattribute__" = some (some (.builtin "type.__getattribute__"))
 rd:PySem.W.readsIn K C (.type "type")=true
 fc:PySem.W.findCls K (.ref C) (.type "type") "__init__" = some (.val (.ref f))
 kp:PySem.W.keepIn K (.ref f)=true
def jJ(m:List PV->Res PV)(ms:MA):MS:=fun env=>match (env[(0:Nat)]?:Option (Option PV))with
 | some (some (.obj .own c ks vs))=>match ms env with
  | .ok xs=>if hasL Fl.isLnt xs then .stuck else match m (.obj .own c ks vs::mapL Fl.toBor xs)with
   | .ok (.obj fl c' ks' vs')=>if(PV.obj fl c' ks' vs').has Fl.isBor then .stuck else .next (env.set 0 (some (.obj fl c' ks' vs')))
   | _=>.stuck
  | .exc c=>.exc c env
  | .stuck=>.stuck
 | _=>.stuck
section
variable{X:Cx}{T:Tb}{W:Nat->St->Hp->Prop}{Z:Zn}{F F1 F3:Addr->Prop}{H H1 H3:Hp}{σ:St}{env:En}{fp:Nat->List Addr}
theorem ar.sup(S:ar T Z F H σ env fp)(h0:σ[0]?=some (some v0))(hl:0 < env.length)
  (nx:∀a∈fx,Z.H0 a=none\/Z.fp0 a) (nj:∀a∈fx,∀i,a∉fp i) (nF:∀a∈fx,¬F a) (cx:∀a∈fx,∃o,H a=some o/\Chg o)
  (hp3:dv T ⟨H,F,(·∈fp 0++fx),B',some v0⟩ F3 H3) (r:Rel T F3 B' NoL H3 o v0 f3) (hb:o.has Fl.isBor=false) (nd3:f3.Nodup) (nf3:∀a∈f3,¬F3 a) (new3:∀a∈f3,H a=none\/a∈fp 0++fx)
  (ho:∃fl c ks xs,o=.obj fl c ks xs):ar T Z F3 H3 σ (env.set 0 (some o)) (bj fp 0 f3):=by
 have zfree:∀a,H a=none->Z.H0 a=none\/Z.fp0 a:=fun a z=>by
  by_cases q:Z.fp0 a
  ·exact .inr q
  ·refine .inl ?_
   cases w:Z.H0 a with
   | none=>rfl
   | some o=>rw[S.hp.keep a o w q]at z;exact(nomatch z)
 have inn:∀a∈fp 0++fx,Z.H0 a=none\/Z.fp0 a:=fun a h=>by
  rcases List.mem_append.mp h with h | h
  ·exact S.new 0 a h
  ·exact nx a h
 have jn:∀j,j≠0->∀a∈fp j,a∉fp 0++fx:=fun j hj a ha z=>by
  rcases List.mem_append.mp z with z | z
  ·exact S.dj j 0 hj a ha z
  ·exact nj a z j ha
 have chgn:∀a∈fp 0++fx,∃o,H a=some o/\Chg o:=fun a h=>by
  rcases List.mem_append.mp h with h | h
  ·exact S.ch 0 a h
  ·exact cx a h
 have rel':Rel T F3 Z.B NoL H3 o v0 f3:=Rel.noB hb r
 refine⟨⟨S.hp.bo,fun a u e n=>hp3.keep a u (S.hp.keep a u e n) fun z=>?_,fun a h=>hp3.f0 a (S.hp.f0 a h),fun a h=>?_,hp3.ft⟩,by rw[List.length_set,S.len],fun j pv e=>?_,fun j=>?_,fun j k hjk b hb=>?_,fun j b hb=>?_,fun j b hb=>?_,fun j b hb=>?_,fun w hw=>?_⟩
 ·rcases inn a z with q | q
  ·rw[e]at q;cases q
  ·exact n q
 ·rcases hp3.fn a h with z | z | z
  ·exact S.hp.fn a z
  ·exact .inr (zfree a z)
  ·exact .inr (inn a z)
 ·by_cases hj:j=0
  ·subst hj
   rw[List.getElem?_set_self hl]at e
   cases e
   refine⟨v0,h0,?_⟩
   unfold bj
   rw[if_pos rfl]
   exact rel'
  ·rw[List.getElem?_set_ne (Ne.symm hj)]at e
   obtain⟨w,h1,h2⟩:=S.rel j pv e
   refine⟨w,h1,?_⟩
   unfold bj
   rw[if_neg hj]
   refine Rel.tr (fun a h=>hp3.f0 a h) (fun _ h=>h) (fun _ h=>h) (fun b u q h=>hp3.keep b u q fun z=>?_) (fun b hb u q=>hp3.keep b u q (jn j hj b hb)) h2
   rcases h with h | h | h | h
   ·rcases List.mem_append.mp z with z | z
    ·exact(S.dis 0 b z).1 h
    ·exact nF b z h
   ·obtain⟨⟨o',e1⟩,e2⟩:=S.hp.bo b h
    rcases inn b z with q' | q'
    ·rw[e1]at q';cases q'
    ·exact e2 q'
   ·exact h
   ·obtain⟨o',e1,e2⟩:=chgn b z
    have q1:H b=some u:=q
    rw[q1]at e1
    cases e1
    cases u with
    | lst _ | ins _ _ _=>exact h
    | _=>exact e2
 ·unfold bj;split
  ·exact nd3
  ·exact S.nd j
 ·unfold bj at hb ⊢
  have fj:∀i,i≠0->∀a∈f3,a∉fp i:=fun i hi a ha z=>by
   rcases new3 a ha with q | q
   ·obtain⟨_,o',e⟩:=S.dis i a z
    rw[e]at q;cases q
   ·exact jn i hi a z q
  by_cases h1:j=0
  ·subst h1
   rw[if_pos rfl]at hb
   rw[if_neg (Ne.symm hjk)]
   exact fj k (Ne.symm hjk) b hb
  ·rw[if_neg h1]at hb
   by_cases h2:k=0
   ·subst h2
    rw[if_pos rfl]
    exact fun z=>fj j h1 b z hb
   ·rw[if_neg h2]
    exact S.dj j k hjk b hb
 ·unfold bj at hb
  by_cases h1:j=0
  ·rw[if_pos h1]at hb;exact⟨nf3 b hb,r.there b hb⟩
  ·rw[if_neg h1]at hb
   obtain⟨n,u,e⟩:=S.dis j b hb
   refine⟨fun z=>?_,u,hp3.keep b u e (jn j h1 b hb)⟩
   rcases hp3.fn b z with q | q | q
   ·exact n q
   ·have q':H b=none:=q
    rw[e]at q';cases q'
   ·exact jn j h1 b hb q
 ·unfold bj at hb
  by_cases h1:j=0
  ·rw[if_pos h1]at hb
   rcases new3 b hb with q | q
   ·exact zfree b q
   ·exact inn b q
  ·rw[if_neg h1]at hb;exact S.new j b hb
 ·unfold bj at hb
  by_cases h1:j=0
  ·rw[if_pos h1]at hb;exact r.chg b hb
  ·rw[if_neg h1]at hb
   obtain⟨u,e,c⟩:=S.ch j b hb
   exact⟨u,hp3.keep b u e (jn j h1 b hb),c⟩
 ·obtain⟨h1,h2⟩:=S.pn w hw
  refine⟨h1,?_⟩
  obtain⟨fl,c,ks,xs,e⟩:=ho
  subst e
  unfold b8
  rw[List.getElem?_set_self hl]
theorem yo
  (cx:Ctx X T W kk) (U:Sup X.K C f) (G:bS X.prog X.w X.K X.mg X.base (CXP X.prog X.w) k f fd ps (spI T ps.length m)) (hk:k<=kk) (hg:Gl X x) (hm:X.mg x=some (.ref C)) (hb:cX X.K fd ps [])
  (hN:X.N[0]?=some y) (hv:Vis X.env.scope y) (hn:dB ms n) (hps:n+1=ps.length) (ha:SA X T W es ms)
  (hdb:(x ==("__debug__" : Str))=false:=by decide) (hdy:(y ==("__debug__" : Str))=false:=by decide) (hcy:(y ==("__classdict__" : Str))=false:=by decide)
  (hst:starEach (.Name y px::es) X.env=(false,eval (.Name y px) X.env)::starEach es X.env:=by rfl) (hpl:(backTo pos (starEach es X.env)).any (·.1)=false:=by rfl)
  (ht:eval (.Call (.Attribute (.Name x p) "__init__" apos) (.Name y px::es) [] pos) X.env=(do
   let ov <- eval (.Name x p) X.env
   standAt apos.atName
   let(f,first) <- holding [ov] (getMethod ov "__init__" pl)
   callWith pos f first (backTo pos (starEach (.Name y px::es) X.env)) (backToKw pos (keywordEach [] X.env))):=by rfl)
  (hs:swapsWith (.Call (.Attribute (.Name x p) "__init__" apos) (.Name y px::es) [] pos) none pos'.line X.env=pure false:=by rfl) :
  SS X T W (.Expr (.Call (.Attribute (.Name x p) "__init__" apos) (.Name y px::es) [] pos) pos') (jJ m ms):=by
 have pe:PE X (.Call (.Attribute (.Name x p) "__init__" apos) (.Name y px::es) [] pos) (fun σ H Q=>∃ Z F env fp,ar T Z F H σ env fp/\(match jJ m ms env with
   | .next e=>∀F' H' fp',ar T Z F' H' σ e fp'->Q .non H'
   | .exc c e=>∀F' H' fp',ar T Z F' H' σ e fp'->W c σ H'
   | _=>False)):=by
  intro pins s σ H Q I h
  obtain⟨Z,F,env,fp,S,q⟩:=h
  refine PySem.W.methodCall_KW (pl:=pl) (fk I hg hm ?_ hdb) ht
  refine PySem.W.method_cls I.kIn U.ga (PySem.W.cls_value I.kIn U.rd U.fc rfl ?_)
  have I':=I.tok (s.toks+1)
  unfold jJ at q
  cases e0:env[0]? with
  | none=>rw[e0]at q;exact q.elim
  | some o0 =>
  cases o0 with
  | none=>rw[e0]at q;exact q.elim
  | some ov =>
  obtain⟨v0,hv0,r0⟩:=S.rel 0 ov e0
  have hl0:0 < env.length:=(List.getElem?_eq_some_iff.mp e0).1
  rw[e0]at q
  by_cases hob:∃c ks vs,ov=.obj .own c ks vs
  case neg =>
   exfalso
   cases ov with
   | obj fl c ks vs =>
    cases fl with
    | own=>exact hob ⟨_,_,_,rfl⟩
    | _=>exact q
   | _=>exact q
  obtain⟨c,ks,vs0,rfl⟩:=hob
  dsimp only at q
  have pa:=bZ (X:=X) (cu (pos:=px) hN hv hdy hcy) ha hst
  refine PySem.W.callWith_K (first:=[]) (h₀:=X.base) I'.ok.mod.kin U.kp (thn (pa pos pins _ σ H (fun vs H1=>∀ us s1,L2.Inv X pins σ H1 s1->aG vs us->wpAny (model X.prog X.w) X.A (call (.ref f) us) (EP X pins σ Q) X.xe s1) I'
   ⟨v0,hv0,tA.bind S (fun c e=>?_) (fun e=>by rw[e]at q;exact q) fun xs vs H1 F1 f1 e1 g1 r1 n1 d1 w1 us s1 I1 rv=>?_⟩) fun us s1 ⟨vs,H1,I1,r,q1⟩=>⟨I1.kIn,q1 us s1 I1 r⟩) hst hpl
  ·rw[e]at q
   exact fun H' x=>q F H' fp (S.grow (Gr.same S.hp.ft x))
  rw[e1]at q
  dsimp only at q
  by_cases hln:hasL Fl.isLnt xs=true
  ·rw[if_pos hln]at q;exact q.elim
  rw[if_neg hln]at q
  have hln':hasL Fl.isLnt xs=false:=by simpa using hln
  have S1:=S.grow g1
  obtain⟨v0',hv0',r0'⟩:=S1.rel 0 _ e0
  rw[hv0]at hv0'
  cases hv0'
  have xn:∀a∈f1,∀i,a∉fp i:=fun a ha i hi=>by
   obtain⟨_,o,e⟩:=S.dis i a hi
   rw[w1 a ha]at e;cases e
  have xz:∀a∈f1,Z.H0 a=none\/Z.fp0 a:=fun a ha=>by
   by_cases q:Z.fp0 a
   ·exact .inr q
   ·refine .inl ?_
    cases w:Z.H0 a with
    | none=>rfl
    | some o =>
     have:=w1 a ha
     rw[S.hp.keep a o w q]at this;cases this
  have hBo:∀a,Z.B a->(∃o,H1 a=some o)/\a∉fp 0++f1:=fun a h=>by
   obtain⟨⟨o,h1⟩,h2⟩:=S.hp.bo a h
   have h3:=S.hp.keep a o h1 h2
   refine⟨⟨o,g1.ext a o h3⟩,fun z=>?_⟩
   rcases List.mem_append.mp z with z | z
   ·exact S.bow a h ⟨0,z⟩
   ·rw[w1 a z]at h3;cases h3
  have R:mG T F1 (fun a=>(∃o,H1 a=some o)/\a∉fp 0++f1) H1 (.obj .own c ks vs0::mapL Fl.toBor xs) (v0::vs) (fp 0++f1):=by
   refine⟨?_,List.nodup_append.mpr ⟨S.nd 0,d1,fun a ha b hb z=>by subst z;exact xn a hb 0 ha⟩,fun a ha=>?_,fun a h=>h,g1.dom⟩
   ·unfold RelL
    refine⟨v0,vs,fp 0,f1,rfl,Rel.tr (fun _ h=>h) hBo (fun _ h=>h) (fun _ _ q _=>q) (fun _ _ _ q=>q) r0',?_,rfl⟩
    exact RelL.toBor hBo (fun _ h=>h.elim) (RelL.noL (L':=NoL) hln' r1)
   ·rcases List.mem_append.mp ha with ha | ha
    ·exact(S1.dis 0 a ha).1
    ·exact n1 a ha
  have r2:aG (v0::vs) us:=rv
  have hl:us.length=ps.length:=by
   rw[<- r2.length,List.length_cons,<- r1.length,hn env xs e1]
   exact hps
  refine wpAny_call (codeAny_mono (G.run X.A X.stack s1 H1 ⟨us,[]⟩ us (v0::vs) Q (fun cls _ H'=>∃ c,cls=.ref (T.xcl c)/\W c σ H') (cx.room.mono hk) I1.env0 (by simpa using hb s1 us I1.kIn (by simpa using hl)) r2
   ⟨by rw[r2.length,hl],v0,_,F1,_,_,rfl,R,⟨.own,c,ks,vs0,rfl⟩,?_⟩) fun rs s' hq=>?_)
  ·cases e:m (.obj .own c ks vs0::mapL Fl.toBor xs)with
   | ok o =>
    rw[e]at q
    cases o with
    | obj fl c' ks' vs' =>
     dsimp only at q
     by_cases hbr:(PV.obj fl c' ks' vs').has Fl.isBor=true
     ·rw[if_pos hbr]at q;exact q.elim
     ·rw[if_neg hbr]at q
      dsimp only at q
      have hbr':(PV.obj fl c' ks' vs').has Fl.isBor=false:=by simpa using hbr
      intro F3 H3 f3 hp3 r3 nd3 nf3 new3
      exact q F3 H3 _ (S1.sup hv0 hl0 xz xn n1 r1.chg hp3 r3 hbr' nd3 nf3 new3 ⟨_,_,_,_,rfl⟩)
    | _=>exact q.elim
   | exc c | stuck=>rw[e]at q;exact q.elim
  ·cases rs with
   | error e =>
    obtain⟨cls,H',fl,c,rfl,hw⟩:=hq
    exact cx.xf pins σ H1 s1 c H' e s' I1 fl hw
   | ok fl =>
    cases fl with
    | ret u=>exact I1.after hq
    | next | brk | cont=>exact False.elim hq
 exact PS.wk (f7 (pos:=pos') pe hs) fun D σ H ⟨Z,F,env,fp,S,q⟩=>by
  refine⟨Z,F,env,fp,S,?_⟩
  cases e:jJ m ms env with
  | next e' | exc c e'=>rw[e]at q;exact fun F' H' fp' S'=>q F' H' σ fp' S'
  | ret v =>
   exfalso
   revert e
   unfold jJ
   split
   ·split
    ·split
     ·simp
     ·split
      ·split<;>simp
      ·simp
    ·simp
    ·simp
   ·simp
  | brk e' =>
   exfalso
   revert e
   unfold jJ
   split
   ·split
    ·split
     ·simp
     ·split
      ·split<;>simp
      ·simp
    ·simp
    ·simp
   ·simp
  | cont e' =>
   exfalso
   revert e
   unfold jJ
   split
   ·split
    ·split
     ·simp
     ·split
      ·split<;>simp
      ·simp
    ·simp
    ·simp
   ·simp
  | stuck=>rw[e]at q;exact q
end
@[irreducible] def Bx(p:Prop):Prop:=p
theorem Bx.mk(h:p):Bx p:=by unfold Bx;exact h
theorem Bx.out(h:Bx p):p:=by unfold Bx at h;exact h
section
variable{X:Cx}{T:Tb}{W:Nat->St->Hp->Prop}
theorem xj{aN:List Stmt}(h1:Bx (SS X T W st a))(h2:Bx (SSs X T W aN b)):Bx (SSs X T W (st::aN) (ao a b)):=.mk (ae h1.out h2.out)
theorem Ac(hN:X.N.Nodup)(hi:X.N[i]?=some x)(hx:Loc X.env.scope x)(he:Bx (SE X T W e m))(hs:swapsWith e (some (.Name x pos')) pos.line X.env=pure false:=by rfl)
  (hf:X.fn x=true\/X.env.scope.names.lookup x=some .local:=by first | exact .inl rfl | exact .inr rfl | assumption):Bx (SS X T W (.Assign [.Name x pos'] e pos) (aI i m)):=.mk (rN hN hi hx he.out hs hf)
theorem Ad(ha:Bx (SA X T W es ms))(hn:dB ms n)(hs:n<=1000:=by decide):Bx (SE X T W (.List es pos) (b7 ms)):=.mk (rZ ha.out hn hs)
theorem fZ{x1}(ha:Bx (SA X T W es ms))(hn:dB ms n)(hs:n<=1000:=by decide):Bx (SE X T W (.Tuple es x1 pos) (cY ms)):=.mk (rY ha.out hn hs)
theorem fC:Bx (SA X T W [] aj):=.mk af
theorem a8(ha:Bx (SE X T W e a))(hr:Bx (SA X T W es m))(hs:starEach (e::es) X.env=(false,eval e X.env)::starEach es X.env:=by rfl):Bx (SA X T W (e::es) (ad a m)):=.mk (ac ha.out hr.out hs)
end
end PR
namespace PR
open PySem PySem.Spec L2
def whL(c:MT)(b:MS):Nat->MS
 | 0,_=>.stuck
 | k+1,env=>match c env with
  | .ok true=>match b env with
   | .next e | .cont e=>whL c b k e
   | .brk e=>.next e
   | .ret v=>.ret v
   | .exc x e=>.exc x e
   | .stuck=>.stuck
  | .ok false=>.next env
  | .exc x=>.exc x env
  | .stuck=>.stuck
def jI(c:MT)(b:MS):MS:=whL c b 100000
section
variable{X:Cx}{T:Tb}{W:Nat->St->Hp->Prop}
theorem mM(hp:PassesOwn (model X.prog X.w) X.A X.env X.xe)(hc:ST X T W c mc)(hb:SSs X T W body mb):SS X T W (.While c body [] pos) (jI mc mb) :=
 PS.wk (sF (pos:=pos) hp hc hb) fun D σ H ⟨Z,F,env,fp,S,q⟩=>by
  unfold jI at q
  refine⟨fun m σ' H'=>∃F' env' fp',ar T Z F' H' σ' env' fp'/\GS T W Z D (whL mc mb m env'),⟨100000,F,env,fp,S,q⟩,?_⟩
  rintro m σ' H' ⟨F',env',fp',S',q'⟩
  cases m with
  | zero=>exact q'.elim
  | succ k =>
   unfold whL at q'
   refine tT.bind S' (fun c e H2 x=>?_) (fun e=>by rw[e]at q';exact q') fun b H1 F1 e g=>?_
   ·rw[e]at q'
    exact q' F' H2 σ' fp' (S'.grow (Gr.same S'.hp.ft x))
   ·cases b with
    | false=>rw[e]at q';exact(if_neg (by decide)).mpr (q' F1 H1 σ' fp' (S'.grow g))
    | true =>
     rw[e]at q'
     dsimp only at q'
     refine(if_pos rfl).mpr ⟨fun σ2 H2=>∃F2 env2 fp2,ar T Z F2 H2 σ2 env2 fp2/\GS T W Z D (whL mc mb k env2),fun σ2 H2 h=>⟨k,Nat.lt_succ_self k,h⟩,Z,F1,env',fp',S'.grow g,?_⟩
     cases eb:mb env' with
     | next e2 | cont e2=>rw[eb]at q';exact fun F3 H3 σ3 fp3 S3=>⟨F3,e2,fp3,S3,q'⟩
     | brk e2 | ret v | exc c e2 | stuck=>rw[eb]at q';exact q'
end
def uK:List PV->Option (List Bool)
 | []=>some []
 | .bl b::xs=>(uK xs).map (b::·)
 | _=>none
def nw(i j:Nat):MS:=fun env=>match env[j]? with
 | some (some v)=>if decide (j≠0/\i≠j)&&a7 i env then .next ((env.set j none).set i (some v))else .stuck
 | _=>.stuck
section
variable{X:Cx}{T:Tb}{W:Nat->St->Hp->Prop}{Z:Zn}{F:Addr->Prop}{H:Hp}{σ:St}{env:En}{fp:Nat->List Addr}
theorem ar.forget(S:ar T Z F H σ env fp)(h0:j≠0):ar T Z F H σ (env.set j none) (bj fp j []):=by
 have sub:∀k a,a∈bj fp j [] k->a∈fp k/\k≠j:=fun k a ha=>by
  unfold bj at ha
  by_cases q:k=j
  ·rw[if_pos q]at ha;exact(nomatch ha)
  ·rw[if_neg q]at ha;exact⟨ha,q⟩
 refine⟨S.hp,by rw[List.length_set,S.len],fun k pv e=>?_,fun k=>?_,fun k l hkl a ha hb=>S.dj k l hkl a (sub k a ha).1 (sub l a hb).1,fun k a ha=>S.dis k a (sub k a ha).1,fun k a ha=>S.new k a (sub k a ha).1,fun k a ha=>S.ch k a (sub k a ha).1,fun v hv=>?_⟩
 ·by_cases q:k=j
  ·subst q
   by_cases hl:k < env.length
   ·rw[List.getElem?_set_self hl]at e;cases e
   ·rw[List.getElem?_eq_none (by rw[List.length_set];omega)]at e;cases e
  ·rw[List.getElem?_set_ne (Ne.symm q)]at e
   unfold bj
   rw[if_neg q]
   exact S.rel k pv e
 ·unfold bj
  split
  ·exact List.nodup_nil
  ·exact S.nd k
 ·obtain⟨h1,h2⟩:=S.pn v hv
  refine⟨h1,?_⟩
  unfold b8 at h2 ⊢
  rw[List.getElem?_set_ne h0]
  exact h2
theorem vB(hN:X.N.Nodup)(hi:X.N[i]?=some x)(hx:Loc X.env.scope x)(hj:X.N[j]?=some y)(hv:Vis X.env.scope y)
  (hs:swapsWith (.Name y px) (some (.Name x pos')) pos.line X.env=pure false:=by rfl)
  (hf:X.fn x=true\/X.env.scope.names.lookup x=some .local:=by first | exact .inl rfl | exact .inr rfl | assumption)
  (hd:(y ==("__debug__" : Str))=false:=by decide) (hcd:(y ==("__classdict__" : Str))=false:=by decide):SS X T W (.Assign [.Name x pos'] (.Name y px) pos) (nw i j) :=
 PS.wk (sG (pos:=pos) hN hi hx (cu (pos:=px) hj hv hd hcd) hs hf) fun D σ H ⟨Z,F,env,fp,S,q⟩=>by
  unfold nw at q
  split at q
  ·rename_i v e
   split at q
   ·rename_i hc
    simp only[Bool.and_eq_true,decide_eq_true_eq]at hc
    obtain⟨⟨hj0,hij⟩,ho⟩:=hc
    obtain⟨u,e1,r⟩:=S.rel j v e
    refine⟨u,e1,q F H _ _ ((S.forget hj0).put (f:=fp j) r (S.nd j) (fun a ha=>(S.dis j a ha).1) (S.new j) (fun a ha k hk hb=>?_) ?_)⟩
    ·unfold bj at hb
     by_cases z:k=j
     ·rw[if_pos z]at hb;exact(nomatch hb)
     ·rw[if_neg z]at hb;exact S.dj j k (Ne.symm z) a ha hb
    ·unfold a7 at ho ⊢
     split
     ·rename_i i0
      rw[if_pos i0]at ho
      unfold b8 at ho ⊢
      rw[List.getElem?_set_ne hj0]
      exact ho
     ·rfl
   ·exact q.elim
  ·exact q.elim
end
end PR
namespace PR
open PySem PySem.Spec L2
def cP:PV->Res PV
 | .bl b=>.ok (.int (if b then 1 else 0))
 | .int i=>.ok (.int i)
 | _=>.stuck
section
variable{X:Cx}{T:Tb}{W:Nat->St->Hp->Prop}
theorem nP:eW X (.type "int") (fun xs H Q=>(∃b,xs=[.bl b]/\Q (.int (if b then 1 else 0)) H)\/ ∃i,xs=[.int i]/\Q (.int i) H):=by
 intro pins s σ H xs us Q I rv h
 rcases h with⟨b,rfl,q⟩ |⟨i,rfl,q⟩
 ·obtain⟨u,rfl,rx⟩:=gj rv
  cases rx
  exact PySem.call_int_bool ⟨.int _,H,jQ I fun _ _ e=>e,⟨_,rfl⟩,q⟩
 ·obtain⟨u,rfl,rx⟩:=gj rv
  obtain⟨t,rfl⟩:=rx
  exact PySem.call_int_int ⟨.int _,H,I,⟨_,rfl⟩,q⟩
theorem qD:Mir T W (p1 cP) (fun xs H Q=>(∃b,xs=[.bl b]/\Q (.int (if b then 1 else 0)) H)\/ ∃i,xs=[.int i]/\Q (.int i) H):=by
 intro B F L σ H Q F' H' xs vs fx g r nf nd new q
 match xs,r,q with
 | [x],r,q =>
  obtain⟨v,rfl,r1⟩:=r.one
  cases x with
  | bl b =>
   unfold Rel at r1
   obtain⟨rfl,_⟩:=r1
   exact .inl ⟨b,rfl,q.scal g d6⟩
  | int i =>
   unfold Rel at r1
   obtain⟨rfl,_⟩:=r1
   exact .inr ⟨i,rfl,q.scal g d6⟩
  | _=>exact q.elim
 | [],_,q | _::_::_,_,q=>exact q.elim
theorem gL(hg:Gl X "int")(hm:X.mg "int" = none)(ha:SE X T W e m)(he:starEach [e] X.env=[(false,eval e X.env)]:=by rfl):SE X T W (.Call (.Name "int" p) [e] [] pos) (ak (p1 cP) (ad m aj)) :=
 kB nP qD hg hm uN (ac ha af he) (he:=he)
end
open AutoSeq1 (wpAny_loadPart')
section
variable{prog:Program}{w:World}{A:Around}{E:Value->Shared->Prop}{s:Shared}
theorem kU(ft:TypeCalled T nI iI)
  (c1:checkTypeCall T ⟨us,kw⟩=pure ()) (c2:checkBuiltinCall nI ⟨.type T::us,kw⟩=pure ()) (eN:entryFor table nI=some Bn) (eI:entryFor table iI=some Bi) (g:Meets (Bn ⟨.type T::us,kw⟩) S)
  (h:S A.in1 (wants Q1 E) s) (nx:∀ob s1,Q1 ob s1->s1.TypeIs ob T/\argsOk iI ⟨ob::us,kw⟩/\∃Si,Meets (Bi ⟨ob::us,kw⟩) Si/\Si A.in1 (wants (fun r s2=>r=.none/\Q ob s2) E) s1) :
  wpAny (model prog w) A (call (.type T) us kw) Q E s:=by
 obtain⟨cc,tt,hmro⟩:=ft.mro
 have hmade:=ft.made;have hsub:=ft.sub;have h1:=ft.notType;have h2:=ft.canCreate
 refine wpAny_call (codeAny_of_tree (show wpAny _ _ (callAny (.type T) _) _ _ _ from wpAny_pure ⟨Code.quiet_builtin _ (by decide +kernel),codeAny_builtin F.entry_type_call ?_⟩))
 rw[Around.under_plain (weight_type_call_type T us kw) (units_type_call_type T us kw)]
 repeat (any_goals (first | assumption | wp_step | fail))
 refine codeAny_mono (codeAny_call_builtin ft.plain eN (wpAny_of_eq c2 (g prog w A.in1 _ s h))) fun r s1 hr=>?_
 cases r with
 | error e=>exact hr
 | ok fl =>
  cases fl with
  | ret ob =>
   obtain⟨hT,hok,Si,gi,hsi⟩:=nx _ _ hr
   have hli:=ft.init.lookup;have hbi:=ft.init.bind ob
   repeat (any_goals (first | assumption | wp_step | fail))
   refine codeAny_mono (codeAny_call_builtin ft.init.plain eI (ft.init.check _ _ _ _ _ _ _ _ hT hok (gi prog w A.in1 _ s1 hsi))) fun r2 s2 hr2=>?_
   cases r2 with
   | error e=>exact hr2
   | ok fl2 =>
    cases fl2 with
    | ret r =>
     obtain⟨rfl,hq⟩:=hr2
     repeat (any_goals (first | assumption | wp_step | fail))
    | _=>exact hr2.elim
  | _=>exact hr.elim
theorem CF(hl:typeLookup (.type T) "__init__" = pure (some (.builtin "object.__init__")))(hm:Bind.madeBy (.type T)=pure (some nI))(hne:(some nI != some "object.__new__")=true) :
  Meets (Builtin.«object.__init__» ⟨[self,a],kw⟩) (fun _ R s=>s.TypeIs self T/\R (.ok (.ret .none)) s):=by
 refine Meets.of_wp fun pr w A R s0 hs=>?_
 obtain⟨hT,hq⟩:=hs
 repeat (any_goals (first | assumption | wp_step | fail))
 exact⟨_,rfl,hq⟩
abbrev itO(n:String)(l:Addr):Obj:={ cls:=.type n,data:=.fields #[.ref l,.int 0 0] }
abbrev enO(it:Addr)(i:Int):Obj:={ cls:=.type "enumerate", data:=.fields #[.none,.bool false,.ref it,rawInt i,.none,.none] }
def ve(n:String)(l:Addr)(s:Shared):Prop:=∀(pr:Program) (w:World) (A:Around) (Q:Value->Shared->Prop) (E:Value->Shared->Prop),Q (.ref s.heap.objs.size) { s with heap:=s.heap.push (itO n l) }->wpAny (model pr w) A (pyIter (.ref l)) Q E s
theorem mV(t:Addr):¬((Value.ref t==Value.none)=true):=Bool.false_ne_true
theorem tq(hit:s.heap.IsTupleIter it t i)(ht:s.heap.IsTuple t items)(hx:items[i]?=some x)
  (hQ:∀h',h'.IsTupleIter it t (i+1)->Heap.SameBut it s.heap h'->Q x { s with heap:=h' }):wpAny (model prog w) A (Builtin.SmallTypes.nextOf (.ref it)) Q E s:=by
 obtain⟨o,ho,hc,hd⟩:=id hit
 obtain⟨o2,ho2,_,n2,hd2⟩:=ht
 unfold Builtin.SmallTypes.nextOf
 refine wpAny_bind (wpAny_callSpecial?_slot (name:=Str.ofString "__next__") hit.typeIs F.slot_tuple_iterator_next (wpAny_call_entry F.slot_tuple_iterator_next hit.typeIs F.entry_tuple_iterator_next ?_ (F.args_tuple_iterator_next_1 _)))
 refine(show wpAny _ _ (field (.ref it) 0 >>= _) _ _ s from wpAny_bind (wpAny_field ho hd (x:=.ref t) rfl ?_))
 refine(show wpAny _ _ (if(Value.ref t==Value.none)=true then _ else _) _ _ s from ?_)
 rw[if_neg (mV t)]
 refine(show wpAny _ _ (field (.ref it) 1 >>= _) _ _ s from wpAny_bind (wpAny_field ho hd (x:=.int i 0) rfl ?_))
 refine(show wpAny _ _ (seqItems? (.ref t) >>= _) _ _ s from wpAny_bind (wpAny_seqItems ho2 hd2 ?_))
 simp only[Int.toNat_natCast,hx]
 refine wpAny_bind (wpAny_setField ho hd (by simp) (wpAny_pure ⟨x,rfl,wpAny_pure (hQ _ ⟨_,Heap.get?_update_self _ ho (Obj.isFreed_of_fields (Obj.data_mapFields hd _)),(Obj.cls_mapFields ..).trans hc,by rw[Obj.data_mapFields hd];simp[rawInt]⟩ (Heap.SameBut.update ..))⟩))
theorem wd(hh:A.handled=none)(hit:s.heap.IsTupleIter it t i)(ht:s.heap.IsTuple t items)(hx:items[i]?=none)
  (hE:∀h' e,Heap.ExtBut it s.heap h'->(∃o,h'.get? e=some o/\o.cls=.type "StopIteration")->E (.ref e) { s with heap:=h' }):wpAny (model prog w) A (Builtin.SmallTypes.nextOf (.ref it)) Q E s:=by
 obtain⟨o,ho,hc,hd⟩:=id hit
 obtain⟨o2,ho2,_,n2,hd2⟩:=ht
 unfold Builtin.SmallTypes.nextOf
 refine wpAny_bind (wpAny_callSpecial?_slot (name:=Str.ofString "__next__") hit.typeIs F.slot_tuple_iterator_next (wpAny_call_entry F.slot_tuple_iterator_next hit.typeIs F.entry_tuple_iterator_next ?_ (F.args_tuple_iterator_next_1 _)))
 refine(show wpAny _ _ (field (.ref it) 0 >>= _) _ _ s from wpAny_bind (wpAny_field ho hd (x:=.ref t) rfl ?_))
 refine(show wpAny _ _ (if(Value.ref t==Value.none)=true then _ else _) _ _ s from ?_)
 rw[if_neg (mV t)]
 refine(show wpAny _ _ (field (.ref it) 1 >>= _) _ _ s from wpAny_bind (wpAny_field ho hd (x:=.int i 0) rfl ?_))
 refine(show wpAny _ _ (seqItems? (.ref t) >>= _) _ _ s from wpAny_bind (wpAny_seqItems ho2 hd2 ?_))
 simp only[Int.toNat_natCast,hx]
 refine wpAny_bind (wpAny_rule (wpAny_bind (wpAny_setField ho hd (by simp) (show wpAny _ _ (newExc (.type "StopIteration") [] >>= _) _ _ _ from wpAny_bind ?_))))
 simp only[newExc,newTuple]
 refine wpAny_bind (wpAny_newObj_type (wpAny_bind (m:=firstArgMember _ _) (wpAny_of_eq (a:=Value.none) (by first | rfl |(simp only[firstArgMember];rfl)) (wpAny_newObj_type ?_ (by size_fits)))) (by size_fits))
 simp only[raiseNew]
 refine wpAny_bind (wpAny_handled ?_)
 first | rw[show A.in1.handled=none from hh] | rw[hh] | skip
 exact wpAny_bind (wpAny_pure (wpAny_throw (hE _ _ (((Heap.SameBut.update ..).extBut.push _).push _) ⟨_,Heap.get?_push_size _ rfl,rfl⟩)))
inductive gA(h:Heap)(it l:Addr)(its:Array Value)(i:Nat):Prop
 | lst (a:h.IsListIter it l i) (b:h.IsList l its)
 | tup (a:h.IsTupleIter it l i) (b:h.IsTuple l its)
theorem gA.at(x:gA h it l its i)(k1:∀o,h.get? it=some o->h'.get? it=some o)(k2:∀o,h.get? l=some o->h'.get? l=some o):gA h' it l its i:=by
 rcases x with⟨⟨o,e,r⟩,⟨o2,e2,r2⟩⟩ |⟨⟨o,e,r⟩,⟨o2,e2,r2⟩⟩
 ·exact .lst ⟨o,k1 o e,r⟩ ⟨o2,k2 o2 e2,r2⟩
 ·exact .tup ⟨o,k1 o e,r⟩ ⟨o2,k2 o2 e2,r2⟩
theorem gA.obj(x:gA h it l its i):∃o,h.get? it=some o/\∀v,o.data≠.cell v:=by
 rcases x with⟨⟨o,e,_,d⟩,_⟩ |⟨⟨o,e,_,d⟩,_⟩
 ·exact⟨o,e,fun v z=>by rw[d]at z;cases z⟩
 ·exact⟨o,e,fun v z=>by rw[d]at z;cases z⟩
theorem wc(hi:gA s.heap it l its i)(hne:l≠it)(hx:its[i]?=some x)(hQ:∀h',gA h' it l its (i+1)->Heap.SameBut it s.heap h'->Q x { s with heap:=h' }) :
  wpAny (model prog w) A (Builtin.SmallTypes.nextOf (.ref it)) Q E s:=by
 rcases hi with⟨a,b⟩ |⟨a,b⟩
 ·exact wpAny_nextOf_list_item a b hx fun h' q sb=>hQ h' (.lst q (b.extBut sb.extBut hne)) sb
 ·exact tq a b hx fun h' q sb=>hQ h' (.tup q (b.extBut sb.extBut hne)) sb
theorem zu(hh:A.handled=none)(hi:gA s.heap it l its i)(hx:its[i]?=none)
  (hE:∀h' e,Heap.ExtBut it s.heap h'->(∃o,h'.get? e=some o/\o.cls=.type "StopIteration")->E (.ref e) { s with heap:=h' }):wpAny (model prog w) A (Builtin.SmallTypes.nextOf (.ref it)) Q E s:=by
 rcases hi with⟨a,b⟩ |⟨a,b⟩
 ·exact wpAny_nextOf_list_end hh a b hx hE
 ·exact wd hh a b hx hE
theorem wZ{Q:Value->Shared->Prop}(he:IsEnum s.heap e it k old)(hi:gA s.heap it l its i)(hne:e≠it)(hli:l≠it)(hle:l≠e)(hx:its[i]?=some x)
  (hQ:∀ h',IsEnumOut h' e it (k+1) x s.heap.objs.size->gA h' it l its (i+1)->h'.get? s.heap.objs.size=some { cls:=.type "tuple", data:=.seq #[.int k s.toks,x] }->h'.objs.size=s.heap.objs.size+1 ->
   (∀b o,b≠e->b≠it->s.heap.get? b=some o->h'.get? b=some o)->Q (.ref s.heap.objs.size) { s with heap:=h',toks:=s.toks+1 }) :
  wpAny (model prog w) A (Builtin.«enumerate.__next__» ⟨[.ref e],[]⟩) (fun fin s'=>∃v,fin=.done (.ret v)/\Q v s') E s:=by
 obtain⟨hp,g,d,tk,os⟩:=s
 refine(show wpAny _ _ (field (.ref e) 2 >>= _) _ _ _ from wpAny_bind (wpAny_field he rfl (x:=.ref it) rfl ?_))
 refine wpAny_bind (wc hi hli hx fun h1 i1 s1=>?_)
 replace s1:Heap.SameBut it hp h1:=s1
 have e1:IsEnum h1 e it k old:=(s1.2 e hne).trans he
 refine(show wpAny _ _ (field (.ref e) 3 >>= _) _ _ ⟨h1,g,d,tk,os⟩from wpAny_bind (wpAny_field e1 rfl (x:=rawInt k) rfl ?_))
 refine(show wpAny _ _ (field (.ref e) 4 >>= _) _ _ ⟨h1,g,d,tk,os⟩from wpAny_bind (wpAny_field e1 rfl (x:=.none) rfl ?_))
 refine(show wpAny _ _ (mkInt k >>= _) _ _ ⟨h1,g,d,tk,os⟩from wpAny_bind (wpAny_mkInt ?_))
 refine(show wpAny _ _ (setField (.ref e) 3 (rawInt (k+1)) >>= _) _ _ ⟨h1,g,d,tk+1,os⟩from wpAny_bind (wpAny_setField_rec e1 (by simp) fun h2 e2 s2=>?_))
 replace s2:Heap.SameBut e h1 h2:=s2
 replace e2:IsEnum h2 e it (k+1) old:=e2
 refine(show wpAny _ _ (setField (.ref e) 4 .none >>= _) _ _ ⟨h2,g,d,tk+1,os⟩from wpAny_bind (wpAny_setField_rec e2 (by simp) fun h3 e3 s3=>?_))
 replace s3:Heap.SameBut e h2 h3:=s3
 replace e3:IsEnum h3 e it (k+1) old:=e3
 refine(show wpAny _ _ (newTuple [.int k tk,x] >>= _) _ _ ⟨h3,g,d,tk+1,os⟩from wpAny_bind (wpAny_newTuple ?_))
 have e4:IsEnum (h3.push { cls:=.type "tuple", data:=.seq #[.int k tk,x] }) e it (k+1) old:=Heap.get?_push_of_some _ e3
 generalize hh4:h3.push { cls:=.type "tuple", data:=.seq #[.int k tk,x] }=h4 at e4
 have z3:h3.objs.size=hp.objs.size:=by rw[s3.1,s2.1,s1.1]
 have lte:e < hp.objs.size:=Heap.lt_size he
 have t4:h4.get? hp.objs.size=some { cls:=.type "tuple", data:=.seq #[.int k tk,x] }:=by rw[<- hh4,<- z3];exact Heap.get?_push_size _ rfl
 have z4:h4.objs.size=hp.objs.size+1:=by rw[<- hh4,Heap.size_push,z3]
 have k4:∀b o,b≠e->h1.get? b=some o->h4.get? b=some o:=fun b o hb q=>by
  rw[<- hh4];exact Heap.get?_push_of_some _ (s3.extBut b o hb (s2.extBut b o hb q))
 refine(show wpAny _ _ (Builtin.SmallTypes.ownedTupleIsFree (.ref e) >>= _) _ _ ⟨h4,g,d,tk+1,os⟩from ?_)
 rw[z3]
 refine wpAny_bind ?_
 unfold Builtin.SmallTypes.ownedTupleIsFree
 refine wpAny_bind (wpAny_field e4 rfl (x:=.none) rfl (wpAny_pure ?_))
 simp only[if_true]
 refine wpAny_bind (wpAny_rule (wpAny_bind (wpAny_field e4 rfl (x:=old) rfl (wpAny_bind (wpAny_setField_rec e4 (by simp) fun h5 e5 s5=>?_)))))
 replace s5:Heap.SameBut e h4 h5:=s5
 replace e5:IsEnum h5 e it (k+1) x:=e5
 refine(show wpAny _ _ (Builtin.SmallTypes.ownedTupleHandOut (.ref e) (.ref hp.objs.size) >>= _) _ _ ⟨h5,g,d,tk+1,os⟩from wpAny_bind ?_)
 unfold Builtin.SmallTypes.ownedTupleHandOut
 refine wpAny_bind (wpAny_setField_rec e5 (by simp) fun h6 e6 s6=>?_)
 replace s6:Heap.SameBut e h5 h6:=s6
 replace e6:IsEnumOut h6 e it (k+1) x hp.objs.size:=e6
 refine wpAny_setField_rec e6 (by simp) fun h7 e7 s7=>?_
 replace s7:Heap.SameBut e h6 h7:=s7
 replace e7:IsEnumOut h7 e it (k+1) x hp.objs.size:=e7
 have up:∀b o,b≠e->h4.get? b=some o->h7.get? b=some o:=fun b o hb q=>s7.extBut b o hb (s6.extBut b o hb (s5.extBut b o hb q))
 refine wpAny_bind (wpAny_letGo (wpAny_pure ⟨_,rfl,hQ h7 e7 (i1.at (fun o q=>up it o hne.symm (k4 it o hne.symm q)) fun o q=>up l o hle (k4 l o hle q)) (up _ _ (Nat.ne_of_gt lte) t4) (by rw[s7.1,s6.1,s5.1,z4]) fun b o hb hb2 q=>up b o hb (k4 b o hb (s1.extBut b o hb2 q))⟩))
theorem vW(he:IsEnum s.heap e it k old)(hi:gA s.heap it l its i)(hne:e≠it)(hli:l≠it)(hle:l≠e)(hx:its[i]?=some x)
  (hQ:∀ h',IsEnumOut h' e it (k+1) x s.heap.objs.size->gA h' it l its (i+1)->h'.get? s.heap.objs.size=some { cls:=.type "tuple", data:=.seq #[.int k s.toks,x] }->h'.objs.size=s.heap.objs.size+1 ->
   (∀b o,b≠e->b≠it->s.heap.get? b=some o->h'.get? b=some o)->Q (some (.ref s.heap.objs.size)) { s with heap:=h',toks:=s.toks+1 }):wpAny (model prog w) A (pyNext (.ref e)) Q E s:=by
 have hT:s.TypeIs (.ref e) "enumerate" :=⟨_,he,rfl⟩
 unfold pyNext
 exact wpAny_bind (wpAny_attempt (wpAny_callSpecial?_slot (name:=Str.ofString "__next__") hT F.slot_enumerate_next (wpAny_call_entry F.slot_enumerate_next hT F.entry_enumerate_next (wZ he hi hne hli hle hx fun h' a b c d q=>wpAny_pure (hQ h' a b c d q)) (F.args_enumerate_next_1 _))))
theorem yR(hh:A.handled=none)(he:IsEnum s.heap e it k old)(hi:gA s.heap it l its i)(hx:its[i]?=none)
  (hQ:∀h',Heap.ExtBut it s.heap h'->Q none { s with heap:=h' }):wpAny (model prog w) A (pyNext (.ref e)) Q E s:=by
 have hT:s.TypeIs (.ref e) "enumerate" :=⟨_,he,rfl⟩
 unfold pyNext
 refine wpAny_bind (wpAny_attempt (wpAny_callSpecial?_slot (name:=Str.ofString "__next__") hT F.slot_enumerate_next (wpAny_call_entry F.slot_enumerate_next hT F.entry_enumerate_next ?_ (F.args_enumerate_next_1 _))))
 refine(show wpAny _ _ (field (.ref e) 2 >>= _) _ _ _ from wpAny_bind (wpAny_field he rfl (x:=.ref it) rfl ?_))
 refine wpAny_bind (zu hh hi hx fun h' y q ⟨o,ho,hc⟩=>?_)
 exact wpAny_bind (wpAny_isInstance (T := "StopIteration") (b:=true) ⟨o,ho,hc⟩ isSubtype_stop (wpAny_pure (hQ _ q)))
variable{X:Cx}{T:Tb}{W:Nat->St->Hp->Prop}{Z:Zn}{F F1 B L:Addr->Prop}{H H1:Hp}{σ:St}{env:En}{pins:List (Addr×Obj)}
theorem kL{fp:List Addr}{vs:List V}(I:L2.Inv X pins σ H s)(hf:∀b∈fp,kf X pins H b)(k:∀b o,b∉fp->s.heap.get? b=some o->h'.get? b=some o)(hp:s.heap.objs.size<=a)(new:cW X.prog X.w (upd H a (.tup vs)) h' a (.tup vs)) :
  L2.Inv X pins σ (upd H a (.tup vs)) { s with heap:=h',toks:=t' }:=by
 have hn:H a=none:=I.hok.fresh hp
 have nit:∀b u,H b=some u->b∉fp:=fun b u e z=>by rw[(hf b z).1]at e;cases e
 refine I.step (g':=s.gens) (d':=s.drawn) (ch:=fp) (fun b hb=>?_) (fun b o _ _ hc e _=>k b o hc e) (fun b o _ _ hc e _=>⟨o.slots,k b o hc e⟩) (fun b o _ e n=>?_) (fun b o hc e=>⟨o,k b o hc e⟩)
  (fun b xs e=>by rw[aF (bH e hn)];exact e) (fun b o u e=>by rw[aF (bH e hn)];exact e) (fun b ps e=>⟨#[],by rw[aF (bH e hn),e];simp⟩) (fun m hm=>?_) (fun b u e=>?_) I.bare
 ·obtain⟨_,q1,_,q3,q4,q5⟩:=hf b hb
  exact⟨q3,q1,q4,q5⟩
 ·rw[aF (Nat.ne_of_lt (Nat.lt_of_lt_of_le (Heap.lt_size e) hp))];exact n
 ·obtain⟨o,es,ep,ho,r⟩:=hm
  exact⟨o,es,ep,k _ o (fun z=>(hf _ z).2.1 rfl) ho,r⟩
 ·by_cases hb:b=a
  ·subst hb;rw[bq]at e;cases e;exact new
  ·rw[aF hb]at e
   refine(I.hok b u e).stay (fun c v hc q=>k c v ?_ q) (fun c q=>by rw[aF (bH q hn)];exact q) fun c xs q=>by rw[aF (bH q hn)];exact q
   rcases hc with z | z
   ·rw[z];exact nit b u e
   ·exact nit c _ z
def Sq(tp:Bool)(K:PySem.W.Frag)(H:Hp)(l:Addr)(xs:List V):Prop:=match tp with
 | true=>SqT K H l xs
 | false=>SqL K H l xs
def xu(tp:Bool)(h:Heap)(it l:Addr)(i:Nat):Prop:=match tp with
 | true=>h.IsTupleIter it l i
 | false=>h.IsListIter it l i
def Ite(tp:Bool)(K:PySem.W.Frag)(st:Int)(l:Addr):It :=
 ⟨fun i H=>∃xs x,Sq tp K H l xs/\xs[i]?=some x,fun i H v H'=>∃p y,H p=none/\v=.ref p/\H'=upd H p (.tup [.int (st+i),y])/\∀xs,Sq tp K H l xs->xs[i]?=some y,fun i H=>∃xs,Sq tp K H l xs/\xs.length<=i⟩
theorem xF(I:L2.Inv X pins σ H s)(hq:Sq tp X.K H l xs)(ha:xu tp s.heap it l i):∃its:List Value,aG xs its/\gA s.heap it l its.toArray i/\l≠it/\∀e k old,IsEnum s.heap e it k old->e≠it/\l≠e:=by
 cases tp with
 | false =>
  obtain⟨its,rv,p,_⟩:=I.list hq
  obtain⟨o,ho,hc,_⟩:=id p.isList
  obtain⟨o2,ho2,hc2,_⟩:=id (show s.heap.IsListIter it l i from ha)
  refine⟨its,rv,.lst ha p.isList,fun z=>?_,fun e k old he=>⟨fun z=>?_,fun z=>?_⟩⟩
  ·rw[z,ho2]at ho;cases ho;rw[hc2]at hc;exact absurd hc (by decide)
  ·have he':s.heap.get? e=some _:=he
   rw[z,ho2]at he';injection he' with he';rw[he']at hc2;exact absurd hc2 (by simp)
  ·have he':s.heap.get? e=some _:=he
   rw[z,he']at ho;injection ho with ho;rw[<- ho]at hc;exact absurd hc (by simp)
 | true =>
  obtain⟨its,rv,p,_⟩:=I.tuple hq
  have p':s.heap.IsTuple l its.toArray:=p
  obtain⟨o,ho,hc,_⟩:=id p'
  obtain⟨o2,ho2,hc2,_⟩:=id (show s.heap.IsTupleIter it l i from ha)
  refine⟨its,rv,.tup ha p',fun z=>?_,fun e k old he=>⟨fun z=>?_,fun z=>?_⟩⟩
  ·rw[z,ho2]at ho;cases ho;rw[hc2]at hc;exact absurd hc (by decide)
  ·have he':s.heap.get? e=some _:=he
   rw[z,ho2]at he';injection he' with he';rw[he']at hc2;exact absurd hc2 (by simp)
  ·have he':s.heap.get? e=some _:=he
   rw[z,he']at ho;injection ho with ho;rw[<- ho]at hc;exact absurd hc (by simp)
theorem yq(I:L2.Inv X pins σ H s)(h1:Sq tp X.K H l xs)(h2:Sq tp X.K H l ys):xs=ys:=by
 cases tp with
 | false=>exact I.list_inj h1 h2
 | true=>exact I.tuple_inj h1 h2
theorem Cv(x:gA h it l its i)(hl:tp=true->∃o,h.get? l=some o/\o.cls=.type "tuple")(hl2:tp=false->∃o,h.get? l=some o/\o.cls=.type "list"):xu tp h it l i:=by
 cases tp with
 | false =>
  obtain⟨o,ho,hc⟩:=hl2 rfl
  rcases x with⟨a,b⟩ |⟨a,⟨o2,ho2,hc2,_⟩⟩
  ·exact a
  ·rw[ho]at ho2;cases ho2;rw[hc]at hc2;exact absurd hc2 (by decide)
 | true =>
  obtain⟨o,ho,hc⟩:=hl rfl
  rcases x with⟨a,⟨o2,ho2,hc2,_⟩⟩ |⟨a,b⟩
  ·rw[ho]at ho2;cases ho2;rw[hc]at hc2;exact absurd hc2 (by decide)
  ·exact a
theorem qj{els:List Expr}{x1}(tp:Bool)(st:Int)(l e it:Addr) :
  q_ P w K (.Tuple els x1 tpos) (Ite tp K st l) [e,it] e (fun i h=>(∃old,IsEnum h e it (st+i) old)/\xu tp h it l i) where
 mem:=by simp
 obj:=fun i h st b hb=>by
  obtain⟨⟨old,he⟩,ha⟩:=st
  simp only[List.mem_cons,List.not_mem_nil,or_false]at hb
  rcases hb with rfl | rfl
  ·exact⟨_,he,fun v z=>by cases z⟩
  ·cases tp with
   | false =>
    obtain⟨o,e,c,d⟩:=id (show h.IsListIter b l i from ha)
    exact⟨o,e,fun v z=>by rw[d]at z;cases z⟩
   | true =>
    obtain⟨o,e,c,d⟩:=id (show h.IsTupleIter b l i from ha)
    exact⟨o,e,fun v z=>by rw[d]at z;cases z⟩
 keep:=fun i h h' st k=>by
  obtain⟨⟨old,he⟩,ha⟩:=st
  refine⟨⟨old,k e (by simp) _ he⟩,?_⟩
  cases tp with
  | false =>
   obtain⟨o,e,r⟩:=id (show h.IsListIter it l i from ha)
   exact⟨o,k it (by simp) o e,r⟩
  | true =>
   obtain⟨o,e,r⟩:=id (show h.IsTupleIter it l i from ha)
   exact⟨o,k it (by simp) o e,r⟩
 item:=by
  intro X hP hw hK hc i pins s σ H E I hf stt hg
  subst hP hw hK
  obtain⟨⟨old,he⟩,ha⟩:=stt
  obtain⟨xs,x,hq,hx⟩:=hg
  obtain⟨its,rv,hi,hli,hen⟩:=xF I hq ha
  obtain⟨hne,hle⟩:=hen e _ old he
  obtain⟨u,hu,ru⟩:=rv.get hx
  refine vW he hi hne hli hle (x:=u) (by simpa using hu) fun h1 eo in1 tu sz kp=>?_
  refine⟨_,rfl,wpAny_letOwnedTupleGo_enum eo fun h2 e2 s2=>?_⟩
  replace s2:Heap.SameBut e h1 h2:=s2
  have lte:e < s.heap.objs.size:=Heap.lt_size he
  have kp2:∀b o,b∉[e,it]->s.heap.get? b=some o->h2.get? b=some o:=fun b o hb q=>by
   simp only[List.mem_cons,List.not_mem_nil,or_false,not_or]at hb
   exact s2.extBut b o hb.1 (kp b o hb.1 hb.2 q)
  have tu2:h2.get? s.heap.objs.size=some { cls:=.type "tuple", data:=.seq #[.int (st+i) s.toks,u] }:=s2.extBut _ _ (Nat.ne_of_gt lte) tu
  refine⟨.ref s.heap.objs.size,upd H s.heap.objs.size (.tup [.int (st+i),x]),(kL (h':=h2) (t':=s.toks+1) (vs:=[.int (st+i),x]) I hf kp2 (Nat.le_refl _) ⟨by rw[sizeLine_eq];simp,[.int (st+i) s.toks,u],.cons ⟨_,rfl⟩ (.cons ru .nil),⟨_,tu2,rfl,_,rfl⟩⟩ :),rfl,⟨_,x,I.hok.fresh (Nat.le_refl _),rfl,rfl,fun ys hy=>by rw[yq I hy hq];exact hx⟩,⟨⟨u,?_⟩,?_⟩,fun b hb=>?_⟩
  ·have:st+((i+1:Nat):Int)=st+i+1:=by omega
   rw[this];exact e2
  ·have in2:=in1.at (fun o q=>s2.extBut it o hne.symm q) fun o q=>s2.extBut l o hle q
   refine Cv in2 (fun z=>?_) fun z=>?_
   ·subst z
    obtain⟨_,_,p,_⟩:=I.tuple hq
    obtain⟨o,ho,hc,_⟩:=id (show s.heap.IsTuple l _ from p)
    exact⟨o,kp2 l o (by simp[hle,hli]) ho,hc⟩
   ·subst z
    obtain⟨_,_,p,_⟩:=I.list hq
    obtain⟨o,ho,hc,_⟩:=id p.isList
    exact⟨o,kp2 l o (by simp[hle,hli]) ho,hc⟩
  ·have:b < s.heap.objs.size:=by
    simp only[List.mem_cons,List.not_mem_nil,or_false]at hb
    rcases hb with rfl | rfl
    ·exact lte
    ·obtain⟨o,ho,_⟩:=hi.obj
     exact Heap.lt_size ho
   rw[aF (Nat.ne_of_lt this)]
   exact(hf b hb).1
 done:=by
  intro X hP hw hK hc i pins s σ H E I hf stt hg
  subst hP hw hK
  obtain⟨⟨old,he⟩,ha⟩:=stt
  obtain⟨xs,hq,hx⟩:=hg
  obtain⟨its,rv,hi,hli,hen⟩:=xF I hq ha
  obtain⟨f0,f1,f2,f3,f4,f5⟩:=hf it (by simp)
  have hl:=rv.length
  exact yR (I.ok.hd hc) he hi (by simp;omega) fun h' eb=>⟨rfl,I.turned (t':=s.toks) (fun b o hb e=>eb b o hb e) f0 f1 f3 f4 f5⟩
 self:=fun _ _ _ _ _ st h=>by
  obtain⟨⟨old,he⟩,_⟩:=st
  exact wpAny_pyIter_enum he h
theorem xk:bootBuiltins "enumerate" = some (.type "enumerate"):=by decide +kernel
end
def enP(k:Int):List PV->List PV
 | []=>[]
 | x::xs=>.tup [.int k,x]::enP (k+1) xs
theorem fw:∀(k:Int) (xs:List PV) (i:Nat),(enP k xs)[i]?=(xs[i]?).map fun x=>.tup [.int (k+i),x]
 | _,[],i | k,x::xs,0=>by simp[enP]
 | k,x::xs,i+1=>by
  simp only[enP,List.getElem?_cons_succ,fw (k+1) xs i]
  congr 1
  funext y
  congr 3
  omega
theorem fv:∀(k:Int) (xs:List PV),(enP k xs).length=xs.length
 | _,[]=>rfl
 | k,_::xs=>by simp[enP,fv (k+1) xs]
section
variable{X:Cx}{T:Tb}{W:Nat->St->Hp->Prop}{Z:Zn}{F F1 B L:Addr->Prop}{H H1:Hp}{σ:St}{env:En}{fp:Nat->List Addr}
theorem sr(hp:H2 p=none)(r:Rel T F B L H2 x v f):Rel T F B L (upd H2 p (.tup [.int k,v])) (.tup [.int k,x]) (.ref p) f:=by
 unfold Rel
 refine⟨p,_,rfl,SqT.of bq,?_⟩
 have r2:Rel T F B L (upd H2 p (.tup [.int k,v])) x v f:=r.ext (Ext.upd hp) fun _ h=>h
 unfold RelL
 refine⟨.int k,[v],[],f,rfl,d6,?_,rfl⟩
 unfold RelL
 exact⟨v,[],f,[],rfl,r2,by unfold RelL;exact⟨rfl,rfl⟩,by simp⟩
variable{D:Ends}
theorem RelL.nest:∀{xs:List PV}{ws:List V}{f:List Addr}{n:Nat}{ys:List PV},RelL T F B NoL H xs ws f->xs[n]?=some (.lst .own ys)->
  ∃b f0 f1 f2 vs,f=f0 ++(b::f1)++ f2/\ws[n]?=some (.ref b)/\H b=some (.lst vs)/\RelL T F B NoL H ys vs f1 /\
   ∀(H':Hp) (ys':List PV) (vs':List V) (f1':List Addr),f.Nodup->H' b=some (.lst vs')->RelL T F B NoL H' ys' vs' f1'->(∀a o,H a=some o->a≠b->H' a=some o)->¬F b->¬B b->RelL T F B NoL H' (xs.set n (.lst .own ys')) ws (f0 ++(b::f1')++ f2)
 | [],_,_,n,ys,_,e=>by simp at e
 | x::xs,ws,f,0,ys,h,e=>by
  simp at e
  subst e
  unfold RelL at h
  obtain⟨v,ws',fa,fb,rfl,r1,r2,rfl⟩:=h
  unfold Rel at r1
  obtain⟨b,vs,f1,rfl,hl,hr,hf⟩:=r1
  obtain rfl:fa=b::f1:=hf
  have hl':H b=some (.lst vs):=hl
  refine⟨b,[],f1,fb,vs,by simp,rfl,hl',hr,fun H' ys' vs' f1' nd h1 h2 kp nF nB=>?_⟩
  have nd2:=List.nodup_append.mp nd
  have tr:RelL T F B NoL H' xs ws' fb:=by
   refine RelL.tr (fun _ h=>h) (fun _ h=>h) (fun _ h=>h) (fun a o q h=>kp a o q fun z=>?_) (fun a ha o q=>kp a o q fun z=>?_) r2
   ·subst z
    rcases h with h | h | h | h
    ·exact nF h
    ·exact nB h
    ·exact h
    ·rw[hl']at q;cases q;exact h
   ·subst z
    exact nd2.2.2 a List.mem_cons_self a ha rfl
  rw[List.set_cons_zero]
  unfold RelL
  refine⟨.ref b,ws',b::f1',fb,rfl,?_,tr,by simp⟩
  unfold Rel
  exact⟨b,vs',f1',rfl,h1,h2,rfl⟩
 | x::xs,ws,f,n+1,ys,h,e=>by
  unfold RelL at h
  obtain⟨v,ws',fa,fb,rfl,r1,r2,rfl⟩:=h
  obtain⟨b,f0,f1,f2,vs,rfl,h1,h2,h3,h4⟩:=RelL.nest (n:=n) r2 (by simpa using e)
  refine⟨b,fa++f0,f1,f2,vs,by simp,by simpa using h1,h2,h3,fun H' ys' vs' f1' nd g1 g2 kp nF nB=>?_⟩
  have nd2:=List.nodup_append.mp nd
  have tr:Rel T F B NoL H' x v fa:=by
   refine Rel.tr (fun _ h=>h) (fun _ h=>h) (fun _ h=>h) (fun a o q h=>kp a o q fun z=>?_) (fun a ha o q=>kp a o q fun z=>?_) r1
   ·subst z
    rcases h with h | h | h | h
    ·exact nF h
    ·exact nB h
    ·exact h
    ·rw[h2]at q;cases q;exact h
   ·subst z
    exact nd2.2.2 a ha a (by simp) rfl
  have:=h4 H' ys' vs' f1' nd2.2.1 g1 g2 kp nF nB
  rw[List.set_cons_succ]
  unfold RelL
  exact⟨v,ws',fa,f0 ++(b::f1')++ f2,rfl,tr,this,by simp⟩
end
open AutoSeq1 (wpAny_loadPart')
section
variable{prog:Program}{w:World}{A:Around}{E:Value->Shared->Prop}{s:Shared}
abbrev zTI(n:Addr):Obj:={ cls:=.type "tuple", data:=.seq #[.ref n,.ref (n+1)] }
abbrev zTO:Obj:={ cls:=.type "tuple", data:=.seq #[.none,.none] }
abbrev zO(n:Addr):Obj:={ cls:=.type "zip", data:=.fields #[.none,.bool false,.bool false,.ref (n+2),.ref (n+3)] }
abbrev xC(h:Heap)(l1 l2:Addr):Heap:=((((h.push (itO "list_iterator" l1)).push (itO "list_iterator" l2)).push (zTI h.objs.size)).push zTO).push (zO h.objs.size)
theorem Be(hl:typeLookup (.type T) "__init__" = pure (some (.builtin "object.__init__")))(hm:Bind.madeBy (.type T)=pure (some nI))(hne:(some nI != some "object.__new__")=true) :
  Meets (Builtin.«object.__init__» ⟨[self,a,b],[]⟩) (fun _ R s=>s.TypeIs self T/\R (.ok (.ret .none)) s):=by
 refine Meets.of_wp fun pr w A R s0 hs=>?_
 obtain⟨hT,hq⟩:=hs
 repeat (any_goals (first | assumption | wp_step | fail))
 exact⟨_,rfl,hq⟩
theorem DA(l1 l2:Addr)(xs ys:Array Value) :
  Meets (Builtin.«zip.__new__» ⟨[.type "zip", .ref l1,.ref l2],[]⟩) (fun _ R s=>s.heap.IsList l1 xs/\s.heap.IsList l2 ys/\R (.ok (.ret (.ref (s.heap.objs.size+4)))) { s with heap:=xC s.heap l1 l2 }) :=
 .of_wp fun pr w A R s0 h=>by
  obtain⟨hp,g,d,tk,os⟩:=s0
  obtain⟨h1,h2,h⟩:=h
  have hsub:=sub_zip
  have h2':(hp.push (itO "list_iterator" l1)).IsList l2 ys:=by
   obtain⟨o,e,r⟩:=h2
   exact⟨o,Heap.get?_push_of_some _ e,r⟩
  have hz1:(hp.push (itO "list_iterator" l1)).objs.size=hp.objs.size+1:=Heap.size_push ..
  have hJ1:∀{Q:Value->Shared->Prop}{E:Value->Shared->Prop},Q (.ref hp.objs.size) ⟨hp.push (itO "list_iterator" l1),g,d,tk,os⟩->wpAny (model pr w) A.in1 (pyIter (.ref l1)) Q E ⟨hp,g,d,tk,os⟩:=fun {Q E} q=>wpAny_pyIter_list h1 q
  have hJ2:∀{Q:Value->Shared->Prop}{E:Value->Shared->Prop},Q (.ref (hp.push (itO "list_iterator" l1)).objs.size) ⟨(hp.push (itO "list_iterator" l1)).push (itO "list_iterator" l2),g,d,tk,os⟩->wpAny (model pr w) A.in1 (pyIter (.ref l2)) Q E ⟨hp.push (itO "list_iterator" l1),g,d,tk,os⟩:=fun {Q E} q=>wpAny_pyIter_list h2' q
  wp_walk using hJ1,hJ2
  refine⟨_,rfl,?_⟩
  simp only[Heap.size_push]
  exact h
theorem xc(h1:s.heap.IsList l1 xs)(h2:s.heap.IsList l2 ys)(h:Q (.ref (s.heap.objs.size+4)) { s with heap:=xC s.heap l1 l2 }) :
  wpAny (model prog w) A (call (.type "zip") [.ref l1,.ref l2] []) Q E s:=by
 have hz:((((s.heap.push (itO "list_iterator" l1)).push (itO "list_iterator" l2)).push (zTI s.heap.objs.size)).push zTO).objs.size=s.heap.objs.size+4:=by simp only[Heap.size_push]
 refine kU (Q1:=fun ob s1=>s1.TypeIs ob "zip" /\ Q ob s1) F.called_zip (F.typeCall_zip_2 _ _) (F.newCall_zip_2 _ _) F.entry_zip_new F.entry_object_init (DA l1 l2 xs ys) ⟨h1,h2,?_⟩ fun ob s1 hq=>⟨hq.1,?_,_,Be F.called_zip.init.lookup F.called_zip.made (by decide),hq.1,rfl,hq.2⟩
 ·have:=Heap.get?_push_size ((((s.heap.push (itO "list_iterator" l1)).push (itO "list_iterator" l2)).push (zTI s.heap.objs.size)).push zTO) (o:=zO s.heap.objs.size) rfl
  rw[hz]at this
  exact⟨⟨_,this,rfl⟩,h⟩
 ·exact F.args_object_init_3 _ _ _
variable{X:Cx}{T:Tb}{W:Nat->St->Hp->Prop}{Z:Zn}{F F1 B L:Addr->Prop}{H H1:Hp}{σ:St}{env:En}{pins:List (Addr×Obj)}
theorem qL{fp:List Addr}(I:L2.Inv X pins σ H s)(hf:∀b∈fp,kf X pins H b)(k:∀b o,b∉fp->s.heap.get? b=some o->h'.get? b=some o) :
  L2.Inv X pins σ H { s with heap:=h',toks:=t' }:=by
 have nit:∀b u,H b=some u->b∉fp:=fun b u e z=>by rw[(hf b z).1]at e;cases e
 refine I.step (g':=s.gens) (d':=s.drawn) (ch:=fp) (fun b hb=>?_) (fun b o _ _ hc e _=>k b o hc e) (fun b o _ _ hc e _=>⟨o.slots,k b o hc e⟩) (fun _ _ _ _ n=>n) (fun b o hc e=>⟨o,k b o hc e⟩)
  (fun _ _ e=>e) (fun _ _ _ e=>e) (fun b ps e=>⟨#[],by rw[e];simp⟩) (fun m hm=>?_) (fun b u e=>?_) I.bare
 ·obtain⟨_,q1,_,q3,q4,q5⟩:=hf b hb
  exact⟨q3,q1,q4,q5⟩
 ·obtain⟨o,es,ep,ho,r⟩:=hm
  exact⟨o,es,ep,k _ o (fun z=>(hf _ z).2.1 rfl) ho,r⟩
 ·refine(I.hok b u e).stay (fun c v hc q=>k c v ?_ q) (fun _ q=>q) fun _ _ q=>q
  rcases hc with z | z
  ·rw[z];exact nit b u e
  ·exact nit c _ z
def Itz(K:PySem.W.Frag)(l1 l2:Addr):It :=
  ⟨fun i H=>∃ xs ys x y,SqL K H l1 xs/\SqL K H l2 ys/\xs[i]?=some x/\ys[i]?=some y,
   fun i H v H'=>∃p x y,H p=none/\v=.ref p/\H'=upd H p (.tup [x,y])/\(∀xs,SqL K H l1 xs->xs[i]?=some x)/\∀ys,SqL K H l2 ys->ys[i]?=some y,
   fun i H=>∃xs ys,SqL K H l1 xs/\SqL K H l2 ys/\(xs.length<=i\/ys.length<=i)⟩
theorem g_{h h':Heap}{it l:Addr}{i:Nat}(a:h.IsListIter it l i)(k:∀o,h.get? it=some o->h'.get? it=some o):h'.IsListIter it l i:=by
 obtain⟨o,e,r⟩:=a
 exact⟨o,k o e,r⟩
theorem rC{P:Program}{w:World}{K:PySem.W.Frag}{els:List Expr}{x1}(l1 l2 z ti to i1 i2:Addr)(D:ZipApart z ti to i1 i2 l1 l2) :
  q_ P w K (.Tuple els x1 tpos) (Itz K l1 l2) [z,ti,to,i1,i2] z (fun i h=>IsZip h z ti to .none/\IsPair h ti (.ref i1) (.ref i2)/\(∃a b,IsPair h to a b)/\h.IsListIter i1 l1 i/\h.IsListIter i2 l2 i) where
 mem:=by simp
 obj:=fun i h st b hb=>by
  obtain⟨hz,ht,⟨a',b',ho⟩,h1,h2⟩:=st
  simp only[List.mem_cons,List.not_mem_nil,or_false]at hb
  rcases hb with rfl | rfl | rfl | rfl | rfl
  ·exact⟨_,hz,fun v z=>by cases z⟩
  ·exact⟨_,ht,fun v z=>by cases z⟩
  ·exact⟨_,ho,fun v z=>by cases z⟩
  ·obtain⟨o,e,c,d⟩:=id h1
   exact⟨o,e,fun v z=>by rw[d]at z;cases z⟩
  ·obtain⟨o,e,c,d⟩:=id h2
   exact⟨o,e,fun v z=>by rw[d]at z;cases z⟩
 keep:=fun i h h' st k=>by
  obtain⟨hz,ht,⟨a',b',ho⟩,h1,h2⟩:=st
  exact⟨k z (by simp) _ hz,k ti (by simp) _ ht,⟨a',b',k to (by simp) _ ho⟩,g_ h1 (k i1 (by simp)),g_ h2 (k i2 (by simp))⟩
 item:=by
  intro X hP hw hK hc i pins s σ H E I hf stt hg
  subst hP hw hK
  obtain⟨hz,ht,⟨a',b',ho⟩,h1,h2⟩:=stt
  obtain⟨xs,ys,x,y,hq1,hq2,hx,hy⟩:=hg
  obtain⟨its1,rv1,pl1,_⟩:=I.list hq1
  obtain⟨its2,rv2,pl2,_⟩:=I.list hq2
  obtain⟨u1,hu1,ru1⟩:=rv1.get hx
  obtain⟨u2,hu2,ru2⟩:=rv2.get hy
  refine wpAny_pyNext_zip_item D hz ht ho h1 h2 pl1.isList pl2.isList (x:=u1) (y:=u2) (by simpa using hu1) (by simpa using hu2) fun h' z' to' i1' i2' pr sz kp=>?_
  refine⟨_,rfl,wpAny_letOwnedTupleGo_zip z' fun h3 z3 s3=>?_⟩
  replace s3:Heap.SameBut z h' h3:=s3
  have ltz:z < s.heap.objs.size:=Heap.lt_size hz
  have kp2:∀b o,b∉[z,ti,to,i1,i2]->s.heap.get? b=some o->h3.get? b=some o:=fun b o hb q=>by
   simp only[List.mem_cons,List.not_mem_nil,or_false,not_or]at hb
   exact s3.extBut b o hb.1 (kp b o hb.1 hb.2.2.1 hb.2.2.2.1 hb.2.2.2.2 q)
  have tu2:h3.get? s.heap.objs.size=some { cls:=.type "tuple", data:=.seq #[u1,u2] }:=s3.extBut _ _ (Nat.ne_of_gt ltz) pr
  refine⟨.ref s.heap.objs.size,upd H s.heap.objs.size (.tup [x,y]),(kL (h':=h3) (t':=s.toks) (vs:=[x,y]) I hf kp2 (Nat.le_refl _) ⟨by rw[sizeLine_eq];simp,[u1,u2],.cons ru1 (.cons ru2 .nil),⟨_,tu2,rfl,_,rfl⟩⟩ :),rfl,⟨_,x,y,I.hok.fresh (Nat.le_refl _),rfl,rfl,fun zs hz=>by rw[I.list_inj hz hq1];exact hx,fun zs hz=>by rw[I.list_inj hz hq2];exact hy⟩,⟨z3,s3.extBut ti _ D.TIz (kp ti _ D.TIz D.TITO D.TIi1 D.TIi2 ht),⟨_,_,s3.extBut to _ D.TOz to'⟩,g_ i1' fun o q=>s3.extBut i1 o D.i1z q,g_ i2' fun o q=>s3.extBut i2 o D.i2z q⟩,fun b hb=>?_⟩
  have:b < s.heap.objs.size:=by
   simp only[List.mem_cons,List.not_mem_nil,or_false]at hb
   rcases hb with rfl | rfl | rfl | rfl | rfl
   ·exact ltz
   ·exact Heap.lt_size ht
   ·exact Heap.lt_size ho
   ·obtain⟨o,e,_⟩:=id h1;exact Heap.lt_size e
   ·obtain⟨o,e,_⟩:=id h2;exact Heap.lt_size e
  rw[aF (Nat.ne_of_lt this)]
  exact(hf b hb).1
 done:=by
  intro X hP hw hK hc i pins s σ H E I hf stt hg
  subst hP hw hK
  obtain⟨hz,ht,⟨a',b',ho⟩,h1,h2⟩:=stt
  obtain⟨xs,ys,hq1,hq2,hx⟩:=hg
  obtain⟨its1,rv1,pl1,_⟩:=I.list hq1
  obtain⟨its2,rv2,pl2,_⟩:=I.list hq2
  have l1':=rv1.length
  have l2':=rv2.length
  refine wpAny_pyNext_zip_end (I.ok.hd hc) D hz ht ho h1 h2 pl1.isList pl2.isList (by simp;omega) fun h' kp=>⟨rfl,qL (t':=s.toks) I hf fun b o hb q=>?_⟩
  simp only[List.mem_cons,List.not_mem_nil,or_false,not_or]at hb
  exact kp b o hb.1 hb.2.2.1 hb.2.2.2.1 hb.2.2.2.2 q
 self:=fun _ _ _ _ _ st h=>wpAny_pyIter_zip st.1 h
theorem Ai:bootBuiltins "zip" = some (.type "zip"):=by decide +kernel
theorem sO{x1}(hg:Gl X "zip")(hm:X.mg "zip" = none)(ha:PA X [a,b] ta)(hs:starEach [a,b] X.env=[(false,eval a X.env),(false,eval b X.env)]:=by rfl)(hs2:starEach [b] X.env=[(false,eval b X.env)]:=by rfl) :
  PI X (.Tuple els x1 tpos) (.Call (.Name "zip" p) [a,b] [] pos) (fun σ H R=>ta σ H fun vs H1=>∃l1 l2 xs ys,vs=[V.ref l1,V.ref l2]/\SqL X.K H1 l1 xs/\SqL X.K H1 l2 ys/\R (Itz X.K l1 l2) H1):=by
 intro pins s σ H R I h
 refine PyProof.Rows.Call_ (fU I hg hm Ai (PyProof.Rows.callWith_type1 (thn (ha pos pins s σ H _ I h) fun us s1 ⟨vs,H1,I1,r1,q1⟩=>?_) (by rw[hs,hs2]) (by rw[hs2];rfl)))
 obtain⟨l1,l2,xs,ys,e,hq1,hq2,q⟩:=q1
 subst e
 cases r1 with
 | cons r rr =>
  cases rr with
  | cons r' rr =>
   cases rr
   cases r
   cases r'
   obtain⟨its1,rv1,pl1,_⟩:=I1.list hq1
   obtain⟨its2,rv2,pl2,_⟩:=I1.list hq2
   have hl1:l1 < s1.heap.objs.size:=by obtain⟨o,e,_⟩:=id pl1.isList;exact Heap.lt_size e
   have hl2:l2 < s1.heap.objs.size:=by obtain⟨o,e,_⟩:=id pl2.isList;exact Heap.lt_size e
   have z1:(s1.heap.push (itO "list_iterator" l1)).objs.size=s1.heap.objs.size+1:=Heap.size_push ..
   have z2:((s1.heap.push (itO "list_iterator" l1)).push (itO "list_iterator" l2)).objs.size=s1.heap.objs.size+2:=by simp only[Heap.size_push]
   have z3:(((s1.heap.push (itO "list_iterator" l1)).push (itO "list_iterator" l2)).push (zTI s1.heap.objs.size)).objs.size=s1.heap.objs.size+3:=by simp only[Heap.size_push]
   have z4:((((s1.heap.push (itO "list_iterator" l1)).push (itO "list_iterator" l2)).push (zTI s1.heap.objs.size)).push zTO).objs.size=s1.heap.objs.size+4:=by simp only[Heap.size_push]
   have e4:=Heap.get?_push_size ((((s1.heap.push (itO "list_iterator" l1)).push (itO "list_iterator" l2)).push (zTI s1.heap.objs.size)).push zTO) (o:=zO s1.heap.objs.size) rfl
   have e3:=Heap.get?_push_size (((s1.heap.push (itO "list_iterator" l1)).push (itO "list_iterator" l2)).push (zTI s1.heap.objs.size)) (o:=zTO) rfl
   have e2:=Heap.get?_push_size ((s1.heap.push (itO "list_iterator" l1)).push (itO "list_iterator" l2)) (o:=zTI s1.heap.objs.size) rfl
   have e1:=Heap.get?_push_size (s1.heap.push (itO "list_iterator" l1)) (o:=itO "list_iterator" l2) rfl
   have e0:=Heap.get?_push_size s1.heap (o:=itO "list_iterator" l1) rfl
   rw[z4]at e4
   rw[z3]at e3
   rw[z2]at e2
   rw[z1]at e1
   refine xc pl1.isList pl2.isList (wpAny_pyIter_zip (f0:=.none) e4 ?_)
   refine⟨s1.heap.objs.size+4,[s1.heap.objs.size+4,s1.heap.objs.size+2,s1.heap.objs.size+3,s1.heap.objs.size,s1.heap.objs.size+1],_,_,H1,rfl,I1.kept (t':=s1.toks) fun b o e=>Heap.get?_push_of_some _ (Heap.get?_push_of_some _ (Heap.get?_push_of_some _ (Heap.get?_push_of_some _ (Heap.get?_push_of_some _ e)))),rC l1 l2 _ _ _ _ _ (PyProof.Rows.zipApart_new hl1 hl2),⟨e4,Heap.get?_push_of_some _ (Heap.get?_push_of_some _ e2),⟨.none,.none,Heap.get?_push_of_some _ e3⟩,⟨_,Heap.get?_push_of_some _ (Heap.get?_push_of_some _ (Heap.get?_push_of_some _ (Heap.get?_push_of_some _ e0))),rfl,rfl⟩,⟨_,Heap.get?_push_of_some _ (Heap.get?_push_of_some _ (Heap.get?_push_of_some _ e1)),rfl,rfl⟩⟩,fun b hb=>?_,q⟩
   simp only[List.mem_cons,List.not_mem_nil,or_false]at hb
   have hb':s1.heap.objs.size<=b:=by rcases hb with rfl | rfl | rfl | rfl | rfl<;>omega
   exact I1.fpOk hb' (I1.hok.fresh hb')
end
def gC:List PV->List PV->List PV
 | x::xs,y::ys=>.tup [x,y]::gC xs ys
 | _,_=>[]
theorem jh:∀(xs ys:List PV) (i:Nat) {p:PV},(gC xs ys)[i]?=some p->∃x y,xs[i]?=some x/\ys[i]?=some y/\p=.tup [x,y]
 | [],_,i,_,h | _::_,[],i,_,h=>by simp[gC]at h
 | x::xs,y::ys,0,p,h=>by
  simp only[gC,List.getElem?_cons_zero]at h
  exact⟨x,y,rfl,rfl,(Option.some.inj h).symm⟩
 | x::xs,y::ys,i+1,p,h=>by
  simp only[gC,List.getElem?_cons_succ]at h
  exact jh xs ys i h
theorem jg:∀(xs ys:List PV),(gC xs ys).length=min xs.length ys.length
 | [],_ | _::_,[]=>by simp[gC]
 | _::xs,_::ys=>by simp only[gC,List.length_cons,jg xs ys];omega
def nv(ms:MA):MI:=fun env=>(ms env).bind fun zs=>match zs with
 | [.lst f xs,.lst g ys]=>if !f.isLnt&&!g.isLnt&&d7 xs&&d7 ys then .ok (gC xs ys)else .stuck
 | _=>.stuck
def xX(ms:MA):MI:=fun env=>(ms env).bind fun zs=>match zs with
 | [.lst _ xs,.lst _ ys]=>if d7 xs&&d7 ys then .ok (gC xs ys)else .stuck
 | _=>.stuck
section
variable{X:Cx}{T:Tb}{W:Nat->St->Hp->Prop}{Z:Zn}{F F1 B L:Addr->Prop}{H H1:Hp}{σ:St}{env:En}{fp:Nat->List Addr}
theorem kE(hp:H2 p=none)(r:Rel T F B L H2 x v [])(r':Rel T F B L H2 y u []):Rel T F B L (upd H2 p (.tup [v,u])) (.tup [x,y]) (.ref p) []:=by
 unfold Rel
 refine⟨p,_,rfl,SqT.of bq,?_⟩
 have r1:Rel T F B L (upd H2 p (.tup [v,u])) x v []:=r.ext (Ext.upd hp) fun _ h=>h
 have r2:Rel T F B L (upd H2 p (.tup [v,u])) y u []:=r'.ext (Ext.upd hp) fun _ h=>h
 unfold RelL
 refine⟨v,[u],[],[],rfl,r1,?_,rfl⟩
 unfold RelL
 exact⟨u,[],[],[],rfl,r2,by unfold RelL;exact⟨rfl,rfl⟩,by simp⟩
theorem jc{xs:List PV}{vs:List V}{i:Nat}{x:PV}(h:RelL T F B L H xs vs [])(e:xs[i]?=some x):∃v,vs[i]?=some v/\Rel T F B L H x v []:=by
 obtain⟨v,f,ev,rv,sl⟩:=h.get e
 have:f=[]:=List.eq_nil_of_sublist_nil sl
 subst this
 exact⟨v,ev,rv⟩
theorem CZ{els:List Expr}{x1}(hK:X.K=T.K)(hg:Gl X "zip")(hm:X.mg "zip" = none)(ha:SA X T W [a,b] ms)(hs:starEach [a,b] X.env=[(false,eval a X.env),(false,eval b X.env)]:=by rfl)(hs2:starEach [b] X.env=[(false,eval b X.env)]:=by rfl) :
  SIc X T W (.Tuple els x1 tpos) (.Call (.Name "zip" p) [a,b] [] pos) (xX ms):=fun pins s σ H R I h=>sO hg hm ha hs hs2 pins s σ H R I (by
 obtain⟨Z,F,env,fp,S,q⟩:=h
 unfold xX at q
 refine tA.bind S (fun c e=>by rw[e]at q;exact q) (fun e=>by rw[e]at q;exact q) fun zs vs H1 F1 f1 e1 g1 r1 n1 d1 w1=>?_
 rw[e1]at q
 simp only[Res.ok_bind]at q
 split at q
 ·rename_i f xs g ys
  split at q
  ·rename_i hc
   rw[Bool.and_eq_true]at hc
   unfold RelL at r1
   obtain⟨v1,ws,f2,f3,rfl,ra,rb,_⟩:=r1
   obtain⟨v2,rfl,rc⟩:=rb.one
   unfold Rel at ra rc
   obtain⟨a1,us,fp1,rfl,hl1,hr1,_⟩:=ra
   obtain⟨a2,ws,fp2,rfl,hl2,hr2,_⟩:=rc
   obtain⟨rfl,_⟩:=dh hc.1 hr1
   obtain⟨rfl,_⟩:=dh hc.2 hr2
   rw[hK]
   refine⟨a1,a2,us,ws,rfl,hl1.sq,hl2.sq,q _ H1 F1 g1 fun H2 hx=>?_⟩
   have up:∀{a:Addr}{us:List V},SqL T.K H1 a us->SqL T.K H2 a us:=fun {a us} hs=>by
    rcases hs with z | z
    ·exact .inl (Rd.tr (fun o q=>hx a o q) z)
    ·exact .inr z
   have s1:=up hl1.sq
   have s2:=up hl2.sq
   have ln1:=hr1.length
   have ln2:=hr2.length
   refine⟨fun i x ex=>?_,⟨us,ws,s1,s2,by rw[jg];omega⟩⟩
   obtain⟨x1,y1,ex1,ey1,rfl⟩:=jh xs ys i ex
   obtain⟨v,ev,rv⟩:=jc hr1 ex1
   obtain⟨u,eu,ru⟩:=jc hr2 ey1
   refine⟨⟨us,ws,v,u,s1,s2,ev,eu⟩,fun w H3 hy=>?_⟩
   obtain⟨p,v',u',hp,rfl,rfl,hall1,hall2⟩:=hy
   have q1:=hall1 us s1
   have q2:=hall2 ws s2
   rw[ev]at q1
   rw[eu]at q2
   cases q1
   cases q2
   exact⟨Ext.upd hp,[],fun b hb=>(nomatch hb),kE hp (rv.ext hx fun _ h=>h) (ru.ext hx fun _ h=>h)⟩
  ·exact q.elim
 ·exact q.elim)
theorem yr{els:List Expr}{x1}(hK:X.K=T.K)(hg:Gl X "zip")(hm:X.mg "zip" = none)(ha:SA X T W [a,b] ms)(hs:starEach [a,b] X.env=[(false,eval a X.env),(false,eval b X.env)]:=by rfl)(hs2:starEach [b] X.env=[(false,eval b X.env)]:=by rfl) :
  SI X T W (.Tuple els x1 tpos) (.Call (.Name "zip" p) [a,b] [] pos) (nv ms):=fun pins s σ H R I h=>sO hg hm ha hs hs2 pins s σ H R I (by
 obtain⟨Z,F,env,fp,S,q⟩:=h
 unfold nv at q
 refine tA.bind S (fun c e=>by rw[e]at q;exact q) (fun e=>by rw[e]at q;exact q) fun zs vs H1 F1 f1 e1 g1 r1 n1 d1 w1=>?_
 rw[e1]at q
 simp only[Res.ok_bind]at q
 have S1:=S.grow g1
 split at q
 ·rename_i f xs g ys
  split at q
  ·rename_i hc
   simp only[Bool.and_eq_true]at hc
   obtain⟨⟨⟨c1,c2⟩,c3⟩,c4⟩:=hc
   unfold RelL at r1
   obtain⟨v1,ws,f2,f3,rfl,ra,rb,e1⟩:=r1
   obtain⟨v2,rfl,rc⟩:=rb.one
   unfold Rel at ra rc
   obtain⟨a1,us,fp1,rfl,hl1,hr1,hf1⟩:=ra
   obtain⟨a2,ws,fp2,rfl,hl2,hr2,hf2⟩:=rc
   obtain⟨rfl,hr1'⟩:=dh c3 hr1
   obtain⟨rfl,hr2'⟩:=dh c4 hr2
   rw[hK]
   refine⟨a1,a2,us,ws,rfl,hl1.sq,hl2.sq,q _ H1 F1 g1 fun H2 hk=>?_⟩
   have na1:f≠.mod->∀o,H1 a1=some o->H2 a1=some o:=fun hn o ho=>by
    refine hk a1 o ho ?_
    cases f with
    | own =>
     rintro⟨i,hi⟩
     obtain⟨_,o',ho'⟩:=S.dis i a1 hi
     obtain rfl:f2=[a1]:=hf1
     rw[w1 a1 (by rw[e1];simp)]at ho';cases ho'
    | frz=>exact S1.fow a1 hl1.1
    | bor=>exact S1.bow a1 hl1.1
    | lnt=>exact absurd c1 (by decide)
    | mod=>exact absurd rfl hn
   have na2:g≠.mod->∀o,H1 a2=some o->H2 a2=some o:=fun hn o ho=>by
    refine hk a2 o ho ?_
    cases g with
    | own =>
     rintro⟨i,hi⟩
     obtain⟨_,o',ho'⟩:=S.dis i a2 hi
     obtain rfl:f3=[a2]:=hf2
     rw[w1 a2 (by rw[e1];simp)]at ho';cases ho'
    | frz=>exact S1.fow a2 hl2.1
    | bor=>exact S1.bow a2 hl2.1
    | lnt=>exact absurd c2 (by decide)
    | mod=>exact absurd rfl hn
   have s1:SqL T.K H2 a1 us:=by
    by_cases hn:f=.mod
    ·subst hn;exact .inr hl1
    ·exact .inl (Rd.tr (na1 hn) (hl1.rd hn))
   have s2:SqL T.K H2 a2 ws:=by
    by_cases hn:g=.mod
    ·subst hn;exact .inr hl2
    ·exact .inl (Rd.tr (na2 hn) (hl2.rd hn))
   have ln1:=hr1.length
   have ln2:=hr2.length
   refine⟨fun i x ex=>?_,⟨us,ws,s1,s2,by rw[jg];omega⟩⟩
   obtain⟨x1,y1,ex1,ey1,rfl⟩:=jh xs ys i ex
   obtain⟨v,ev,rv⟩:=jc hr1' ex1
   obtain⟨u,eu,ru⟩:=jc hr2' ey1
   refine⟨⟨us,ws,v,u,s1,s2,ev,eu⟩,fun w H3 hy=>?_⟩
   obtain⟨p,v',u',hp,rfl,rfl,hall1,hall2⟩:=hy
   have q1:=hall1 us s1
   have q2:=hall2 ws s2
   rw[ev]at q1
   rw[eu]at q2
   cases q1
   cases q2
   exact⟨Ext.upd hp,kE hp (dY S1.fow S1.bow S1.oow hk hr1' ex1 ev) (dY S1.fow S1.bow S1.oow hk hr2' ey1 eu)⟩
  ·exact q.elim
 ·exact q.elim)
variable{pins:List (Addr×Obj)}{s:Shared}
def B0(vs:List V)(P:V->Prop):Prop:=match vs with
 | [v]=>P v
 | _=>False
theorem v_(h:B0 vs P):∃v,vs=[v]/\P v:=by
 match vs,h with
 | [v],h=>exact⟨v,rfl,h⟩
end
open AutoSeq1 (wpAny_loadPart')
section
variable{prog:Program}{w:World}{A:Around}{E:Value->Shared->Prop}{s:Shared}
theorem dK1(a:Value):checkTypeCall "enumerate" ⟨[a],[]⟩=pure ():=by kernel_rfl
theorem dK2(a:Value):checkBuiltinCall "enumerate.__new__" ⟨[.type "enumerate", a],[]⟩=pure ():=by kernel_rfl
theorem dK3(a b:Value):argsOk "object.__init__" ⟨[a,b],[]⟩:=by
 unfold argsOk
 rw[signature?_of (id := "object.__init__") (n:=['_','_','t','i','n','i','_','_']) (o:=['t','c','e','j','b','o']) (by kernel_rfl) F.owner_object]
 kernel_rfl
theorem z8(n:String)(l:Addr) :
  Meets (Builtin.«enumerate.__new__» ⟨[.type "enumerate", .ref l],[]⟩) (fun _ R s=>ve n l s/\R (.ok (.ret (.ref (s.heap.push (itO n l)).objs.size))) { s with heap:=(s.heap.push (itO n l)).push (enO s.heap.objs.size 0) }) :=
 .of_wp fun pr w A R s0 h=>by
  obtain⟨hp,g,d,tk,os⟩:=s0
  obtain⟨hI,h⟩:=h
  have hsub:=sub_enumerate
  have hJ:∀{Q:Value->Shared->Prop}{E:Value->Shared->Prop},Q (.ref hp.objs.size) ⟨hp.push (itO n l),g,d,tk,os⟩->wpAny (model pr w) A.in1 (pyIter (.ref l)) Q E ⟨hp,g,d,tk,os⟩:=fun {Q E} q=>hI pr w A.in1 Q E q
  have hJ':∀{Q:Value->Shared->Prop}{E:Value->Shared->Prop},Q (.ref hp.objs.size) ⟨hp.push (itO n l),g,d,tk,os⟩->wpAny (model pr w) A (pyIter (.ref l)) Q E ⟨hp,g,d,tk,os⟩:=fun {Q E} q=>hI pr w A Q E q
  wp_walk
  refine wpAny_stack_any fun st=>wpAny_pure ?_
  split<;>try (rename_i c _ _ _ _ _;cases(c==Value.type "enumerate"))
  all_goals (wp_walk using hJ,hJ')
  all_goals exact⟨_,rfl,h⟩
theorem xh(hI:ve n l s)(h:Q (.ref (s.heap.objs.size+1)) { s with heap:=(s.heap.push (itO n l)).push (enO s.heap.objs.size 0) }) :
  wpAny (model prog w) A (call (.type "enumerate") [.ref l] []) Q E s:=by
 have hz:(s.heap.push (itO n l)).objs.size=s.heap.objs.size+1:=Heap.size_push ..
 refine kU (Q1:=fun ob s1=>s1.TypeIs ob "enumerate" /\ Q ob s1) F.called_enumerate (dK1 _) (dK2 _) F.entry_enumerate_new F.entry_object_init (z8 n l) ⟨hI,?_⟩ fun ob s1 hq=>⟨hq.1,dK3 ob _,_,CF F.called_enumerate.init.lookup F.called_enumerate.made (by decide),hq.1,rfl,hq.2⟩
 show _/\_
 rw[hz]
 have:=Heap.get?_push_size (s.heap.push (itO n l)) (o:=enO s.heap.objs.size 0) rfl
 rw[hz]at this
 exact⟨⟨_,this,rfl⟩,h⟩
end
def dX(m:ME):MI:=fun env=>(m env).bind fun x=>match x with
 | .lst f xs=>if !f.isLnt&&d7 xs then .ok (enP 0 xs)else .stuck
 | .tup xs=>if d7 xs then .ok (enP 0 xs)else .stuck
 | _=>.stuck
section
variable{X:Cx}{T:Tb}{W:Nat->St->Hp->Prop}{Z:Zn}{F F1 B L:Addr->Prop}{H H1:Hp}{σ:St}{env:En}{fp:Nat->List Addr}{pins:List (Addr×Obj)}{s:Shared}
theorem sQ{x1}(hg:Gl X "enumerate")(hm:X.mg "enumerate" = none)(hl:PE X l tl)(hs:starEach [l] X.env=[(false,eval l X.env)]:=by rfl) :
  PI X (.Tuple els x1 tpos) (.Call (.Name "enumerate" p) [l] [] pos) (fun σ H R=>tl σ H fun x H1=>∃a tp xs,[x]=[V.ref a]/\Sq tp X.K H1 a xs/\R (Ite tp X.K 0 a) H1):=by
 intro pins s σ H R I h
 refine PyProof.Rows.Call_ (fU I hg hm xk (PyProof.Rows.callWith_type1 (thn (bZ (te:=tl) hl eH (by rw[hs];rfl) pos pins s σ H (fun vs H1=>∃a tp xs,vs=[.ref a]/\Sq tp X.K H1 a xs/\R (Ite tp X.K 0 a) H1) I h) fun us s2 ⟨vs,H1,I2,r1,a,tp,xs,ev,hq,q⟩=>?_) (by rw[hs];rfl) rfl))
 subst ev
 obtain⟨u,rfl,rx⟩:=gj r1
 cases rx
 have hI:∃n,ve n a s2/\∀h',h'.get? s2.heap.objs.size=some (itO n a)->xu tp h' s2.heap.objs.size a 0:=by
  cases tp with
  | false =>
   obtain⟨its,rv,pl,_⟩:=I2.list hq
   exact⟨"list_iterator", fun _ _ _ _ _ q=>wpAny_pyIter_list pl.isList q,fun h' e=>⟨_,e,rfl,rfl⟩⟩
  | true =>
   obtain⟨its,rv,pl,_⟩:=I2.tuple hq
   exact⟨"tuple_iterator", fun _ _ _ _ _ q=>wpAny_pyIter_tuple (show s2.heap.IsTuple a its.toArray from pl) q,fun h' e=>⟨_,e,rfl,rfl⟩⟩
 obtain⟨n,hI,hA⟩:=hI
 have hz:(s2.heap.push (itO n a)).objs.size=s2.heap.objs.size+1:=Heap.size_push ..
 have he:((s2.heap.push (itO n a)).push (enO s2.heap.objs.size 0)).get? (s2.heap.objs.size+1)=some (enO s2.heap.objs.size 0):=by
  have:=Heap.get?_push_size (s2.heap.push (itO n a)) (o:=enO s2.heap.objs.size 0) rfl
  rw[hz]at this
  exact this
 refine xh hI (wpAny_pyIter_enum (i:=0) (old:=.none) he ?_)
 refine⟨s2.heap.objs.size+1,[s2.heap.objs.size+1,s2.heap.objs.size],_,_,H1,rfl,I2.kept (t':=s2.toks) fun b o e=>Heap.get?_push_of_some _ (Heap.get?_push_of_some _ e),qj tp 0 a _ _,⟨⟨.none,by simpa using he⟩,hA _ (Heap.get?_push_of_some _ (Heap.get?_push_size _ rfl))⟩,fun b hb=>?_,q⟩
 simp only[List.mem_cons,List.not_mem_nil,or_false]at hb
 rcases hb with rfl | rfl
 ·exact I2.fpOk (Nat.le_succ _) (I2.hok.fresh (Nat.le_succ _))
 ·exact I2.fpOk (Nat.le_refl _) (I2.hok.fresh (Nat.le_refl _))
theorem fJ{x1}(hK:X.K=T.K)(hg:Gl X "enumerate")(hm:X.mg "enumerate" = none)(he:SE X T W e m)(hs:starEach [e] X.env=[(false,eval e X.env)]:=by rfl) :
  SI X T W (.Tuple els x1 tpos) (.Call (.Name "enumerate" p) [e] [] pos) (dX m):=fun pins s σ H R I h=>sQ hg hm he hs pins s σ H R I (by
 obtain⟨Z,F,env,fp,S,q⟩:=h
 unfold dX at q
 refine tE.bind S (fun c e=>by rw[e]at q;exact q) (fun e=>by rw[e]at q;exact q) fun x v H1 F1 f1 e1 g1 r1 n1 d1 w1=>?_
 rw[e1]at q
 simp only[Res.ok_bind]at q
 have S1:=S.grow g1
 rw[hK]
 have key:∀(tp:Bool) (a:Addr) (xs:List PV) (vs:List V),RelL T F1 Z.B NoL H1 xs vs []->(∀H2,(∀a o,H1 a=some o->¬Own fp a->H2 a=some o)->Sq tp T.K H2 a vs)->ItR T F1 Z.B (Own fp) H1 (Ite tp T.K 0 a) (enP 0 xs):=by
  intro tp a xs vs hr hq H2 hk
  have hq2:=hq H2 hk
  refine⟨fun i x ex=>?_,⟨vs,hq2,by rw[fv,hr.length];exact Nat.le_refl _⟩⟩
  rw[fw]at ex
  obtain⟨y,ey,rfl⟩:=Option.map_eq_some_iff.mp ex
  obtain⟨v,_,ev,_,_⟩:=hr.get ey
  refine⟨⟨vs,v,hq2,ev⟩,fun w H3 hy=>?_⟩
  obtain⟨p,y',hp,rfl,rfl,hall⟩:=hy
  have:=hall vs hq2
  rw[ev]at this
  cases this
  exact⟨Ext.upd hp,sr hp (dY S1.fow S1.bow S1.oow hk hr ey ev)⟩
 cases x with
 | lst f xs =>
  dsimp only at q
  by_cases hc:(!f.isLnt&&d7 xs)=true
  ·rw[if_pos hc]at q
   rw[Bool.and_eq_true]at hc
   unfold Rel at r1
   obtain⟨a,vs,fp',rfl,hl,hr,hf⟩:=r1
   obtain⟨rfl,hr'⟩:=dh hc.2 hr
   refine⟨a,false,vs,rfl,hl.sq,q _ H1 F1 g1 (key false a xs vs hr' fun H2 hk=>?_)⟩
   have na:f≠.mod->∀o,H1 a=some o->H2 a=some o:=fun hn o ho=>by
    refine hk a o ho ?_
    cases f with
    | own =>
     rintro⟨i,hi⟩
     obtain⟨_,o',ho'⟩:=S.dis i a hi
     obtain rfl:f1=[a]:=hf
     rw[w1 a List.mem_cons_self]at ho';cases ho'
    | frz=>exact S1.fow a hl.1
    | bor=>exact S1.bow a hl.1
    | lnt=>exact absurd hc.1 (by decide)
    | mod=>exact absurd rfl hn
   show SqL T.K H2 a vs
   by_cases hn:f=.mod
   ·subst hn;exact .inr hl
   ·exact .inl (Rd.tr (na hn) (hl.rd hn))
  ·rw[if_neg hc]at q;exact q.elim
 | tup xs =>
  dsimp only at q
  by_cases hc:d7 xs=true
  ·rw[if_pos hc]at q
   unfold Rel at r1
   obtain⟨a,vs,rfl,hl,hr⟩:=r1
   obtain⟨rfl,hr'⟩:=dh hc hr
   refine⟨a,true,vs,rfl,hl,q _ H1 F1 g1 (key true a xs vs hr' fun H2 hk=>?_)⟩
   exact SqT.tr (fun o ho hfx=>hk a o ho fun z=>by
    have:=S1.oow a o z ho
    cases o with
    | lst _ | ins _ _ _=>exact hfx
    | _=>exact this) hl
  ·rw[if_neg hc]at q;exact q.elim
 | _=>exact q.elim)
end
def nJ(P:Params):List DictEntry->List (Str×Int)->Prop
 | [],[]=>True
 | e::es,kv::kvs=>(∃t u,e=⟨PyData.keyHash P kv.1,.str kv.1 t,.int kv.2 u⟩)/\nJ P es kvs
 | _,_=>False
structure iR(w:World)(K:PySem.W.Frag)(d:Addr)(kvs:List (Str×Int)):Prop where
 ne:(d==sysModules)=false
 ex:∃(es:List DictEntry) (ep:Nat),K.lookup d=some { cls:=.type "dict", dict:=none,data:=.dict es.toArray ep,slots:=#[] }/\nJ w.params es kvs
def look(kvs:List (Str×Int))(k:Str):Option Int:=(kvs.find? fun p=>p.1==k).map (·.2)
def CV(f:Str->Option Value)(kvs:List (Str×Int)):Prop:=∀k,match look kvs k with
 | some i=>∃u,f k=some (.int i u)
 | none=>f k=none
theorem p7:∀{es:List DictEntry}{kvs:List (Str×Int)},nJ P es kvs->CV (fun k=>(es.find? fun e=>Value.isStrOf k e.key).map (·.val)) kvs
 | [],[],_=>fun k=>rfl
 | [],_::_,h | _::_,[],h=>h.elim
 | e::es,kv::kvs,h=>fun k=>by
  obtain⟨⟨t,u,rfl⟩,h2⟩:=h
  have ih:=p7 h2 k
  simp only[look,List.find?_cons,Value.isStrOf]at ih ⊢
  by_cases q:(kv.1==k)=true
  ·simp only[q,Option.map_some]
   exact⟨u,rfl⟩
  ·simp only[q]
   exact ih
theorem nH:∀{es:List DictEntry}{kvs:List (Str×Int)},nJ P es kvs->∀e∈es,∃k t,e.key=.str k t/\e.hash=PyData.keyHash P k
 | [],_,_=>fun e he=>nomatch he
 | _::_,[],h=>h.elim
 | e::es,kv::kvs,h=>fun e' he=>by
  obtain⟨⟨t,u,rfl⟩,h2⟩:=h
  rcases List.mem_cons.mp he with rfl | he
  ·exact⟨kv.1,t,rfl,rfl⟩
  ·exact nH h2 e' he
theorem iR.map(hD:iR w K d kvs)(hI:K.In h):∃f,h.MapOf (strKind prog w) d f/\CV f kvs:=by
 obtain⟨es,ep,hl,he⟩:=hD.ex
 refine⟨_,⟨_,es.toArray,ep,hI _ _ hl,⟨rfl,rfl,rfl⟩,rfl,fun e hm=>?_,fun k=>rfl⟩,?_⟩
 ·obtain⟨k,t,h1,h2⟩:=nH he e (by simpa using hm)
  refine⟨k,?_,h2⟩
  rw[h1]
  show(k==k)=true
  simp
 ·intro k
  have:=p7 he k
  simpa[findBy,strKind]using this
section
variable{X:Cx}{T:Tb}{W:Nat->St->Hp->Prop}{Z:Zn}{F F1 B L:Addr->Prop}{H H1:Hp}{σ:St}{env:En}{fp:Nat->List Addr}{d:Addr}{kvs:List (Str×Int)}
def pq(d:Addr)(kvs:List (Str×Int)):R2:=fun x y H Q=>∃k,x=.str k/\y=.ref d/\Q (.bl (!(look kvs k).isSome)) H
theorem za(hD:iR X.w X.K d kvs):OpR X (compareOp .NotIn) (pq d kvs):=by
 intro pins s σ H x y v u Q I rx ry h
 obtain⟨k,rfl,rfl,q⟩:=h
 obtain⟨t,rfl⟩:=rx
 cases ry
 obtain⟨f,hm,hf⟩:=hD.map (prog:=X.prog) I.kIn
 refine wpAny_notIn_of (knd:=strKind X.prog X.w) (k:=k) (by show(k==k)=true;simp) hD.ne hm ⟨.bl (!(look kvs k).isSome),H,I.tok _,?_,q⟩
 have:=hf k
 cases e:look kvs k with
 | none=>rw[e]at this;rw[show f k=none from this];rfl
 | some i =>
  rw[e]at this
  obtain⟨u,hu⟩:=this
  rw[hu]
  rfl
def xI(d:Addr)(kvs:List (Str×Int)):R2:=fun x y H Q=>∃k i,x=.ref d/\y=.str k/\look kvs k=some i/\Q (.int i) H
theorem wC(hD:iR X.w X.K d kvs):IxR X (xI d kvs):=by
 intro value slice pins s σ H x y v u Q I rx ry h hs
 obtain⟨k,i,rfl,rfl,e,q⟩:=h
 cases rx
 obtain⟨t,rfl⟩:=ry
 obtain⟨f,hm,hf⟩:=hD.map (prog:=X.prog) I.kIn
 have:=hf k
 rw[e]at this
 obtain⟨u,hu⟩:=this
 exact PyProof.Rows.subscriptTail_builtinR (x:=.int i u) hm.typeIs PySem.F.slot_dict_getitem.lookup
  (wpAny_getItem_of (knd:=strKind X.prog X.w) (k:=k) (Q:=fun r s'=>r=.int i u/\EP X pins σ Q r s') (by show(k==k)=true;simp) hm hu ⟨rfl,.int i,H,I.tok _,⟨u,rfl⟩,q⟩) hs
def i6(kvs:List (Str×Int)):PV->Res PV
 | .str k=>.ok (.bl (!(look kvs k).isSome))
 | _=>.stuck
def mZ(kvs:List (Str×Int)):PV->Res PV
 | .str k=>(match look kvs k with
  | some i=>.ok (.int i)
  | none=>.stuck)
 | _=>.stuck
theorem oE:xq T W (i6 kvs) (fun x H Q=>pq d kvs x (.ref d) H Q):=by
 intro B F L σ H Q F' H' x v fx g rx nf nd new q
 cases x with
 | str k =>
  unfold Rel at rx
  exact⟨k,rx.1,rfl,q.scal g gR⟩
 | _=>exact q.elim
theorem tV:xq T W (mZ kvs) (fun x H Q=>xI d kvs (.ref d) x H Q):=by
 intro B F L σ H Q F' H' x v fx g rx nf nd new q
 cases x with
 | str k =>
  unfold Rel at rx
  unfold mZ at q
  dsimp only at q
  cases e:look kvs k with
  | none=>rw[e]at q;exact q.elim
  | some i=>rw[e]at q;exact⟨k,i,rfl,rx.1,e,q.scal g d6⟩
 | _=>exact q.elim
theorem vK(hg:Gl X x)(hm:X.mg x=some (.ref d))(hD:iR X.w X.K d kvs)(he:SE X T W e m)(hs:de e)(hd:(x ==("__debug__" : Str))=false:=by decide):SE X T W (.Subscript (.Name x px) e pos) (mUn (mZ kvs) m) :=
 PE.wk (mY (pos:=pos) (wC hD) (ly (v:=.ref d) (pos:=px) hg hm rfl hd) he hs) fun _ _ _ h=>tE.mir1 tV h
theorem qm(hg:Gl X x)(hm:X.mg x=some (.ref d))(hD:iR X.w X.K d kvs)(he:SE X T W e m)(hd:(x ==("__debug__" : Str))=false:=by decide):ST X T W (.Compare e [.NotIn] [.Name x px] pos) (aw (mUn (i6 kvs) m)) :=
 PT.wk (pB (pos:=pos) (za hD) he (ly (v:=.ref d) (pos:=px) hg hm rfl hd) rfl) fun σ H Q h=>by
  obtain⟨Z,F,env,fp,S,q⟩:=tT.test h
  exact tE.mir1 oE ⟨Z,F,env,fp,S,q⟩
end
def oI(i j:Nat):MS:=fun env=>match env[i]?,env[j]? with
 | some (some v),some (some w)=>if i=j then .stuck else .ret (.tup [v,w])
 | _,_=>.stuck
section
variable{X:Cx}{T:Tb}{W:Nat->St->Hp->Prop}{Z:Zn}{F F1 B L:Addr->Prop}{H H1:Hp}{σ:St}{env:En}{fp:Nat->List Addr}{D:Ends}
theorem rP{x1}(hN:X.N[i]?=some x)(hv:Vis X.env.scope x)(hN2:X.N[j]?=some y)(hv2:Vis X.env.scope y)(hd:(x ==("__debug__" : Str))=false:=by decide)(hcd:(x ==("__classdict__" : Str))=false:=by decide)(hd2:(y ==("__debug__" : Str))=false:=by decide)(hcd2:(y ==("__classdict__" : Str))=false:=by decide) :
  SS X T W (.Return (some (.Tuple [.Name x px,.Name y py] x1 tpos)) pos) (oI i j) :=
 PS.wk (iy (pos:=pos) (ox (pos:=tpos) (bZ (te:=rF i) (cu (pos:=px) hN hv hd hcd) (bZ (te:=rF j) (cu (pos:=py) hN2 hv2 hd2 hcd2) eH)))) fun D σ H ⟨Z,F,env,fp,S,q⟩=>by
  unfold oI at q
  split at q
  case h_2=>exact q.elim
  rename_i pv pw ei ej
  split at q
  case isTrue=>exact q.elim
  rename_i hij
  obtain⟨v,e1,r1⟩:=S.rel i pv ei
  obtain⟨w,e2,r2⟩:=S.rel j pw ej
  refine⟨v,e1,w,e2,o8 (by simp),fun p hp=>?_⟩
  have g:Gr F H F (upd H p (.tup [v,w])):=Gr.same S.hp.ft (Ext.upd hp)
  have S2:=S.grow g
  obtain⟨v',e1',r1'⟩:=S2.rel i pv ei
  obtain⟨w',e2',r2'⟩:=S2.rel j pw ej
  rw[e1]at e1'
  cases e1'
  rw[e2]at e2'
  cases e2'
  refine q F (upd H p (.tup [v,w])) (.ref p) (fp i++fp j) S2.hp ?_ (List.nodup_append.mpr ⟨S.nd i,S.nd j,fun a ha b hb z=>?_⟩) (fun a ha=>?_) (fun a ha=>?_)
  ·unfold Rel
   refine⟨p,_,rfl,SqT.of bq,?_⟩
   unfold RelL
   refine⟨v,[w],fp i,fp j,rfl,r1',?_,rfl⟩
   unfold RelL
   exact⟨w,[],fp j,[],rfl,r2',by unfold RelL;exact⟨rfl,rfl⟩,by simp⟩
  ·subst z
   exact S.dj i j hij a ha hb
  ·rcases List.mem_append.mp ha with h | h
   ·exact(S2.dis i a h).1
   ·exact(S2.dis j a h).1
  ·rcases List.mem_append.mp ha with h | h
   ·exact S.new i a h
   ·exact S.new j a h
variable{P:Program}{w:World}{mg:Str->Option Value}{base:Heap}
theorem zP(F:Fun T.K x qual st f fd)(S:b_ N ps (am st))
  (body:∀ (cdv:Value) (A:Around) (outer:List Env) (s:Shared) (H:Hp) (E:XK),Ctx (cH (CXP P w) P w T.K mg base N qual (am st) f cdv A outer s H E) T (WD T E) k ->
   SSs (cH (CXP P w) P w T.K mg base N qual (am st) f cdv A outer s H E) T (WD T E) (aP st) m):bS P w T.K mg base (CXP P w) (k+1) f fd ps (spM T ps.length (bG N.length m)) :=
 CM F S fun cdv A outer s H E hr=>body cdv A outer s H E (jd hr)
theorem wJ(F:Fun T.K x qual st f fd)(S:b_ N ps (am st))
  (body:∀ (cdv:Value) (A:Around) (outer:List Env) (s:Shared) (H:Hp) (E:XK),Ctx (cH (CXP P w) P w T.K mg base N qual (am st) f cdv A outer s H E) T (WD T E) k ->
   SSs (cH (CXP P w) P w T.K mg base N qual (am st) f cdv A outer s H E) T (WD T E) (aP st) m):bS P w T.K mg base (CXP P w) (k+1) f fd ps (spI T ps.length (mT N.length m)) :=
 zR F S fun cdv A outer s H E hr=>body cdv A outer s H E (jd hr)
variable{prog:Program}{A:Around}{E:Value->Shared->Prop}{s:Shared}
abbrev emL(c:Nat):Obj:={ cls:=.type "list", data:=.seq #[] c }
abbrev fuL(xs:Array Value)(c:Nat):Obj:={ cls:=.type "list", dict:=none,data:=.seq xs c,slots:=#[] }
theorem t6:typeLookup (.type "list_reverseiterator") "__len__" = pure none:=by
 rw[typeLookup_type,builtinLookup_eq_fast];kernel_rfl
theorem wu:typeLookup (.type "list_reverseiterator") "__length_hint__" = pure (some (.builtin "list_reverseiterator.__length_hint__")):=by
 rw[typeLookup_type,builtinLookup_eq_fast];kernel_rfl
def xB(items:Array Value)(i:Nat)(v:Value):Prop:=items[items.size - 1 - i]?=some v
theorem z5(hh:A.handled=none)(hS:s.heap.get? S=some (emL c₀))(hit:s.heap.IsRevIter it l ((items.size:Int) - 1))(hl:s.heap.IsList l items)(hne:l≠it)(hSi:S≠it)(hSl:S≠l)(hz:items.size<=1000000)
  (hR:∀h' tk acc c,(∀b o,b≠S->b≠it->s.heap.get? b=some o->h'.get? b=some o)->h'.get? S=some (fuL acc c)->ItemsOf (xB items) acc items.size->R (.ok (.ret .none)) { s with heap:=h',toks:=tk }) :
  wpAny (model prog w) A.in1 (Builtin.List.listExtendWith (.ref S) (.ref it) .none)
   (fun fin s'=>match fin with | .done f=>R (.ok f) s' | .again c'=>c'.quiet=true/\codeAny (model prog w) A c' R s') (fun e s'=>R (.error e) s') s:=by
 have W:=(Walks.listRev (prog:=prog) (w:=w) (A:=A.in1) hh it l hne items).toS
 have n1:Builtin.List.listSameRef (.ref S) (.ref it)=false:=by simp[Builtin.List.listSameRef,hSi]
 unfold Builtin.List.listExtendWith
 refine wpAny_bind (wpAny_typeOf hit.typeIs ?_);rw[if_neg (by rw[n1];decide)]
 refine wpAny_bind (wpAny_pyIter_revIter hit (wpAny_bind (wpAny_holding ?_)));unfold Builtin.List.listLengthHint
 refine wpAny_bind (wpAny_specialOf hit.typeIs t6 ?_)
 show wpAny _ _ (specialOf (.ref it) (Str.ofString "__length_hint__") >>= _) _ _ s;refine wpAny_bind (wpAny_specialOf hit.typeIs wu ?_)
 generalize hid:("list_reverseiterator.__length_hint__" : String)=id0
 wp_delta
 rw[show splitId id0=some ("list_reverseiterator", "__length_hint__")from by subst hid;decide +kernel]
 subst hid
 refine wpAny_bind (wpAny_isInstance (b:=true) hit.typeIs (by rw[isSubtype_type];kernel_rfl) (wpAny_pure ?_));rw[if_neg (by decide)]
 refine wpAny_pure ⟨plainId_quiet F.plain_extend_loop _,codeAny_extend_loopS W (by rw[sizeLine_eq];omega) S (by simp[hSi,hSl]) .none items.size 0 s #[] c₀ rfl (Nat.zero_le _) ⟨Nat.zero_le _,by simpa using hit,hl⟩ hS (ItemsOf.nil _) fun s' acc c hm hS' ha=>?_⟩
 rw[Moved.eq_with hm]
 exact hR s'.heap s'.toks acc c (fun b o h1 h2 e=>hm.heap b o (by simp[h1,h2]) e) hS' ha
theorem nQ(hh:A.handled=none)(hit:s.heap.IsRevIter it l ((items.size:Int) - 1))(hl:s.heap.IsList l items)(hne:l≠it)(hz:items.size<=1000000)
  (hQ:∀h' tk acc c,(∀b o,b≠it->s.heap.get? b=some o->h'.get? b=some o)->h'.get? s.heap.objs.size=some (fuL acc c)->ItemsOf (xB items) acc items.size->Q (.ref s.heap.objs.size) { s with heap:=h',toks:=tk }) :
  wpAny (model prog w) A (call (.type "list") [.ref it]) Q E s:=by
 have lt1:it < s.heap.objs.size:=by obtain⟨o,e,_⟩:=id hit;exact Heap.lt_size e
 have lt2:l < s.heap.objs.size:=by obtain⟨o,e,_⟩:=id hl;exact Heap.lt_size e
 refine callType_codes (Q₁:=fun ob s1=>ob=.ref s.heap.objs.size/\s1={ s with heap:=s.heap.push (emL 0) }) F.called_list (F.typeCall_list_1 _) F.entry_list_init (code_list_new _ ⟨rfl,rfl⟩) fun ob s1 hq=>?_
 obtain⟨rfl,rfl⟩:=hq
 have hS:(s.heap.push (emL 0)).get? s.heap.objs.size=some (emL 0):=Heap.get?_push_size _ rfl
 refine⟨⟨_,hS,rfl⟩,F.args_list_init_2 _ _,?_⟩
 show wpAny _ A.in1.in1 (Builtin.List.listItems (.ref s.heap.objs.size) >>= fun old=>Builtin.List.listUpdate (.ref s.heap.objs.size) (fun _=>#[]) >>= fun _=>letGo old.toList.reverse >>= fun _=>Builtin.List.listExtendWith (.ref s.heap.objs.size) (.ref it) .none) _ _ _
 refine wpAny_bind ?_;unfold Builtin.List.listItems
 refine wpAny_bind (wpAny_seqItems hS rfl (wpAny_pure (wpAny_bind ?_)))
 show wpAny _ A.in1.in1 (updateSeq s.heap.objs.size (fun _=>#[])) _ _ _;refine wpAny_updateSeq hS rfl (wpAny_bind (wpAny_letGo ?_))
 have hS2:=Heap.get?_update_self (Obj.mapSeq (fun _=>(#[]:Array Value))) hS rfl
 have ot:∀b o,b≠s.heap.objs.size->s.heap.get? b=some o->((s.heap.push (emL 0)).update s.heap.objs.size (Obj.mapSeq (fun _=>(#[]:Array Value)))).get? b=some o:=fun b o hb e=>(Heap.get?_update_other _ _ (Ne.symm hb)).trans (Heap.get?_push_of_some _ e)
 refine z5 (A:=A.in1) (c₀:=0) hh hS2 (hit.at fun o e=>ot _ o (Nat.ne_of_lt lt1) e) (hl.at fun o e=>ot _ o (Nat.ne_of_lt lt2) e) hne (Ne.symm (Nat.ne_of_lt lt1)) (Ne.symm (Nat.ne_of_lt lt2)) hz fun h' tk acc c kp e1 e2=>?_
 exact⟨rfl,hQ h' tk acc c (fun b o hb e=>kp b o (Nat.ne_of_lt (Heap.lt_size e)) hb (ot b o (Nat.ne_of_lt (Heap.lt_size e)) e)) e1 e2⟩
variable{pins:List (Addr×Obj)}
def rLR(K:PySem.W.Frag):V->Hp->VK->Prop:=fun v H Q=>∃(p:Addr) (ns:List Int),v=.ref p/\SqL K H p (ns.map V.int)/\ns.length<=1000000/\∀l,H l=none->Q (.ref l) (upd H l (.lst (ns.reverse.map V.int)))
theorem Al:bootBuiltins "reversed" = some (.type "reversed"):=by decide +kernel
theorem q8{ns:List Int}{its:List Value}(r:aG (ns.map V.int) its)(ha:ItemsOf (xB its.toArray) acc its.toArray.size):aG (ns.reverse.map V.int) acc.toList:=by
 have hl:its.length=ns.length:=by simpa using r.length.symm
 have hz:acc.size=ns.length:=by rw[ha.1];simpa using hl
 refine oZ _ _ (by simp[hz]) fun i x y e1 e2=>?_
 have hi:i < ns.length:=by
  have:=(List.getElem?_eq_some_iff.mp e1).1
  simpa using this
 have:=ha.2 i y (by simpa using e2)
 unfold xB at this
 obtain⟨t,rfl⟩:=fm r _ _ this
 rw[List.getElem?_map,List.getElem?_reverse hi]at e1
 have hk:ns.length - 1 - i < ns.length:=by omega
 rw[List.getElem?_eq_getElem hk]at e1
 cases e1
 refine⟨t,?_⟩
 have hs:its.toArray.size - 1 - i=ns.length - 1 - i:=by simp[hl]
 rw[hs]
 simp[hk]
theorem oy(hc:X.calm=true)(hg:Gl X "list")(hm:X.mg "list" = none)(hg2:Gl X "reversed")(hm2:X.mg "reversed" = none)(he:PE X e te)(hs:starEach [e] X.env=[(false,eval e X.env)]:=by rfl)
  (hs2:starEach [.Call (.Name "reversed" p2) [e] [] pos2] X.env=[(false,eval (.Call (.Name "reversed" p2) [e] [] pos2) X.env)]:=by rfl):PE X (.Call (.Name "list" p) [.Call (.Name "reversed" p2) [e] [] pos2] [] pos) (tUn (rLR X.K) te):=by
 intro pins s σ H Q I h
 refine PyProof.Rows.Call_ (fU I hg hm je (PyProof.Rows.callWith_type1 ?_ (by rw[hs2];rfl) rfl))
 rw[hs2]
 refine Calls.spliced_cons (PyProof.Rows.Call_ (fU I hg2 hm2 Al (PyProof.Rows.callWith_type1 (thn (bZ (te:=te) he eH (by rw[hs];rfl) pos2 pins s σ H (fun vs H1=>B0 vs fun v=>rLR X.K v H1 Q) I h) fun us s1 ⟨vs,H1,I1,r1,q1⟩=>?_) (by rw[hs];rfl) rfl)))
 obtain⟨v,rfl,a,ns,rfl,hq,hz,q⟩:=v_ q1
 obtain⟨u,rfl,rx⟩:=gj r1
 cases rx
 obtain⟨its,rv,pl,_⟩:=I1.list hq
 have hl:its.length=ns.length:=by simpa using rv.length.symm
 have lt:a < s1.heap.objs.size:=by obtain⟨o,e,_⟩:=id pl.isList;exact Heap.lt_size e
 refine call_reversed_list pl.isList (Calls.spliced_nil ?_)
 have hsz:(s1.heap.push (revObj a ((its.toArray.size:Int) - 1))).objs.size=s1.heap.objs.size+1:=Heap.size_push ..
 refine nQ (it:=s1.heap.objs.size) (l:=a) (items:=its.toArray) (I1.ok.hd hc) ⟨_,Heap.get?_push_size _ rfl,rfl,rfl⟩ (pl.isList.push _) (Nat.ne_of_lt lt) (by simp[hl];omega) fun h' tk acc c kp e1 e2=>?_
 rw[hsz]at e1 ⊢
 refine⟨.ref (s1.heap.objs.size+1),_,I1.laid (t':=tk) (fun b o e=>kp b o (Nat.ne_of_lt (Heap.lt_size e)) (Heap.get?_push_of_some _ e)) (Nat.le_succ _) ?_,rfl,q _ (I1.hok.fresh (Nat.le_succ _))⟩
 exact⟨by rw[sizeLine_eq];simp;omega,acc.toList,c,q8 rv e2,by simpa using e1⟩
def eS:PV->Res PV
 | .lst _ xs=>(match bz xs with
  | some ns=>if ns.length<=1000000 then .ok (.lst .own (ns.reverse.map .int))else .stuck
  | none=>.stuck)
 | _=>.stuck
theorem nh(hK:X.K=T.K):xq T W eS (rLR X.K):=by
 intro B F L σ H Q F' H' x v fx g rx nf nd new q
 cases x with
 | lst f xs =>
  unfold eS at q
  dsimp only at q
  cases e:bz xs with
  | none=>rw[e]at q;exact q.elim
  | some ns =>
   rw[e]at q
   dsimp only at q
   split at q
   case isFalse=>exact q.elim
   rename_i hz
   unfold Rel at rx
   obtain⟨a,vs,fp',rfl,hl,hr,hf⟩:=rx
   have hu:=cG e hr
   subst hu
   exact⟨a,ns,rfl,by rw[hK];exact hl.sq,hz,GE.newL q g (lh _) (fun _ h=>by cases h) .nil (fun _ h=>by cases h)⟩
 | _=>exact q.elim
theorem oi(hK:X.K=T.K)(hc:X.calm=true)(hg:Gl X "list")(hm:X.mg "list" = none)(hg2:Gl X "reversed")(hm2:X.mg "reversed" = none)(he:SE X T W e m)(hs:starEach [e] X.env=[(false,eval e X.env)]:=by rfl)
  (hs2:starEach [.Call (.Name "reversed" p2) [e] [] pos2] X.env=[(false,eval (.Call (.Name "reversed" p2) [e] [] pos2) X.env)]:=by rfl):SE X T W (.Call (.Name "list" p) [.Call (.Name "reversed" p2) [e] [] pos2] [] pos) (mUn eS m) :=
 PE.wk (oy hc hg hm hg2 hm2 he hs hs2) fun _ _ _ h=>tE.mir1 (nh hK) h
variable{F':Addr->Prop}{H':Hp}{js:List Nat}{t:Nat}
def AL(js:List Nat)(t:Nat)(σ:St)(env:En):Prop:=∀j∈js,env[j]?=some none->σ[j]?=σ[t]?
theorem AL.set{i:Nat}{v:V}{pv:PV}(h:AL js t σ env)(hi:i≠t):AL js t (σ.set i (some v)) (env.set i (some pv)):=fun j hj e=>by
 by_cases q:i=j
 ·subst q
  exfalso
  rw[List.getElem?_set]at e
  by_cases z:i < env.length<;>simp[z]at e
 ·rw[List.getElem?_set_ne q]at e ⊢
  rw[List.getElem?_set_ne hi]
  exact h j hj e
def GSA(T:Tb)(W:Nat->St->Hp->Prop)(js:List Nat)(t:Nat)(Z:Zn)(D:Ends):Out->Prop
 | .next e=>∀F H σ fp,ar T Z F H σ e fp->AL js t σ e->D.nx σ H
 | .ret pv=>GS T W Z D (.ret pv)
 | .brk e=>GS T W Z D (.brk e)
 | .cont e=>GS T W Z D (.cont e)
 | .exc c e=>GS T W Z D (.exc c e)
 | .stuck=>False
theorem GSA.of(h:GS T W Z D o):GSA T W js t Z D o:=by
 cases o with
 | next e=>exact fun F H σ fp S _=>h F H σ fp S
 | _=>exact h
end
end PR
namespace PR
open PySem PySem.Spec L2
section
variable{M:Model}{A:Around}{E:Value->Shared->Prop}{s:Shared}{B:Heap}{l:List Env}{e:Addr}{cls a0 fl:Value}
def CW(B:Heap)(l:List Env)(e:Addr)(cls a0 fl:Value)(h:Heap):Prop:=B.StaysIn h/\B.get? e=none/\h.FunFrames B l/\h.TracedAtW B e cls a0 fl
end
structure Ez(P:Program)(w:World)(outer:List Env)(H:Hp)(s:Shared)(cls:Value)(H':Hp)(e:Value)(s':Shared):Prop where
 os:s'.os=s.os
 bare:PyProof.Rows.AllBare s'.gens
 un:Un (frs outer) [] H H' s.heap s'.heap
 hok:HOk P w H' s'.heap
 fly:∃x a0 fl Bh,e=.ref x/\CW Bh outer x cls a0 fl s'.heap/\(∀b o u,H' b=some u->s'.heap.get? b=some o->Bh.get? b=some o)/\
  (∀b o o',s'.heap.get? b=some o->s.heap.get? b=some o'->b∉frs outer->Bh.get? b=some o)
def GSK(T:Tb)(W:Nat->St->Hp->Prop)(Z:Zn)(D:Ends)(σ0:St)(ks:List Nat):Out->Prop
 | .next e=>∀F H σ fp,ar T Z F H σ e fp->(∀j∈ks,σ[j]?=σ0[j]?)->D.nx σ H
 | .cont e=>∀F H σ fp,ar T Z F H σ e fp->(∀j∈ks,σ[j]?=σ0[j]?)->D.ct σ H
 | .brk e=>∀F H σ fp,ar T Z F H σ e fp->(∀j∈ks,σ[j]?=σ0[j]?)->D.bk σ H
 | .ret pv=>GS T W Z D (.ret pv)
 | .exc c e=>GS T W Z D (.exc c e)
 | .stuck=>False
def tSK(T:Tb)(W:Nat->St->Hp->Prop)(ks:List Nat)(m:MS):TS:=fun D σ H=>∃Z F env fp,ar T Z F H σ env fp/\GSK T W Z D σ ks (m env)
abbrev SSK(X:Cx)(T:Tb)(W:Nat->St->Hp->Prop)(ks:List Nat)(st:Stmt)(m:MS):Prop:=PS X st (tSK T W ks m)
section
variable{X:Cx}{T:Tb}{W:Nat->St->Hp->Prop}{Z:Zn}{F F1 B L:Addr->Prop}{H H1:Hp}{σ:St}{env:En}{fp:Nat->List Addr}{D:Ends}{ks:List Nat}
theorem SSK.ss(h:SSK X T W [] st m):SS X T W st m:=PS.wk h fun D σ H ⟨Z,F,env,fp,S,q⟩=>by
 refine⟨Z,F,env,fp,S,?_⟩
 cases e:m env with
 | next e' | cont e' | brk e'=>rw[e]at q;exact fun F H σ fp S' _=>q F H σ fp S'
 | ret v | exc c e' | stuck=>rw[e]at q;exact q
theorem ar.drop(S:ar T Z F H σ env fp)(h0:n≠0):ar T Z F H σ (env.set n none) (bj fp n []):=by
 refine⟨S.hp,by rw[List.length_set,S.len],fun i pv e=>?_,fun i=>?_,fun i j hij a ha hb=>?_,fun i a ha=>?_,fun i a ha=>?_,fun i a ha=>?_,fun v hv=>?_⟩
 ·by_cases hi:i=n
  ·subst hi
   rw[List.getElem?_set]at e
   simp at e
  ·rw[List.getElem?_set_ne (Ne.symm hi)]at e
   obtain⟨v,h1,h2⟩:=S.rel i pv e
   exact⟨v,h1,by unfold bj;rw[if_neg hi];exact h2⟩
 ·unfold bj;split;exact List.nodup_nil;exact S.nd i
 ·unfold bj at ha hb
  split at ha
  ·cases ha
  ·split at hb
   ·cases hb
   ·exact S.dj i j hij a ha hb
 ·unfold bj at ha;split at ha;cases ha;exact S.dis i a ha
 ·unfold bj at ha;split at ha;cases ha;exact S.new i a ha
 ·unfold bj at ha;split at ha;cases ha;exact S.ch i a ha
 ·obtain⟨h1,h2⟩:=S.pn v hv
  refine⟨h1,?_⟩
  unfold b8 at h2 ⊢
  rw[List.getElem?_set_ne h0];exact h2
structure Orp(Z:Zn)(F:Addr->Prop)(fp:Nat->List Addr)(f:List Addr):Prop where
 nd:f.Nodup
 nf:∀b∈f,¬F b
 new:∀b∈f,Z.H0 b=none\/Z.fp0 b
 dj:∀b∈f,∀j,b∉fp j
end
open AutoSeq1 (wpAny_loadPart')
structure nU(K:PySem.W.Frag)(x qual:Str)(st:Stmt)(f:Addr)(fd:FuncData)(dT:Addr)(ds:List Value):Prop where
 ex:∃(oc:Value) (od:Option Addr) (kV doc pm:Value) (an:Option Addr) (cdv ct:Value) (osl:Array (Option Value)),
  fd=PySem.W.fnOf x qual (bE st) (aP st) (am st) (.ref dT) kV doc pm an cdv ct/\K.lookup f=some ⟨oc,od,.func fd,osl⟩/\PySem.W.codeIn K cdv qual=true
 kp:PySem.W.keepIn K (.ref f)=true
 dl:∃(o:Obj) (n:Nat),K.lookup dT=some o/\o.data=.seq ds.toArray n
section
variable{P:Program}{w:World}{mg:Str->Option Value}{base:Heap}{T:Tb}
theorem zN(F:nU T.K x qual st f fd dT ds)(S:b_ N ps (am st))
  (body:∀ (cdv:Value) (A:Around) (outer:List Env) (s:Shared) (H:Hp) (E:XK),Ctx (cH (CXP P w) P w T.K mg base N qual (am st) f cdv A outer s H E) T (WD T E) k ->
   SSs (cH (CXP P w) P w T.K mg base N qual (am st) f cdv A outer s H E) T (WD T E) (aP st) m):bS P w T.K mg base (CXP P w) (k+1) f fd ps (spM T ps.length (bG N.length m)):=by
 obtain⟨oc,od,kV,doc,pm,an,cdv,ct,osl,rfl,lk,hcd⟩:=F.ex
 refine nD lk hcd S (fun vs H Q E h=>h.1) fun A outer s H vs Q E hr hsp=>⟨_,body cdv A outer s H E (jd hr),?_⟩
 obtain⟨_,pvs,F,B,fl,R,q⟩:=hsp
 obtain⟨fp,S0⟩:=gf N R none (fun _ h=>nomatch h)
 refine⟨_,F,_,fp,S0,?_⟩
 unfold bG at q
 cases e:m (pvs.map some++List.replicate (N.length - pvs.length) none)with
 | next e'=>rw[e]at q;exact fun F' H' σ' fp' S'=>q F' H' .non [] S'.hp yH List.nodup_nil (fun _ z=>(nomatch z)) (fun _ z=>(nomatch z))
 | ret v=>rw[e]at q;exact q
 | brk e' | cont e'=>rw[e]at q;exact q.elim
 | exc c e'=>rw[e]at q;exact fun F' H' σ' fp' S'=>q H' S'.hp.keep
 | stuck=>rw[e]at q;exact q.elim
theorem nU.binds(F:nU K x qual st f fd dT ds)
  (h:∀(kV doc pm:Value) (an:Option Addr) (cdv ct:Value) (us:List Value),(us++es).length=ps.length->∃k:Option (Array Value)->Sem (List (Str×Value)),bindArgs (PySem.W.fnOf x qual (bE st) (aP st) (am st) (.ref dT) kV doc pm an cdv ct) ⟨us,[]⟩=seqItems? (.ref dT) >>= k/\k (some ds.toArray)=pure (ps.zip (us++es))):cX K fd ps es:=by
 obtain⟨oc,od,kV,doc,pm,an,cdv,ct,osl,rfl,lk,hcd⟩:=F.ex
 obtain⟨o,n,lo,hd⟩:=F.dl
 intro s us KI hl
 obtain⟨k,h1,h2⟩:=h kV doc pm an cdv ct us hl
 exact BindsTo.of_defaults rfl (KI _ _ lo) hd h1 h2
variable{X:Cx}{W:Nat->St->Hp->Prop}{Z:Zn}{F F1 B L:Addr->Prop}{H H1:Hp}{σ:St}{env:En}{fp:Nat->List Addr}
theorem sd
  (G:bS X.prog X.w X.K X.mg X.base (CXP X.prog X.w) k f fd ps (spM T ps.length m)) (cx:Ctx X T W kk) (hk:k<=kk) (hg:Gl X x) (hm:X.mg x=some (.ref f)) (hkp:PySem.W.keepIn X.K (.ref f)=true) (hb:cX X.K fd ps ds) (hd:aG dvs ds) (hdp:∀F B L H,RelL T F B L H dps dvs [])
  (hn:dB ms n) (hps:n+dvs.length=ps.length) (ha:SA X T W (e::es) ms)
  (hdb:(x ==("__debug__" : Str))=false:=by decide) (he:starEach (e::es) X.env=(false,eval e X.env)::starEach es X.env:=by rfl) (hpl:(backTo pos (starEach es X.env)).any (·.1)=false:=by rfl) :
  SE X T W (.Call (.Name x p) (e::es) [] pos) (ak (fun xs=>ax m (xs++dps)) ms) :=
 pd (p:=p) (pos:=pos) G (cx.room.mono hk) hg hm hkp hb hd hdp cx.xf (fun env xs q=>by rw[hn env xs q];exact hps) ha hdb he hpl
theorem vn(b:Bool):aG [.bl b] [.bool b]:=.cons rfl .nil
theorem ph(b:Bool):∀F B L H,RelL T F B L H [.bl b] [.bl b] []:=fun F B L H=>by
 unfold RelL
 exact⟨_,_,[],[],rfl,gR,by unfold RelL;exact⟨rfl,rfl⟩,rfl⟩
theorem yE
  (G:bS X.prog X.w X.K X.mg X.base (CXP X.prog X.w) k f fd ps (spM T ps.length m)) (hr:cL k X.A) (hb:∀s:Shared,X.K.In s.heap->BindsTo s fd ⟨us,kw⟩ (ps.zip (us++ds))) (hd:aG dvs ds) (hdp:∀F B L H,RelL T F B L H dps dvs []) (hx:XF X T W)
  (S:ar T Z F H σ env fp) (g:Gr F H F1 H1) (r:RelL T F1 Z.B (Own fp) H1 xs vs fx) (nf:∀a∈fx,¬F1 a) (nd:fx.Nodup) (new:∀a∈fx,H a=none) (q:GE T W Z.B F (Own fp) σ H Q (ax m (xs++dps)))
  (I1:L2.Inv X pins σ H1 s1) (rv:aG vs us) (hlen:vs.length+dvs.length=ps.length):wpAny (model X.prog X.w) X.A (call (.ref f) us kw) (EP X pins σ Q) X.xe s1:=by
 have r2:aG (vs++dvs) (us++ds):=rv.append hd
 have hl:(us++ds).length=ps.length:=by rw[<- r2.length,List.length_append];exact hlen
 have rr:RelL T F1 Z.B (Own fp) H1 (xs++dps) (vs++dvs) fx:=by
  have:=RelL.append r (hdp F1 Z.B (Own fp) H1)
  rwa [List.append_nil]at this
 have hBo:∀a,Z.B a->(∃o,H1 a=some o)/\a∉fx:=fun a h=>by
  obtain⟨⟨o,h1⟩,h2⟩:=S.hp.bo a h
  have h3:=S.hp.keep a o h1 h2
  exact⟨⟨o,g.ext a o h3⟩,fun z=>by rw[new a z]at h3;cases h3⟩
 have hOw:∀a,Own fp a->(∃o,H1 a=some o)/\a∉fx:=fun a ⟨i,hi⟩=>by
  obtain⟨_,o,ho⟩:=S.dis i a hi
  exact⟨⟨o,g.ext a o ho⟩,fun z=>by rw[new a z]at ho;cases ho⟩
 have R:mG T F1 (fun a=>(∃o,H1 a=some o)/\a∉fx) H1 (mapL Fl.toBor (xs++dps)) (vs++dvs) fx:=⟨RelL.toBor hBo hOw rr,nd,nf,fun a h=>h,g.dom⟩
 refine wpAny_call (codeAny_mono (G.run X.A X.stack s1 H1 ⟨us,kw⟩ (us ++ ds) (vs ++ dvs) Q (fun cls _ H'=>∃ c,cls=.ref (T.xcl c)/\W c σ H') hr I1.env0 (hb s1 I1.kIn) r2
  ⟨by rw[r2.length,hl],_,F1,_,fx,R,?_⟩) fun rs s' hq=>?_)
 ·unfold ax at q
  cases e:m (mapL Fl.toBor (xs++dps))with
  | ok v =>
   rw[e]at q
   dsimp only at q
   intro F2 H2 u f2 hp2 r3 nd2 nf2 new2
   by_cases hbr:v.has Fl.isBor=true
   ·rw[if_pos hbr]at q;exact q.elim
   ·rw[if_neg hbr]at q
    have hbr':v.has Fl.isBor=false:=by simpa using hbr
    refine q u H2 F2 f2 ⟨fun a o h=>hp2.keep a o (g.ext a o h) fun z=>(by rw[new a z]at h;cases h),fun a h=>hp2.f0 a (g.mono a h),fun a h=>?_,hp2.ft⟩ ?_ nf2 nd2 fun a ha=>?_
    ·rcases hp2.fn a h with z | z | z
     ·exact g.only a z
     ·exact .inr (g.ext.free z)
     ·exact .inr (new a z)
    ·exact Rel.tr (fun _ h=>h) (fun _ h=>h) (fun _ h=>h.elim) (fun _ _ h _=>h) (fun _ _ _ h=>h) (Rel.noB (B':=Z.B) hbr' r3)
    ·rcases new2 a ha with z | z
     ·exact g.ext.free z
     ·exact new a z
  | exc c =>
   rw[e]at q
   exact fun H' h=>⟨c,rfl,q H' fun a o z=>h a o (g.ext a o z) fun z'=>by rw[new a z']at z;cases z⟩
  | stuck=>rw[e]at q;exact q.elim
 ·cases rs with
  | error e =>
   obtain⟨cls,H',fl,c,rfl,hw⟩:=hq
   exact hx pins σ H1 s1 c H' e s' I1 fl hw
  | ok fl =>
   cases fl with
   | ret u=>exact I1.after hq
   | next | brk | cont=>exact False.elim hq
def vh(K:PySem.W.Frag)(fd:FuncData)(ps:List Str)(kn:Str)(v:Value):Prop :=
 ∀(s:Shared) (us:List Value),K.In s.heap->us.length+1=ps.length->BindsTo s fd ⟨us,[(kn,v)]⟩ (ps.zip (us++[v]))
theorem r_{cj}
  (G:bS X.prog X.w X.K X.mg X.base (CXP X.prog X.w) k f fd ps (spM T ps.length m)) (cx:Ctx X T W kk) (hk:k<=kk) (hg:Gl X x) (hm:X.mg x=some (.ref f)) (hkp:PySem.W.keepIn X.K (.ref f)=true) (hb:vh X.K fd ps kn (.bool b))
  (hn:dB ms n) (hps:n+1=ps.length) (ha:SA X T W (e::es) ms)
  (hall:(backToKw pos (keywordEach [⟨some kn,.Constant (.bool b) cj cpos,kpos⟩] X.env)).all (·.1.isSome)=true:=by rfl) (hks:(backToKw pos (keywordEach [⟨some kn,.Constant (.bool b) cj cpos,kpos⟩] X.env)).filterMap (·.1)=[kn]:=by rfl)
  (hdb:(x ==("__debug__" : Str))=false:=by decide) (he:starEach (e::es) X.env=(false,eval e X.env)::starEach es X.env:=by rfl)
  (hpl:((backTo pos (starEach (e::es) X.env)).any (·.1) ||(backToKw pos (keywordEach [⟨some kn,.Constant (.bool b) cj cpos,kpos⟩] X.env)).any (·.1.isNone))=false:=by rfl) :
  SE X T W (.Call (.Name x p) (e::es) [⟨some kn,.Constant (.bool b) cj cpos,kpos⟩] pos) (ak (fun xs=>ax m (xs++[.bl b])) ms):=by
 intro pins s σ H Q I h
 obtain⟨Z,F,env,fp,S,q⟩:=h
 unfold ak at q
 refine wpAny_Call_Name_kw (fk I hg hm ?_ hdb)
 refine PySem.W.callWith_KW (h₀:=X.base) I.ok.mod.kin hkp hall (thn (ha pos pins s σ H (fun vs H1=>∀ us s1,L2.Inv X pins σ H1 s1->aG vs us->wpAny (model X.prog X.w) X.A (call (.ref f) us [(kn,.bool b)]) (EP X pins σ Q) X.xe s1) I
  (tA.bind S (fun c e=>by rw[e]at q;exact q) (fun e=>by rw[e]at q;exact q) fun xs vs H1 F1 f1 e1 g1 r1 n1 d1 w1 us s1 I1 rv=>?_)) fun us s1 ⟨vs,H1,I1,r,q1⟩=>?_) hpl he
 ·rw[e1]at q
  have hl:vs.length+1=ps.length:=by rw[<- r1.length,hn env xs e1];exact hps
  exact yE (ds:=[.bool b]) (dvs:=[.bl b]) (dps:=[.bl b]) G (cx.room.mono hk) (fun s2 K2=>hb s2 us K2 (by rw[<- rv.length];exact hl)) (.cons rfl .nil) (ph b) cx.xf S g1 r1 n1 d1 w1 q I1 rv hl
 ·rw[hks]
  refine thn (vX (t:=vw) sX yS pos pins s1 σ H1 (fun zs H2=>zs=[.bl b]/\H2=H1) I1 ⟨rfl,rfl⟩) fun ws s2 ⟨zs,H2,I2,rz,e1,e2⟩=>⟨I2.kIn,?_⟩
  subst e1 e2
  cases rz with
  | cons a t =>
   cases t
   cases a
   exact q1 us s2 I2 r
end
theorem nU.bindsK(F:nU K x qual st f fd dT ds)
  (h:∀(kV doc pm:Value) (an:Option Addr) (cdv ct:Value) (us:List Value),us.length+1=ps.length->∃k:Option (Array Value)->Sem (List (Str×Value)),bindArgs (PySem.W.fnOf x qual (bE st) (aP st) (am st) (.ref dT) kV doc pm an cdv ct) ⟨us,[(kn,v)]⟩=seqItems? (.ref dT) >>= k/\k (some ds.toArray)=pure (ps.zip (us++[v]))):vh K fd ps kn v:=by
 obtain⟨oc,od,kV,doc,pm,an,cdv,ct,osl,rfl,lk,hcd⟩:=F.ex
 obtain⟨o,n,lo,hd⟩:=F.dl
 intro s us KI hl
 obtain⟨k,h1,h2⟩:=h kV doc pm an cdv ct us hl
 exact BindsTo.of_defaults rfl (KI _ _ lo) hd h1 h2
def C_(i:Nat)(k:Int)(e:ME):MS:=fun env=>match e env with
 | .ok (.int z)=>(match env[i]? with
  | some (some (.tup xs))=>(match ixN xs.length k with
   | some n=>(match xs[n]? with
    | some (.lst .own ys)=>(match bz ys with
     | some ns=>if ns.length<=1000000 then .next (env.set i (some (.tup (xs.set n (.lst .own ((ns++[z]).map .int))))))else .stuck
     | none=>.stuck)
    | _=>.stuck)
   | none=>.stuck)
  | _=>.stuck)
 | _=>.stuck
def i8(i:Nat)(k:Int):MS:=fun env=>match env[i]? with
 | some (some (.tup xs))=>(match ixN xs.length k with
  | some n=>(match xs[n]? with
   | some (.lst .own _)=>.next (env.set i (some (.tup (xs.set n (.lst .own [])))))
   | _=>.stuck)
  | none=>.stuck)
 | _=>.stuck
section
variable{X:Cx}{T:Tb}{W:Nat->St->Hp->Prop}{Z:Zn}{F F1 B L:Addr->Prop}{H H1:Hp}{σ:St}{env:En}{fp:Nat->List Addr}{D:Ends}{ks:List Nat}
theorem Bk(S:ar T Z F H σ env fp)(eo:env[i]?=some (some (.tup xs))):∃a ws,σ[i]?=some (some (.ref a))/\SqT T.K H a ws/\RelL T F Z.B NoL H xs ws (fp i):=by
 obtain⟨v,h1,h2⟩:=S.rel i _ eo
 unfold Rel at h2
 obtain⟨a,ws,rfl,hl,hr⟩:=h2
 exact⟨a,ws,h1,hl,hr⟩
theorem Cg(S:ar T Z F H σ env fp)(eo:env[i]?=some (some (.tup xs)))(h1:σ[i]?=some (some (.ref a)))(hl:SqT T.K H a ws)(hr:RelL T F Z.B NoL H xs ws (fp i))(ey:xs[n]?=some (.lst .own ys)) :
  ∃b vs f1,ws[n]?=some (.ref b)/\H b=some (.lst vs)/\RelL T F Z.B NoL H ys vs f1 /\
   ∀ns:List Int,∃fp2,ar T Z F (upd H b (.lst (ns.map V.int))) σ (env.set i (some (.tup (xs.set n (.lst .own (ns.map .int)))))) fp2:=by
 obtain⟨b,f0,f1,f2,vs,efp,c1,c2,c3,c4⟩:=hr.nest ey
 refine⟨b,vs,f1,c1,c2,c3,fun ns=>?_⟩
 have ndf:(fp i).Nodup:=S.nd i
 have hbi:b∈fp i:=by rw[efp];simp
 have nFb:¬F b:=(S.dis i b hbi).1
 have nBb:¬Z.B b:=fun z=>S.bow b z ⟨i,hbi⟩
 have rout:=c4 (upd H b (.lst (ns.map V.int))) (ns.map .int) (ns.map V.int) [] ndf bq (lh ns) (fun c o q hn=>by rw[aF hn];exact q) nFb nBb
 have mem:∀c∈f0++[b]++ f2,c∈fp i:=fun c hc=>by
  rw[efp]
  simp only[List.mem_append,List.mem_cons,List.not_mem_nil,or_false]at hc ⊢
  rcases hc with(h | h) | h
  ·exact .inl (.inl h)
  ·exact .inl (.inr (.inl h))
  ·exact .inr h
 have ndn:(f0++[b]++ f2).Nodup:=by
  rw[efp]at ndf
  refine List.Nodup.sublist ?_ ndf
  refine List.Sublist.append (List.Sublist.append (List.Sublist.refl _) ?_) (List.Sublist.refl _)
  exact List.Sublist.cons_cons _ (List.nil_sublist _)
 have hil:i < env.length:=(List.getElem?_eq_some_iff.mp eo).1
 have fixb:∀o,H b=some o->¬hV o:=fun o h=>by
  rw[c2]at h
  cases h
  exact fun z=>z
 refine⟨_,S.mut (a:=b) (f':=f0++[b]++ f2) hil h1 hbi ?_ ndn (fun c hc=>(S.dis i c (mem c hc)).1) (fun c hc=>S.new i c (mem c hc)) (fun c hc t ht z=>S.dj i t (Ne.symm ht) c (mem c hc) z) fun o0 o1=>?_⟩
 ·unfold Rel
  refine⟨a,ws,rfl,?_,rout⟩
  exact SqT.tr (fun o h1 h2=>by
   have:a≠b:=fun z=>fixb o (by rw[<- z];exact h1) h2
   show upd H b _ a=_
   rw[aF this]
   exact h1) hl
 ·subst o0
  unfold b8 at o1
  rw[eo]at o1
  cases o1
theorem n6(hK:X.K=T.K)(hN:X.N[i]?=some x)(hv:Vis X.env.scope x)(hix:de (.Constant (.int k) jj py))
  (hs:swapsWith (.Call (.Attribute (.Subscript (.Name x px) (.Constant (.int k) jj py) spos) "clear" apos) [] [] cpos) none pos.line X.env=pure false:=by rfl)
  (hline:(apos.endLine==cpos.line)=true:=by rfl) (hd:(x ==("__debug__" : Str))=false:=by decide) (hcd:(x ==("__classdict__" : Str))=false:=by decide) :
  SSK X T W ks (.Expr (.Call (.Attribute (.Subscript (.Name x px) (.Constant (.int k) jj py) spos) "clear" apos) [] [] cpos) pos) (i8 i k) :=
 PS.wk (f7 (pos:=pos) (sV (cpos:=cpos) (apos:=apos) PySem.F.plainAttrs_list PySem.F.slot_list_clear PySem.F.type_list_clear ng (mY (pos:=spos) jO (cu (pos:=px) hN hv hd hcd) jz hix) rfl hline) hs) fun D σ H ⟨Z,F,env,fp,S,q⟩=>by
  unfold i8 at q
  split at q
  case h_2=>exact q.elim
  rename_i xs eo
  cases en:ixN xs.length k with
  | none=>rw[en]at q;exact q.elim
  | some n =>
  rw[en]at q
  dsimp only at q
  split at q
  case h_2=>exact q.elim
  rename_i ys ey
  obtain⟨a,ws,h1,hl,hr⟩:=Bk S eo
  have hlen:=hr.length
  obtain⟨b,vs,f1,hb1,hb2,hb3,hall⟩:=Cg S eo h1 hl hr ey
  have at_:atI ws k=some (.ref b):=by
   unfold atI
   rw[<- hlen,en]
   exact hb1
  obtain⟨fp2,S2⟩:=hall []
  exact⟨_,h1,.inr (.inl ⟨a,ws,k,.ref b,rfl,rfl,by rw[hK];exact hl,at_,.inl ⟨rfl,vs,by rw[hK];exact SqL.of hb2⟩,b,vs,rfl,rfl,hb2,q F _ σ fp2 S2 fun _ _=>rfl⟩)⟩
end
open PySem.W (findIn fnOf keepIn nsIn codeIn isFn Frag)
structure FS where
 q:Str
 s:Stmt
 k:Nat
 N:List Str
 c:Option Nat
def aO(s:Stmt):Str:=match s with
 | .FunctionDef n _ _ _ _ _ _ _ _ _=>n
 | _ => ""
structure PT where
 F:List FS
 C:List Str
 X:List Str
 A:List Str
 M:List (Nat×Str×Nat)
 Mk:List (Nat×Nat)
 U:List (Nat×Nat)
 B:List Str
 I:List (Str×Int)
 KT:List (Option Nat×String×List Bool)
 HT:List (Nat×List Bool)
def fs0:FS:=⟨"", .Pass ⟨0,0,0,0⟩,0,[],none⟩
def pk{α:Type}(d:α)(l:List α)(i:Nat):α:=l.getD i (l.headD d)
theorem e9{α:Type}{d:α}{p:α->Prop}{l:List α}(hl:l≠[])(h:∀x∈l,p x)(i:Nat):p (pk d l i):=by
 unfold pk
 rw[List.getD_eq_getElem?_getD]
 cases e:l[i]? with
 | some C=>exact h C (List.mem_of_getElem? e)
 | none =>
  cases l with
  | nil=>exact absurd rfl hl
  | cons a l=>exact h a List.mem_cons_self
section
variable(p:PT)(K:Frag)
def gAt(x:Str):Addr:=match nsIn K mainGlobals x with
 | some (some (.ref a))=>a
 | _=>0
def mAt(c:Addr)(x:Str):Addr:=match findIn K (.ref c) x with
 | some (some (.ref a))=>a
 | _=>0
def dAt(f:Addr):FuncData:=match K.lookup f with
 | some ⟨_,_,.func d,_⟩=>d
 | _=>default
def PT.fs(i:Nat):FS:=pk fs0 p.F i
def PT.ps(i:Nat):List Str:=(p.fs i).N.take (p.fs i).k
def PT.ca(c:Nat):Addr:=gAt K (pk "" p.C c)
def PT.xa(c:Nat):Addr:=gAt K (pk "" p.X c)
def PT.fx(x:FS):Addr:=match x.c with
 | none=>gAt K (aO x.s)
 | some c=>mAt K (p.ca K c) (aO x.s)
def PT.fa(i:Nat):Addr:=p.fx K (p.fs i)
def lit(x:FS):Obj->Obj
 |⟨oc,od,.func d,sl⟩=>⟨oc,od,.func (fnOf (aO x.s) x.q (bE x.s) (aP x.s) (am x.s) .none d.kwdefaults d.doc d.pyModule d.annotations d.code d.closureTuple),sl⟩
 | o=>o
def Cw:Option Obj->Bool
 | some ⟨_,_,.func _,_⟩=>true
 | _=>false
def scB(x:FS):Bool:=decide ((am x.s).kind=.function)&&!(am x.s).isCoroutine&&!(am x.s).isGenerator&&decide x.N.Nodup&&decide (x.k<=x.N.length) &&
 (x.N.take x.k).all (fun y=>decide ((am x.s).names.lookup y=some .local \/(am x.s).names.lookup y=some .cell))&&(am x.s).names.all (fun y=>decide (y.2≠.free))
def PT.chF(x:FS):Bool:=Cw (K.lookup (p.fx K x))&&codeIn K (dAt K (p.fx K x)).code x.q&&keepIn K (.ref (p.fx K x))&&(match x.c with | none=>decide (nsIn K mainGlobals (aO x.s)=some (some (.ref (p.fx K x)))) | some _=>true)
def chC(A:List Str)(x:Str):Bool:=PySem.W.plainGet K (gAt K x) Str.empty&&PySem.W.hasDictIn K (gAt K x)&&PySem.W.plainOver K (gAt K x)&&decide (findIn K (.ref (gAt K x)) "__setattr__" = some (some (.builtin "object.__setattr__"))) &&
 decide (nsIn K mainGlobals x=some (some (.ref (gAt K x))))&&A.all (fun y=>decide (findIn K (.ref (gAt K x)) y=some none))
def PT.chM(x:Nat×Str×Nat):Bool:=decide (findIn K (.ref (p.ca K x.1)) x.2.1=some (some (.ref (p.fa K x.2.2))))&&isFn K (.ref (p.fa K x.2.2))&&keepIn K (.ref (p.fa K x.2.2))
def PT.chK(x:Nat×Nat):Bool:=PySem.W.makesIn K (p.ca K x.1)&&decide (findIn K (.ref (p.ca K x.1)) "__init__" = some (some (.ref (p.fa K x.2))))&&isFn K (.ref (p.fa K x.2))&&keepIn K (.ref (p.ca K x.1))
def xZ(f:Addr):Option PySem.W.CFound->Bool
 | some (.val (.ref a))=>decide (a=f)
 | _=>false
def PT.chU(x:Nat×Nat):Bool:=decide (PySem.W.specialIn K (.ref (p.ca K x.1)) "__getattribute__" = some (some (.builtin "type.__getattribute__")))&&PySem.W.readsIn K (p.ca K x.1) (.type "type")&&xZ (p.fa K x.2) (PySem.W.findCls K (.ref (p.ca K x.1)) (.type "type") "__init__")&&keepIn K (.ref (p.fa K x.2))
def tgV(y:Option Nat×String×List Bool):Value:=match y.1 with
 | some x=>.ref (p.xa K x)
 | none=>.type y.2.1
def chX(x:Str):Bool:=decide (nsIn K mainGlobals x=some (some (.ref (gAt K x))))&&qU K (gAt K x)
def chI(x:Str×Int):Bool:=match nsIn K mainGlobals x.1 with
 | some (some (.int i _))=>decide (i=x.2)
 | _=>false
def PT.chT(y:Option Nat×String×List Bool):Bool:=decide (p.X.map (fun x=>PySem.W.kitOne K (.ref (gAt K x)) (tgV p K y))=y.2.2.map some)
def PT.chH(y:Nat×List Bool):Bool:=decide (p.X.map (fun x=>PySem.W.exmOne K (.ref (gAt K x)) (.ref (p.xa K y.1)))=y.2.map some)
def PT.ch1:Bool:=p.F.all (p.chF K)
def PT.ch2:Bool:=p.C.all (chC K p.A)&&p.Mk.all (p.chK K)&&p.U.all (p.chU K)&&p.X.all (chX K)&&p.B.all (fun x=>decide (nsIn K mainGlobals x=some none))&&p.I.all (chI K)&&p.KT.all (p.chT K)&&p.HT.all (p.chH K)
def PT.ch3:Bool:=p.M.all (p.chM K)
def PT.ob:List (Option Obj):=p.F.map fun x=>K.lookup (p.fx K x)
def PT.ol:List (Option Obj):=p.F.map fun x=>(K.lookup (p.fx K x)).map (lit x)
end
structure Tx(p:PT)(K:Frag)(mg:Str->Option Value):Prop where
 fn:∀i,Fun K (aO (p.fs i).s) (p.fs i).q (p.fs i).s (p.fa K i) (dAt K (p.fa K i))
 sc:∀i,b_ (p.fs i).N (p.ps i) (am (p.fs i).s)
 bn:∀i,cX K (dAt K (p.fa K i)) (p.ps i) []
 gl:∀i,(p.fs i).c=none->mg (aO (p.fs i).s)=some (.ref (p.fa K i))
 cl:∀c,Cls K (p.ca K c)
 cg:∀c,mg (pk "" p.C c)=some (.ref (p.ca K c))
 cn:∀c,∀x∈p.A,dA K (p.ca K c) x
 me:∀x∈p.M,xr K (p.ca K x.1) x.2.1 (p.fa K x.2.2)
 mm:∀x∈p.Mk,Mk K (p.ca K x.1) (p.fa K x.2)
 su:∀x∈p.U,Sup K (p.ca K x.1) (p.fa K x.2)
 xg:∀c,mg (pk "" p.X c)=some (.ref (p.xa K c))
 xe:∀c,qU K (p.xa K c)=true
 bi:∀x∈p.B,mg x=none
 ci:∀x∈p.I,∃tk,mg x.1=some (.int x.2 tk)
 kt:∀y∈p.KT,∀c,PySem.W.kitOne K (.ref (p.xa K c)) (tgV p K y)=some (kF y.2.2 c)
 ht:∀y∈p.HT,∀c,PySem.W.exmOne K (.ref (p.xa K c)) (.ref (p.xa K y.1))=some (kF y.2 c)
def Bnd(x:FS):Prop:=∀(kV doc pm:Value) (an:Option Addr) (cdv ct:Value) (us:List Value),us.length=(x.N.take x.k).length->bindArgs (fnOf (aO x.s) x.q (bE x.s) (aP x.s) (am x.s) .none kV doc pm an cdv ct) ⟨us,[]⟩=pure ((x.N.take x.k).zip us)
def vj:List FS->Prop
 | []=>True
 | x::l=>Bnd x/\vj l
theorem vj.get:∀{l:List FS},vj l->∀x∈l,Bnd x
 | [],_,_,h=>nomatch h
 | y::l,⟨h1,h2⟩,x,h=>by
  rcases List.mem_cons.mp h with rfl | h
  ·exact h1
  ·exact h2.get x h
section
variable{x:FS}
theorem lsS{us:List Value}(h:us.length=n+1):∃a r,us=a::r/\r.length=n:=by
 cases us with
 | nil=>cases h
 | cons a r=>exact⟨a,r,rfl,Nat.succ.inj h⟩
theorem bn1(h:∀(kV doc pm:Value) (an:Option Addr) (cdv ct u1:Value),bindArgs (fnOf (aO x.s) x.q (bE x.s) (aP x.s) (am x.s) .none kV doc pm an cdv ct) ⟨[u1],[]⟩=pure ((x.N.take x.k).zip [u1]):=by intros;rfl)(hk:(x.N.take x.k).length=1:=by rfl):Bnd x:=fun kV doc pm an cdv ct us hl=>by
 rw[hk]at hl
 obtain⟨_,_,rfl,l1⟩:=lsS hl
 cases List.eq_nil_of_length_eq_zero l1
 exact h ..
theorem bn2(h:∀(kV doc pm:Value) (an:Option Addr) (cdv ct u1 u2:Value),bindArgs (fnOf (aO x.s) x.q (bE x.s) (aP x.s) (am x.s) .none kV doc pm an cdv ct) ⟨[u1,u2],[]⟩=pure ((x.N.take x.k).zip [u1,u2]):=by intros;rfl)(hk:(x.N.take x.k).length=2:=by rfl):Bnd x:=fun kV doc pm an cdv ct us hl=>by
 rw[hk]at hl
 obtain⟨_,_,rfl,l1⟩:=lsS hl
 obtain⟨_,_,rfl,l2⟩:=lsS l1
 cases List.eq_nil_of_length_eq_zero l2
 exact h ..
theorem bn3(h:∀(kV doc pm:Value) (an:Option Addr) (cdv ct u1 u2 u3:Value),bindArgs (fnOf (aO x.s) x.q (bE x.s) (aP x.s) (am x.s) .none kV doc pm an cdv ct) ⟨[u1,u2,u3],[]⟩=pure ((x.N.take x.k).zip [u1,u2,u3]):=by intros;rfl)(hk:(x.N.take x.k).length=3:=by rfl):Bnd x:=fun kV doc pm an cdv ct us hl=>by
 rw[hk]at hl
 obtain⟨_,_,rfl,l1⟩:=lsS hl
 obtain⟨_,_,rfl,l2⟩:=lsS l1
 obtain⟨_,_,rfl,l3⟩:=lsS l2
 cases List.eq_nil_of_length_eq_zero l3
 exact h ..
theorem bn4(h:∀(kV doc pm:Value) (an:Option Addr) (cdv ct u1 u2 u3 u4:Value),bindArgs (fnOf (aO x.s) x.q (bE x.s) (aP x.s) (am x.s) .none kV doc pm an cdv ct) ⟨[u1,u2,u3,u4],[]⟩=pure ((x.N.take x.k).zip [u1,u2,u3,u4]):=by intros;rfl)(hk:(x.N.take x.k).length=4:=by rfl):Bnd x:=fun kV doc pm an cdv ct us hl=>by
 rw[hk]at hl
 obtain⟨_,_,rfl,l1⟩:=lsS hl
 obtain⟨_,_,rfl,l2⟩:=lsS l1
 obtain⟨_,_,rfl,l3⟩:=lsS l2
 obtain⟨_,_,rfl,l4⟩:=lsS l3
 cases List.eq_nil_of_length_eq_zero l4
 exact h ..
theorem bn5(h:∀(kV doc pm:Value) (an:Option Addr) (cdv ct u1 u2 u3 u4 u5:Value),bindArgs (fnOf (aO x.s) x.q (bE x.s) (aP x.s) (am x.s) .none kV doc pm an cdv ct) ⟨[u1,u2,u3,u4,u5],[]⟩=pure ((x.N.take x.k).zip [u1,u2,u3,u4,u5]):=by intros;rfl)(hk:(x.N.take x.k).length=5:=by rfl):Bnd x:=fun kV doc pm an cdv ct us hl=>by
 rw[hk]at hl
 obtain⟨_,_,rfl,l1⟩:=lsS hl
 obtain⟨_,_,rfl,l2⟩:=lsS l1
 obtain⟨_,_,rfl,l3⟩:=lsS l2
 obtain⟨_,_,rfl,l4⟩:=lsS l3
 obtain⟨_,_,rfl,l5⟩:=lsS l4
 cases List.eq_nil_of_length_eq_zero l5
 exact h ..
theorem bn6(h:∀(kV doc pm:Value) (an:Option Addr) (cdv ct u1 u2 u3 u4 u5 u6:Value),bindArgs (fnOf (aO x.s) x.q (bE x.s) (aP x.s) (am x.s) .none kV doc pm an cdv ct) ⟨[u1,u2,u3,u4,u5,u6],[]⟩=pure ((x.N.take x.k).zip [u1,u2,u3,u4,u5,u6]):=by intros;rfl)(hk:(x.N.take x.k).length=6:=by rfl):Bnd x:=fun kV doc pm an cdv ct us hl=>by
 rw[hk]at hl
 obtain⟨_,_,rfl,l1⟩:=lsS hl
 obtain⟨_,_,rfl,l2⟩:=lsS l1
 obtain⟨_,_,rfl,l3⟩:=lsS l2
 obtain⟨_,_,rfl,l4⟩:=lsS l3
 obtain⟨_,_,rfl,l5⟩:=lsS l4
 obtain⟨_,_,rfl,l6⟩:=lsS l5
 cases List.eq_nil_of_length_eq_zero l6
 exact h ..
end
theorem rE{l:List Str}{α:Type}{f:Addr->Option Bool}{bs:List Bool}(hl:l≠[])(h:l.map (fun x=>f (gAt K x))=bs.map some)(c:Nat):f (gAt K (pk "" l c))=some (kF bs c):=by
 have e:gAt K (pk "" l c)=vY (l.map (gAt K)) c:=by
  unfold pk vY
  cases l with
  | nil=>exact absurd rfl hl
  | cons a l =>
   rw[List.getD_eq_getElem?_getD,List.getD_eq_getElem?_getD,List.getElem?_map]
   cases(a::l)[c]?<;>rfl
 rw[e]
 exact sN (g:=id) (by simpa using hl) (by rw[List.map_map];exact h) c
theorem Tx.of{p:PT}{K:Frag}{h:Heap}{mg:Str->Option Value}(X:K.In h)(N:h.Ns mainGlobals mg)(hb:vj p.F)(hs:p.F.all scB=true)(hF:p.F≠[])(hC:p.C≠[])(hX:p.X≠[])
  (e:p.ob K=p.ol K) (h1:p.ch1 K=true) (h2:p.ch2 K=true) (h3:p.ch3 K=true):Tx p K mg:=by
 simp only[PT.ch2,Bool.and_eq_true,List.all_eq_true,decide_eq_true_eq]at h2
 obtain⟨⟨⟨⟨⟨⟨⟨c1,c2⟩,c3⟩,c4⟩,c5⟩,c6⟩,c7⟩,c8⟩:=h2
 simp only[PT.ch1,PT.ch3,List.all_eq_true]at h1 h3 hs
 have fnx:∀x∈p.F,Fun K (aO x.s) x.q x.s (p.fx K x) (dAt K (p.fx K x)):=fun x hx=>by
  have q:=h1 x hx
  simp only[PT.chF,Bool.and_eq_true]at q
  obtain⟨⟨⟨q1,q2⟩,q3⟩,_⟩:=q
  have e1:K.lookup (p.fx K x)=(K.lookup (p.fx K x)).map (lit x):=List.map_inj_left.mp e x hx
  cases eo:K.lookup (p.fx K x)with
  | none=>rw[eo]at q1;cases q1
  | some o =>
   rw[eo]at e1 q1
   obtain⟨oc,od,dt,sl⟩:=o
   cases dt with
   | func d =>
    have e2:(⟨oc,od,.func d,sl⟩:Obj)=lit x ⟨oc,od,.func d,sl⟩:=Option.some.inj e1
    simp only[lit,Obj.mk.injEq,Data.func.injEq,true_and,and_true]at e2
    have ed:dAt K (p.fx K x)=d:=by unfold dAt;rw[eo]
    rw[ed]at q2 ⊢
    exact⟨⟨oc,od,d.kwdefaults,d.doc,d.pyModule,d.annotations,d.code,d.closureTuple,sl,e2,eo,q2⟩,q3⟩
   | _=>cases q1
 have scx:∀x∈p.F,b_ x.N (x.N.take x.k) (am x.s):=fun x hx=>by
  have q:=hs x hx
  simp only[scB,Bool.and_eq_true,decide_eq_true_eq,List.all_eq_true,Bool.not_eq_true']at q
  obtain⟨⟨⟨⟨⟨⟨q1,q2⟩,q3⟩,q4⟩,q5⟩,q6⟩,q7⟩:=q
  exact⟨q1,q2,q3,q4,by rw[List.length_take,Nat.min_eq_left q5],q6,q7⟩
 have clx:∀x∈p.C,(Cls K (gAt K x)/\mg x=some (.ref (gAt K x)))/\∀y∈p.A,dA K (gAt K x) y:=fun x hx=>by
  have q:=c1 x hx
  simp only[chC,Bool.and_eq_true,decide_eq_true_eq,List.all_eq_true]at q
  obtain⟨⟨⟨⟨⟨q1,q2⟩,q3⟩,q4⟩,q5⟩,q6⟩:=q
  exact⟨⟨⟨q1,q2,q3,q4⟩,PySem.W.mg_of X N q5⟩,q6⟩
 have xx:∀x∈p.X,mg x=some (.ref (gAt K x))/\qU K (gAt K x)=true:=fun x hx=>by
  have q:=c4 x hx
  simp only[chX,Bool.and_eq_true,decide_eq_true_eq]at q
  exact⟨PySem.W.mg_of X N q.1,q.2⟩
 refine ⟨e9 (p:=fun x=>Fun K (aO x.s) x.q x.s (p.fx K x) (dAt K (p.fx K x))) hF fnx,e9 (p:=fun x=>b_ x.N (x.N.take x.k) (am x.s)) hF scx,e9 (p:=fun x=>cX K (dAt K (p.fx K x)) (x.N.take x.k) []) hF fun x hx=>(fnx x hx).binds (hb.get x hx),
  e9 (p:=fun x=>x.c=none->mg (aO x.s)=some (.ref (p.fx K x))) hF fun x hx hc=>?_,e9 (p:=fun x=>Cls K (gAt K x)) hC fun x hx=>(clx x hx).1.1,e9 (p:=fun x=>mg x=some (.ref (gAt K x))) hC fun x hx=>(clx x hx).1.2,
  e9 (p:=fun x=>∀y∈p.A,dA K (gAt K x) y) hC fun x hx=>(clx x hx).2,fun x hx=>?_,fun x hx=>?_,fun x hx=>?_,e9 (p:=fun x=>mg x=some (.ref (gAt K x))) hX fun x hx=>(xx x hx).1,e9 (p:=fun x=>qU K (gAt K x)=true) hX fun x hx=>(xx x hx).2,
  fun x hx=>PySem.W.mg_none_of X N (c5 x hx),fun x hx=>?_,fun y hy c=>?_,fun y hy c=>?_⟩
 ·have q:=h1 x hx
  simp only[PT.chF,Bool.and_eq_true]at q
  have q:=q.2
  rw[hc]at q
  exact PySem.W.mg_of X N (of_decide_eq_true q)
 ·have q:=h3 x hx
  simp only[PT.chM,Bool.and_eq_true,decide_eq_true_eq]at q
  exact⟨q.1.1,q.1.2,q.2⟩
 ·have q:=c2 x hx
  simp only[PT.chK,Bool.and_eq_true,decide_eq_true_eq]at q
  exact⟨q.1.1.1,q.1.1.2,q.1.2,q.2⟩
 ·have q:=c3 x hx
  simp only[PT.chU,Bool.and_eq_true,decide_eq_true_eq]at q
  refine⟨q.1.1.1,q.1.1.2,?_,q.2⟩
  have q:=q.1.2
  unfold xZ at q
  split at q
  ·rename_i a e
   rw[e,of_decide_eq_true q]
  ·cases q
 ·have q:=c6 x hx
  unfold chI at q
  split at q
  ·rename_i i tk e
   exact⟨tk,by rw[<- of_decide_eq_true q];exact PySem.W.mg_of X N e⟩
  ·cases q
 ·exact rE (α:=Bool) (f:=fun a=>PySem.W.kitOne K (.ref a) (tgV p K y)) hX (of_decide_eq_true (c7 y hy)) c
 ·exact rE (α:=Bool) (f:=fun a=>PySem.W.exmOne K (.ref a) (.ref (p.xa K y.1))) hX (of_decide_eq_true (c8 y hy)) c
def PT.attOk(p:PT):Prop:=p.A.Nodup/\p.A.all iz=true
@[reducible] def PT.T(p:PT)(h:p.attOk)(K:Frag):Tb where
 K:=K
 nc:=p.C.length
 cls:=p.ca K
 att:=ie p.A
 inj:=q9 h.1 h.2
 xcl:=p.xa K
section
variable{p:PT}{K:Frag}{mg:Str->Option Value}
theorem Tx.cls(t:Tx p K mg)(n:Nat):∀c < n,Cls K (p.ca K c):=fun c _=>t.cl c
theorem Tx.b(t:Tx p K mg)(j:Nat)(h:p.B[j]?=some x:=by rfl):mg x=none:=t.bi x (List.mem_of_getElem? h)
theorem Tx.c(t:Tx p K mg)(j:Nat)(h:p.I[j]?=some (x,i):=by rfl):∃tk,mg x=some (.int i tk):=t.ci (x,i) (List.mem_of_getElem? h)
theorem Tx.k(t:Tx p K mg)(j:Nat)(h:p.KT[j]?=some y:=by rfl)(c:Nat):PySem.W.kitOne K (.ref (p.xa K c)) (tgV p K y)=some (kF y.2.2 c):=t.kt y (List.mem_of_getElem? h) c
end
open PySem.W (keepIn Frag)
section
variable{P:Program}{w:World}{K:Frag}{mg:Str->Option Value}{base:Heap}{p:PT}{hA:p.attOk}
abbrev OkF(p:PT)(hA:p.attOk)(P:Program)(w:World)(K:Frag)(mg:Str->Option Value)(base:Heap)(k i:Nat)(m:List PV->Res PV):Prop:=bS P w K mg base (CXP P w) k (p.fa K i) (dAt K (p.fa K i)) (p.ps i) (spM (p.T hA K) (p.ps i).length m)
abbrev OkI(p:PT)(hA:p.attOk)(P:Program)(w:World)(K:Frag)(mg:Str->Option Value)(base:Heap)(k i:Nat)(m:List PV->Res PV):Prop:=bS P w K mg base (CXP P w) k (p.fa K i) (dAt K (p.fa K i)) (p.ps i) (spI (p.T hA K) (p.ps i).length m)
theorem okC(i:Nat)(t:Tx p K mg)(body:∀ (cdv:Value) (A:Around) (outer:List Env) (s:Shared) (H:Hp) (E:XK),Ctx (cH (CXP P w) P w K mg base (p.fs i).N (p.fs i).q (am (p.fs i).s) (p.fa K i) cdv A outer s H E) (p.T hA K) (WD (p.T hA K) E) k->(p.fs i).N.Nodup ->
  SSs (cH (CXP P w) P w K mg base (p.fs i).N (p.fs i).q (am (p.fs i).s) (p.fa K i) cdv A outer s H E) (p.T hA K) (WD (p.T hA K) E) (aP (p.fs i).s) m):OkF p hA P w K mg base (k+1) i (bG (p.fs i).N.length m) :=
 zP (T:=p.T hA K) (t.fn i) (t.sc i) fun a b c d e f g=>body a b c d e f g (t.sc i).nd
theorem okI(i:Nat)(t:Tx p K mg)(body:∀ (cdv:Value) (A:Around) (outer:List Env) (s:Shared) (H:Hp) (E:XK),Ctx (cH (CXP P w) P w K mg base (p.fs i).N (p.fs i).q (am (p.fs i).s) (p.fa K i) cdv A outer s H E) (p.T hA K) (WD (p.T hA K) E) k->(p.fs i).N.Nodup ->
  SSs (cH (CXP P w) P w K mg base (p.fs i).N (p.fs i).q (am (p.fs i).s) (p.fa K i) cdv A outer s H E) (p.T hA K) (WD (p.T hA K) E) (aP (p.fs i).s) m):OkI p hA P w K mg base (k+1) i (mT (p.fs i).N.length m) :=
 wJ (T:=p.T hA K) (t.fn i) (t.sc i) fun a b c d e f g=>body a b c d e f g (t.sc i).nd
theorem dm{X:Cx}{k k2 i c:Nat}{mn:Str}{m m':List PV->Res PV}{ps:List Str}(j:Nat)(t:Tx p X.K X.mg)(G:bS X.prog X.w X.K X.mg X.base (CXP X.prog X.w) k (p.fa X.K i) (dAt X.K (p.fa X.K i)) ps (spM (p.T hA X.K) ps.length m))(e:some m=some m')(hj:p.M[j]?=some (c,mn,i):=by rfl)(hp:p.ps i=ps:=by rfl)(hk:k<=k2:=by decide) :
  ∃f fd,xr X.K (p.ca X.K c) mn f/\cX X.K fd ps []/\bS X.prog X.w X.K X.mg X.base (CXP X.prog X.w) k2 f fd ps (spM (p.T hA X.K) ps.length m'):=by
 cases e
 exact⟨_,_,t.me _ (List.mem_of_getElem? hj),hp▸t.bn i,G.mono hk⟩
end
theorem dno{n c:Nat}{q:Prop}(h:c < n)(hc:n<=c:=by exact Nat.le_add_left _ _):q:=absurd h (Nat.not_lt.mpr hc)
section
variable{X:Cx}{W:Nat->St->Hp->Prop}{p:PT}{hA:p.attOk}
theorem a5(t:Tx p X.K X.mg)
  (G:bS X.prog X.w X.K X.mg X.base (CXP X.prog X.w) k (p.fa X.K i) (dAt X.K (p.fa X.K i)) (p.ps i) (spM (p.T hA X.K) (p.ps i).length m)) (cx:Ctx X (p.T hA X.K) W kk) (ha:SA X (p.T hA X.K) W (e::es) ms)
  (hk:k<=kk:=by decide) (hx:aO (p.fs i).s=x:=by rfl) (hc:(p.fs i).c=none:=by rfl) (hg:Gl X x:=by rfl) (hn:dB ms n:=by repeat' first | exact bc | apply ay) (hps:n=(p.ps i).length:=by rfl)
  (hdb:(x ==("__debug__" : Str))=false:=by decide) (he:starEach (e::es) X.env=(false,eval e X.env)::starEach es X.env:=by rfl) (hpl:(backTo pos (starEach es X.env)).any (·.1)=false:=by rfl) :
  SE X (p.T hA X.K) W (.Call (.Name x np) (e::es) [] pos) (ak (ax m) ms) :=
 mS G cx hk hg (by subst hx;exact t.gl i hc) (t.fn i).kp (t.bn i) hn hps ha hdb he hpl
theorem om(t:Tx p X.K X.mg)
  (D:nV X (p.T hA X.K) k mn ps [] disp) (cx:Ctx X (p.T hA X.K) W kk) (ho:SE X (p.T hA X.K) W o mo) (ha:SA X (p.T hA X.K) W (e::es) ms)
  (hm:∀k,ie p.A k≠mn:=by exact u_ (by decide +kernel) (by decide +kernel)) (hk:k<=kk:=by decide) (hn:dB ms n:=by repeat' first | exact bc | apply ay) (hps:n+1=ps.length:=by rfl)
  (hst:starEach (e::es) X.env=(false,eval e X.env)::starEach es X.env:=by rfl) (hpl:(backTo pos (starEach es X.env)).any (·.1)=false:=by rfl)
  (ht:eval (.Call (.Attribute o mn apos) (e::es) [] pos) X.env=(do
   let ov <- eval o X.env
   standAt apos.atName
   let(f,first) <- holding [ov] (getMethod ov mn pl)
   callWith pos f first (backTo pos (starEach (e::es) X.env)) (backToKw pos (keywordEach [] X.env))):=by rfl) :
  SE X (p.T hA X.K) W (.Call (.Attribute o mn apos) (e::es) [] pos) (g6 disp mo ms) :=
 yw (pl:=pl) cx (t.cls _) hm D hk hn hps ho ha hst hpl ht
theorem BE(c:Nat)(t:Tx p X.K X.mg)
  (G:bS X.prog X.w X.K X.mg X.base (CXP X.prog X.w) k (p.fa X.K i) (dAt X.K (p.fa X.K i)) (p.ps i) (spI (p.T hA X.K) (p.ps i).length m)) (cx:Ctx X (p.T hA X.K) W kk) (ha:SA X (p.T hA X.K) W (e::es) ms)
  (hM:(c,i)∈ p.Mk:=by decide) (hcn:c < p.C.length:=by decide) (hk:k+1<=kk:=by decide) (hx:pk ("" : Str) p.C c=x:=by rfl) (hg:Gl X x:=by rfl) (hn:dB ms n:=by repeat' first | exact bc | apply ay) (hps:n+1=(p.ps i).length:=by rfl)
  (hdb:(x ==("__debug__" : Str))=false:=by decide) (he:starEach (e::es) X.env=(false,eval e X.env)::starEach es X.env:=by rfl) (hpl:(backTo pos (starEach es X.env)).any (·.1)=false:=by rfl) :
  SE X (p.T hA X.K) W (.Call (.Name x np) (e::es) [] pos) (qG c m ms) :=
 yv (t.mm _ hM) hcn G cx hk hg (by subst hx;exact t.cg c) (t.bn i) hn hps ha hdb he hpl
theorem cJ(k:Nat)(t:Tx p X.K X.mg)(cx:Ctx X (p.T hA X.K) W kk)(he:SE X (p.T hA X.K) W e m)(hf:ie p.A k=f:=by rfl)(hm:f∈p.A:=by decide)(hb:attributeBase e f X.env (eval e X.env)=eval e X.env:=by rfl) :
  SE X (p.T hA X.K) W (.Attribute e f pos) (mUn (aT k) m):=vM cx.hK hf (t.cls _) (fun c _=>t.cn c f hm) he hb
theorem dS(ha:SA X T W es ms)(hn:dB ms n:=by repeat' first | exact bc | apply ay)(hs:n<=1000:=by decide):SE X T W (.List es pos) (b7 ms):=rZ ha hn hs
theorem ju{x1}(ha:SA X T W es ms)(hn:dB ms n:=by repeat' first | exact bc | apply ay)(hs:n<=1000:=by decide):SE X T W (.Tuple es x1 pos) (cY ms):=rY ha hn hs
theorem a6(cx:Ctx X T W kk)(ha:SE X T W a ma)(hb:SE X T W b mb)(hs:de b:=by exact fun _ _=>rfl):SE X T W (.Subscript a b pos) (mOp au ma mb):=yx cx.hK ha hb hs
theorem a4(hN:X.N.Nodup)(he:SE X T W e m)(hi:X.N[i]?=some x:=by rfl)(hx:Loc X.env.scope x:=by first | exact .inl rfl | exact .inr rfl)(hs:swapsWith e (some (.Name x pos')) pos.line X.env=pure false:=by rfl)
  (hf:X.fn x=true\/X.env.scope.names.lookup x=some .local:=by first | exact .inl rfl | exact .inr rfl | assumption):SS X T W (.Assign [.Name x pos'] e pos) (aI i m):=rN hN hi hx he hs hf
theorem sgN(hN:X.N.Nodup)(hi:X.N[i]?=some x:=by rfl)(hx:Loc X.env.scope x:=by first | exact .inl rfl | exact .inr rfl)(hf:X.fn x=true\/X.env.scope.names.lookup x=some .local:=by first | exact .inl rfl | exact .inr rfl | assumption):SG X T (.Name x pos) (tgN i):=vE hN hi hx hf
theorem df(h:k<=i:=by decide):fD (tgN i) k:=rD h
theorem qv(cx:Ctx X T W kk)(he:SE X T W e m)(hN:X.N[i]?=some x:=by rfl)(hv:Vis X.env.scope x:=by first | exact Or.inl rfl | exact Or.inr (Or.inl rfl) | exact Or.inr (Or.inr rfl))
  (hs:swapsWith (.Call (.Attribute (.Name x px) "append" apos) [e] [] cpos) none pos.line X.env=pure false:=by rfl) (hst:starEach [e] X.env=[(false,eval e X.env)]:=by rfl)
  (hfew:((backTo cpos (starEach [e] X.env)).all (fun x=>!x.1)&&(backToKw cpos (keywordEach [] X.env)).all (fun x=>x.1.isSome)&&decide ([e].length+([]:List Keyword).length+(if([]:List Keyword).isEmpty then 0 else 1) < 30))=true:=by rfl)
  (hline:(apos.endLine==cpos.line)=true:=by rfl) (hd:(x ==("__debug__" : Str))=false:=by decide) (hcd:(x ==("__classdict__" : Str))=false:=by decide) :
  SS X T W (.Expr (.Call (.Attribute (.Name x px) "append" apos) [e] [] cpos) pos) (cT i m):=qp cx.hK hN hv he hs hst hfew hline hd hcd
theorem sFld(k:Nat)(t:Tx p X.K X.mg)(cx:Ctx X (p.T hA X.K) W kk)(he:SE X (p.T hA X.K) W e m)(hf:ie p.A k=f:=by rfl)(hm:f∈p.A:=by decide)(hN:X.N[i]?=some x:=by rfl)
  (hv:Vis X.env.scope x:=by first | exact Or.inl rfl | exact Or.inr (Or.inl rfl) | exact Or.inr (Or.inr rfl))
  (hs:swapsWith e (some (.Attribute (.Name x px) f pos')) pos.line X.env=pure false:=by rfl) (hd:(x ==("__debug__" : Str))=false:=by decide) (hcd:(x ==("__classdict__" : Str))=false:=by decide) :
  SS X (p.T hA X.K) W (.Assign [.Attribute (.Name x px) f pos'] e pos) (jK i k m):=yp cx.hK hf (t.cls _) (fun c _=>t.cn c f hm) hN hv he hs hd hcd
theorem dR(c:Nat)(t:Tx p X.K X.mg)(cx:Ctx X (p.T hA X.K) W k)(hB:X.K.In X.base)(hx:XM X (p.T hA X.K) W)(ha:SA X (p.T hA X.K) W (e::es) ms)
  (hm:pk ("" : Str) p.X c=x:=by rfl) (hg:Gl X x:=by rfl) (hn:dB ms n:=by repeat' first | exact bc | apply ay) (hn2:n<=100:=by decide) (hd:(x ==("__debug__" : Str))=false:=by decide)
  (he:starEach (e::es) X.env=(false,eval e X.env)::starEach es X.env:=by rfl) (hpl:(backTo cpos (starEach es X.env)).any (·.1)=false:=by rfl) :
  SS X (p.T hA X.K) W (.Raise (some (.Call (.Name x np) (e::es) [] cpos)) none pos) (cf c ms) :=
 qo cx (by subst hm;exact t.xg c) hB (wU (t.xe c)).2 hx hg hn hn2 ha hd he hpl
theorem DN(c:Nat)(t:Tx p X.K X.mg)
  (G:bS X.prog X.w X.K X.mg X.base (CXP X.prog X.w) k (p.fa X.K i) (dAt X.K (p.fa X.K i)) (p.ps i) (spI (p.T hA X.K) (p.ps i).length m)) (cx:Ctx X (p.T hA X.K) W kk) (ha:SA X (p.T hA X.K) W es ms)
  (hU:(c,i)∈ p.U:=by decide) (hk:k<=kk:=by decide) (hx:pk ("" : Str) p.C c=x:=by rfl) (hg:Gl X x:=by rfl) (hN:X.N[0]?=some y:=by rfl) (hv:Vis X.env.scope y:=by first | exact Or.inl rfl | exact Or.inr (Or.inl rfl) | exact Or.inr (Or.inr rfl))
  (hn:dB ms n:=by repeat' first | exact bc | apply ay) (hps:n+1=(p.ps i).length:=by rfl)
  (hdb:(x ==("__debug__" : Str))=false:=by decide) (hdy:(y ==("__debug__" : Str))=false:=by decide) (hcy:(y ==("__classdict__" : Str))=false:=by decide)
  (hst:starEach (.Name y px::es) X.env=(false,eval (.Name y px) X.env)::starEach es X.env:=by rfl) (hpl:(backTo pos (starEach es X.env)).any (·.1)=false:=by rfl)
  (ht:eval (.Call (.Attribute (.Name x q) "__init__" apos) (.Name y px::es) [] pos) X.env=(do
   let ov <- eval (.Name x q) X.env
   standAt apos.atName
   let(f,first) <- holding [ov] (getMethod ov "__init__" pl)
   callWith pos f first (backTo pos (starEach (.Name y px::es) X.env)) (backToKw pos (keywordEach [] X.env))):=by rfl)
  (hs:swapsWith (.Call (.Attribute (.Name x q) "__init__" apos) (.Name y px::es) [] pos) none pos'.line X.env=pure false:=by rfl) :
  SS X (p.T hA X.K) W (.Expr (.Call (.Attribute (.Name x q) "__init__" apos) (.Name y px::es) [] pos) pos') (jJ m ms) :=
 yo (pl:=pl) cx (t.su _ hU) G hk hg (by subst hx;exact t.cg c) (t.bn i) hN hv hn hps ha hdb hdy hcy hst hpl ht hs
variable{T:Tb}
abbrev nmC(X:Cx)(caps:List Nat)(tn:List Str):List Str:=caps.map (fun i=>X.N.getD i "")++ tn
theorem cOf(h:j1 X.env.scope scope X.N caps (nmC X caps tn) tn=true):db X scope caps (nmC X caps tn) tn:=w9 h rfl rfl
theorem dC(tn:List Str)(cx:Ctx X T W kk)(hi:SIc X T W tg iter mi)(hk:fD g caps.length)
  (hb:∀C s H ex,(nmC X caps tn).Nodup->SG (cxC X scope C (nmC X caps tn) s H ex) T tg g/\STs (cxC X scope C (nmC X caps tn) s H ex) T WF ifs mc/\SE (cxC X scope C (nmC X caps tn) s H ex) T WF elt me)
  (h:j1 X.env.scope scope X.N caps (nmC X caps tn) tn=true:=by kernel_rfl) (hs:∀x,foldedSetIterable iter X.env x=pure x:=by intro _;rfl):SE X T W (.ListComp elt [⟨tg,iter,ifs,0⟩] scope pos) (aV caps tn.length mi g mc me) :=
 vL (cOf h) cx.calm hi hk (fun C s H ex=>hb C s H ex (cOf h).nd) hs
theorem kC(tn:List Str)(cx:Ctx X T W kk)(hN:X.N.Nodup)(hi:SIc X T W tg iter mi)(hk:fD g caps.length)
  (hb:∀C s H ex,(nmC X caps tn).Nodup->SG (cxC X scope C (nmC X caps tn) s H ex) T tg g/\STs (cxC X scope C (nmC X caps tn) s H ex) T WF ifs mc/\SE (cxC X scope C (nmC X caps tn) s H ex) T WF elt me)
  (h:j1 X.env.scope scope X.N caps (nmC X caps tn) tn=true:=by kernel_rfl) (hy:X.N[i]?=some y:=by rfl) (hx:Loc X.env.scope y:=by first | exact .inl rfl | exact .inr rfl)
  (hsw:swapsWith (.ListComp elt [⟨tg,iter,ifs,0⟩] scope pos) (some (.Name y py)) spos.line X.env=pure true:=by rfl)
  (hs:∀x,foldedSetIterable iter X.env x=pure x:=by intro _;rfl)
  (hf:X.fn y=true\/X.env.scope.names.lookup y=some .local:=by first | exact .inl rfl | exact .inr rfl | assumption) :
  SS X T W (.Assign [.Name y py] (.ListComp elt [⟨tg,iter,ifs,0⟩] scope pos) spos) (aI i (aV caps tn.length mi g mc me)) :=
 vA (cOf h) cx.calm hN hy hx hi hk (fun C s H ex=>hb C s H ex (cOf h).nd) hsw hs hf
end
end PR
namespace PR
open PySem PySem.Spec L2
section
variable{X:Cx}{T:Tb}{W:Nat->St->Hp->Prop}{Z:Zn}{F:Addr->Prop}{H:Hp}{σ:St}{env:En}{fp:Nat->List Addr}
inductive vf(X:Cx)(T:Tb)(n:Str)(c:Nat)(mh:MS):List ExceptHandler->Prop
 | hit {cn:Str}{CC:Addr}{pc hp:Pos}{b₀:Stmt}{suite:List Stmt}{aN:List ExceptHandler} (hg:Gl X cn) (hm:X.mg cn=some (.ref CC)) (hh:PySem.W.exmOne T.K (.ref (T.xcl c)) (.ref CC)=some true)
   (hs:∀e,SSs (X.hanX e) T WF (b₀::suite) mh) (hd:(cn ==("__debug__" : Str))=false):vf X T n c mh (.ExceptHandler (some (.Name cn pc)) (some n) (b₀::suite) hp::aN)
 | miss {cn:Str}{CC:Addr}{pc hp:Pos}{nm:Option Str}{bd:List Stmt}{aN:List ExceptHandler} (hg:Gl X cn) (hm:X.mg cn=some (.ref CC)) (hh:PySem.W.exmOne T.K (.ref (T.xcl c)) (.ref CC)=some false)
   (hd:(cn ==("__debug__" : Str))=false) (r:vf X T n c mh aN):vf X T n c mh (.ExceptHandler (some (.Name cn pc)) nm bd hp::aN)
end
open PySem.W (findIn fnOf keepIn nsIn codeIn isFn Frag)
structure PE where
 D:List (FS×Bool)
 G:List (Str×List (Str×Int))
def PE.at(q:PE)(j:Nat):FS×Bool:=q.D.getD j (fs0,false)
def PE.gk(q:PE)(j:Nat):Str×List (Str×Int):=q.G.getD j ("", [])
theorem PE.gk_mem(q:PE)(h:j < q.G.length):q.gk j∈q.G:=by unfold PE.gk;rw[List.getD_eq_getElem?_getD,List.getElem?_eq_getElem h];exact List.getElem_mem h
def dfA(K:Frag)(f:Addr):Addr:=match (dAt K f).defaults with
 | .ref a=>a
 | _=>0
def wx(x:FS)(a:Addr):Obj->Obj
 |⟨oc,od,.func d,sl⟩=>⟨oc,od,.func (fnOf (aO x.s) x.q (bE x.s) (aP x.s) (am x.s) (.ref a) d.kwdefaults d.doc d.pyModule d.annotations d.code d.closureTuple),sl⟩
 | o=>o
def By(b:Bool):Option Obj->Bool
 | some ⟨_,_,.seq a _,_⟩=>decide (a.toList=[.bool b])
 | _=>false
def oR(P:Params):List DictEntry->List (Str×Int)->List DictEntry
 |⟨_,.str _ t,.int _ u⟩::es,(k,v)::kvs=>⟨PyData.keyHash P k,.str k t,.int v u⟩::oR P es kvs
 | _,_=>[]
theorem wY:(oR P es kvs).length=kvs.length->nJ P (oR P es kvs) kvs:=by
 fun_induction oR P es kvs with
 | case1=>rename_i ih;exact fun e=>⟨⟨_,_,rfl⟩,ih (by simpa using e)⟩
 | case2 =>
  intro e
  have e:=List.eq_nil_of_length_eq_zero e.symm
  subst e;trivial
def Cr(P:Params)(kvs:List (Str×Int)):Obj->Obj
 |⟨_,_,.dict es ep,_⟩=>{ cls:=.type "dict", dict:=none,data:=.dict (oR P es.toList kvs).toArray ep,slots:=#[] }
 | o=>o
def okG(P:Params)(kvs:List (Str×Int)):Option Obj->Bool
 | some ⟨_,_,.dict es _,_⟩=>decide ((oR P es.toList kvs).length=kvs.length)
 | _=>false
structure FD(p:PT)(K:Frag)(mg:Str->Option Value)(y:FS×Bool):Prop where
 fn:nU K (aO y.1.s) y.1.q y.1.s (p.fx K y.1) (dAt K (p.fx K y.1)) (dfA K (p.fx K y.1)) [.bool y.2]
 sc:b_ y.1.N (y.1.N.take y.1.k) (am y.1.s)
 bn:cX K (dAt K (p.fx K y.1)) (y.1.N.take y.1.k) []
 gl:mg (aO y.1.s)=some (.ref (p.fx K y.1))
structure Ty(p:PT)(q:PE)(w:World)(K:Frag)(mg:Str->Option Value):Prop where
 tx:Tx p K mg
 fd:∀y∈q.D,FD p K mg y
 dc:∀y∈q.G,mg y.1=some (.ref (gAt K y.1))/\iR w K (gAt K y.1) y.2
section
variable{p:PT}{q:PE}{w:World}{K:Frag}{mg:Str->Option Value}
theorem Ty.d(t:Ty p q w K mg)(j:Nat)(h:j < q.D.length:=by decide):FD p K mg (q.at j):=t.fd _ (by unfold PE.at;rw[List.getD_eq_getElem?_getD,List.getElem?_eq_getElem h];exact List.getElem_mem h)
theorem Ty.gm(t:Ty p q w K mg)(j:Nat)(h:j < q.G.length:=by decide):mg (q.gk j).1=some (.ref (gAt K (q.gk j).1)):=(t.dc _ (q.gk_mem h)).1
theorem Ty.gd(t:Ty p q w K mg)(j:Nat)(h:j < q.G.length:=by decide):iR w K (gAt K (q.gk j).1) (q.gk j).2:=(t.dc _ (q.gk_mem h)).2
end
def xA(y:FS×Bool):Prop:=∀(dT:Addr) (kV doc pm:Value) (an:Option Addr) (cdv ct:Value) (us:List Value),(us++[]).length=(y.1.N.take y.1.k).length ->
 ∃k:Option (Array Value)->Sem (List (Str×Value)),bindArgs (fnOf (aO y.1.s) y.1.q (bE y.1.s) (aP y.1.s) (am y.1.s) (.ref dT) kV doc pm an cdv ct) ⟨us,[]⟩=seqItems? (.ref dT) >>= k/\k (some [Value.bool y.2].toArray)=pure ((y.1.N.take y.1.k).zip (us++[]))
theorem bd2(h:∀(dT:Addr) (kV doc pm:Value) (an:Option Addr) (cdv ct u1 u2:Value),∃k:Option (Array Value)->Sem (List (Str×Value)),bindArgs (fnOf (aO y.1.s) y.1.q (bE y.1.s) (aP y.1.s) (am y.1.s) (.ref dT) kV doc pm an cdv ct) ⟨[u1,u2],[]⟩=seqItems? (.ref dT) >>= k/\k (some [Value.bool y.2].toArray)=pure ((y.1.N.take y.1.k).zip [u1,u2]):=by intros;exact⟨_,rfl,rfl⟩)
  (hk:(y.1.N.take y.1.k).length=2:=by rfl):xA y:=fun dT kV doc pm an cdv ct us hl=>by
 rw[hk]at hl
 match us,hl with
 | [_,_],_=>exact h ..
theorem bd3(h:∀(dT:Addr) (kV doc pm:Value) (an:Option Addr) (cdv ct u1 u2 u3:Value),∃k:Option (Array Value)->Sem (List (Str×Value)),bindArgs (fnOf (aO y.1.s) y.1.q (bE y.1.s) (aP y.1.s) (am y.1.s) (.ref dT) kV doc pm an cdv ct) ⟨[u1,u2,u3],[]⟩=seqItems? (.ref dT) >>= k/\k (some [Value.bool y.2].toArray)=pure ((y.1.N.take y.1.k).zip [u1,u2,u3]):=by intros;exact⟨_,rfl,rfl⟩)
  (hk:(y.1.N.take y.1.k).length=3:=by rfl):xA y:=fun dT kV doc pm an cdv ct us hl=>by
 rw[hk]at hl
 match us,hl with
 | [_,_,_],_=>exact h ..
def vi:List (FS×Bool)->Prop
 | []=>True
 | x::l=>xA x/\vi l
theorem vi.get:∀{l:List (FS×Bool)},vi l->∀x∈l,xA x
 | [],_,_,h=>nomatch h
 | y::l,⟨h1,h2⟩,x,h=>by
  rcases List.mem_cons.mp h with rfl | h
  ·exact h1
  ·exact h2.get x h
section
variable(p:PT)(q:PE)(P:Params)(K:Frag)
def PE.ob:List (Option Obj):=q.D.map fun y=>K.lookup (p.fx K y.1)
def PE.ol:List (Option Obj):=q.D.map fun y=>(K.lookup (p.fx K y.1)).map (wx y.1 (dfA K (p.fx K y.1)))
def PE.ch:Bool:=q.D.all fun y=>p.chF K y.1&&y.1.c.isNone&&By y.2 (K.lookup (dfA K (p.fx K y.1)))
def PE.gb:List (Option Obj):=q.G.map fun y=>K.lookup (gAt K y.1)
def PE.gl:List (Option Obj):=q.G.map fun y=>(K.lookup (gAt K y.1)).map (Cr P y.2)
def PE.cg:Bool:=q.G.all fun y=>decide (nsIn K mainGlobals y.1=some (some (.ref (gAt K y.1))))&&!(gAt K y.1==sysModules)&&okG P y.2 (K.lookup (gAt K y.1))
end
theorem Ty.of(X:K.In h)(N:h.Ns mainGlobals mg)(t:Tx p K mg)(hb:vi q.D)(hs:q.D.all (fun y=>scB y.1)=true)
  (e:q.ob p K=q.ol p K) (h1:q.ch p K=true) (e2:q.gb K=q.gl w.params K) (h2:q.cg w.params K=true):Ty p q w K mg:=by
 simp only[PE.ch,PE.cg,Bool.and_eq_true,List.all_eq_true,decide_eq_true_eq]at h1 h2 hs
 refine⟨t,fun y hy=>?_,fun y hy=>?_⟩
 ·obtain⟨⟨a1,a2⟩,a3⟩:=h1 y hy
  simp only[PT.chF,Bool.and_eq_true]at a1
  obtain⟨⟨⟨q1,q2⟩,q3⟩,q4⟩:=a1
  have e1:K.lookup (p.fx K y.1)=(K.lookup (p.fx K y.1)).map (wx y.1 (dfA K (p.fx K y.1))):=List.map_inj_left.mp e y hy
  have F:nU K (aO y.1.s) y.1.q y.1.s (p.fx K y.1) (dAt K (p.fx K y.1)) (dfA K (p.fx K y.1)) [.bool y.2]:=by
   have dl:∃(o:Obj) (n:Nat),K.lookup (dfA K (p.fx K y.1))=some o/\o.data=.seq [Value.bool y.2].toArray n:=by
    unfold By at a3
    split at a3
    ·rename_i a n _ eo
     exact⟨_,n,eo,by rw[<- of_decide_eq_true a3]⟩
    ·cases a3
   generalize dfA K (p.fx K y.1)=dT at e1 dl
   cases eo:K.lookup (p.fx K y.1)with
   | none=>rw[eo]at q1;cases q1
   | some o =>
    rw[eo]at e1 q1
    obtain⟨oc,od,dt,sl⟩:=o
    cases dt with
    | func d =>
     have e2:(⟨oc,od,.func d,sl⟩:Obj)=wx y.1 dT ⟨oc,od,.func d,sl⟩:=Option.some.inj e1
     simp only[wx,Obj.mk.injEq,Data.func.injEq,true_and,and_true]at e2
     have ed:dAt K (p.fx K y.1)=d:=by unfold dAt;rw[eo]
     rw[ed]at q2 ⊢
     exact⟨⟨oc,od,d.kwdefaults,d.doc,d.pyModule,d.annotations,d.code,d.closureTuple,sl,e2,eo,q2⟩,q3,dl⟩
    | _=>cases q1
  have sc:b_ y.1.N (y.1.N.take y.1.k) (am y.1.s):=by
   have q:=hs y hy
   simp only[scB,Bool.and_eq_true,decide_eq_true_eq,List.all_eq_true,Bool.not_eq_true']at q
   obtain⟨⟨⟨⟨⟨⟨q1,q2⟩,q3⟩,q4⟩,q5⟩,q6⟩,q7⟩:=q
   exact⟨q1,q2,q3,q4,by rw[List.length_take,Nat.min_eq_left q5],q6,q7⟩
  refine⟨F,sc,F.binds (es:=[]) (hb.get y hy _),?_⟩
  rw[Option.isNone_iff_eq_none.mp a2]at q4
  exact PySem.W.mg_of X N (of_decide_eq_true q4)
 ·obtain⟨⟨a1,a2⟩,a3⟩:=h2 y hy
  refine⟨PySem.W.mg_of X N a1,by simpa using a2,?_⟩
  have e1:K.lookup (gAt K y.1)=(K.lookup (gAt K y.1)).map (Cr w.params y.2):=List.map_inj_left.mp e2 y hy
  unfold okG at a3
  split at a3
  ·rename_i a b es ep sl eo
   rw[eo]at e1
   exact⟨oR w.params es.toList y.2,ep,by rw[eo];exact e1,wY (of_decide_eq_true a3)⟩
  ·cases a3
section
variable{P:Program}{w:World}{K:Frag}{mg:Str->Option Value}{base:Heap}{p:PT}{hA:p.attOk}{q:PE}
abbrev OkD(p:PT)(hA:p.attOk)(P:Program)(w:World)(K:Frag)(mg:Str->Option Value)(base:Heap)(k:Nat)(x:FS)(m:List PV->Res PV):Prop :=
 bS P w K mg base (CXP P w) k (p.fx K x) (dAt K (p.fx K x)) (x.N.take x.k) (spM (p.T hA K) (x.N.take x.k).length m)
theorem okD(F:FD p K mg y)(body:∀ (cdv:Value) (A:Around) (outer:List Env) (s:Shared) (H:Hp) (E:XK),Ctx (cH (CXP P w) P w K mg base y.1.N y.1.q (am y.1.s) (p.fx K y.1) cdv A outer s H E) (p.T hA K) (WD (p.T hA K) E) k->y.1.N.Nodup ->
  SSs (cH (CXP P w) P w K mg base y.1.N y.1.q (am y.1.s) (p.fx K y.1) cdv A outer s H E) (p.T hA K) (WD (p.T hA K) E) (aP y.1.s) m):OkD p hA P w K mg base (k+1) y.1 (bG y.1.N.length m) :=
 zN (T:=p.T hA K) F.fn F.sc fun a b c d e f g=>body a b c d e f g F.sc.nd
theorem sg(F:FD p X.K X.mg y)
  (G:OkD p hA X.prog X.w X.K X.mg X.base k y.1 m) (cx:Ctx X (p.T hA X.K) W kk) (ha:SA X (p.T hA X.K) W (e::es) ms)
  (hk:k<=kk:=by decide) (hx:aO y.1.s=x:=by rfl) (hg:Gl X x:=by rfl) (hn:dB ms n:=by repeat' first | exact bc | apply ay) (hps:n=(y.1.N.take y.1.k).length:=by rfl)
  (hdb:(x ==("__debug__" : Str))=false:=by decide) (he:starEach (e::es) X.env=(false,eval e X.env)::starEach es X.env:=by rfl) (hpl:(backTo pos (starEach es X.env)).any (·.1)=false:=by rfl) :
  SE X (p.T hA X.K) W (.Call (.Name x np) (e::es) [] pos) (ak (ax m) ms) :=
 mS G cx hk hg (by subst hx;exact F.gl) F.fn.kp F.bn hn hps ha hdb he hpl
variable{X:Cx}{T:Tb}{W:Nat->St->Hp->Prop}{Z:Zn}{F F1 B L:Addr->Prop}{H H1:Hp}{σ:St}{env:En}{fp:Nat->List Addr}{D:Ends}
theorem pi:∀{xs:List PV}{ws:List V}{f:List Addr}{i:Nat}{x:PV},RelL T F B L H xs ws f->xs[i]?=some x->∃w fx,ws[i]?=some w/\Rel T F B L H x w fx/\∀b∈fx,b∈f
 | [],_,_,i,x,_,e=>by simp at e
 | a::xs,ws,f,i,x,h,e=>by
  unfold RelL at h
  obtain⟨v,ws',f1,f2,rfl,h1,h2,rfl⟩:=h
  cases i with
  | zero=>cases e;exact⟨v,f1,rfl,h1,fun b hb=>List.mem_append_left _ hb⟩
  | succ i =>
   obtain⟨w,fx,e1,r,s⟩:=pi h2 e
   exact⟨w,fx,e1,r,fun b hb=>List.mem_append_right _ (s b hb)⟩
end
open PySem.W (fnOf Frag)
section
variable{X:Cx}{W:Nat->St->Hp->Prop}{p:PT}{hA:p.attOk}
def Em(y:FS×Bool)(us:List Value):Prop:=∀(dT:Addr) (kV doc pm:Value) (an:Option Addr) (cdv ct:Value),
 ∃k:Option (Array Value)->Sem (List (Str×Value)),bindArgs (fnOf (aO y.1.s) y.1.q (bE y.1.s) (aP y.1.s) (am y.1.s) (.ref dT) kV doc pm an cdv ct) ⟨us,[]⟩=seqItems? (.ref dT) >>= k/\k (some [Value.bool y.2].toArray)=pure ((y.1.N.take y.1.k).zip (us++[.bool y.2]))
def El(y:FS×Bool)(kn:Str)(b:Bool)(us:List Value):Prop:=∀(dT:Addr) (kV doc pm:Value) (an:Option Addr) (cdv ct:Value),
 ∃k:Option (Array Value)->Sem (List (Str×Value)),bindArgs (fnOf (aO y.1.s) y.1.q (bE y.1.s) (aP y.1.s) (am y.1.s) (.ref dT) kV doc pm an cdv ct) ⟨us,[(kn,.bool b)]⟩=seqItems? (.ref dT) >>= k/\k (some [Value.bool y.2].toArray)=pure ((y.1.N.take y.1.k).zip (us++[.bool b]))
theorem sf{d:Bool}(F:FD p X.K X.mg y)
  (G:OkD p hA X.prog X.w X.K X.mg X.base k y.1 m) (cx:Ctx X (p.T hA X.K) W kk) (ha:SA X (p.T hA X.K) W (e::es) ms)
  (hbd:∀us,us.length+1=(y.1.N.take y.1.k).length->Em y us)
  (hy:y.2=d:=by rfl) (hk:k<=kk:=by decide) (hx:aO y.1.s=x:=by rfl) (hg:Gl X x:=by rfl) (hn:dB ms n:=by repeat' first | exact bc | apply ay) (hps:n+1=(y.1.N.take y.1.k).length:=by rfl)
  (hdb:(x ==("__debug__" : Str))=false:=by decide) (he:starEach (e::es) X.env=(false,eval e X.env)::starEach es X.env:=by rfl) (hpl:(backTo pos (starEach es X.env)).any (·.1)=false:=by rfl) :
  SE X (p.T hA X.K) W (.Call (.Name x np) (e::es) [] pos) (ak (fun xs=>ax m (xs++[.bl d])) ms):=by
 subst hy
 exact sd G cx hk hg (by subst hx;exact F.gl) F.fn.kp (F.fn.binds (es:=[.bool y.2]) fun kV doc pm an cdv ct us hl=>hbd us (by simpa using hl) _ kV doc pm an cdv ct) (vn _) (ph _) hn hps ha hdb he hpl
theorem yC(F:FD p X.K X.mg y)
  (G:OkD p hA X.prog X.w X.K X.mg X.base k y.1 m) (cx:Ctx X (p.T hA X.K) W kk) (ha:SA X (p.T hA X.K) W (e::es) ms)
  (hbd:∀us,us.length+1=(y.1.N.take y.1.k).length->El y kn b us)
  (hk:k<=kk:=by decide) (hx:aO y.1.s=x:=by rfl) (hg:Gl X x:=by rfl) (hn:dB ms n:=by repeat' first | exact bc | apply ay) (hps:n+1=(y.1.N.take y.1.k).length:=by rfl)
  (hall:(backToKw pos (keywordEach [⟨some kn,.Constant (.bool b) cj cpos,kpos⟩] X.env)).all (·.1.isSome)=true:=by rfl) (hks:(backToKw pos (keywordEach [⟨some kn,.Constant (.bool b) cj cpos,kpos⟩] X.env)).filterMap (·.1)=[kn]:=by rfl)
  (hdb:(x ==("__debug__" : Str))=false:=by decide) (he:starEach (e::es) X.env=(false,eval e X.env)::starEach es X.env:=by rfl)
  (hpl:((backTo pos (starEach (e::es) X.env)).any (·.1) ||(backToKw pos (keywordEach [⟨some kn,.Constant (.bool b) cj cpos,kpos⟩] X.env)).any (·.1.isNone))=false:=by rfl) :
  SE X (p.T hA X.K) W (.Call (.Name x np) (e::es) [⟨some kn,.Constant (.bool b) cj cpos,kpos⟩] pos) (ak (fun xs=>ax m (xs++[.bl b])) ms) :=
 r_ G cx hk hg (by subst hx;exact F.gl) F.fn.kp (nU.bindsK F.fn fun kV doc pm an cdv ct us hl=>hbd us hl _ kV doc pm an cdv ct) hn hps ha hall hks hdb he hpl
end
def smp:PV->Bool
 | .int _ | .non=>true
 | .lst f xs=>decide (f≠.mod)&&(bz xs).isSome
 | _=>false
def eqD(x:PV)(y:PV):Bool:=PyData.eqv y.data x.data
def cQ:PV->PV->Res PV:=fun o x=>match o with
 | .lst _ ys=>if shp x && ys.all shp && ys.all smp && decide (ys.length <= 10000000) then (match ys.findIdx? (eqD x) with
  | some j=>.ok (.int j)
  | none=>.stuck)else .stuck
 | _=>.stuck
def fO:PV->PV->Res PV:=fun o x=>match o with
 | .lst _ ys=>if shp x&&ys.all shp&&ys.all smp then .ok (.int (ys.countP (eqD x)))else .stuck
 | _=>.stuck
section
variable{X:Cx}{T:Tb}{W:Nat->St->Hp->Prop}{Z:Zn}{F F1 B L:Addr->Prop}{H H1:Hp}{σ:St}{env:En}{fp:Nat->List Addr}{D:Ends}
theorem Rd.inj{u u':List V}(h:Rd H a (.lst u))(h':Rd H a (.lst u')):u=u':=by
 rcases h with h |⟨o,h⟩<;>rcases h' with h' |⟨o',h'⟩<;>rw[h]at h'<;>cases h'<;>rfl
theorem iE:∀{xs:List PV}{ns:List Int},bz xs=some ns->xs=ns.map .int
 | [],ns,h=>by cases h;rfl
 | .int i::xs,ns,h=>by
  unfold bz at h
  cases e:bz xs with
  | none=>rw[e]at h;cases h
  | some ms=>rw[e]at h;cases h;rw[iE e];rfl
 | .non::xs,ns,h | .bl _::xs,ns,h | .str _::xs,ns,h | .lst _ _::xs,ns,h | .tup _::xs,ns,h | .obj _ _ _ _::xs,ns,h | .exc _::xs,ns,h=>by cases h
theorem rV{y y':PV}(s:smp y=true)(s':smp y'=true)(r:Rel T F B L H y u fy)(r':Rel T F B L H y' u fy'):y.data=y'.data:=by
 cases y with
 | int i =>
  unfold Rel at r
  obtain⟨rfl,_⟩:=r
  cases y' with
  | int j=>unfold Rel at r';obtain⟨e,_⟩:=r';cases e;rfl
  | non=>unfold Rel at r';cases r'.1
  | lst f xs=>unfold Rel at r';obtain⟨a,vs,f',e,_⟩:=r';cases e
  | _=>cases s'
 | non =>
  unfold Rel at r
  obtain⟨rfl,_⟩:=r
  cases y' with
  | int j=>unfold Rel at r';cases r'.1
  | non=>rfl
  | lst f xs=>unfold Rel at r';obtain⟨a,vs,f',e,_⟩:=r';cases e
  | _=>cases s'
 | lst f xs =>
  unfold Rel at r
  obtain⟨a,vs,f',rfl,h1,h2,_⟩:=r
  cases y' with
  | int j | non=>unfold Rel at r';cases r'.1
  | lst g zs =>
   unfold Rel at r'
   obtain⟨b,ws,g',e,k1,k2,_⟩:=r'
   cases e
   simp only[smp,Bool.and_eq_true,decide_eq_true_eq]at s s'
   obtain⟨ns,en⟩:=Option.isSome_iff_exists.mp s.2
   obtain⟨ms,em⟩:=Option.isSome_iff_exists.mp s'.2
   have e1:=cG en h2
   have e2:=cG em k2
   have:=Rd.inj (h1.rd s.1) (k1.rd s'.1)
   rw[e1,e2]at this
   have e3:ns=ms:=List.map_inj_right (fun _ _ h=>V.int.inj h) |>.mp this
   rw[iE en,iE em,e3]
   simp[PV.data]
  | _=>cases s'
 | _=>cases s
theorem nR(hK:X.K=T.K)(I:L2.Inv X pins σ H s)(hu:A.units+64 < cLine)(rx:Rel T F B L H x v fx)(rv:bp v v')(hx:shp x=true){ys:List PV}{us:List V}{fy:List Addr}{its:List Value}(r:RelL T F B L H ys us fy)(rl:aG us its)(hs:ys.all shp=true)(hm:ys.all smp=true) :
  ∃e:Value->Bool,(∀w∈its,SeqAt.EqAt A s w v' (e w))/\its.length=ys.length/\∀(m:Nat) (y:PV) (w:Value),ys[m]?=some y->its[m]?=some w->e w=eqD x y:=by
 classical
 have hlen:its.length=ys.length:=by rw[<- rl.length,<- r.length]
 let e:Value->Bool:=fun w=>decide (∃y∈ys,∃u fy,CS w=some u/\Rel T F B L H y u fy/\eqD x y=true)
 have pl:∀(m:Nat) (y:PV) (w:Value),ys[m]?=some y->its[m]?=some w->∃u fy,bp u w/\Rel T F B L H y u fy:=fun m y w ey ew=>by
  obtain⟨u,fx,e1,r1,_⟩:=pi r ey
  obtain⟨w',e2,r2⟩:=rl.get e1
  rw[ew]at e2
  cases e2
  exact⟨u,fx,r2,r1⟩
 have ev:∀(m:Nat) (y:PV) (w:Value),ys[m]?=some y->its[m]?=some w->e w=eqD x y:=fun m y w ey ew=>by
  obtain⟨u,fu,r1,r2⟩:=pl m y w ey ew
  have ym:=List.mem_of_getElem? ey
  show decide _=_
  cases q:eqD x y with
  | true=>exact decide_eq_true ⟨y,ym,u,fu,r1.abs,r2,q⟩
  | false =>
   refine decide_eq_false fun⟨y',hy',u',fu',a',r',q'⟩=>?_
   rw[r1.abs]at a'
   cases a'
   have:=rV (List.all_eq_true.mp hm y ym) (List.all_eq_true.mp hm y' hy') r2 r'
   unfold eqD at q q'
   rw[this]at q
   rw[q]at q'
   cases q'
 refine⟨e,fun w hw=>?_,hlen,ev⟩
 obtain⟨m,hmlt,ew⟩:=List.getElem_of_mem hw
 have ew':its[m]?=some w:=by rw[List.getElem?_eq_getElem hmlt,ew]
 have ey:ys[m]?=some ys[m]:=List.getElem?_eq_getElem (by omega)
 obtain⟨u,fu,r1,r2⟩:=pl m _ w ey ew'
 rw[ev m _ w ey ew']
 exact jX hK I hu r2 rx r1 rv (List.all_eq_true.mp hs _ (List.mem_of_getElem? ey)) hx
def sy(T:Tb)(g:PV->List PV->Option Int):V->List V->Hp->VK->Prop:=fun o vs H Q=>∃x ys a us v F B L fx fy j,o=.ref a/\vs=[v]/\SqL T.K H a us/\Rel T F B L H x v fx/\RelL T F B L H ys us fy/\shp x=true/\ys.all shp=true/\ys.all smp=true/\g x ys=some j/\Q (.int j) H
def gIx(x:PV)(ys:List PV):Option Int:=if ys.length<=10000000 then(ys.findIdx? (eqD x)).map fun j:Nat=>(j:Int)else none
def gCt(x:PV)(ys:List PV):Option Int:=some (ys.countP (eqD x))
theorem tJ(hK:X.K=T.K)(hu:X.A.units+66 < cLine):MtM X "list.index" (sy T gIx):=by
 intro pins s σ H o vs v' us' Q I rx rv h
 obtain⟨x,ys,a,us,v,F,B,L,fx,fy,j,rfl,rfl,hs,r1,r2,h1,h2,h3,hg,q⟩:=h
 cases rx
 obtain⟨u,rfl,ru⟩:=rv.one
 obtain⟨its,r,pl,_⟩:=I.list (by rw[hK];exact hs)
 have hu1:X.A.in1.units+64 < cLine:=by show X.A.units+1+64 < cLine;omega
 obtain⟨e,e1,e2,e3⟩:=nR hK I hu1 r1 ru h1 r2 r h2 h3
 unfold gIx at hg
 split at hg
 case isFalse=>cases hg
 rename_i hlen
 obtain⟨k,ek,rfl⟩:=Option.map_eq_some_iff.mp hg
 obtain⟨kl,k1,k2⟩:=List.findIdx?_eq_some_iff_getElem.mp ek
 obtain⟨ob,n,g,c,d,dt⟩:=pl
 obtain⟨oc,od,odt,osl⟩:=ob
 dsimp only at c d dt
 subst c d dt
 have ev:∀(m:Nat) (hm:m < its.toArray.size) (hy:m < ys.length),e its.toArray[m]=eqD x ys[m]:=fun m hm hy=>e3 m _ _ (List.getElem?_eq_getElem hy) (by rw[List.getElem?_eq_getElem (by simpa using hm)];simp)
 refine call_meets PySem.F.slot_list_index ⟨_,g,rfl⟩ PySem.F.entry_list_index (PySem.F.args_list_index_2 _ _) (SeqAt.list_indexAt a its.toArray n none osl u e k (by simp;omega) (by omega) ?_ fun m hm hlt=>?_) ⟨g,fun w hw=>e1 w (by simpa using hw),?_⟩
 ·rw[ev k (by simp;omega) kl];exact k1
 ·rw[ev m hm (by omega)]
  simpa using k2 m hlt
 ·exact⟨.int k,H,I.tok _,⟨_,rfl⟩,q⟩
theorem tK(hK:X.K=T.K)(hu:X.A.units+66 < cLine):MtM X "list.count" (sy T gCt):=by
 intro pins s σ H o vs v' us' Q I rx rv h
 obtain⟨x,ys,a,us,v,F,B,L,fx,fy,j,rfl,rfl,hs,r1,r2,h1,h2,h3,hg,q⟩:=h
 cases rx
 obtain⟨u,rfl,ru⟩:=rv.one
 obtain⟨its,r,pl,_⟩:=I.list (by rw[hK];exact hs)
 have hu1:X.A.in1.units+64 < cLine:=by show X.A.units+1+64 < cLine;omega
 obtain⟨e,e1,e2,e3⟩:=nR hK I hu1 r1 ru h1 r2 r h2 h3
 cases hg
 obtain⟨ob,n,g,c,d,dt⟩:=pl
 obtain⟨oc,od,odt,osl⟩:=ob
 dsimp only at c d dt
 subst c d dt
 have ec:its.countP e=ys.countP (eqD x):=by
  have:∀(is:List Value) (zs:List PV),is.length=zs.length->(∀(m:Nat) (y:PV) (w:Value),zs[m]?=some y->is[m]?=some w->e w=eqD x y)->is.countP e=zs.countP (eqD x):=by
   intro is
   induction is with
   | nil=>intro zs hl _;cases zs with | nil=>rfl | cons=>simp at hl
   | cons w is ih =>
    intro zs hl hz
    cases zs with
    | nil=>simp at hl
    | cons y zs =>
     rw[List.countP_cons,List.countP_cons,ih zs (by simpa using hl) fun m y w a b=>hz (m+1) y w a b,hz 0 y w rfl rfl]
  exact this its ys e2 e3
 refine call_meets PySem.F.slot_list_count ⟨_,g,rfl⟩ PySem.F.entry_list_count (PySem.F.args_list_count_2 _ _) (SeqAt.list_countAt a its.toArray n none osl u e) ⟨g,fun w hw=>e1 w (by simpa using hw),?_⟩
 rw[List.toList_toArray,ec]
 exact⟨.int _,H,I.tok _,⟨_,rfl⟩,q⟩
def dW(g:PV->PV->Res PV)(mo mk:ME):ME:=fun env=>match mo env,mk env with
 | .ok (.lst f ys),.ok x=>g (.lst f ys) x
 | _,_=>.stuck
theorem o_{nm:Str}{id:String}{g:PV->PV->Res PV}{gg:PV->List PV->Option Int}{o k:Expr}{mo mk:ME}{apos cpos:Pos}(hK:X.K=T.K)(slot:Slot "list" nm id)(hty:typeOf (.builtin id)=pure (.type "method_descriptor"))(hmt:MtM X id (sy T gg))
  (hr:∀f ys x,g (.lst f ys) x=.stuck\/∃j,g (.lst f ys) x=.ok (.int j)/\shp x=true/\ys.all shp=true/\ys.all smp=true/\gg x ys=some j)
  (ho:SE X T W o mo) (hk:SE X T W k mk) (hbase:attributeBase o nm X.env (eval o X.env)=eval o X.env:=by rfl)
  (hst:starEach [k] X.env=[(false,eval k X.env)]:=by rfl)
  (hfew:((backTo cpos (starEach [k] X.env)).all (fun x=>!x.1)&&(backToKw cpos (keywordEach [] X.env)).all (fun x=>x.1.isSome)&&decide ([k].length+([]:List Keyword).length+(if([]:List Keyword).isEmpty then 0 else 1) < 30))=true:=by rfl)
  (hline:(apos.endLine==cpos.line)=true:=by rfl):SE X T W (.Call (.Attribute o nm apos) [k] [] cpos) (dW g mo mk) :=
 PE.wk (sW (cpos:=cpos) (apos:=apos) PySem.F.plainAttrs_list slot hty hmt ho (ac hk af hst) hbase hfew hline hst) fun σ H Q h=>by
  obtain⟨Z,F,env,fp,S,q⟩:=h
  unfold dW at q
  split at q
  case h_2=>exact q.elim
  rename_i f ys x em ek
  refine⟨Z,F,env,fp,S,?_⟩
  rw[em]
  intro v H1 F1 f1 g1 r1 n1 d1 w1
  have r1':=r1
  unfold Rel at r1'
  obtain⟨a,us,fp',rfl,hl,_,_⟩:=r1'
  refine⟨.inl ⟨rfl,us,by rw[hK];exact hl.sq⟩,Z,F1,env,fp,S.grow g1,?_⟩
  unfold ad aj
  rw[ek]
  intro vs H2 F2 f2 g2 r2 n2 d2 w2
  obtain⟨u,rfl,ru⟩:=r2.one
  have r3:=r1.ext g2.ext g2.mono
  unfold Rel at r3
  obtain⟨b,us2,fp2,e,hl2,hr2,_⟩:=r3
  cases e
  rcases hr f ys x with z |⟨j,e,h1,h2,h3,h4⟩
  ·rw[z]at q;exact q.elim
  ·rw[e]at q
   exact⟨x,ys,a,us2,u,F2,Z.B,Own fp,f2,fp2,j,rfl,rfl,hl2.sq,ru,hr2,h1,h2,h3,h4,q.scal (g1.trans g2) d6⟩
theorem qy(f:Fl)(ys:List PV)(x:PV):cQ (.lst f ys) x=.stuck\/∃j,cQ (.lst f ys) x=.ok (.int j)/\shp x=true/\ys.all shp=true/\ys.all smp=true/\gIx x ys=some j:=by
 unfold cQ
 dsimp only
 split
 ·rename_i h
  simp only[Bool.and_eq_true,decide_eq_true_eq]at h
  cases e:ys.findIdx? (eqD x)with
  | none=>exact .inl rfl
  | some j=>exact .inr ⟨j,rfl,h.1.1.1,h.1.1.2,h.1.2,by unfold gIx;rw[if_pos h.2,e];rfl⟩
 ·exact .inl rfl
theorem qz(f:Fl)(ys:List PV)(x:PV):fO (.lst f ys) x=.stuck\/∃j,fO (.lst f ys) x=.ok (.int j)/\shp x=true/\ys.all shp=true/\ys.all smp=true/\gCt x ys=some j:=by
 unfold fO
 dsimp only
 split
 ·rename_i h
  simp only[Bool.and_eq_true]at h
  exact .inr ⟨_,rfl,h.1.1,h.1.2,h.2,rfl⟩
 ·exact .inl rfl
theorem gM{o k:Expr}{mo mk:ME}{apos cpos:Pos}(cx:Ctx X T W kk)(hu:X.A.units+66 < cLine)(ho:SE X T W o mo)(hk:SE X T W k mk)(hbase:attributeBase o "index" X.env (eval o X.env)=eval o X.env:=by rfl)
  (hst:starEach [k] X.env=[(false,eval k X.env)]:=by rfl)
  (hfew:((backTo cpos (starEach [k] X.env)).all (fun x=>!x.1)&&(backToKw cpos (keywordEach [] X.env)).all (fun x=>x.1.isSome)&&decide ([k].length+([]:List Keyword).length+(if([]:List Keyword).isEmpty then 0 else 1) < 30))=true:=by rfl)
  (hline:(apos.endLine==cpos.line)=true:=by rfl):SE X T W (.Call (.Attribute o "index" apos) [k] [] cpos) (dW cQ mo mk) :=
 o_ cx.hK PySem.F.slot_list_index PySem.F.type_list_index (tJ cx.hK hu) qy ho hk hbase hst hfew hline
theorem r8{o k:Expr}{mo mk:ME}{apos cpos:Pos}(cx:Ctx X T W kk)(hu:X.A.units+66 < cLine)(ho:SE X T W o mo)(hk:SE X T W k mk)(hbase:attributeBase o "count" X.env (eval o X.env)=eval o X.env:=by rfl)
  (hst:starEach [k] X.env=[(false,eval k X.env)]:=by rfl)
  (hfew:((backTo cpos (starEach [k] X.env)).all (fun x=>!x.1)&&(backToKw cpos (keywordEach [] X.env)).all (fun x=>x.1.isSome)&&decide ([k].length+([]:List Keyword).length+(if([]:List Keyword).isEmpty then 0 else 1) < 30))=true:=by rfl)
  (hline:(apos.endLine==cpos.line)=true:=by rfl):SE X T W (.Call (.Attribute o "count" apos) [k] [] cpos) (dW fO mo mk) :=
 o_ cx.hK PySem.F.slot_list_count PySem.F.type_list_count (tK cx.hK hu) qz ho hk hbase hst hfew hline
end
abbrev MU:=En->Option (Bool×En)
def GU(T:Tb)(Z:Zn)(D:Ends)(σ0:St):Option (Bool×En)->Prop
 | some r=>∀F H σ fp,ar T Z F H σ r.2 fp->σ[0]?=σ0[0]?->D.rt (.bl r.1) H
 | none=>False
def tU(T:Tb)(_:Nat->St->Hp->Prop)(m:MU):TS:=fun D σ H=>∃Z F env fp,ar T Z F H σ env fp/\GU T Z D σ (m env)
def rA(m:ME):MU:=fun env=>match m env with
 | .ok (.bl b)=>some (b,env)
 | _=>none
def vq(a:MS)(b:MU):MU:=fun env=>match a env with
 | .next e=>b e
 | _=>none
def uIf(c:MT)(a b:MU):MU:=fun env=>match c env with
 | .ok true=>a env
 | .ok false=>b env
 | _=>none
def iS(n:Nat)(m:MU)(args:List PV):Option (Bool×PV):=match m (args.map some++List.replicate (n - args.length) none)with
 | some (b,e)=>(match e[0]? with
  | some (some o)=>some (b,o)
  | _=>none)
 | none=>none
def GFU(T:Tb)(Z:Zn)(v0:V)(Q:VK):Option (Bool×PV)->Prop
 | some (b,pv)=>∀F H f,dv T Z F H->Rel T F Z.B NoL H pv v0 f->f.Nodup->(∀a∈f,¬F a)->(∀a∈f,Z.H0 a=none\/Z.fp0 a)->Q (.bl b) H
 | none=>False
def spU(T:Tb)(n:Nat)(m:List PV->Option (Bool×PV)):Sp:=fun vs H Q _=>vs.length=n/\∃v0 pvs F B f,vs[0]?=some v0/\mG T F B H pvs vs f/\GFU T ⟨H,F,(·∈f),B,none⟩ v0 Q (m pvs)
section
variable{X:Cx}{T:Tb}{W:Nat->St->Hp->Prop}{Z:Zn}{F F1 F3 B L:Addr->Prop}{H H1 H3:Hp}{σ:St}{env:En}{fp:Nat->List Addr}{D:Ends}
theorem rG(he:SE X T W e m):PSs X [.Return (some e) pos] (tU T W (rA m)) :=
 lq (PS.wk (iy (pos:=pos) he) fun D σ H ⟨Z,F,env,fp,S,q⟩=>by
  unfold rA at q
  refine tE.bind S (fun c e=>by rw[e]at q;exact q.elim) (fun e=>by rw[e]at q;exact q) fun pv v H1 F1 f e g r h1 h2 h3=>?_
  rw[e]at q
  cases pv with
  | bl b =>
   unfold Rel at r
   rw[r.1]
   exact q F1 H1 σ fp (S.grow g) rfl
  | _=>exact q.elim)
theorem yn{aN:List Stmt}(h1:SSK X T W [0] st a)(h2:PSs X aN (tU T W b)):PSs X (st::aN) (tU T W (vq a b)) :=
 PSs.wk (jx h1 h2) fun D σ H ⟨Z,F,env,fp,S,q⟩=>by
  refine⟨Z,F,env,fp,S,?_⟩
  unfold vq at q
  cases e:a env with
  | next e' =>
   rw[e]at q
   refine fun F' H' σ' fp' S' k=>⟨Z,F',e',fp',S',?_⟩
   dsimp only at q
   cases e2:b e' with
   | none=>rw[e2]at q;exact q
   | some r=>rw[e2]at q;exact fun F H σ fp S'' k'=>q F H σ fp S'' (k'.trans (k 0 (by simp)))
  | _=>rw[e]at q;exact q.elim
theorem Bv{aN:List Stmt}(hc:ST X T W c mc)(ha:PSs X a (tU T W ma))(hb:PSs X aN (tU T W mb)):PSs X (.If c a [] pos::aN) (tU T W (uIf mc ma mb)) :=
 PSs.wk (jx (sH (pos:=pos) hc ha ls) hb) fun D σ H ⟨Z,F,env,fp,S,q⟩=>by
  unfold uIf at q
  refine tT.bind S (fun c e=>by rw[e]at q;exact q.elim) (fun e=>by rw[e]at q;exact q) fun b H' F' e g=>?_
  rw[e]at q
  cases b with
  | true=>exact(if_pos rfl).mpr ⟨Z,F',env,fp,S.grow g,q⟩
  | false=>exact(if_neg (by decide)).mpr ⟨Z,F',env,fp,S.grow g,q⟩
theorem zQ{P:Program}{w:World}{K:PySem.W.Frag}{mg:Str->Option Value}{base:Heap}(F:Fun K x qual st f fd)(S:b_ N ps (am st))
  (body:∀ (cdv:Value) (A:Around) (outer:List Env) (s:Shared) (H:Hp) (E:XK),cL k (A.deeper (PyProof.Rows.envOfC qual (am st) s.heap.objs.size f cdv)) ->
   PSs (cH (CXP P w) P w K mg base N qual (am st) f cdv A outer s H E) (aP st) (tU T (WD T E) m)):bS P w K mg base (CXP P w) (k+1) f fd ps (spU T ps.length (iS N.length m)):=by
 obtain⟨oc,od,kV,doc,pm,an,cdv,ct,osl,rfl,lk,hcd⟩:=F.ex
 refine nD lk hcd S (fun vs H Q E h=>h.1) fun A outer s H vs Q E hr hsp=>⟨_,body cdv A outer s H E hr,?_⟩
 obtain⟨_,v0,pvs,F,B,fl,hv0,R,q⟩:=hsp
 obtain⟨fp,S0⟩:=gf N R none (fun v hv=>nomatch hv)
 refine⟨_,F,_,fp,S0,?_⟩
 unfold iS at q
 have hs0:(L2.eh N vs)[0]?=some (some v0):=by
  have hl0:0 < vs.length:=(List.getElem?_eq_some_iff.mp hv0).1
  unfold L2.eh
  rw[List.getElem?_append_left (by simpa using hl0),List.getElem?_map,hv0]
  rfl
 cases e:m (pvs.map some++List.replicate (N.length - pvs.length) none)with
 | none=>rw[e]at q;exact q.elim
 | some r =>
  obtain⟨b,e'⟩:=r
  rw[e]at q
  dsimp only at q
  intro F' H' σ' fp' S' k'
  rw[hs0]at k'
  cases e0:e'[0]? with
  | none=>rw[e0]at q;exact q.elim
  | some o0 =>
   cases o0 with
   | none=>rw[e0]at q;exact q.elim
   | some o =>
    rw[e0]at q
    obtain⟨v,h2,r⟩:=S'.rel 0 o e0
    rw[k']at h2
    cases h2
    exact q F' H' (fp' 0) S'.hp r (S'.nd 0) (fun a ha=>(S'.dis 0 a ha).1) (S'.new 0)
theorem ar.callU(S:ar T Z F H σ env fp)(hi0:i≠0)(h0:σ[i]?=some (some v0))(hl:i < env.length)
  (hp3:dv T ⟨H,F,(·∈fp i),B',none⟩ F3 H3) (r:Rel T F3 B' NoL H3 o v0 f3) (hb:o.has Fl.isBor=false) (nd3:f3.Nodup) (nf3:∀a∈f3,¬F3 a) (new3:∀a∈f3,H a=none\/a∈fp i) :
  ar T Z F3 H3 σ (env.set i (some o)) (bj fp i f3):=by
 have zfree:∀a,H a=none->Z.H0 a=none\/Z.fp0 a:=fun a z=>by
  by_cases q:Z.fp0 a
  ·exact .inr q
  ·refine .inl ?_
   cases w:Z.H0 a with
   | none=>rfl
   | some o=>rw[S.hp.keep a o w q]at z;exact(nomatch z)
 have jn:∀j,j≠i->∀a∈fp j,a∉fp i:=fun j hj a ha z=>S.dj j i hj a ha z
 have rel':Rel T F3 Z.B NoL H3 o v0 f3:=Rel.noB hb r
 refine⟨⟨S.hp.bo,fun a u e n=>hp3.keep a u (S.hp.keep a u e n) fun z=>?_,fun a h=>hp3.f0 a (S.hp.f0 a h),fun a h=>?_,hp3.ft⟩,by rw[List.length_set,S.len],fun j pv e=>?_,fun j=>?_,fun j k hjk b hb=>?_,fun j b hb=>?_,fun j b hb=>?_,fun j b hb=>?_,fun w hw=>?_⟩
 ·rcases S.new i a z with q | q
  ·rw[e]at q;cases q
  ·exact n q
 ·rcases hp3.fn a h with z | z | z
  ·exact S.hp.fn a z
  ·exact .inr (zfree a z)
  ·exact .inr (S.new i a z)
 ·by_cases hj:j=i
  ·subst hj
   rw[List.getElem?_set_self hl]at e
   cases e
   refine⟨v0,h0,?_⟩
   unfold bj
   rw[if_pos rfl]
   exact rel'
  ·rw[List.getElem?_set_ne (Ne.symm hj)]at e
   obtain⟨w,h1,h2⟩:=S.rel j pv e
   refine⟨w,h1,?_⟩
   unfold bj
   rw[if_neg hj]
   refine Rel.tr (fun a h=>hp3.f0 a h) (fun _ h=>h) (fun _ h=>h) (fun b u q h=>hp3.keep b u q fun z=>?_) (fun b hb u q=>hp3.keep b u q (jn j hj b hb)) h2
   rcases h with h | h | h | h
   ·exact(S.dis i b z).1 h
   ·exact S.bow b h ⟨i,z⟩
   ·exact h
   ·obtain⟨o',e1,e2⟩:=S.ch i b z
    have q1:H b=some u:=q
    rw[q1]at e1
    cases e1
    cases u with
    | lst _ | ins _ _ _=>exact h
    | _=>exact e2
 ·unfold bj;split
  ·exact nd3
  ·exact S.nd j
 ·unfold bj at hb ⊢
  have fj:∀l,l≠i->∀a∈f3,a∉fp l:=fun l hi a ha z=>by
   rcases new3 a ha with q | q
   ·obtain⟨_,o',e⟩:=S.dis l a z
    rw[e]at q;cases q
   ·exact jn l hi a z q
  by_cases h1:j=i
  ·rw[if_pos h1]at hb
   rw[if_neg (by rw[<- h1];exact Ne.symm hjk)]
   exact fj k (by rw[<- h1];exact Ne.symm hjk) b hb
  ·rw[if_neg h1]at hb
   by_cases h2:k=i
   ·rw[if_pos h2]
    exact fun z=>fj j h1 b z hb
   ·rw[if_neg h2]
    exact S.dj j k hjk b hb
 ·unfold bj at hb
  by_cases h1:j=i
  ·rw[if_pos h1]at hb;exact⟨nf3 b hb,r.there b hb⟩
  ·rw[if_neg h1]at hb
   obtain⟨n,u,e⟩:=S.dis j b hb
   refine⟨fun z=>?_,u,hp3.keep b u e (jn j h1 b hb)⟩
   rcases hp3.fn b z with q | q | q
   ·exact n q
   ·have q':H b=none:=q
    rw[e]at q';cases q'
   ·exact jn j h1 b hb q
 ·unfold bj at hb
  by_cases h1:j=i
  ·rw[if_pos h1]at hb
   rcases new3 b hb with q | q
   ·exact zfree b q
   ·exact S.new i b q
  ·rw[if_neg h1]at hb;exact S.new j b hb
 ·unfold bj at hb
  by_cases h1:j=i
  ·rw[if_pos h1]at hb;exact r.chg b hb
  ·rw[if_neg h1]at hb
   obtain⟨u,e,c⟩:=S.ch j b hb
   exact⟨u,hp3.keep b u e (jn j h1 b hb),c⟩
 ·obtain⟨h1,h2⟩:=S.pn w hw
  refine⟨h1,?_⟩
  unfold b8 at h2 ⊢
  rw[List.getElem?_set_ne hi0];exact h2
def mAp(i j:Nat)(m:List PV->Option (Bool×PV)):MU:=fun env=>match env[i]? with
 | some (some (.tup xs))=>(match env[j]? with
  | some (some (.int z))=>(match m [.tup xs,.int z] with
   | some (b,o)=>if o.has Fl.isBor then none else some (b,env.set i (some o))
   | none=>none)
  | _=>none)
 | _=>none
def GAp(T:Tb)(Z:Zn)(σ:St)(Q:VK):Option (Bool×En)->Prop
 | some (b,e)=>∀F H fp,ar T Z F H σ e fp->Q (.bl b) H
 | none=>False
theorem BM
  (G:bS X.prog X.w X.K X.mg X.base (CXP X.prog X.w) k f fd ps (spU T ps.length m)) (cx:Ctx X T W kk) (hk:k<=kk) (hg:Gl X x) (hm:X.mg x=some (.ref f)) (hkp:PySem.W.keepIn X.K (.ref f)=true) (hb:cX X.K fd ps []) (hps:2=ps.length) (hi0:i≠0)
  (hN:X.N[i]?=some y) (hv:Vis X.env.scope y) (hN2:X.N[j]?=some z) (hv2:Vis X.env.scope z)
  (hdb:(x ==("__debug__" : Str))=false:=by decide) (hdy:(y ==("__debug__" : Str))=false:=by decide) (hcy:(y ==("__classdict__" : Str))=false:=by decide) (hdz:(z ==("__debug__" : Str))=false:=by decide) (hcz:(z ==("__classdict__" : Str))=false:=by decide)
  (hst:starEach [.Name y py,.Name z pz] X.env=(false,eval (.Name y py) X.env)::starEach [.Name z pz] X.env:=by rfl) (hst2:starEach [.Name z pz] X.env=(false,eval (.Name z pz) X.env)::starEach [] X.env:=by rfl) (hpl:(backTo pos (starEach [.Name z pz] X.env)).any (·.1)=false:=by rfl) :
  L2.PE X (.Call (.Name x p) [.Name y py,.Name z pz] [] pos) (fun σ H Q=>∃Z F env fp,ar T Z F H σ env fp/\GAp T Z σ Q (mAp i j m env)):=by
 intro pins s σ H Q I h
 obtain⟨Z,F,env,fp,S,q⟩:=h
 refine wpAny_Call_Name_kw (fk I hg hm ?_ hdb)
 unfold mAp at q
 split at q
 case h_2=>exact q.elim
 rename_i xs e0
 split at q
 case h_2=>exact q.elim
 rename_i n en
 cases em:m [.tup xs,.int n]with
 | none=>rw[em]at q;exact q.elim
 | some r =>
 obtain⟨b,o⟩:=r
 rw[em]at q
 dsimp only at q
 split at q
 case isTrue=>exact q.elim
 rename_i hbr
 have hbr':o.has Fl.isBor=false:=by simpa using hbr
 obtain⟨v0,hv0,r0⟩:=S.rel i _ e0
 have hl0:i < env.length:=(List.getElem?_eq_some_iff.mp e0).1
 obtain⟨w,hw0,rw0⟩:=S.rel j _ en
 unfold Rel at rw0
 obtain⟨rfl,fpj⟩:=rw0
 have pa:=bZ (X:=X) (cu (pos:=py) hN hv hdy hcy) (bZ (X:=X) (cu (pos:=pz) hN2 hv2 hdz hcz) eH hst2) hst
 refine PySem.W.callWith_K (h₀:=X.base) I.ok.mod.kin hkp (thn (pa pos pins s σ H (fun vs H1=>∀ us s1,L2.Inv X pins σ H1 s1->aG vs us->wpAny (model X.prog X.w) X.A (call (.ref f) us) (EP X pins σ Q) X.xe s1) I
  ⟨v0,hv0,.int n,hw0,fun us s1 I1 rv=>?_⟩) fun us s1 ⟨vs,H1,I1,r,q1⟩=>⟨I1.kIn,q1 us s1 I1 r⟩) hst hpl
 have hBo:∀a,Z.B a->(∃o,H a=some o)/\a∉fp i:=fun a h=>by
  obtain⟨⟨o,h1⟩,h2⟩:=S.hp.bo a h
  exact⟨⟨o,S.hp.keep a o h1 h2⟩,fun z=>S.bow a h ⟨i,z⟩⟩
 have R:mG T F (fun a=>(∃o,H a=some o)/\a∉fp i) H [.tup xs,.int n] [v0,.int n] (fp i):=by
  refine⟨?_,S.nd i,fun a ha=>(S.dis i a ha).1,fun a h=>h,S.hp.ft⟩
  unfold RelL
  refine⟨v0,[.int n],fp i,[],rfl,Rel.tr (fun _ h=>h) hBo (fun _ h=>h) (fun _ _ q _=>q) (fun _ _ _ q=>q) r0,?_,by simp⟩
  unfold RelL
  refine⟨.int n,[],[],[],rfl,by unfold Rel;exact⟨rfl,rfl⟩,by unfold RelL;exact⟨rfl,rfl⟩,rfl⟩
 have r2:aG [v0,.int n] us:=rv
 have hl:us.length=ps.length:=by
  rw[<- r2.length]
  exact hps
 refine wpAny_call (codeAny_mono (G.run X.A X.stack s1 H ⟨us,[]⟩ us [v0,.int n] Q (fun cls _ H'=>∃ c,cls=.ref (T.xcl c)/\W c σ H') (cx.room.mono hk) I1.env0 (by simpa using hb s1 us I1.kIn (by simpa using hl)) r2
  ⟨by rw[r2.length,hl],v0,_,F,_,_,rfl,R,?_⟩) fun rs s' hq=>?_)
 ·rw[em]
  exact fun F3 H3 f3 hp3 r3 nd3 nf3 new3=>q F3 H3 _ (S.callU hi0 hv0 hl0 hp3 r3 hbr' nd3 nf3 new3)
 ·cases rs with
  | error e =>
   obtain⟨cls,H',fl,c,rfl,hw⟩:=hq
   exact cx.xf pins σ H s1 c H' e s' I1 fl hw
  | ok fl =>
   cases fl with
   | ret u=>exact I1.after hq
   | next | brk | cont=>exact False.elim hq
def ny(c:MT)(u:MU):MS:=fun env=>match c env with
 | .ok true=>(match u env with
  | some (true,e)=>.next e
  | some (false,_)=>.ret (.bl false)
  | none=>.stuck)
 | .ok false=>.ret (.bl false)
 | _=>.stuck
theorem vC(hc:ST X T W c mc)(he:L2.PE X e (fun σ H Q=>∃Z F env fp,ar T Z F H σ env fp/\GAp T Z σ Q (u env)))
  (ht:∀whole,isTrue e X.env whole=(do let v <- whole;standAt e.pos;holding [v] (truthy v)):=by intro _;rfl) :
  SS X T W (.If (.BoolOp .Or [.UnaryOp .Not c po1,.UnaryOp .Not e po2] po3) [.Return (some (.Constant (.bool false) jj po4)) po5] [] pos) (ny mc u) :=
 PS.wk (sH (pos:=pos) (PW.pt (xL (ou (pos:=po1) hc) (sD (ou (pos:=po2) (yO he ht))))) (lq (iy (pos:=po5) (sX (b:=false) (j:=jj) (pos:=po4)))) ls) fun D σ H ⟨Z,F,env,fp,S,q⟩=>by
  unfold ny at q
  refine tT.bind S (fun c e=>by rw[e]at q;exact q.elim) (fun e=>by rw[e]at q;exact q) fun b H' F' e g=>?_
  rw[e]at q
  have S1:=S.grow g
  cases b with
  | false =>
   exact(if_pos rfl).mpr ((if_pos rfl).mpr (q F' H' _ [] S1.hp (by unfold Rel;exact⟨rfl,rfl⟩) List.nodup_nil (fun _ z=>nomatch z) (fun _ z=>nomatch z)))
  | true =>
   refine(if_neg (by decide)).mpr ⟨Z,F',env,fp,S1,?_⟩
   dsimp only at q
   cases e2:u env with
   | none=>rw[e2]at q;exact q
   | some r =>
    obtain⟨b,e'⟩:=r
    rw[e2]at q
    intro F2 H2 fp2 S2
    cases b with
    | true=>exact⟨true,rfl,(if_neg (by decide)).mpr (q F2 H2 σ fp2 S2)⟩
    | false=>exact⟨false,rfl,(if_pos rfl).mpr (q F2 H2 _ [] S2.hp (by unfold Rel;exact⟨rfl,rfl⟩) List.nodup_nil (fun _ z=>nomatch z) (fun _ z=>nomatch z))⟩
theorem RelL.nestP:∀{xs:List PV}{ws:List V}{f:List Addr}{n:Nat}{ys:List PV},RelL T F B NoL H xs ws f->xs[n]?=some (.lst .own ys)->
  ∃b f0 f1 f2 vs,f=f0 ++(b::f1)++ f2/\ws[n]?=some (.ref b)/\H b=some (.lst vs)/\RelL T F B NoL H ys vs f1 /\
   ∀(H':Hp) (ys':List PV) (f1':List Addr) (p:Addr) (vp:List V),f.Nodup->p∈f1->H p=some (.lst vp)->H' b=some (.lst vs)->RelL T F B NoL H' ys' vs f1'->(∀a o,H a=some o->a≠p->H' a=some o)->¬F p->¬B p->RelL T F B NoL H' (xs.set n (.lst .own ys')) ws (f0 ++(b::f1')++ f2)
 | [],_,_,n,ys,_,e=>by simp at e
 | x::xs,ws,f,0,ys,h,e=>by
  simp at e
  subst e
  unfold RelL at h
  obtain⟨v,ws',fa,fb,rfl,r1,r2,rfl⟩:=h
  unfold Rel at r1
  obtain⟨b,vs,f1,rfl,hl,hr,hf⟩:=r1
  obtain rfl:fa=b::f1:=hf
  refine⟨b,[],f1,fb,vs,by simp,rfl,hl,hr,fun H' ys' f1' p vp nd hp hlp h1 h2 kp nF nB=>?_⟩
  have nd2:=List.nodup_append.mp nd
  have tr:RelL T F B NoL H' xs ws' fb:=by
   refine RelL.tr (fun _ h=>h) (fun _ h=>h) (fun _ h=>h) (fun a o q h=>kp a o q fun z=>?_) (fun a ha o q=>kp a o q fun z=>?_) r2
   ·subst z
    rcases h with h | h | h | h
    ·exact nF h
    ·exact nB h
    ·exact h
    ·rw[hlp]at q;cases q;exact h
   ·subst z
    exact nd2.2.2 a (List.mem_cons_of_mem _ hp) a ha rfl
  rw[List.set_cons_zero]
  unfold RelL
  refine⟨.ref b,ws',b::f1',fb,rfl,?_,tr,by simp⟩
  unfold Rel
  exact⟨b,vs,f1',rfl,h1,h2,rfl⟩
 | x::xs,ws,f,n+1,ys,h,e=>by
  unfold RelL at h
  obtain⟨v,ws',fa,fb,rfl,r1,r2,rfl⟩:=h
  obtain⟨b,f0,f1,f2,vs,rfl,h1,h2,h3,h4⟩:=RelL.nestP (n:=n) r2 (by simpa using e)
  refine⟨b,fa++f0,f1,f2,vs,by simp,by simpa using h1,h2,h3,fun H' ys' f1' p vp nd hp hlp g1 g2 kp nF nB=>?_⟩
  have nd2:=List.nodup_append.mp nd
  have tr:Rel T F B NoL H' x v fa:=by
   refine Rel.tr (fun _ h=>h) (fun _ h=>h) (fun _ h=>h) (fun a o q h=>kp a o q fun z=>?_) (fun a ha o q=>kp a o q fun z=>?_) r1
   ·subst z
    rcases h with h | h | h | h
    ·exact nF h
    ·exact nB h
    ·exact h
    ·rw[hlp]at q;cases q;exact h
   ·subst z
    exact nd2.2.2 a ha a (by simp[hp]) rfl
  have:=h4 H' ys' f1' p vp nd2.2.1 hp hlp g1 g2 kp nF nB
  rw[List.set_cons_succ]
  unfold RelL
  exact⟨v,ws',fa,f0 ++(b::f1')++ f2,rfl,tr,this,by simp⟩
def g7(i:Nat)(k j z:Int):MS:=fun env=>match env[i]? with
 | some (some (.tup xs))=>(match ixN xs.length k with
  | some n=>(match xs[n]? with
   | some (.lst .own ys)=>(match ixN ys.length j with
    | some l=>(match ys[l]? with
     | some (.lst .own us)=>(match bz us with
      | some ns=>if ns.length<=1000000 then .next (env.set i (some (.tup (xs.set n (.lst .own (ys.set l (.lst .own ((ns++[z]).map .int))))))))else .stuck
      | none=>.stuck)
     | _=>.stuck)
    | none=>.stuck)
   | _=>.stuck)
  | none=>.stuck)
 | _=>.stuck
theorem n9(hK:X.K=T.K)(hN:X.N[i]?=some x)(hv:Vis X.env.scope x)(hix:de (.Constant (.int k) jj py))(hix2:de (.Constant (.int j) jk pz))
  (hs:swapsWith (.Call (.Attribute (.Subscript (.Subscript (.Name x px) (.Constant (.int k) jj py) spos) (.Constant (.int j) jk pz) spo2) "append" apos) [.Constant (.int z) jl pc] [] cpos) none pos.line X.env=pure false:=by rfl) (hst:starEach [.Constant (.int z) jl pc] X.env=[(false,eval (.Constant (.int z) jl pc) X.env)]:=by rfl)
  (hfew:((backTo cpos (starEach [.Constant (.int z) jl pc] X.env)).all (fun x=>!x.1)&&(backToKw cpos (keywordEach [] X.env)).all (fun x=>x.1.isSome)&&decide ([Expr.Constant (.int z) jl pc].length+([]:List Keyword).length+(if([]:List Keyword).isEmpty then 0 else 1) < 30))=true:=by rfl)
  (hline:(apos.endLine==cpos.line)=true:=by rfl) (hd:(x ==("__debug__" : Str))=false:=by decide) (hcd:(x ==("__classdict__" : Str))=false:=by decide) :
  SSK X T W ks (.Expr (.Call (.Attribute (.Subscript (.Subscript (.Name x px) (.Constant (.int k) jj py) spos) (.Constant (.int j) jk pz) spo2) "append" apos) [.Constant (.int z) jl pc] [] cpos) pos) (g7 i k j z) :=
 PS.wk (f7 (pos:=pos) (sW (cpos:=cpos) (apos:=apos) PySem.F.plainAttrs_list PySem.F.slot_list_append PySem.F.type_list_append iB (mY (pos:=spo2) jO (mY (pos:=spos) jO (cu (pos:=px) hN hv hd hcd) jz hix) jz hix2) (bZ (X:=X) (jz (i:=z) (j:=jl) (pos:=pc)) eH hst) rfl hfew hline hst) hs) fun D σ H ⟨Z,F,env,fp,S,q⟩=>by
  unfold g7 at q
  split at q
  case h_2=>exact q.elim
  rename_i xs eo
  cases en:ixN xs.length k with
  | none=>rw[en]at q;exact q.elim
  | some n =>
  rw[en]at q
  dsimp only at q
  split at q
  case h_2=>exact q.elim
  rename_i ys ey
  cases en2:ixN ys.length j with
  | none=>rw[en2]at q;exact q.elim
  | some l =>
  rw[en2]at q
  dsimp only at q
  split at q
  case h_2=>exact q.elim
  rename_i us eu
  cases ei:bz us with
  | none=>rw[ei]at q;exact q.elim
  | some ns =>
  rw[ei]at q
  dsimp only at q
  split at q
  case isFalse=>exact q.elim
  rename_i hlen0
  obtain⟨a,ws,h1,hl,hr⟩:=Bk S eo
  have hlen:=hr.length
  obtain⟨b,f0,f1,f2,vs,efp,b1,b2,b3,b4⟩:=hr.nestP ey
  obtain⟨c,g0,g1,g2,ts,ef1,c1,c2,c3,c4⟩:=b3.nest eu
  have hlen2:=b3.length
  have hvs:=cG ei c3
  subst hvs
  have at1:atI ws k=some (.ref b):=by unfold atI;rw[<- hlen,en];exact b1
  have at2:atI vs j=some (.ref c):=by unfold atI;rw[<- hlen2,en2];exact c1
  have ndf:(fp i).Nodup:=S.nd i
  have hc1:c∈f1:=by rw[ef1];simp
  have hci:c∈fp i:=by rw[efp];simp[hc1]
  have nFc:¬F c:=(S.dis i c hci).1
  have nBc:¬Z.B c:=fun z=>S.bow c z ⟨i,hci⟩
  have nd1:(b::f1).Nodup:=by
   rw[efp]at ndf
   exact(List.nodup_append.mp (List.nodup_append.mp ndf).1).2.1
  have hbc:b≠c:=fun h=>(List.nodup_cons.mp nd1).1 (h▸hc1)
  have kp:∀d o,H d=some o->d≠c->upd H c (.lst ((ns++[z]).map V.int)) d=some o:=fun d o q hn=>by rw[aF hn];exact q
  have r2:=c4 (upd H c (.lst ((ns++[z]).map V.int))) ((ns++[z]).map .int) ((ns++[z]).map V.int) [] (List.nodup_cons.mp nd1).2 bq (lh _) kp nFc nBc
  have r3:=b4 (upd H c (.lst ((ns++[z]).map V.int))) _ _ c _ ndf hc1 c2 (kp b _ b2 hbc) r2 kp nFc nBc
  have sub:(f0 ++(b::(g0++[c]++ g2))++ f2).Sublist (fp i):=by
   rw[efp,ef1]
   refine List.Sublist.append (List.Sublist.append (List.Sublist.refl _) (List.Sublist.cons_cons _ (List.Sublist.append (List.Sublist.append (List.Sublist.refl _) ?_) (List.Sublist.refl _)))) (List.Sublist.refl _)
   exact List.Sublist.cons_cons _ (List.nil_sublist _)
  have mem:=fun d hd=>sub.subset (a:=d) hd
  have hil:i < env.length:=(List.getElem?_eq_some_iff.mp eo).1
  have S2:=S.mut (a:=c) (f':=f0 ++ (b::(g0 ++ [c] ++ g2)) ++ f2) (pv':=.tup (xs.set n (.lst .own (ys.set l (.lst .own ((ns ++ [z]).map .int)))))) hil h1 hci (by
   unfold Rel
   refine⟨a,ws,rfl,?_,r3⟩
   exact SqT.tr (fun o h1 h2=>kp a o h1 fun z=>by
    rw[z,c2]at h1
    cases h1
    exact h2) hl) (ndf.sublist sub) (fun d hd=>(S.dis i d (mem d hd)).1) (fun d hd=>S.new i d (mem d hd)) (fun d hd t ht z=>S.dj i t (Ne.symm ht) d (mem d hd) z) fun o0 o1=>by
   subst o0
   unfold b8 at o1
   rw[eo]at o1
   cases o1
  refine⟨_,h1,.inr (.inl ⟨a,ws,k,.ref b,rfl,rfl,by rw[hK];exact hl,at1,.inl ⟨b,vs,j,.ref c,rfl,rfl,by rw[hK];exact SqL.of b2,at2,.inl ⟨rfl,_,by rw[hK];exact SqL.of c2⟩,c,_,.int z,rfl,rfl,c2,?_,?_⟩⟩)⟩
  ·rw[List.length_map,sizeLine_eq];omega
  ·have e:(ns++[z]).map V.int=ns.map V.int++[V.int z]:=by simp
   rw[e]at S2
   exact q F _ σ _ S2 fun _ _=>rfl
variable{P:Program}{w:World}{K:PySem.W.Frag}{mg:Str->Option Value}{base:Heap}{p:PT}{hA:p.attOk}
abbrev OkU(p:PT)(hA:p.attOk)(P:Program)(w:World)(K:PySem.W.Frag)(mg:Str->Option Value)(base:Heap)(k i:Nat)(m:List PV->Option (Bool×PV)):Prop:=bS P w K mg base (CXP P w) k (p.fa K i) (dAt K (p.fa K i)) (p.ps i) (spU (p.T hA K) (p.ps i).length m)
theorem okU(i:Nat)(t:Tx p K mg)(body:∀ (cdv:Value) (A:Around) (outer:List Env) (s:Shared) (H:Hp) (E:XK),Ctx (cH (CXP P w) P w K mg base (p.fs i).N (p.fs i).q (am (p.fs i).s) (p.fa K i) cdv A outer s H E) (p.T hA K) (WD (p.T hA K) E) k->(p.fs i).N.Nodup ->
  PSs (cH (CXP P w) P w K mg base (p.fs i).N (p.fs i).q (am (p.fs i).s) (p.fa K i) cdv A outer s H E) (aP (p.fs i).s) (tU (p.T hA K) (WD (p.T hA K) E) m)):OkU p hA P w K mg base (k+1) i (iS (p.fs i).N.length m) :=
 zQ (T:=p.T hA K) (t.fn i) (t.sc i) fun a b c d e f g=>body a b c d e f (jd (T:=p.T hA K) g) (t.sc i).nd
theorem BF(t:Tx p X.K X.mg)
  (G:bS X.prog X.w X.K X.mg X.base (CXP X.prog X.w) k (p.fa X.K a) (dAt X.K (p.fa X.K a)) (p.ps a) (spU (p.T hA X.K) (p.ps a).length m)) (cx:Ctx X (p.T hA X.K) W kk) (hcd:ST X (p.T hA X.K) W c mc)
  (hk:k<=kk:=by decide) (hx:aO (p.fs a).s=x:=by rfl) (hc:(p.fs a).c=none:=by rfl) (hg:Gl X x:=by rfl) (hps:2=(p.ps a).length:=by rfl) (hi0:i≠0:=by decide)
  (hN:X.N[i]?=some y:=by rfl) (hv:Vis X.env.scope y:=by first | exact Or.inl rfl | exact Or.inr (Or.inl rfl) | exact Or.inr (Or.inr rfl)) (hN2:X.N[j]?=some z:=by rfl) (hv2:Vis X.env.scope z:=by first | exact Or.inl rfl | exact Or.inr (Or.inl rfl) | exact Or.inr (Or.inr rfl))
  (hdb:(x ==("__debug__" : Str))=false:=by decide) (hdy:(y ==("__debug__" : Str))=false:=by decide) (hcy:(y ==("__classdict__" : Str))=false:=by decide) (hdz:(z ==("__debug__" : Str))=false:=by decide) (hcz:(z ==("__classdict__" : Str))=false:=by decide)
  (hst:starEach [.Name y py,.Name z pz] X.env=(false,eval (.Name y py) X.env)::starEach [.Name z pz] X.env:=by rfl) (hst2:starEach [.Name z pz] X.env=(false,eval (.Name z pz) X.env)::starEach [] X.env:=by rfl) (hpl:(backTo cpos (starEach [.Name z pz] X.env)).any (·.1)=false:=by rfl)
  (ht:∀whole,isTrue (.Call (.Name x np) [.Name y py,.Name z pz] [] cpos) X.env whole=(do let v <- whole;standAt (Expr.Call (.Name x np) [.Name y py,.Name z pz] [] cpos).pos;holding [v] (truthy v)):=by intro _;rfl) :
  SS X (p.T hA X.K) W (.If (.BoolOp .Or [.UnaryOp .Not c po1,.UnaryOp .Not (.Call (.Name x np) [.Name y py,.Name z pz] [] cpos) po2] po3) [.Return (some (.Constant (.bool false) jj po4)) po5] [] pos) (ny mc (mAp i j m)) :=
 vC hcd (BM G cx hk hg (by subst hx;exact t.gl a hc) (t.fn a).kp (t.bn a) hps hi0 hN hv hN2 hv2 hdb hdy hcy hdz hcz hst hst2 hpl) ht
end
def lK(z:Str)(j:Nat):MS:=fun env=>match env[j]? with
 | some (some w)=>.ret (.tup [.str z,w])
 | _=>.stuck
section
variable{X:Cx}{T:Tb}{W:Nat->St->Hp->Prop}
theorem rQ{x1}{z:Str}(hN2:X.N[j]?=some y)(hv2:Vis X.env.scope y)(hd2:(y ==("__debug__" : Str))=false:=by decide)(hcd2:(y ==("__classdict__" : Str))=false:=by decide) :
  SS X T W (.Return (some (.Tuple [.Constant (.str z) jj px,.Name y py] x1 tpos)) pos) (lK z j) :=
 PS.wk (iy (pos:=pos) (ox (pos:=tpos) (bZ (sS (pos:=px)) (bZ (te:=rF j) (cu (pos:=py) hN2 hv2 hd2 hcd2) eH)))) fun D σ H ⟨Z,F,env,fp,S,q⟩=>by
  unfold lK at q
  split at q
  case h_2=>exact q.elim
  rename_i pw ej
  obtain⟨w,e2,r2⟩:=S.rel j pw ej
  refine⟨w,e2,o8 (by simp),fun p hp=>?_⟩
  have S2:=S.grow (Gr.same S.hp.ft (Ext.upd (o:=.tup [.str z,w]) hp))
  obtain⟨w',e2',r2'⟩:=S2.rel j pw ej
  rw[e2]at e2'
  cases e2'
  refine q F _ (.ref p) (fp j) S2.hp ?_ (S.nd j) (fun a ha=>(S2.dis j a ha).1) (S.new j)
  unfold Rel
  refine⟨p,_,rfl,SqT.of bq,?_⟩
  unfold RelL
  refine⟨.str z,[w],[],fp j,rfl,by unfold Rel;exact⟨rfl,rfl⟩,?_,by simp⟩
  unfold RelL
  exact⟨w,[],fp j,[],rfl,r2',by unfold RelL;exact⟨rfl,rfl⟩,by simp⟩
theorem xi(hK:X.K=T.K)(ha:Bx (SE X T W a ma))(hb:Bx (SE X T W b mb))(hs:de b:=by exact fun _ _=>rfl):Bx (SE X T W (.Subscript a b pos) (mOp fN ma mb)):=.mk (pb hK ha.out hb.out hs)
variable{env e e':En}{v:PV}{i:Nat}{r:Out}
@[simp] theorem qW:mC v env=.ok v:=rfl
@[simp] theorem fW:aj env=.ok []:=rfl
@[simp] theorem dG:ad a m env=(a env).bind fun x=>(m env).bind fun xs=>.ok (x::xs):=rfl
@[simp] theorem Eu:mUn f a env=(a env).bind f:=rfl
@[simp] theorem h8:mOp f a b env=(a env).bind fun x=>(b env).bind fun y=>f x y:=rfl
@[simp] theorem fq:ak f m env=(m env).bind f:=rfl
@[simp] theorem D_:b7 m env=(m env).bind fun xs=>.ok (.lst .own xs):=rfl
@[simp] theorem z6:cY m env=(m env).bind fun xs=>.ok (.tup xs):=rfl
@[simp] theorem Dv:cS a env=(a env).bind fun b=>.ok (!b):=rfl
@[simp] theorem jV:aU a env=(a env).bind lz:=rfl
@[simp] theorem Ea:kg a c env=(a env).bind (lA c):=rfl
@[simp] theorem qV:fg env=.ok none:=rfl
@[simp] theorem wV:br env=.ok true:=rfl
def BN:Option (Option PV)->Res PV
 | some (some v)=>.ok (v.mapF Fl.lend)
 | _=>.stuck
@[simp] theorem eR(v:PV):BN (some (some v))=.ok (v.mapF Fl.lend):=rfl
@[simp] theorem fo:aa i env=BN env[i]?:=by
 unfold aa
 cases env[i]? with
 | none=>rfl
 | some w=>cases w<;>rfl
def pBl:PV->Res Bool
 | .bl b=>.ok b
 | _=>.stuck
@[simp] theorem DT(b:Bool):pBl (.bl b)=.ok b:=rfl
@[simp] theorem l9:aw a env=(a env).bind pBl:=by
 rfl
def BP:PV->Res PV
 | .bl b=>.ok (.bl (!b))
 | _=>.stuck
@[simp] theorem C6(b:Bool):BP (.bl b)=.ok (.bl (!b)):=rfl
@[simp] theorem Dw:pK a env=(a env).bind BP:=by
 rfl
def y8(r:Res PV):PV->Res PV
 | .bl b=>if b then r else .ok (.bl false)
 | _=>.stuck
@[simp] theorem C7(r:Res PV)(b:Bool):y8 r (.bl b)=if b then r else .ok (.bl false):=rfl
@[simp] theorem Dx:jL a b env=(a env).bind (y8 (b env)):=by
 unfold jL
 congr 1
 funext x
 cases x with
 | bl b=>cases b<;>rfl
 | _=>rfl
def pOr(r:Res PV):PV->Res PV
 | .bl b=>if b then .ok (.bl true)else r
 | _=>.stuck
@[simp] theorem DR(r:Res PV)(b:Bool):pOr r (.bl b)=if b then .ok (.bl true)else r:=rfl
@[simp] theorem D7:tY a b env=(a env).bind (pOr (b env)):=by
 unfold tY
 congr 1
 funext x
 cases x with
 | bl b=>cases b<;>rfl
 | _=>rfl
@[simp] theorem CO:t3 f g a b c env=(a env).bind fun x=>(b env).bind fun y=>(f x y).bind (y8 ((c env).bind fun z=>g y z)):=by
 unfold t3
 congr 1
 funext x
 congr 1
 funext y
 congr 1
 funext z
 cases z with
 | bl b=>cases b<;>rfl
 | _=>rfl
@[simp] theorem CD(g:Int->Int->PV)(i j:Int):jD g (.int i) (.int j)=.ok (g i j):=rfl
def xM:PV->Res (Option Int)
 | .int i=>.ok (some i)
 | _=>.stuck
@[simp] theorem AS(i:Int):xM (.int i)=.ok (some i):=rfl
@[simp] theorem wW:iM a env=(a env).bind xM:=by
 rfl
def BU(l h:Option Int):PV->Res PV
 | .lst _ xs=>.ok (.lst .own (mf xs l h))
 | _=>.stuck
@[simp] theorem BT(l h:Option Int)(f:Fl)(xs:List PV):BU l h (.lst f xs)=.ok (.lst .own (mf xs l h)):=rfl
@[simp] theorem uB:fQ o lo hi env=(o env).bind fun x=>(lo env).bind fun l=>(hi env).bind fun h=>BU l h x:=by
 rfl
def aJ(v:PV):Res PV:=if v.has Fl.isBor then .stuck else .ok v
@[simp] theorem fY:ax f xs=(f (mapL Fl.toBor xs)).bind aJ:=by
 unfold ax
 cases f (mapL Fl.toBor xs)<;>rfl
def BR(disp:Nat->Option (List PV->Res PV))(r:Res (List PV)):PV->Res PV
 | .obj fl c ks vs=>match disp c with
  | some m=>r.bind fun xs=>ax m (.obj fl c ks vs::xs)
  | none=>.stuck
 | _=>.stuck
@[simp] theorem BQ(disp:Nat->Option (List PV->Res PV))(r:Res (List PV))(fl:Fl)(c:Nat)(ks:List Nat)(vs:List PV):BR disp r (.obj fl c ks vs)=match disp c with
  | some m=>r.bind fun xs=>ax m (.obj fl c ks vs::xs)
  | none=>.stuck:=rfl
@[simp] theorem D9:g6 disp o ms env=(o env).bind (BR disp (ms env)):=by
 unfold g6
 congr 1
 funext x
 cases x<;>rfl
@[simp] theorem Dt:dD m env=(m env).bind fun x=>match x with
 | .lst f xs=>if !f.isLnt&&d7 xs then .ok xs else .stuck
 | .tup xs=>if d7 xs then .ok xs else .stuck
 | _=>.stuck:=rfl
def sZ(x:PV):Res (List PV):=match a_ x with
 | some xs=>.ok xs
 | none=>.stuck
@[simp] theorem AU(f:Fl)(xs:List PV):sZ (.lst f xs)=.ok xs:=rfl
@[simp] theorem AT(xs:List PV):sZ (.tup xs)=.ok xs:=rfl
@[simp] theorem Du:bA m env=(m env).bind sZ:=rfl
@[simp] theorem l_:eT a b env=(a env).bind fun x=>if x then b env else .ok false:=rfl
@[simp] theorem D6:gh a b env=(a env).bind fun x=>if x then .ok true else b env:=rfl
@[simp] theorem uC:lL c a b env=(c env).bind fun x=>if x then a env else b env:=rfl
@[simp] theorem D8:qG c f m env=(m env).bind fun xs=>ax f (.obj .own c [] []::xs):=rfl
theorem ag(h1:a env=.next e)(h2:b e=r):ao a b env=r:=by unfold ao;rw[h1];exact h2
theorem dF(h1:a env=.ret v):ao a b env=.ret v:=by unfold ao;rw[h1]
theorem d4(h:c env=.ok true)(h2:a env=r):mBr c a b env=r:=by unfold mBr;rw[h];exact h2
theorem bg(h:c env=.ok false)(h2:b env=r):mBr c a b env=r:=by unfold mBr;rw[h];exact h2
theorem yd(h:c env=.ok x):mBr c a b env=if x then a env else b env:=by unfold mBr;rw[h];cases x<;>rfl
theorem aq(h:m env=.ok v)(hl:v.noLnt=true)(ho:a7 i env=true):aI i m env=.next (env.set i (some v)):=by
 unfold aI;rw[h];simp[hl,ho]
theorem ba(h:m env=.ok v)(hl:v.noLnt=true):bt m env=.ret v:=by unfold bt;rw[h];simp[hl]
theorem eE(h:env[i]?=some (some v)):fG i env=.ret v:=by unfold fG;rw[h]
theorem fA(h:m env=.ok v):fT m env=.next env:=by unfold fT;rw[h]
theorem av:aL env=.next env:=rfl
theorem iG(h:m env=.ok v)(ho:env[i]?=some (some (.obj .own c ks vs)))(hl:v.noLnt=true)(hk:ks.contains k=false)(hn:ks.length < 900) :
  jK i k m env=.next (env.set i (some (.obj .own c (ks++[k]) (vs++[v])))):=by
 unfold jK;rw[h,ho];simp only[hl,hk];simp[hn]
theorem dL(h:m env=.ok v)(ho:env[i]?=some (some (.lst .own xs)))(hl:v.noLnt=true)(hn:xs.length < 10000000):cT i m env=.next (env.set i (some (.lst .own (xs++[v])))):=by
 unfold cT;rw[h,ho];simp[hl,hn]
theorem jq(h:m env=.ok v)(ho:env[i]?=some (some (.lst .own xs)))(hk:mk env=.ok (.int j))(hj:ixN xs.length j=some n)(hl:v.noLnt=true) :
  fR i mk m env=.next (env.set i (some (.lst .own (xs.set n v)))):=by
 unfold fR;rw[h,ho,hk];simp[hj,hl]
theorem dZ(h:env[i]?=some (some v)):fS i env=.next (env.set i (some (v.mapF Fl.freeze))):=by unfold fS;rw[h]
theorem va(h:m env=.ok v)(hl:v.noLnt=true)(hg:g v env=some e):qH g m env=.next e:=by
 unfold qH;rw[h];simp[hl,hg]
theorem aA(h:m (args.map some++List.replicate (n - args.length) none)=.ret v):bG n m args=.ok v:=by unfold bG;rw[h]
theorem qw(h:m (args.map some++List.replicate (n - args.length) none)=.next e):bG n m args=.ok .non:=by unfold bG;rw[h]
theorem pf(h:m (args.map some++List.replicate (n - args.length) none)=.next e)(ho:e[0]?=some (some v)):mT n m args=.ok v:=by unfold mT;rw[h];simp[ho]
theorem f_(P:Nat->En->Prop)(h:it env=.ok xs)(h0:P 0 env)
  (step:∀(k:Nat) (x:PV) (e:En),xs[k]?=some x->P k e->∃e1 e2,g x e=some e1/\(body e1=.next e2\/body e1=.cont e2)/\P (k+1) e2):∃e2,bW it g body env=.next e2/\P xs.length e2:=by
 unfold bW
 rw[h]
 dsimp only
 have key:∀ (ys pre:List PV) (e:En),pre ++ ys=xs->P pre.length e->∃ e2,kj (fun x e=>match g x e with
  | some e'=>body e'
  | none=>.stuck) ys e=.next e2/\P xs.length e2:=by
  intro ys
  induction ys with
  | nil=>intro pre e hp hP;simp at hp;subst hp;exact⟨e,rfl,hP⟩
  | cons y ys ih =>
   intro pre e hp hP
   obtain⟨e1,e2,h1,h2,h3⟩:=step pre.length y e (by rw[<- hp];simp) hP
   obtain⟨e3,h4,h5⟩:=ih (pre++[y]) e2 (by rw[<- hp];simp) (by simpa using h3)
   refine⟨e3,?_,h5⟩
   unfold kj
   simp only[h1]
   rcases h2 with h2 | h2<;>rw[h2]<;>exact h4
 exact key xs [] env rfl h0
theorem lX(P:Nat->En->Prop)(R:Out->Prop)(h:it env=.ok xs)(h0:P 0 env)
  (step:∀(k:Nat) (x:PV) (e:En),xs[k]?=some x->P k e->∃e1,g x e=some e1/\((∃e2,(body e1=.next e2\/body e1=.cont e2)/\P (k+1) e2)\/(∃e2,body e1=.brk e2/\R (.next e2))\/(∃v,body e1=.ret v/\R (.ret v))\/ ∃c e2,body e1=.exc c e2/\R (.exc c e2)))
  (fin:∀e,P xs.length e->R (.next e)):R (bW it g body env):=by
 unfold bW
 rw[h]
 dsimp only
 have key:∀ (ys pre:List PV) (e:En),pre ++ ys=xs->P pre.length e->R (kj (fun x e=>match g x e with
  | some e'=>body e'
  | none=>.stuck) ys e):=by
  intro ys
  induction ys with
  | nil=>intro pre e hp hP;simp at hp;subst hp;exact fin e hP
  | cons y ys ih =>
   intro pre e hp hP
   obtain⟨e1,h1,h2⟩:=step pre.length y e (by rw[<- hp];simp) hP
   unfold kj
   simp only[h1]
   rcases h2 with⟨e2,h2,h3⟩ |⟨e2,h2,h3⟩ |⟨v,h2,h3⟩ |⟨c,e2,h2,h3⟩
   ·have:=ih (pre++[y]) e2 (by rw[<- hp];simp) (by simpa using h3)
    rcases h2 with h2 | h2<;>rw[h2]<;>exact this
   ·rw[h2];exact h3
   ·rw[h2];exact h3
   ·rw[h2];exact h3
 exact key xs [] env rfl h0
theorem bF(h:mi env=.ok xs)(hl:xs.length<=10000000)(hc:dE g mc me (bT caps k env) xs=.ok ys):aV caps k mi g mc me env=.ok (.lst .own ys):=by
 unfold aV;rw[h];simp only[Res.ok_bind,hl,if_true,hc]
theorem bv{α:Type}{a:α->PV}{f:α->PV}:∀(xs:List α),(∀x∈xs,∃e1,g (a x).borrow env=some e1/\me e1=.ok (f x)/\(f x).has Fl.isBor=false/\(f x).has Fl.isLnt=false)->
  dE g br me env (xs.map a)=.ok (xs.map f)
 | [],_=>rfl
 | x::xs,h=>by
  obtain⟨e1,h1,h2,h3,h4⟩:=h x List.mem_cons_self
  rw[List.map_cons,dE,h1]
  simp only[wV,Res.ok_bind,if_true,h2,h3,h4,Bool.or_self,Bool.false_eq_true,if_false,bv xs fun y hy=>h y (List.mem_cons_of_mem _ hy)]
  rfl
theorem dI{α:Type}{a:α->PV}{f:α->PV}{p:α->Bool}:∀(xs:List α),(∀x∈xs,∃e1,g (a x).borrow env=some e1/\mc e1=.ok (p x)/\(p x=true->me e1=.ok (f x)/\(f x).has Fl.isBor=false/\(f x).has Fl.isLnt=false))->
  dE g mc me env (xs.map a)=.ok ((xs.filter p).map f)
 | [],_=>rfl
 | x::xs,h=>by
  obtain⟨e1,h1,h2,h3⟩:=h x List.mem_cons_self
  have ih:=dI (g:=g) (mc:=mc) (me:=me) (a:=a) (f:=f) (p:=p) xs fun y hy=>h y (List.mem_cons_of_mem _ hy)
  rw[List.map_cons,dE,h1]
  cases hp:p x with
  | true =>
   obtain⟨h4,h5,h6⟩:=h3 hp
   simp only[h2,hp,Res.ok_bind,if_true,h4,h5,h6,Bool.or_self,Bool.false_eq_true,if_false,ih]
   rw[List.filter_cons_of_pos hp]
   rfl
  | false =>
   simp only[h2,hp,Res.ok_bind,Bool.false_eq_true,if_false,ih]
   rw[List.filter_cons_of_neg (by simp[hp])]
end
def iL(ns:List Int):List PV:=ns.map .int
theorem ub(ns:List Int):ns.map PV.int=iL ns:=rfl
section
variable(ns ms:List Int)(g:Fl->Fl)(p:Fl->Bool)
@[simp] theorem Cz:iL []=[]:=rfl
@[simp] theorem f9(n:Int):iL (n::ns)=.int n::iL ns:=rfl
@[simp] theorem di:(iL ns).length=ns.length:=by simp[iL]
@[simp] theorem CB:iL ns++iL ms=iL (ns++ms):=by simp[iL]
@[simp] theorem kM(k:Nat):(iL ns).drop k=iL (ns.drop k):=by simp[iL]
@[simp] theorem qN(k:Nat):(iL ns).take k=iL (ns.take k):=by simp[iL]
@[simp] theorem CA(k:Nat):(iL ns)[k]?=(ns[k]?).map .int:=by simp[iL]
@[simp] theorem Cy(k:Nat)(n:Int):(iL ns).set k (.int n)=iL (ns.set k n):=by simp[iL,List.map_set]
@[simp] theorem qF:mapL g (iL ns)=iL ns:=by
 induction ns with
 | nil=>rfl
 | cons n ns ih=>simp[mapL,PV.mapF,ih]
@[simp] theorem A9:hasL p (iL ns)=false:=by
 induction ns with
 | nil=>rfl
 | cons n ns ih=>simp[hasL,PV.has,ih]
@[simp] theorem Bb:PyData.canLayAll0 (dataL (iL ns))=true:=by
 induction ns with
 | nil=>rfl
 | cons n ns ih=>simp only[f9,dataL,PV.data,PyData.canLayAll0,ih];rfl
@[simp] theorem Ba:PyData.depthAll (dataL (iL ns))=0:=by
 induction ns with
 | nil=>rfl
 | cons n ns ih=>simp only[f9,dataL,PV.data,PyData.depthAll,ih];rfl
@[simp] theorem gJ(i:Int):shp (.int i)=true:=rfl
@[simp] theorem DL(b:Bool):shp (.bl b)=true:=rfl
@[simp] theorem lb:shp .non=true:=rfl
@[simp] theorem fK(f:Fl):shp (.lst f (iL ns))=true:=by
 simp[shp,SeqAt.shaped,PV.data,PyData.canLay0,PyData.depth]
@[simp] theorem kA:(iL ns).all shp=true:=by
 induction ns with
 | nil=>rfl
 | cons n ns ih=>simp only[f9,List.all_cons,gJ,ih];rfl
mutual
theorem jW:∀d:PyData,d.canLay0=true->PyData.eqv d d=true
 | .none,_=>rfl
 | .bool b,_ | .int b,_ | .str b,_=>by simp[PyData.eqv]
 | .list xs,h=>by
  simp only[PyData.canLay0]at h
  simp only[PyData.eqv]
  exact eqvL_self xs h
 | .tuple xs,h=>by
  simp only[PyData.canLay0]at h
  simp only[PyData.eqv]
  exact eqvL_self xs h
 | .dict xs,h=>by simp[PyData.canLay0]at h
theorem eqvL_self:∀ds:List PyData,PyData.canLayAll0 ds=true->PyData.eqvAll ds ds=true
 | [],_=>rfl
 | d::ds,h=>by
  simp only[PyData.canLayAll0,Bool.and_eq_true]at h
  simp only[PyData.eqvAll,jW d h.1,eqvL_self ds h.2]
  rfl
end
theorem wX(h:x.data=y.data)(hs:shp x=true):pEq x y=.ok (.bl true):=by
 have hy:shp y=true:=by unfold shp at hs ⊢;rw[<- h];exact hs
 have hc:=SeqAt.canLay_of_shaped hs
 unfold pEq
 rw[hs,hy,<- h,jW _ hc]
 rfl
theorem wf(h:x.data=y.data)(hs:shp x=true):pNe x y=.ok (.bl false):=by
 have hy:shp y=true:=by unfold shp at hs ⊢;rw[<- h];exact hs
 have hc:=SeqAt.canLay_of_shaped hs
 unfold pNe
 rw[hs,hy,<- h,jW _ hc]
 rfl
@[simp] theorem Eb(i j:Int):pEq (.int i) (.int j)=.ok (.bl (decide (i=j))):=by
 unfold pEq
 simp only[gJ,Bool.and_self,if_true,PV.data,PyData.eqv]
 congr 2
@[simp] theorem DV(i j:Int):pNe (.int i) (.int j)=.ok (.bl (!decide (i=j))):=by
 unfold pNe
 simp only[gJ,Bool.and_self,if_true,PV.data,PyData.eqv]
 congr 2
@[simp] theorem Ev(i j:Bool):pEq (.bl i) (.bl j)=.ok (.bl (decide (i=j))):=by cases i<;>cases j<;>rfl
@[simp] theorem Er(i j:Bool):pNe (.bl i) (.bl j)=.ok (.bl (!decide (i=j))):=by cases i<;>cases j<;>rfl
theorem gc:PyData.eqvAll (dataL (iL ns)) (dataL (iL ms))=decide (ns=ms):=by
 induction ns generalizing ms with
 | nil=>cases ms<;>simp[dataL,PyData.eqvAll]
 | cons n ns ih =>
  cases ms with
  | nil=>simp[dataL,PyData.eqvAll]
  | cons m ms=>simp only[f9,dataL,PV.data,PyData.eqvAll,PyData.eqv,ih];by_cases h:n=m<;>simp[h]
@[simp] theorem Dy(f f':Fl):pEq (.lst f (iL ns)) (.lst f' (iL ms))=.ok (.bl (decide (ns=ms))):=by
 unfold pEq
 simp only[fK,Bool.and_self,if_true,PV.data,PyData.eqv,gc]
@[simp] theorem C9(f f':Fl):pNe (.lst f (iL ns)) (.lst f' (iL ms))=.ok (.bl (!decide (ns=ms))):=by
 unfold pNe
 simp only[fK,Bool.and_self,if_true,PV.data,PyData.eqv,gc]
@[simp] theorem lt_int(i j:Int):pLt (.int i) (.int j)=.ok (.bl (decide (i < j))):=rfl
@[simp] theorem le_int(i j:Int):pLe (.int i) (.int j)=.ok (.bl (decide (i<=j))):=rfl
@[simp] theorem gt_int(i j:Int):pGt (.int i) (.int j)=.ok (.bl (decide (j < i))):=rfl
@[simp] theorem ge_int(i j:Int):pGe (.int i) (.int j)=.ok (.bl (decide (j<=i))):=rfl
@[simp] theorem BI(i j:Int):aY (.int i) (.int j)=.ok (.int (i+j)):=rfl
@[simp] theorem sub_int(i j:Int):jB (.int i) (.int j)=.ok (.int (i - j)):=rfl
@[simp] theorem neg_int(i:Int):jC (.int i)=.ok (.int (-i)):=rfl
theorem a9(h:0 < j):cE (.int i) (.int j)=.ok (.int (i % j)):=by simp[cE,eJ,h]
theorem dz(h:0 < j)(h2:j < 1073741824):cy (.int i) (.int j)=.ok (.int (i / j)):=by simp[cy,eJ,h,h2]
theorem cF(h:(-(2 ^ 64) < i/\i < 2 ^ 64)\/(-(2 ^ 64) < j/\j < 2 ^ 64)):bL (.int i) (.int j)=.ok (.int (i * j)):=by
 unfold bL eJ
 dsimp only
 rw[if_pos (by simpa using h)]
theorem sM(h0:0<=j)(h1:j<=1000000)(h2:i.natAbs < 2 ^ 64):v5 (.int i) (.int j)=.ok (.int (i ^ j.toNat)):=by
 unfold v5 eJ
 dsimp only
 rw[if_pos (by simp only[decide_eq_true_eq];exact⟨h0,h1,h2⟩)]
@[simp] theorem Eo:v5 (.int 10) (.int 60)=.ok (.int (10 ^ 60)):=sM (by decide) (by decide) (by decide)
@[simp] theorem Dc(f:Fl)(xs:List PV):b6 (.lst f xs)=.ok (.int xs.length):=rfl
@[simp] theorem Db(xs:List PV):b6 (.tup xs)=.ok (.int xs.length):=rfl
@[simp] theorem Cs(f:Fl)(xs:List PV):BS (.lst f xs)=.ok (.lst .own xs):=rfl
@[simp] theorem DU(f:PV->Res PV)(x:PV):p1 f [x]=f x:=by simp only[p1]
@[simp] theorem Di(c:String)(i:Int):lA c (.int i)=.ok (.bl (fV "int" c)):=rfl
@[simp] theorem D0(c:String)(i:Bool):lA c (.bl i)=.ok (.bl (fV "bool" c)):=rfl
@[simp] theorem Df(c:String):lA c .non=.ok (.bl (fV "NoneType" c)):=rfl
@[simp] theorem Dh(c:String)(f:Fl)(xs:List PV):lA c (.lst f xs)=.ok (.bl (fV "list" c)):=rfl
@[simp] theorem De(c:String)(xs:List PV):lA c (.tup xs)=.ok (.bl (fV "tuple" c)):=rfl
@[simp] theorem mI(b:Bool):lz (.bl b)=.ok b:=rfl
@[simp] theorem AO(i:Int):lz (.int i)=.ok (i != 0):=rfl
@[simp] theorem Cn(i:Int):(PV.int i).mapF g=.int i:=by simp[PV.mapF]
@[simp] theorem lJ(b:Bool):(PV.bl b).mapF g=.bl b:=by simp[PV.mapF]
@[simp] theorem Cm:PV.non.mapF g=.non:=by simp[PV.mapF]
@[simp] theorem Cj(x:Str):(PV.str x).mapF g=.str x:=by simp[PV.mapF]
@[simp] theorem Co(x:Nat):(PV.exc x).mapF g=.exc x:=by simp[PV.mapF]
@[simp] theorem bN(f:Fl)(xs:List PV):(PV.lst f xs).mapF g=.lst (g f) (mapL g xs):=by simp[PV.mapF]
@[simp] theorem Ci(xs:List PV):(PV.tup xs).mapF g=.tup (mapL g xs):=by simp[PV.mapF]
@[simp] theorem Ck(f:Fl)(c:Nat)(ks:List Nat)(xs:List PV):(PV.obj f c ks xs).mapF g=.obj (g f) c ks (mapL g xs):=by simp[PV.mapF]
@[simp] theorem gY:mapL g []=[]:=by simp[mapL]
@[simp] theorem f8(x:PV)(xs:List PV):mapL g (x::xs)=x.mapF g::mapL g xs:=by simp[mapL]
@[simp] theorem Dr(i:Int):(PV.int i).has p=false:=by simp[PV.has]
@[simp] theorem D2(b:Bool):(PV.bl b).has p=false:=by simp[PV.has]
@[simp] theorem Dq:PV.non.has p=false:=by simp[PV.has]
@[simp] theorem Dn(x:Str):(PV.str x).has p=false:=by simp[PV.has]
@[simp] theorem Ds(x:Nat):(PV.exc x).has p=false:=by simp[PV.has]
@[simp] theorem cU(f:Fl)(xs:List PV):(PV.lst f xs).has p=(p f||hasL p xs):=by simp[PV.has]
@[simp] theorem Dm(xs:List PV):(PV.tup xs).has p=hasL p xs:=by simp[PV.has]
@[simp] theorem Do(f:Fl)(c:Nat)(ks:List Nat)(xs:List PV):(PV.obj f c ks xs).has p=(p f||hasL p xs):=by simp[PV.has]
@[simp] theorem CJ:hasL p []=false:=by simp[hasL]
@[simp] theorem A_(x:PV)(xs:List PV):hasL p (x::xs)=(x.has p||hasL p xs):=by simp[hasL]
@[simp] theorem cz(x:PV):x.noLnt=!x.has Fl.isLnt:=rfl
@[simp] theorem Bc(x:PV):x.borrow=x.mapF Fl.borrow:=rfl
@[simp] theorem t7:Fl.own.lend=.lnt:=rfl
@[simp] theorem jM:Fl.frz.lend=.frz:=rfl
@[simp] theorem Cu:Fl.bor.lend=.bor:=rfl
@[simp] theorem Ct:Fl.lnt.lend=.lnt:=rfl
@[simp] theorem AQ:Fl.own.toBor=.own:=rfl
@[simp] theorem io:Fl.frz.toBor=.frz:=rfl
@[simp] theorem AR:Fl.bor.toBor=.bor:=rfl
@[simp] theorem qk:Fl.lnt.toBor=.bor:=rfl
@[simp] theorem ye:Fl.own.borrow=.bor:=rfl
@[simp] theorem Af:Fl.frz.borrow=.frz:=rfl
@[simp] theorem Ag:Fl.bor.borrow=.bor:=rfl
@[simp] theorem Ae:Fl.lnt.borrow=.bor:=rfl
@[simp] theorem AW:Fl.own.isOwn=true:=rfl
@[simp] theorem AY:Fl.frz.isOwn=false:=rfl
@[simp] theorem AZ:Fl.bor.isOwn=false:=rfl
@[simp] theorem AX:Fl.lnt.isOwn=false:=rfl
@[simp] theorem A0:Fl.own.isLnt=false:=rfl
@[simp] theorem A3:Fl.frz.isLnt=false:=rfl
@[simp] theorem A4:Fl.bor.isLnt=false:=rfl
@[simp] theorem A1:Fl.lnt.isLnt=true:=rfl
@[simp] theorem A5:Fl.own.isBor=false:=rfl
@[simp] theorem A7:Fl.frz.isBor=false:=rfl
@[simp] theorem A8:Fl.bor.isBor=true:=rfl
@[simp] theorem A6:Fl.lnt.isBor=false:=rfl
@[simp] theorem bI:Fl.own.freeze=.frz:=rfl
@[simp] theorem zL:Fl.frz.freeze=.frz:=rfl
@[simp] theorem zM:Fl.bor.freeze=.bor:=rfl
@[simp] theorem zK:Fl.lnt.freeze=.lnt:=rfl
theorem nA(h0:0<=i)(h:ns[i.toNat]?=some n):au (.lst f (iL ns)) (.int i)=.ok (.int n):=by
 have hl:i.toNat < ns.length:=(List.getElem?_eq_some_iff.mp h).1
 unfold au
 simp only[a_,atI,ixN,di,h0,if_true]
 rw[if_pos (by omega)]
 simp[h]
end
section
variable{env:En}{r:Out}
def gB(o:Out)(Q:En->Prop):Prop:=∃e,(o=.next e\/o=.cont e)/\Q e
theorem aX(h1:a env=.next e)(h2:gB (b e) Q):gB (ao a b env) Q:=by
 obtain⟨e2,h3,h4⟩:=h2
 refine⟨e2,?_,h4⟩
 unfold ao
 rw[h1]
 exact h3
theorem aR(h1:o=.next e)(h2:Q e):gB o Q:=⟨e,.inl h1,h2⟩
theorem ul{it:MI}{g:TgM}{body aN:MS}{xs:List PV}(P:Nat->En->Prop){Q:En->Prop}(h:it env=.ok xs)(h0:P 0 env)
  (step:∀(k:Nat) (x:PV) (e:En),xs[k]?=some x->P k e->∃e1,g x e=some e1/\gB (body e1) (P (k+1))) (fin:∀e,P xs.length e->gB (aN e) Q):gB (ao (bW it g body) aN env) Q:=by
 obtain⟨e2,h1,h2⟩:=f_ P h h0 fun k x e h1 h2=>by
  obtain⟨e1,h3,e2,h4,h5⟩:=step k x e h1 h2
  exact⟨e1,e2,h3,h4,h5⟩
 exact aX h1 (fin e2 h2)
theorem qQ(P:Nat->En->Prop)(h:it env=.ok xs)(h0:P 0 env)
  (step:∀(k:Nat) (x:PV) (e:En),xs[k]?=some x->P k e->∃e1,g x e=some e1/\gB (body e1) (P (k+1))) (fin:∀e,P xs.length e->Q e):gB (bW it g body env) Q:=by
 obtain⟨e2,h1,h2⟩:=f_ P h h0 fun k x e h1 h2=>by
  obtain⟨e1,h3,e2,h4,h5⟩:=step k x e h1 h2
  exact⟨e1,e2,h3,h4,h5⟩
 exact⟨e2,.inl h1,fin e2 h2⟩
theorem ce{it:MI}{g:TgM}{body aN:MS}{xs:List PV}(P:Nat->En->Prop)(h:it env=.ok xs)(h0:P 0 env)
  (step:∀(k:Nat) (x:PV) (e:En),xs[k]?=some x->P k e->∃e1,g x e=some e1/\gB (body e1) (P (k+1))) (fin:∀e,P xs.length e->aN e=r):ao (bW it g body) aN env=r:=by
 obtain⟨e2,h1,h2⟩:=f_ P h h0 fun k x e h1 h2=>by
  obtain⟨e1,h3,e2,h4,h5⟩:=step k x e h1 h2
  exact⟨e1,e2,h3,h4,h5⟩
 exact ag h1 (fin e2 h2)
theorem zJ(h:-1000000<=i/\i<=1000000):inR i=true:=by
 have e:(2:Int) ^ 62=4611686018427387904:=by decide
 unfold inR
 rw[decide_eq_true_eq,e]
 omega
theorem vN(hi:inR n=true)(h:ms env=.ok [.int n]):bO ms env=.ok (cN 0 n.toNat):=by
 unfold bO
 rw[h,Res.ok_bind]
 dsimp only
 rw[if_pos hi]
theorem si{n:Nat}(hi:inR (n:Int)=true)(h:ms env=.ok [.int n]):bO ms env=.ok (cN 0 n):=by
 have:=vN hi h
 rw[Int.toNat_natCast]at this
 exact this
theorem zv{n:Nat}(hn:n<=1000000):-1000000 <=(n:Int)/\(n:Int)<= 1000000:=by omega
theorem b9{n:Nat}(h:ms env=.ok [.int n])(hn:n<=1000000):bO ms env=.ok (cN 0 n):=si (zJ (zv hn)) h
theorem bM(lo:Int)(n:Nat):(cN lo n).length=n:=by simp[cN]
theorem cM(h:(cN lo n)[k]?=some x):k < n/\x=.int (lo+k):=by
 have hk:k < n:=by
  have:=(List.getElem?_eq_some_iff.mp h).1
  rwa [bM]at this
 refine⟨hk,?_⟩
 simp[cN,hk]at h
 exact h.symm
theorem iF{ns:List Int}{k:Nat}{x:PV}(h:(iL ns)[k]?=some x):∃n,ns[k]?=some n/\x=.int n:=by
 simp at h
 obtain⟨n,h1,h2⟩:=h
 exact⟨n,h1,h2.symm⟩
theorem cq(h:a7 i e=true):tgN i v e=some (e.set i (some v)):=by simp[tgN,h]
end
theorem w6(ns:List Int)(lo:Nat){l:Int}(hl:l=lo):mf (iL ns) (some l) none=iL (ns.drop lo):=by
 subst hl
 unfold mf
 rw[HT.sIx_nat,HT.sIx_none]
 simp only[di,kM,qN]
 congr 1
 rcases Nat.le_total lo ns.length with h1 | h1
 ·rw[Nat.min_eq_left h1,List.take_of_length_le (by simp)]
 ·rw[Nat.min_eq_right h1,List.drop_eq_nil_of_le (Nat.le_refl _),List.drop_eq_nil_of_le h1]
  simp
theorem eQ(hf:f≠.mod)(hg:g≠.mod)(h:xs.length+ys.length<=10000000):aY (.lst f xs) (.lst g ys)=.ok (.lst .own (xs++ys)):=by
 unfold aY
 dsimp only
 rw[if_neg (by simp only[hf,hg,h,not_true_eq_false,or_self,not_false_eq_true])]
theorem i_(h:k < n):ixN n (k:Int)=some k:=by
 unfold ixN
 rw[if_pos (by omega),if_pos (by omega),Int.toNat_natCast]
def llL(f:Fl)(xss:List (List Int)):List PV:=xss.map fun xs=>.lst f (iL xs)
section
variable(xss yss:List (List Int))(g:Fl->Fl)(p:Fl->Bool)(f:Fl)
@[simp] theorem Da:llL f []=[]:=rfl
@[simp] theorem Cq(xs:List Int):llL f (xs::xss)=.lst f (iL xs)::llL f xss:=rfl
@[simp] theorem ez:(llL f xss).length=xss.length:=by simp[llL]
@[simp] theorem ww:llL f xss++llL f yss=llL f (xss++yss):=by simp[llL]
@[simp] theorem bx:mapL g (llL f xss)=llL (g f) xss:=by
 induction xss with
 | nil=>rfl
 | cons n ns ih=>simp[ih]
theorem aQ(h:p f=false):hasL p (llL f xss)=false:=by
 induction xss with
 | nil=>rfl
 | cons n ns ih=>simp[ih,h]
theorem lO{k:Nat}{x:PV}(h:(llL f xss)[k]?=some x):∃xs,xss[k]?=some xs/\x=.lst f (iL xs):=by
 simp[llL]at h
 obtain⟨n,h1,h2⟩:=h
 exact⟨n,h1,h2.symm⟩
end
theorem yG(lo:Int)(n:Nat):cN lo n=iL ((List.range n).map fun k=>lo+(k:Nat)):=by simp[cN,iL]
def rq(n:Nat):List Int:=(List.range n).map fun(k:Nat)=>(k:Int)
@[simp] theorem Bj(n:Nat):(rq n).length=n:=by simp[rq]
theorem sh(n:Nat):cN 0 n=iL (rq n):=by rw[yG];simp[rq]
@[simp] theorem AV{n:Nat}(h:n<=1000000):pE [.int n]=.ok (.lst .own (iL (rq n))):=by
 unfold pE
 dsimp only
 rw[if_pos (by simp;omega),Int.toNat_natCast,sh]
@[simp] theorem D1(b c:Bool):DS (.bl b) (.bl c)=.ok (.bl (b==c)):=rfl
@[simp] theorem C8(b c:Bool):BO (.bl b) (.bl c)=.ok (.bl (!(b==c))):=rfl
@[simp] theorem dJ(ns:List Int):bz (iL ns)=some ns:=by
 induction ns with
 | nil=>rfl
 | cons n ns ih=>simp[bz,ih]
theorem qJ(h:ns.length<=1000):gT (.lst f (iL ns))=.ok (.int (kQ ns)):=by
 unfold gT
 simp only[dJ]
 rw[if_pos (by simpa using h)]
theorem qc:∀(l acc:List Int),(acc++l).Nodup->l.foldl PyProof.Rows.step_dedup acc=acc++l
 | [],acc,_=>by simp
 | x::l,acc,h=>by
  have h':((acc++[x])++ l).Nodup:=by simpa using h
  rw[List.foldl_cons]
  have hx:x∉acc:=fun hm=>by
   rw[List.nodup_append]at h
   exact h.2.2 x hm x List.mem_cons_self rfl
  have:PyProof.Rows.step_dedup acc x=acc++[x]:=by
   unfold PyProof.Rows.step_dedup
   rw[if_neg]
   simpa using hx
  rw[this,qc l _ h']
  simp
theorem w5(ns:List Int):(List.range ns.length).map (fun i=>ns.getD i 0)=ns:=by
 apply List.ext_getElem?
 intro i
 by_cases h:i < ns.length
 ·simp[h]
 ·simp[h]
theorem uG(h:ns.Nodup):kQ ns=ns.length:=by
 unfold kQ PyProof.Rows.firstMet
 rw[w5,qc ns [] (by simpa using h)]
 rfl
theorem pS(i:Int)(ns:List Int):inL (.int i) (iL ns)=ns.contains i:=by
 induction ns with
 | nil=>rfl
 | cons n ns ih =>
  have e:inL (.int i) (iL (n::ns))=(PyData.eqv (PV.int n).data (PV.int i).data||inL (.int i) (iL ns)):=rfl
  rw[e,ih,List.contains_cons]
  congr 1
  simp only[PV.data,PyData.eqv]
  exact Bool.beq_comm
@[simp] theorem Et(i:Int)(ns:List Int)(f:Fl):pIn (.int i) (.lst f (iL ns))=.ok (.bl (ns.contains i)):=by
 unfold pIn
 simp only[a_,gJ,kA,Bool.and_self,if_true,pS]
@[simp] theorem Cf(i:Int)(ns:List Int)(f:Fl):cO (.int i) (.lst f (iL ns))=.ok (.bl (!ns.contains i)):=by
 unfold cO
 simp only[a_,gJ,kA,Bool.and_self,if_true,pS]
def Ends(o:Out):Prop:=∃e,o=.next e
section
variable{env e:En}
theorem f6(h:Ends (m (args.map some++List.replicate (n - args.length) none))):bG n m args=.ok .non:=by
 obtain⟨e,h⟩:=h
 exact qw h
theorem h_(h1:a env=.next e)(h2:Ends (b e)):Ends (ao a b env):=by
 obtain⟨e2,h2⟩:=h2
 exact⟨e2,ag h1 h2⟩
theorem iJ(h:o=.next e):Ends o:=⟨e,h⟩
theorem uD{it:MI}{g:TgM}{body aN:MS}{xs:List PV}(P:Nat->En->Prop)(h:it env=.ok xs)(h0:P 0 env)
  (step:∀(k:Nat) (x:PV) (e:En),xs[k]?=some x->P k e->∃e1,g x e=some e1/\gB (body e1) (P (k+1))) (fin:∀e,P xs.length e->Ends (aN e)):Ends (ao (bW it g body) aN env):=by
 obtain⟨e2,h1,h2⟩:=f_ P h h0 fun k x e h1 h2=>by
  obtain⟨e1,h3,e2,h4,h5⟩:=step k x e h1 h2
  exact⟨e1,e2,h3,h4,h5⟩
 exact h_ h1 (fin e2 h2)
end
theorem cv(h:m env=.ok (.lst f xs))(hf:f.isLnt=false)(h1:hasL Fl.isOwn xs=false)(h2:hasL Fl.isLnt xs=false):dD m env=.ok xs:=by
 unfold dD
 rw[h]
 simp[hf,d7,h1,h2]
end PR
namespace PR
section
variable{n r s k o:Nat}{adj:Nat->Nat->Prop}{far:List Int}
def gt(far:List Int)(i:Nat):Int:=far.getD i 0
structure Far(n r:Nat)(adj:Nat->Nat->Prop)(s k:Nat)(d:Nat->Prop)(far:List Int):Prop where
 len:far.length=n
 rt:gt far r=0
 rng:∀i < n,0<=gt far i/\(gt far i<=s+1\/gt far i=n)
 top:∀i < n,gt far i<=n
 up:∀i < n,∀j < n,gt far i < s->adj i j->gt far j<=gt far i+1
 upk:∀i < k,∀j < n,gt far i=s->adj i j->gt far j<=s+1
 upd:∀j < n,d j->gt far j<=s+1
 dn:∀i < n,i≠r->gt far i < n->1<=gt far i/\∃j < n,adj i j/\gt far j=gt far i - 1
theorem Far.none(F:Far n r adj s k (fun _=>False) far)(hd:∀j,¬d j):Far n r adj s k d far where
 len:=F.len
 rt:=F.rt
 rng:=F.rng
 top:=F.top
 up:=F.up
 upk:=F.upk
 upd:=fun j _ z=>absurd z (hd j)
 dn:=F.dn
theorem Far.next(F:Far n r adj s n (fun _=>False) far):Far n r adj (s+1) 0 (fun _=>False) far where
 len:=F.len
 rt:=F.rt
 rng:=fun i hi=>by have:=F.rng i hi;omega
 top:=F.top
 up:=fun i hi j hj hv a=>by
  by_cases h:gt far i < s
  ·exact F.up i hi j hj h a
  ·have e:gt far i=s:=by omega
   have:=F.upk i hi j hj e a
   omega
 upk:=fun i hi=>absurd hi (Nat.not_lt_zero _)
 upd:=fun _ _ z=>z.elim
 dn:=F.dn
structure xy(n r:Nat)(adj:Nat->Nat->Prop)(far:List Int):Prop where
 len:far.length=n
 rt:gt far r=0
 rng:∀i < n,0<=gt far i/\gt far i<=n
 up:∀i < n,∀j < n,adj i j->gt far j<=gt far i+1
 dn:∀i < n,i≠r->gt far i < n->1<=gt far i/\∃j < n,adj i j/\gt far j=gt far i - 1
theorem kJ:∀{l l':List Int},l.Nodup->(∀x∈l,x∈l')->l.length<=l'.length
 | [],_,_,_=>Nat.zero_le _
 | x::l,l',nd,sub=>by
  obtain⟨h1,h2⟩:=List.nodup_cons.mp nd
  have hx:=sub x List.mem_cons_self
  have:=kJ (l':=l'.erase x) h2 fun y hy=>(List.mem_erase_of_ne (show y≠x from fun z=>h1 (z▸hy))).mpr (sub y (List.mem_cons_of_mem _ hy))
  rw[List.length_erase_of_mem hx]at this
  have:=List.length_pos_of_mem hx
  rw[List.length_cons]
  omega
theorem xy.below(D:xy n r adj far)(hr:r < n):∀(m:Nat),(∃i < n,gt far i=m)->m < n->∀v,v<=m->∃i < n,gt far i=v
 | 0,h,_,v,hv=>by
  have:v=0:=by omega
  subst this;exact h
 | m+1,⟨i,hi,e⟩,hm,v,hv=>by
  rcases Nat.lt_or_ge v (m+1)with h | h
  ·have hir:i≠r:=fun z=>by subst z;have:=D.rt;omega
   obtain⟨_,j,hj,_,ej⟩:=D.dn i hi hir (by omega)
   exact D.below hr m ⟨j,hj,by omega⟩ (by omega) v (by omega)
  ·have:v=m+1:=by omega
   subst this
   exact⟨i,hi,e⟩
theorem bQ(h:i < far.length):gt far i∈far:=by
 simp[gt,h]
theorem xy.all(D:xy n r adj far)(hr:r < n)(conn:∀S:Nat->Prop,S r->(∀i < n,∀j < n,adj i j->S i->S j)->∀i < n,S i):∀i < n,gt far i < n:=by
 refine conn (fun i=>gt far i < n) (by show gt far r < n;rw[D.rt];omega) fun i hi j hj a hv=>?_
 show gt far j < n
 rcases Int.lt_or_le (gt far j) n with h | h
 ·exact h
 exfalso
 have h1:=D.up i hi j hj a
 have h2:=(D.rng j hj).2
 have e:gt far i=((n - 1:Nat):Int):=by omega
 have all:∀v:Nat,v < n+1->(v:Int)∈ far:=fun v hv=>by
  rcases Nat.lt_or_ge v n with h | h
  ·obtain⟨x,hx,ex⟩:=D.below hr (n - 1) ⟨i,hi,e⟩ (by omega) v (by omega)
   rw[<- ex]
   exact bQ (by rw[D.len];exact hx)
  ·have:(v:Int)=gt far j:=by omega
   rw[this]
   exact bQ (by rw[D.len];exact hj)
 have:=kJ (l:=(List.range (n+1)).map fun k:Nat=>(k:Int)) (l':=far) (List.Pairwise.map _ (fun a b h z=>h (by omega)) List.nodup_range) fun x hx=>by
  obtain⟨v,hv,rfl⟩:=List.mem_map.mp hx
  exact all v (List.mem_range.mp hv)
 rw[List.length_map,List.length_range,D.len]at this
 omega
end
end PR
namespace PR
open PySem PySem.Spec L2
def prL(ps:List (Int×Int)):List PV:=ps.map prV
section
variable{ps qs:List (Int×Int)}{x:Int×Int}{f:Fl}{g:Fl->Fl}{p:Fl->Bool}
@[simp] theorem C2:prL []=[]:=rfl
@[simp] theorem sL:prL (x::ps)=prV x::prL ps:=rfl
@[simp] theorem C3:(prL ps).length=ps.length:=by simp[prL]
@[simp] theorem C5:prL ps++prL qs=prL (ps++qs):=by simp[prL]
@[simp] theorem C4(k:Nat):(prL ps)[k]?=(ps[k]?).map prV:=by simp[prL]
@[simp] theorem C0:PV.mapF g (prV x)=prV x:=rfl
@[simp] theorem C1:(prV x).has p=false:=rfl
@[simp] theorem Ch:mapL g (prL ps)=prL ps:=by
 induction ps with
 | nil=>rfl
 | cons n ns ih=>simp[mapL,ih]
@[simp] theorem CI:hasL p (prL ps)=false:=by
 induction ps with
 | nil=>rfl
 | cons n ns ih=>simp[hasL,ih]
@[simp] theorem n_:shp (prV x)=true:=rfl
@[simp] theorem mP:(prL ps).all shp=true:=by
 induction ps with
 | nil=>rfl
 | cons n ns ih=>simp only[sL,List.all_cons,n_,ih];rfl
theorem z7(x y:Int×Int):PyData.eqv (prV x).data (prV y).data=decide (x=y):=by
 obtain⟨a,b⟩:=x
 obtain⟨c,d⟩:=y
 simp only[prV,PV.data,dataL,PyData.eqv,PyData.eqvAll]
 by_cases h1:a=c<;>by_cases h2:b=d<;>simp[h1,h2]
theorem ue:inL (prV x) (prL ps)=ps.contains x:=by
 induction ps with
 | nil=>rfl
 | cons n ns ih =>
  have e:inL (prV x) (prL (n::ns))=(PyData.eqv (prV n).data (prV x).data||inL (prV x) (prL ns)):=rfl
  rw[e,ih,List.contains_cons,z7]
  congr 1
  by_cases h:n=x
  ·subst h;simp
  ·rw[decide_eq_false h]
   exact(beq_eq_false_iff_ne.mpr (Ne.symm h)).symm
@[simp] theorem Es:pIn (prV x) (.lst f (prL ps))=.ok (.bl (ps.contains x)):=by
 unfold pIn
 simp only[a_,n_,mP,Bool.and_self,if_true,ue]
@[simp] theorem Cd:cO (prV x) (.lst f (prL ps))=.ok (.bl (!ps.contains x)):=by
 unfold cO
 simp only[a_,n_,mP,Bool.and_self,if_true,ue]
@[simp] theorem Dk:au (prV x) (.int 0)=.ok (.int x.1):=rfl
@[simp] theorem Dj:au (prV x) (.int 1)=.ok (.int x.2):=rfl
@[simp] theorem DX:fF lI (prV x)=.ok (.int (min x.1 x.2)):=rfl
@[simp] theorem DY:fF c9 (prV x)=.ok (.int (max x.1 x.2)):=rfl
@[simp] theorem y7:oz (prL ps)=some ps:=by
 induction ps with
 | nil=>rfl
 | cons n ns ih =>
  have:sY (prV n)=some n:=rfl
  simp[oz,ih,this]
end
theorem bf{x:PV}{xs:List PV}{k:Nat}{y:PV}(hs:a_ x=some xs)(h:xs[k]?=some y)(ho:y.has Fl.isOwn=false):au x (.int k)=.ok y:=by
 have hl:k < xs.length:=(List.getElem?_eq_some_iff.mp h).1
 unfold au
 simp only[hs,atI]
 rw[i_ hl]
 simp[h,ho]
def mm(w:Int×Int):Int×Int:=(min w.1 w.2,max w.1 w.2)
structure Ey(n:Nat)(ws:List (Int×Int)):Prop where
 rg:∀w∈ws,0<=w.1/\w.1 < n/\0<=w.2/\w.2 < n/\w.1≠w.2
 nd:(ws.map mm).Nodup
 sz:ws.length < 64
end PR
namespace PR
structure Ex(n:Nat)(od:List Int)(k:Nat)(ws:List (Int×Int)):Prop where
 rg:∀w∈ws,w.1∈od.take k/\w.2∈od.take k/\w.1≠w.2
 nd:(ws.map mm).Nodup
 ln:ws.length+1=k
 cn:∀S:Int->Prop,(∀w∈ws,(S w.1↔S w.2))->∀a∈od.take k,(S a↔S (od.getD 0 0))
structure Ew(n m:Nat)(ws:List (Int×Int)):Prop where
 rg:∀w∈ws,0<=w.1/\w.1 < n/\0<=w.2/\w.2 < n/\w.1≠w.2
 nd:(ws.map mm).Nodup
 ln:ws.length<=m
 cn:∀S:Int->Prop,(∀w∈ws,(S w.1↔S w.2))->∀i j:Nat,i < n->j < n->S i->S j
open PySem L2 in
def d9(o:Out)(Q:PV->Prop):Prop:=∃v,o=.ret v/\Q v
section
open PySem L2
variable{env e:En}{Q:PV->Prop}
theorem az{a b:MS}(h1:a env=.next e)(h2:d9 (b e) Q):d9 (ao a b env) Q:=by
 obtain⟨v,h,q⟩:=h2
 exact⟨v,ag h1 h,q⟩
theorem eP{c:MT}{a b aN:MS}(hc:c env=.ok true)(h:d9 (a env) Q):d9 (ao (mBr c a b) aN env) Q:=by
 obtain⟨v,h1,h2⟩:=h
 exact⟨v,dF (d4 hc h1),h2⟩
theorem aZ{o:Out}{v:PV}(h:o=.ret v)(q:Q v):d9 o Q:=⟨v,h,q⟩
theorem sj{it:MI}{g:TgM}{body aN:MS}{xs:List PV}(P:Nat->En->Prop)(h:it env=.ok xs)(h0:P 0 env)
  (step:∀(k:Nat) (x:PV) (e:En),xs[k]?=some x->P k e->∃e1,g x e=some e1/\gB (body e1) (P (k+1))) (fin:∀e,P xs.length e->d9 (aN e) Q):d9 (ao (bW it g body) aN env) Q:=by
 obtain⟨e2,h1,h2⟩:=f_ P h h0 fun k x e h1 h2=>by
  obtain⟨e1,h3,e2,h4,h5⟩:=step k x e h1 h2
  exact⟨e1,e2,h3,h4,h5⟩
 exact az h1 (fin e2 h2)
end
end PR
namespace PR
open PySem L2
section
variable{env:En}
theorem yk(ho:env[0]?=some (some (.obj .own c ks vs)))(ha:ms env=.ok xs)(hl:hasL Fl.isLnt xs=false)
  (hm:m (.obj .own c ks vs::mapL Fl.toBor xs)=.ok (.obj fl c' ks' vs')) (hb:(PV.obj fl c' ks' vs').has Fl.isBor=false):jJ m ms env=.next (env.set 0 (some (.obj fl c' ks' vs'))):=by
 unfold jJ
 rw[ho]
 dsimp only
 rw[ha]
 dsimp only
 rw[hl,if_neg (by decide),hm]
 dsimp only
 rw[hb,if_neg (by decide)]
end
theorem qR(h:c env=.ok true)(h2:gB (a env) Q):gB (mBr c a b env) Q:=by
 rw[yd h];exact h2
theorem kN(h:c env=.ok false)(h2:gB (b env) Q):gB (mBr c a b env) Q:=by
 rw[yd h];exact h2
@[simp] theorem Ep:v5 (.int 10) (.int 59)=.ok (.int (10 ^ 59)):=sM (by decide) (by decide) (by decide)
section
variable{env:En}{g:TgM}{me:ME}
theorem kT(lo:Int)(f:Nat->Int)(n:Nat)(h:∀k < n,∃e1,g (.int (lo+(k:Int))) env=some e1/\me e1=.ok (.int (f k))):dE g br me env (cN lo n)=.ok (iL ((List.range n).map f)):=by
 rw[show iL ((List.range n).map f)=(List.range n).map fun k=>PV.int (f k) by simp[iL]]
 exact bv (a:=fun k:Nat=>PV.int (lo+(k:Int))) (f:=fun k=>.int (f k)) (List.range n) fun k hk=>let⟨e1,h1,h2⟩:=h k (List.mem_range.mp hk);⟨e1,h1,h2,rfl,rfl⟩
theorem j3(p:Nat->Bool)(f:Nat->Int)(n:Nat)(h:∀k < n,∃e1,g (.int (0+(k:Int))) env=some e1/\mc e1=.ok (p k)/\(p k=true->me e1=.ok (.int (f k)))):dE g mc me env (cN 0 n)=.ok (iL (((List.range n).filter p).map f)):=by
 rw[show iL (((List.range n).filter p).map f)=((List.range n).filter p).map fun k=>PV.int (f k) by simp[iL]]
 exact dI (a:=fun k:Nat=>PV.int (0+(k:Int))) (f:=fun k=>.int (f k)) (p:=p) (List.range n) fun k hk=>let⟨e1,h1,h2,h3⟩:=h k (List.mem_range.mp hk);⟨e1,h1,h2,fun z=>⟨h3 z,rfl,rfl⟩⟩
end
theorem c_(h0:0<=i)(h:i < cs.length):au (.lst f (iL cs)) (.int i)=.ok (.int (gt cs i.toNat)):=by
 have:i.toNat < cs.length:=by omega
 exact nA _ h0 (by simp[gt,this])
theorem jY(xs:List PV)(k:Nat)(h:k<=xs.length):mf xs (some (k:Int)) none=xs.drop k:=by
 unfold mf
 rw[HT.sIx_nat,HT.sIx_none]
 rw[Nat.min_eq_left h,List.take_of_length_le (by simp)]
theorem nM(p:Int->Bool)(f:Int->Int)(row:List Int)(h:∀x∈row,∃e1,g (.int x) env=some e1/\mc e1=.ok (p x)/\(p x=true->me e1=.ok (.int (f x)))):dE g mc me env (iL row)=.ok (iL ((row.filter p).map f)):=by
 rw[show iL ((row.filter p).map f)=(row.filter p).map fun x=>PV.int (f x) by simp[iL]]
 exact dI (a:=PV.int) (f:=fun x=>.int (f x)) (p:=p) row fun x hx=>let⟨e1,h1,h2,h3⟩:=h x hx;⟨e1,h1,h2,fun z=>⟨h3 z,rfl,rfl⟩⟩
theorem oY{Fin:En->Prop}(P:Nat->En->Prop)(step:∀m e,P m e->(c e=.ok false/\Fin e)\/(c e=.ok true/\∃m' e',m' < m/\(b e=.next e'\/b e=.cont e')/\P m' e')) :
  ∀(k m:Nat) (env:En),m < k->P m env->∃e',whL c b k env=.next e'/\Fin e'
 | 0,m,_,h,_=>absurd h (Nat.not_lt_zero m)
 | k+1,m,env,h,hP=>by
  unfold whL
  rcases step m env hP with⟨h1,h2⟩ |⟨h1,m',e',h2,h3,h4⟩
  ·rw[h1];exact⟨env,rfl,h2⟩
  ·obtain⟨e2,h5,h6⟩:=oY P step k m' e' (by omega) h4
   rw[h1]
   rcases h3 with h3 | h3<;>rw[h3]<;>exact⟨e2,h5,h6⟩
section
variable{env:En}{r:Out}
theorem jv{Q:PV->Prop}{c:MT}{b aN:MS}{Fin:En->Prop}(P:Nat->En->Prop)(m:Nat)(hm:m < 100000)(h0:P m env)(step:∀m e,P m e->(c e=.ok false/\Fin e)\/(c e=.ok true/\∃m' e',m' < m/\(b e=.next e'\/b e=.cont e')/\P m' e'))(fin:∀e,Fin e->d9 (aN e) Q):d9 (ao (jI c b) aN env) Q:=by
 obtain⟨e',h1,h2⟩:=oY P step 100000 m env hm h0
 exact az h1 (fin e' h2)
theorem wg(h:env[j]?=some (some v))(h1:j≠0)(h2:i≠j)(ho:a7 i env=true):nw i j env=.next ((env.set j none).set i (some v)):=by
 unfold nw;rw[h];simp[h1,h2,ho]
end
theorem qX(cs:List Int)(k:Nat)(h:k<=cs.length):mf (iL cs) (some (k:Int)) none=iL (cs.drop k):=by
 rw[jY _ k (by rw[di];exact h),kM]
@[simp] theorem Bd(bs:List Bool):uK (bs.map .bl)=some bs:=by
 induction bs with
 | nil=>rfl
 | cons b bs ih=>simp[uK,ih]
end PR
namespace PR
theorem s0_{α:Type}{a b:α}{l:List α}:(a::l).set 0 b=b::l:=rfl
theorem s1_{α:Type}{a b:α}{l:List α}{n:Nat}:(a::l).set (n+1) b=a::l.set n b:=rfl
end PR
namespace G
open PySem L2 PR
def Ay:MS :=
 (ao (mBr (aw (mOp pLt (aa 1) (ak (p1 b6) (ad (aa 0) aj))))
  (bt (mOp au (aa 0) (aa 1)))
  aL)
 (bt (mC (.int (0)))))
def iH:List PV->Res PV:=bG 2 Ay
def u7:MS :=
 (ao (aI 1 (mOp aY (mC (.int (2))) (mOp cE (aa 0) (mC (.int (3))))))
 (ao (aI 2 (mOp aY (mC (.int (2))) (mOp cE (mOp cy (aa 0) (mC (.int (3)))) (mC (.int (2))))))
 (ao (mBr (aw (mOp pEq (aa 1) (mC (.int (2)))))
  (aI 2 (mOp aY (mC (.int (2))) (mOp cE (mOp cy (aa 0) (mC (.int (3)))) (mC (.int (5))))))
  aL)
 (ao (mBr (aw (mOp pEq (mOp cE (mOp cy (aa 0) (mC (.int (15)))) (mC (.int (16)))) (mC (.int (5)))))
  (aI 2 (mOp aY (mC (.int (4))) (mOp bL (mC (.int (4))) (ak (p1 cP) (ad (mOp pEq (aa 1) (mC (.int (2)))) aj)))))
  aL)
 (bt (cY (ad (aa 2) (ad (aa 1) aj))))))))
def uz:List PV->Res PV:=bG 3 u7
def Au:MS :=
 (ao (aI 4 (mOp cy (aa 2) (mOp bL (aa 1) (aa 1))))
 (ao (aI 5 (mOp cE (mOp cy (aa 2) (aa 1)) (aa 1)))
 (ao (mBr (aw (mOp pEq (aa 0) (mC (.int (0)))))
  (fG 4)
  aL)
 (ao (mBr (aw (mOp pEq (aa 0) (mC (.int (1)))))
  (fG 5)
  aL)
 (ao (mBr (aw (mOp pEq (aa 0) (mC (.int (2)))))
  (bt (mOp cE (mOp aY (aa 4) (ak (p1 cP) (ad (mOp pEq (aa 4) (aa 5)) aj))) (aa 1)))
  aL)
 (ao (aI 6 (mOp bL (mOp aY (mOp aY (mOp cE (aa 3) (mC (.int (1000003)))) (mC (.int (1)))) (aa 2)) (mOp aY (mOp aY (mOp cE (aa 3) (mC (.int (999983)))) (mC (.int (7)))) (mOp bL (mC (.int (3))) (aa 2)))))
 (ao (aI 6 (mOp cE (mOp bL (aa 6) (mC (.int (48271)))) (mC (.int (2147483647)))))
 (ao (mBr (aw (mOp pEq (aa 0) (mC (.int (3)))))
  (bt (ak (lB min) (ad (aa 4) (ad (mOp cE (aa 6) (aa 1)) aj))))
  aL)
 (ao (mBr (aw (mOp pEq (aa 0) (mC (.int (4)))))
  (bt (mOp cE (aa 3) (aa 1)))
  aL)
 (bt (mOp cE (aa 6) (aa 1))))))))))))
def qS:List PV->Res PV:=bG 7 Au
def Aw:MS :=
 (ao (aI 2 (ak (ax iH) (ad (aa 0) (ad (mC (.int (1))) aj))))
 (ao (aI 3 (mOp fN (b7 (ad (cY (ad (mC (.int (2))) (ad (mC (.int (1))) aj))) (ad (cY (ad (mC (.int (2))) (ad (mC (.int (1))) aj))) (ad (cY (ad (mC (.int (3))) (ad (mC (.int (3))) aj))) (ad (cY (ad (mC (.int (5))) (ad (mC (.int (5))) aj))) (ad (cY (ad (mC (.int (0))) (ad (mC (.int (0))) aj))) (ad (cY (ad (mC (.int (4))) (ad (mC (.int (1))) aj))) (ad (cY (ad (mOp cE (mOp cy (aa 2) (mC (.int (8)))) (mC (.int (6)))) (ad (mOp cE (mOp cy (aa 2) (mC (.int (48)))) (mC (.int (6)))) aj))) (ad (cY (ad (mC (.int (5))) (ad (mC (.int (1))) aj))) aj))))))))) (mOp cE (aa 2) (mC (.int (8))))))
 (ao (aI 4 (mOp bL (mOp bL (aa 1) (aa 1)) (aa 1)))
 (ao (aI 5 (aV [3,1,0] 1 (bO (ad (aa 4) aj)) (tgN 3) br (ak (ax qS) (ad (mOp au (aa 0) (mC (.int (0)))) (ad (aa 1) (ad (aa 3) (ad (ak (ax iH) (ad (aa 2) (ad (mC (.int (2))) aj))) aj)))))))
 (ao (aI 6 (aV [3,1,0] 1 (bO (ad (aa 4) aj)) (tgN 3) br (ak (ax qS) (ad (mOp au (aa 0) (mC (.int (1)))) (ad (aa 1) (ad (aa 3) (ad (ak (ax iH) (ad (aa 2) (ad (mC (.int (3))) aj))) aj)))))))
 (ao (bW (dD (fQ (aa 0) (iM (mC (.int (4)))) fg)) (tgN 7)
  (ao (aI 8 (mOp cE (aa 7) (mOp bL (mOp bL (mC (.int (2))) (aa 4)) (mOp aY (mC (.int (1))) (mOp cE (mOp cy (aa 2) (mC (.int (288)))) (mC (.int (7))))))))
 (mBr (aw (mOp pLt (aa 8) (aa 4)))
  (fR 5 (aa 8) (mOp cE (mOp cy (aa 7) (mOp bL (mC (.int (14))) (aa 4))) (aa 1)))
  (mBr (aw (mOp pLt (aa 8) (mOp bL (mC (.int (2))) (aa 4))))
  (fR 6 (mOp jB (aa 8) (aa 4)) (mOp cE (mOp cy (aa 7) (mOp bL (mC (.int (14))) (aa 4))) (aa 1)))
  aL))))
 (oI 5 6)))))))
def zV:List PV->Res PV:=bG 9 Aw
def AF:MS :=
 (ao (mBr (aw (mOp pNe (ak (p1 b6) (ad (aa 0) aj)) (mOp bL (mOp bL (aa 1) (aa 1)) (aa 1))))
  (cf 1 (ad (mC (.str "a table has not an entry for each own, left and right cell")) aj))
  aL)
 (bW (dD (aa 0)) (tgN 2)
  (mBr ((gh (aw (mOp pLt (aa 2) (mC (.int (0))))) (aw (mOp pGe (aa 2) (aa 1)))))
  (cf 1 (ad (mC (.str "an entry of a table is out of bounds")) aj))
  aL)))
def wR:List PV->Res PV:=bG 3 AF
def u0:MS :=
 (ao (jK 0 0 (aa 1))
 (ao (jK 0 1 (aa 2))
 (jK 0 2 (aa 3))))
def p4:List PV->Res PV:=mT 4 u0
def AH:MS :=
 (ao (mBr ((gh (aw (mOp pLt (aa 1) (mC (.int (2))))) (aw (mOp pGt (aa 1) (mC (.int (8)))))))
  (cf 1 (ad (mC (.str "the number of machines is out of bounds")) aj))
  aL)
 (ao (mBr ((gh (aw (mOp pLt (aa 2) (mC (.int (2))))) (aw (mOp pGt (aa 2) (mC (.int (4)))))))
  (cf 1 (ad (mC (.str "the span is out of bounds")) aj))
  aL)
 (ao (mBr (aw (mUn (i6 [("none", (0)),("one", (1))]) (aa 3)))
  (cf 1 (ad (mC (.str "the word is another one than none and one")) aj))
  aL)
 (ao (fT (ak (ax wR) (ad (aa 4) (ad (aa 2) aj))))
 (ao (fT (ak (ax wR) (ad (aa 5) (ad (aa 2) aj))))
 (ao (jK 0 3 (mUn (mZ [("none", (0)),("one", (1))]) (aa 3)))
 (ao (jK 0 4 (ak (p1 gs) (ad (aa 4) aj)))
 (ao (jK 0 5 (ak (p1 gs) (ad (aa 5) aj)))
 (jJ p4 (ad (aa 1) (ad (aa 2) (ad (mC (.bl false)) aj))))))))))))
def uv:List PV->Res PV:=mT 6 AH
def Av:MS :=
 (ao (aI 2 (b7 (ad (b7 aj) aj)))
 (ao (bW (bO (ad (aa 0) aj)) (tgN 3)
  (ao (aI 4 (b7 aj))
 (ao (fS 2) (ao (bW (dD (aa 2)) (tgN 5)
  (bW (bO (ad (aa 1) aj)) (tgN 6)
  (cT 4 (mOp aY (aa 5) (b7 (ad (aa 6) aj))))))
 (nw 2 4)))))
 (fG 2)))
def zU:List PV->Res PV:=bG 7 Av
def uX:MS :=
 (ao (aI 4 (b7 aj))
 (ao (bW (bO (ad (ak (p1 b6) (ad (aa 0) aj)) aj)) (tgN 5)
  (ao (aI 6 (mOp au (aa 0) (mOp jB (aa 5) (mC (.int (1))))))
 (ao (aI 7 (mOp au (aa 0) (mOp cE (mOp aY (aa 5) (mC (.int (1)))) (ak (p1 b6) (ad (aa 0) aj)))))
 (ao (aI 8 (mOp aY (mOp aY (mOp bL (mOp bL (mOp au (aa 0) (aa 5)) (aa 1)) (aa 1)) (mOp bL (aa 6) (aa 1))) (aa 7)))
 (cT 4 (mOp au (mOp fN (b7 (ad (aa 3) (ad (aa 2) aj))) (ak (p1 cP) (ad (mOp pEq (aa 5) (mC (.int (0)))) aj))) (aa 8)))))))
 (fG 4)))
def uy:List PV->Res PV:=bG 9 uX
def uP:MS :=
 (ao (aI 5 (b7 aj))
 (ao (aI 6 (mC (.int (1))))
 (ao (aI 7 (b7 aj))
 (ao (bW (bO (ad (ak (p1 b6) (ad (aa 1) aj)) aj)) (tgN 8)
  (ao (aI 9 (mOp jB (mOp jB (ak (p1 b6) (ad (aa 1) aj)) (mC (.int (1)))) (aa 8)))
 (ao (aI 7 (mOp aY (b7 (ad (cY (ad (aa 9) (ad (mOp bL (mOp jB (mOp au (aa 2) (aa 9)) (mOp au (aa 1) (aa 9))) (aa 6)) aj))) aj)) (aa 7)))
 (aI 6 (mOp bL (aa 6) (aa 3))))))
 (ao (mBr (cS (aU (aa 4)))
  (bt (aV [0] 2 (bA (aa 7)) (tgT 2 (aD (tgN 1) (aD (tgN 2) b5))) (aw (mOp pNe (aa 2) (mC (.int (0))))) (cY (ad (b7 (ad (aa 1) aj)) (ad (mOp aY (aa 0) (aa 2)) aj)))))
  aL)
 (ao (aI 5 (b7 (ad (cY (ad (b7 aj) (ad (aa 0) aj))) aj)))
 (ao (fS 7) (ao (bW (dD (aa 7)) (tgT 2 (aD (tgN 9) (aD (tgN 10) b5)))
  (mBr (aw (mOp pNe (aa 10) (mC (.int (0)))))
  (ao (fS 5) (aI 5 (mOp aY (aa 5) (aV [9,10] 2 (bA (aa 5)) (tgT 2 (aD (tgN 2) (aD (tgN 3) b5))) br (cY (ad (mOp aY (aa 2) (b7 (ad (aa 0) aj))) (ad (mOp aY (aa 3) (aa 1)) aj)))))))
  aL))
 (ao (fS 5) (bt (fQ (aa 5) (iM (mC (.int (1)))) fg)))))))))))
def zT:List PV->Res PV:=bG 11 uP
def AC:MS :=
 (mBr ((eT (aU (aa 1)) (aU (mUn (aT 2) (aa 0)))))
  (cf 3 (ad (mC (.str "a rule that is alone gets one machine at a turn")) aj))
  aL)
def wP:List PV->Res PV:=bG 2 AC
def Ar:MS :=
 (ao (aI 1 (mC (.int (1))))
 (ao (bW (bO (ad (mUn (aT 0) (aa 0)) aj)) (tgN 2)
  (ao (aI 1 (mOp bL (aa 1) (mUn (aT 1) (aa 0))))
 (mBr (aw (mOp pGt (aa 1) (mC (.int (256)))))
  (t5)
  aL)))
 (fG 1)))
def ur:List PV->Res PV:=bG 3 Ar
def AE:MS :=
 (ao (mBr (aw (mOp pGt (ak (ax ur) (ad (aa 0) aj)) (mC (.int (256)))))
  (cf 4 (ad (mC (.str "the rule has too many states")) aj))
  aL)
 (mBr ((eT (aU (aa 1)) (aw (mOp pGt (mUn (aT 0) (aa 0)) (mC (.int (4)))))))
  (cf 4 (ad (mC (.str "the rule has too many machines for many at once")) aj))
  aL))
def zX:List PV->Res PV:=bG 2 AE
def uW:MS :=
 (ao (aI 2 (b7 aj))
 (ao (aI 3 (aa 1))
 (ao (bW (bO (ad (mUn (aT 0) (aa 0)) aj)) (tgN 4)
  (ao (cT 2 (mOp cE (aa 3) (mUn (aT 1) (aa 0))))
 (aI 3 (mOp cy (aa 3) (mUn (aT 1) (aa 0))))))
 (bt (mUn eS (aa 2))))))
def iQ:List PV->Res PV:=bG 5 uW
def CP:MS :=
 (bt (mOp au (aa 1) (aa 2)))
def ya:List PV->Res PV:=bG 3 CP
def uQ:MS :=
 (ao (aI 3 (mOp au (aa 1) (mOp cE (mOp jB (aa 2) (mC (.int (1)))) (mUn (aT 0) (aa 0)))))
 (ao (aI 4 (mOp au (aa 1) (mOp cE (mOp aY (aa 2) (mC (.int (1)))) (mUn (aT 0) (aa 0)))))
 (ao (aI 5 (mOp aY (mOp aY (mOp bL (mOp bL (mOp au (aa 1) (aa 2)) (mUn (aT 1) (aa 0))) (mUn (aT 1) (aa 0))) (mOp bL (aa 3) (mUn (aT 1) (aa 0)))) (aa 4)))
 (bt (lL (aw (mOp pEq (aa 2) (mC (.int (0))))) (mOp au (mUn (aT 4) (aa 0)) (aa 5)) (mOp au (mUn (aT 5) (aa 0)) (aa 5)))))))
def wS:List PV->Res PV:=bG 6 uQ
def dr:Nat->Option (List PV->Res PV)
 | 0=>some ya
 | 1=>some wS
 | _=>none
def AA:MS :=
 (bt (aV [0,1] 1 (bO (ad (mUn (aT 0) (aa 0)) aj)) (tgN 2) (aw (mOp pNe (g6 dr (aa 0) (ad (aa 1) (ad (aa 2) aj))) (mOp au (aa 1) (aa 2)))) (aa 2)))
def wO:List PV->Res PV:=bG 2 AA
def bX:Nat->Option (List PV->Res PV)
 | 0 | 1=>some wO
 | _=>none
def Ec:MS :=
 (bt (mOp pEq (ak (p1 b6) (ad (g6 bX (aa 0) (ad (aa 1) aj)) aj)) (mC (.int (0)))))
def CN:List PV->Res PV:=bG 2 Ec
def AI:MS :=
 (bt (mOp pEq (ak (p1 b6) (ad (g6 bX (aa 0) (ad (aa 1) aj)) aj)) (mUn (aT 3) (aa 0))))
def zZ:List PV->Res PV:=bG 2 AI
def dH:Nat->Option (List PV->Res PV)
 | 0=>some CN
 | 1=>some zZ
 | _=>none
def uV:MS :=
 (ao (aI 1 (b7 (ad (b7 aj) aj)))
 (ao (bW (dD (aa 0)) (tgN 2)
  (ao (fS 1) (aI 1 (mOp aY (aa 1) (aV [2] 1 (bA (aa 1)) (tgN 1) br (mOp aY (aa 1) (b7 (ad (aa 0) aj))))))))
 (ao (fS 1) (bt (fQ (aa 1) (iM (mC (.int (1)))) fg)))))
def pY:List PV->Res PV:=bG 3 uV
def Ax:MS :=
 (ao (mBr ((eT (aU (mUn (aT 2) (aa 0))) (aw (mOp pGt (ak (p1 b6) (ad (aa 1) aj)) (mC (.int (1)))))))
  (cf 3 (ad (mC (.str "a rule that is alone gets one machine at a turn")) aj))
  aL)
 (ao (bW (dD (aa 1)) (tgN 2)
  (mBr ((gh (aw (mOp pLt (aa 2) (mC (.int (0))))) (aw (mOp pGe (aa 2) (mUn (aT 0) (aa 0))))))
  (cf 3 (ad (mC (.str "a name is no machine")) aj))
  aL))
 (mBr (aw (mOp pNe (mUn gT (aa 1)) (ak (p1 b6) (ad (aa 1) aj))))
  (cf 3 (ad (mC (.str "a machine is named twice")) aj))
  aL)))
def zW:List PV->Res PV:=bG 3 Ax
def AD:MS :=
 (ao (fT (ak (ax zW) (ad (aa 0) (ad (aa 2) aj))))
 (bt (aV [2,0,1] 1 (bO (ad (mUn (aT 0) (aa 0)) aj)) (tgN 3) br (lL (aw (mOp pIn (aa 3) (aa 0))) (g6 dr (aa 1) (ad (aa 2) (ad (aa 3) aj))) (mOp au (aa 2) (aa 3))))))
def wQ:List PV->Res PV:=bG 3 AD
def d0:Nat->Option (List PV->Res PV)
 | 0 | 1=>some wQ
 | _=>none
def uS:MS :=
 (ao (fT (ak (ax wP) (ad (aa 0) (ad (aa 2) aj))))
 (ao (aI 3 (g6 bX (aa 0) (ad (aa 1) aj)))
 (ao (aI 4 (lL (aU (aa 2)) (ak (ax pY) (ad (aa 3) aj)) (aV [] 1 (bA (aa 3)) (tgN 0) br (b7 (ad (aa 0) aj)))))
 (ao (fS 4) (bt (aV [0,1] 1 (bA (aa 4)) (tgN 2) br (cY (ad (aa 2) (ad (g6 d0 (aa 0) (ad (aa 1) (ad (aa 2) aj))) aj)))))))))
def pX:List PV->Res PV:=bG 5 uS
def At:MS :=
 (ao (aI 2 (mC (.int (0))))
 (ao (bW (dD (aa 1)) (tgN 3)
  (aI 2 (mOp aY (mOp bL (aa 2) (mUn (aT 1) (aa 0))) (aa 3))))
 (fG 2)))
def ut:List PV->Res PV:=bG 4 At
def uU:MS :=
 (ao (bW (dX (aa 2)) (tgT 2 (aD (tgN 3) (aD (tgN 4) b5)))
  (bW (dD (aa 4)) (tgT 2 (aD (tgN 5) (aD (tgN 6) b5)))
  (mBr ((eT (aU (mOp au (aa 1) (aa 3))) (cS (aU (mOp au (aa 1) (ak (ax ut) (ad (aa 0) (ad (aa 6) aj))))))))
  (bt (cY (ad (mC (.str "leaves")) (ad (ak (ax iQ) (ad (aa 0) (ad (aa 3) aj))) (ad (aa 5) aj)))))
  aL)))
 (bt (mC .non)))
def ux:List PV->Res PV:=bG 7 uU
def uT:MS :=
 (ao (bW (dX (aa 2)) (tgT 2 (aD (tgN 3) (aD (tgN 4) b5)))
  (mBr ((eT (cS (aU (mOp au (aa 1) (aa 3)))) (aw (mOp pEq (ak (p1 b6) (ad (aa 4) aj)) (mC (.int (0)))))))
  (bt (cY (ad (mC (.str "stuck")) (ad (ak (ax iQ) (ad (aa 0) (ad (aa 3) aj))) aj))))
  aL))
 (bt (mC .non)))
def uw:List PV->Res PV:=bG 5 uT
def Az:MS :=
 (ao (aI 2 (aV [] 1 (bA (aa 0)) (tgN 0) br (lL (aU (aa 0)) (mC (.int (0))) (mC .non))))
 (ao (aI 3 (mC (.bl true)))
 (ao (jI (aU (aa 3))
  (ao (aI 3 (mC (.bl false)))
 (bW (dX (aa 1)) (tgT 2 (aD (tgN 4) (aD (tgN 5) b5)))
  (mBr ((eT (aw (mOp fM (mOp au (aa 2) (aa 4)) (mC .non))) (aw (mOp cO (mC .non) (aV [2] 1 (bA (aa 5)) (tgN 1) br (mOp au (aa 0) (aa 1)))))))
  (ao (fR 2 (aa 4) (mOp aY (mC (.int (1))) (ak (p1 (fF c9)) (ad (aV [2] 1 (bA (aa 5)) (tgN 1) br (mOp au (aa 0) (aa 1))) aj))))
 (aI 3 (mC (.bl true))))
  aL))))
 (fG 2))))
def wN:List PV->Res PV:=bG 6 Az
def uZ:MS :=
 (ao (aI 2 (b7 (ad (dW cQ (aa 0) (mC .non)) aj)))
 (ao (jI (aw (mOp pEq (dW fO (aa 2) (mOp au (aa 2) (mUn jC (mC (.int (1)))))) (mC (.int (1)))))
  (cT 2 (mOp au (aV [0] 1 (bA (mOp au (aa 1) (mOp au (aa 2) (mUn jC (mC (.int (1))))))) (tgN 1) (aw (mOp fM (mOp au (aa 0) (aa 1)) (mC .non))) (aa 1)) (mC (.int (0))))))
 (bt (fQ (aa 2) (iM (dW cQ (aa 2) (mOp au (aa 2) (mUn jC (mC (.int (1))))))) fg))))
def pZ:List PV->Res PV:=bG 3 uZ
def AJ:MS :=
 (ao (aI 3 (aV [0] 1 (bA (aa 2)) (tgN 1) br (aV [0] 1 (bA (aa 1)) (tgN 1) br (ak (ax ut) (ad (aa 0) (ad (mOp au (aa 1) (mC (.int (1)))) aj))))))
 (ao (aI 4 (ak (ax wN) (ad (aa 1) (ad (aa 3) aj))))
 (ao (mBr (aw (mOp pIn (mC .non) (aa 4)))
  (bt (cY (ad (mC (.str "round")) (ad (aV [0] 1 (bA (ak (ax pZ) (ad (aa 4) (ad (aa 3) aj)))) (tgN 1) br (ak (ax iQ) (ad (aa 0) (ad (aa 1) aj)))) aj))))
  aL)
 (lK "calm" 4))))
def z0:List PV->Res PV:=bG 5 AJ
def uR:MS :=
 (ao (fT (ak (ax wP) (ad (aa 0) (ad (aa 1) aj))))
 (ao (fT (ak (ax zX) (ad (aa 0) (ad (aa 1) aj))))
 (ao (aI 2 (aV [0] 1 (bO (ad (ak (ax ur) (ad (aa 0) aj)) aj)) (tgN 1) br (ak (ax iQ) (ad (aa 0) (ad (aa 1) aj)))))
 (ao (aI 3 (aV [0] 1 (bA (aa 2)) (tgN 1) br (g6 dH (aa 0) (ad (aa 1) aj))))
 (ao (aI 4 (aV [0,1] 1 (bA (aa 2)) (tgN 2) br (ak (ax pX) (ad (aa 0) (ad (aa 2) (ad (aa 1) aj))))))
 (ao (fS 4) (ao (aI 5 (ak (ax ux) (ad (aa 0) (ad (aa 3) (ad (aa 4) aj)))))
 (ao (mBr (aw (mOp fM (aa 5) (mC .non)))
  (aI 5 (ak (ax uw) (ad (aa 0) (ad (aa 3) (ad (aa 4) aj)))))
  aL)
 (ao (mBr (aw (mOp fM (aa 5) (mC .non)))
  (aI 5 (ak (ax z0) (ad (aa 0) (ad (aa 3) (ad (aa 4) aj)))))
  aL)
 (fG 5))))))))))
def jU:List PV->Res PV:=bG 6 uR
def uY:MS :=
 (ao (mBr (aU (aa 1))
  (bt (ak (ax jU) (ad (aa 0) (ad (mC (.bl true)) aj))))
  aL)
 (ao (mBr (aw (mOp pEq (mOp cE (aa 2) (mC (.int (2)))) (mC (.int (0)))))
  (bt (ak (fun xs=>ax jU (xs++[.bl false])) (ad (aa 0) aj)))
  aL)
 (bt (ak (fun xs=>ax jU (xs++[.bl false])) (ad (aa 0) aj)))))
def nE:List PV->Res PV:=bG 3 uY
def AG:MS :=
 (ao (bW (bO (ad (ak (p1 b6) (ad (aa 0) aj)) aj)) (tgN 3)
  (mBr (aU (mOp au (aa 2) (aa 3)))
  (bW (dD (mOp au (aa 1) (aa 3))) (tgT 2 (aD (tgN 4) (aD (tgN 5) b5)))
  (mBr (cS (aU (mOp au (aa 2) (aa 5))))
  (bt (cY (ad (mC (.str "leaves")) (ad (mOp au (aa 0) (aa 3)) (ad (aa 4) aj)))))
  aL))
  aL))
 (ao (bW (bO (ad (ak (p1 b6) (ad (aa 0) aj)) aj)) (tgN 3)
  (mBr ((eT (cS (aU (mOp au (aa 2) (aa 3)))) (aw (mOp pEq (mOp au (aa 1) (aa 3)) (b7 aj)))))
  (bt (cY (ad (mC (.str "stuck")) (ad (mOp au (aa 0) (aa 3)) aj))))
  aL))
 (bt (mC .non))))
def zY:List PV->Res PV:=bG 6 AG
def As:MS :=
 (bt ((jL (kg (aa 0) "int") (pK (kg (aa 0) "bool")))))
def wM:List PV->Res PV:=bG 1 As
def AB:MS :=
 (ao (mBr ((gh (cS (aU (kg (aa 0) "list"))) (aw (mOp pNe (ak (p1 b6) (ad (aa 0) aj)) (ak (p1 b6) (ad (aa 1) aj))))))
  (bt (mC (.bl false)))
  aL)
 (ao (bW (nv (ad (aa 0) (ad (aa 1) aj))) (tgT 2 (aD (tgN 2) (aD (tgN 3) b5)))
  (mBr ((gh (cS (aU (ak (ax wM) (ad (aa 2) aj)))) (aw (mOp pNe (aa 2) (aa 3)))))
  (bt (mC (.bl false)))
  aL))
 (bt (mC (.bl true)))))
def qT:List PV->Res PV:=bG 4 AB
def Aq:MS :=
 (ao (mBr ((gh (cS (aU (kg (aa 0) "list"))) (aw (mOp pLt (ak (p1 b6) (ad (aa 0) aj)) (mC (.int (2)))))))
  (bt (mC (.bl false)))
  aL)
 (ao (aI 4 (mUn jC (mC (.int (1)))))
 (ao (bW (dX (aa 0)) (tgT 2 (aD (tgN 5) (aD (tgN 6) b5)))
  (ao (mBr ((gh (aw (mOp cO (aa 6) (aa 1))) (cS (aU (ak (ax qT) (ad (aa 6) (ad (mOp au (aa 1) (dW cQ (aa 1) (aa 6))) aj)))))))
  (bt (mC (.bl false)))
  aL)
 (ao (aI 7 (dW cQ (aa 1) (aa 6)))
 (ao (mBr (aU (mOp au (aa 3) (aa 7)))
  (bt (mC (.bl false)))
  aL)
 (ao (mBr ((eT (aw (mOp pGt (aa 5) (mC (.int (0))))) (aw (mOp cO (aa 7) (aV [] 2 (bA (mOp au (aa 2) (aa 4))) (tgT 2 (aD (tgN 0) (aD (tgN 1) b5))) br (aa 1))))))
  (bt (mC (.bl false)))
  aL)
 (aI 4 (aa 7)))))))
 (bt (mOp pEq (mOp au (aa 0) (mC (.int (0)))) (mOp au (aa 0) (mUn jC (mC (.int (1))))))))))
def zS:List PV->Res PV:=bG 8 Aq
def u8:MS :=
 (ao (mBr ((gh (cS (aU (kg (aa 0) "list"))) (aw (mOp pNe (ak (p1 b6) (ad (aa 0) aj)) (ak (p1 b6) (ad (aa 2) aj))))))
  (bt (mC (.bl false)))
  aL)
 (ao (bW (dD (aa 0)) (tgN 3)
  (mBr (cS (aU (ak (ax wM) (ad (aa 3) aj))))
  (bt (mC (.bl false)))
  aL))
 (ao (bW (bO (ad (ak (p1 b6) (ad (aa 2) aj)) aj)) (tgN 4)
  (ao (aI 5 (mC (.int (0))))
 (ao (mBr (cS (aU (mOp au (aa 2) (aa 4))))
  (aI 5 (mOp aY (mC (.int (1))) (ak (p1 (fF c9)) (ad (aV [0] 2 (bA (mOp au (aa 1) (aa 4))) (tgT 2 (aD (tgN 1) (aD (tgN 2) b5))) br (mOp au (aa 0) (aa 2))) aj))))
  aL)
 (mBr (aw (mOp pNe (mOp au (aa 0) (aa 4)) (aa 5)))
  (bt (mC (.bl false)))
  aL))))
 (bt (mC (.bl true))))))
def uA:List PV->Res PV:=bG 6 u8
def mB:MS :=
 (ao (mBr ((gh (cS (aU (kg (aa 0) "tuple"))) (gh (aw (mOp pLt (ak (p1 b6) (ad (aa 0) aj)) (mC (.int (2))))) (cS (aU (kg (mOp au (aa 0) (mC (.int (0)))) "str"))))))
  (bt (mC (.bl false)))
  aL)
 (ao (aI 4 (ak (ax zY) (ad (aa 1) (ad (aa 2) (ad (aa 3) aj)))))
 (ao (mBr (aw (mOp gS (aa 4) (mC .non)))
  (ao (mBr ((gh (aw (mOp pNe (ak (p1 b6) (ad (aa 0) aj)) (ak (p1 b6) (ad (aa 4) aj)))) (gh (aw (mOp pNe (mOp au (aa 0) (mC (.int (0)))) (mOp au (aa 4) (mC (.int (0)))))) (cS (aU (ak (ax qT) (ad (mOp au (aa 0) (mC (.int (1)))) (ad (mOp au (aa 4) (mC (.int (1)))) aj))))))))
  (bt (mC (.bl false)))
  aL)
 (bt ((tY (mOp pEq (ak (p1 b6) (ad (aa 4) aj)) (mC (.int (2)))) (ak (ax qT) (ad (mOp au (aa 0) (mC (.int (2)))) (ad (mOp au (aa 4) (mC (.int (2)))) aj)))))))
  aL)
 (ao (mBr (aw (mOp pNe (ak (p1 b6) (ad (aa 0) aj)) (mC (.int (2)))))
  (bt (mC (.bl false)))
  aL)
 (ao (mBr (aw (mOp pEq (mOp au (aa 0) (mC (.int (0)))) (mC (.str "round"))))
  (bt (ak (ax zS) (ad (mOp au (aa 0) (mC (.int (1)))) (ad (aa 1) (ad (aa 2) (ad (aa 3) aj))))))
  aL)
 (bt ((jL (mOp pEq (mOp au (aa 0) (mC (.int (0)))) (mC (.str "calm"))) (ak (ax uA) (ad (mOp au (aa 0) (mC (.int (1)))) (ad (aa 2) (ad (aa 3) aj))))))))))))
def uu:List PV->Res PV:=bG 5 mB
def my:MU :=
 (uIf (aw (mOp pNe (mOp au (aa 0) (mC (.int (0)))) (mC (.str "round")))) (rA (mC (.bl true)))
 (vq (g7 0 1 0 0)
 (rA (mOp pEq (ak (p1 b6) (ad (mOp au (mOp au (aa 0) (mC (.int (1)))) (mUn jC (mC (.int (1))))) aj)) (aa 1)))))
def wL:List PV->Option (Bool×PV):=iS 2 my
def u9:MS :=
 (ao (aI 1 (ak (ax iH) (ad (aa 0) (ad (mC (.int (0))) aj))))
 (ao (qH (tgT 2 (aD (tgN 2) (aD (tgN 3) b5))) (ak (ax uz) (ad (aa 1) aj)))
 (ao (aI 4 (mOp au (b7 (ad (mC (.str "none")) (ad (mC (.str "one")) (ad (mC (.str "none")) aj)))) (mOp cE (mOp cy (aa 1) (mC (.int (240)))) (mC (.int (3))))))
 (ao (aI 5 ((jL (mOp pLe (aa 2) (mC (.int (4)))) (mOp pEq (mOp cE (mOp cy (aa 1) (mC (.int (720)))) (mC (.int (2)))) (mC (.int (1)))))))
 (ao (qH (tgT 2 (aD (tgN 6) (aD (tgN 7) b5))) (ak (ax zV) (ad (aa 0) (ad (aa 3) aj))))
 (ao (aI 8 (qG 1 uv (ad (aa 2) (ad (aa 3) (ad (aa 4) (ad (aa 6) (ad (aa 7) aj)))))))
 (ao (aI 9 (qG 1 uv (ad (mC (.int (2))) (ad (aa 3) (ad (mC (.str "none")) (ad (aa 7) (ad (aa 6) aj)))))))
 (ao (aI 10 (ak (ax zU) (ad (aa 2) (ad (aa 3) aj))))
 (ao (aI 11 (b7 aj))
 (ao (aI 12 (b7 aj))
 (ao (fS 10) (ao (bW (dX (aa 10)) (tgT 2 (aD (tgN 13) (aD (tgN 14) b5)))
  (ao (aI 15 (ak (ax uy) (ad (aa 14) (ad (aa 3) (ad (aa 6) (ad (aa 7) aj))))))
 (ao (cT 11 (ak (ax zT) (ad (aa 13) (ad (aa 14) (ad (aa 15) (ad (aa 3) (ad (aa 5) aj)))))))
 (ao (aI 16 (ak (p1 b6) (ad (aV [15,14] 1 (bO (ad (aa 2) aj)) (tgN 2) (aw (mOp pNe (mOp au (aa 0) (aa 2)) (mOp au (aa 1) (aa 2)))) (aa 2)) aj)))
 (cT 12 (mOp pEq (aa 16) (ak (p1 cP) (ad (mOp pEq (aa 4) (mC (.str "one"))) aj))))))))
 (ao (fS 11) (ao (fS 12) (ao (aI 17 (ak (ax nE) (ad (aa 8) (ad (aa 5) (ad (mOp cy (aa 1) (mC (.int (1440)))) aj)))))
 (ao (ny (aU (ak (ax uu) (ad (aa 17) (ad (aa 10) (ad (aa 11) (ad (aa 12) aj)))))) (mAp 17 2 wL))
 (ao (mBr (aw (mOp pGt (ak (p1 b6) (ad (aa 10) aj)) (mC (.int (81)))))
  (bt (mC (.bl true)))
  aL)
 (ao (i8 17 1)
 (ao (fT (ak (fun xs=>ax jU (xs ++ [.bl false])) (ad (aa 9) aj)))
 (bt (ak (ax uu) (ad (ak (ax nE) (ad (aa 8) (ad (aa 5) (ad (mOp aY (mOp cy (aa 1) (mC (.int (1440)))) (mC (.int (1)))) aj)))) (ad (aa 10) (ad (aa 11) (ad (aa 12) aj)))))))))))))))))))))))))
def yb:List PV->Res PV:=bG 18 u9
end G
namespace G
open PySem L2 PR
def top(i:Nat):Stmt:=PySem.Challenge.pw_calmring_k34_look_walked.main.body.getD i (.Pass ⟨0,0,0,0⟩)
def tF(q:Str)(i k:Nat)(N:List Str):FS:=⟨q,top i,k,N,none⟩
def tM(c:Nat)(q:Str)(i j k:Nat)(N:List Str):FS:=⟨q,wG (top i) j,k,N,some c⟩
def mE(c:Nat)(n:Str)(i:Nat):Nat×Str×Nat:=(c,n,i)
def pt:PT:={
 F:=[tF "_law_cell_at" 35 2 ["_law_script", "_law_k"],
  tF "_law_sizes" 39 1 ["_law_head", "_law_span", "_law_size"],
  tF "_law_entry" 37 4 ["_law_kind", "_law_span", "_law_place", "_law_cell", "_law_own", "_law_left", "_law_number"],
  tF "_law_tables" 38 2 ["_law_script", "_law_span", "_law_cell", "_law_pair", "_law_crowd", "_law_firsts", "_law_others", "_law_one", "_law_place"],
  tF "refuse_table" 33 2 ["table", "span", "number"],
  tM 0 "Rule.__init__" 24 0 4 ["self", "size", "span", "alone"],
  tM 1 "TableRule.__init__" 32 0 6 ["self", "size", "span", "word", "firsts", "others"],
  tF "_law_states" 40 2 ["_law_size", "_law_span", "_law_states_here", "_law_k", "_law_more", "_law_state", "_law_cell"],
  tF "_law_dues" 41 4 ["_law_cells", "_law_span", "_law_firsts", "_law_others", "_law_dues_here", "_law_at", "_law_left", "_law_right_here", "_law_place"],
  tF "_law_nexts" 42 5 ["_law_number", "_law_cells", "_law_dues_here", "_law_span", "_law_crowd", "_law_rows", "_law_weight", "_law_steps", "_law_k", "_law_at", "_law_leap"],
  tF "refuse_many" 14 2 ["rule", "many"],
  tF "states_of" 16 1 ["rule", "count", "at"],
  tF "refuse_great" 15 2 ["rule", "many"],
  tF "cells_of" 11 2 ["rule", "number", "cells", "left", "at"],
  tM 0 "Rule.due" 24 2 3 ["self", "cells", "at"],
  tM 1 "TableRule.due" 32 1 3 ["self", "cells", "at", "left", "right", "entry"],
  tM 0 "Rule.movers" 24 3 2 ["self", "cells"],
  tM 0 "Rule.calm" 24 4 2 ["self", "cells"],
  tM 1 "TableRule.calm" 32 2 2 ["self", "cells"],
  tF "sets_of" 17 1 ["movers", "sets", "at"],
  tF "refuse_turn" 25 2 ["rule", "named", "at"],
  tM 0 "Rule.turned" 24 5 3 ["self", "cells", "named"],
  tF "number_of" 10 2 ["rule", "cells", "number", "cell"],
  tF "leaving" 18 3 ["rule", "calms", "ways", "number", "pairs", "named", "behind"],
  tF "stuck" 19 3 ["rule", "calms", "ways", "number", "pairs"],
  tF "ranks_found" 21 2 ["calms", "follows", "ranks", "grown", "number", "behind"],
  tF "round_in" 22 2 ["ranks", "follows", "way"],
  tF "round_or_ranks" 20 3 ["rule", "calms", "ways", "follows", "ranks"],
  tF "_law_told" 49 3 ["_law_rule", "_law_crowd", "_law_cell"],
  tF "_law_first_bad" 44 3 ["_law_states_here", "_law_ways", "_law_calms", "_law_number", "_law_named", "_law_behind"],
  tF "_law_whole" 36 1 ["_law_found"],
  tF "_law_numbers" 43 2 ["_law_found", "_law_due", "_law_one", "_law_other"],
  tF "_law_round" 45 4 ["_law_way", "_law_states_here", "_law_ways", "_law_calms", "_law_here", "_law_k", "_law_cells", "_law_number"],
  tF "_law_ranks" 46 3 ["_law_ranks_here", "_law_ways", "_law_calms", "_law_rank", "_law_number", "_law_due"],
  tF "_law_right" 47 4 ["_law_told_here", "_law_states_here", "_law_ways", "_law_calms", "_law_due"],
  tF "_law_apart" 48 2 ["_law_told_here", "_law_size"],
  tF "law" 50 1 ["_law_script", "_law_head", "_law_size", "_law_span", "_law_word", "_law_crowd", "_law_firsts", "_law_others", "_law_rule", "_law_beside", "_law_states_here", "_law_ways", "_law_calms", "_law_number", "_law_cells", "_law_dues_here", "_law_movers", "_law_told_here"]]
 C:=["Rule", "TableRule"]
 X:=["CalmError", "BadRule", "BadState", "BadTurn", "TooGreat"]
 A:=["size", "span", "alone", "calm_movers", "firsts", "others"]
 M:=[mE 0 "due" 14,mE 1 "due" 15,mE 0 "movers" 16,mE 1 "movers" 16,mE 0 "calm" 17,mE 1 "calm" 18,mE 0 "turned" 21,mE 1 "turned" 21]
 Mk:=[(1,6)]
 U:=[(0,5)]
 B:=["len", "int", "range", "min", "tuple", "enumerate", "list", "reversed", "set", "max", "isinstance", "str", "zip", "bool"]
 I:=[("LEAST_RING", 2),("GREATEST_RING", 8),("LEAST_SPAN", 2),("GREATEST_SPAN", 4),("MOST_STATES", 256),("MOST_AT_ONCE", 4)]
 KT:=[]
 HT:=[] }
def pe:PE:=⟨[(tF "nexts" 12 3 ["rule", "cells", "many", "movers", "turns"],false),(tF "look" 13 2 ["rule", "many", "states", "calms", "ways", "found"],false)],[("CALM_MOVERS", [("none",(0)),("one",(1))])]⟩
theorem hA:pt.attOk:=⟨by decide +kernel,by decide +kernel⟩
abbrev T(K:PySem.W.Frag):Tb:=pt.T hA K
section
variable{P:Program}{w:World}{K:PySem.W.Frag}{mg:Str->Option Value}{base:Heap}(t:Ty pt pe w K mg)(hB:K.In base)
include t hB
theorem pG:OkF pt hA P w K mg base 1 0 iH:=okC 0 t.tx fun _ _ _ _ _ _ cx nd =>
 (ae (aM (gG (sv 1) (bu cx.hK rfl (t.tx.b 0) (sv 0))) (ai (aB (a6 cx (sv 0) (sv 1) (fun _ _=>rfl)))) aE)
 (ai (aB (ah))))
theorem zp:OkF pt hA P w K mg base 1 1 uz:=okC 1 t.tx fun _ _ _ _ _ _ cx nd =>
 (ae (a4 nd (bh (ah) (bw (sv 0) (ah))))
 (ae (a4 nd (bh (ah) (bw (cD (sv 0) (ah)) (ah))))
 (ae (aM (eO cx.hK cx.hu (sv 1) (ah)) (ai (a4 nd (bh (ah) (bw (cD (sv 0) (ah)) (ah))))) aE)
 (ae (aM (eO cx.hK cx.hu (bw (cD (sv 0) (ah)) (ah)) (ah)) (ai (a4 nd (bh (ah) (bD (ah) (gL rfl (t.tx.b 1) (fE cx.hK cx.hu (sv 1) (ah))))))) aE)
 (ai (aB (ju (ac (sv 2) (ac (sv 1) af)))))))))
theorem xR:OkF pt hA P w K mg base 1 2 qS:=okC 2 t.tx fun _ _ _ _ _ _ cx nd =>
 (ae (a4 nd (cD (sv 2) (bD (sv 1) (sv 1))))
 (ae (a4 nd (bw (cD (sv 2) (sv 1)) (sv 1)))
 (ae (aM (eO cx.hK cx.hu (sv 0) (ah)) (ai (et rfl (Or.inl rfl))) aE)
 (ae (aM (eO cx.hK cx.hu (sv 0) (ah)) (ai (et rfl (Or.inl rfl))) aE)
 (ae (aM (eO cx.hK cx.hu (sv 0) (ah)) (ai (aB (bw (bh (sv 4) (gL rfl (t.tx.b 1) (fE cx.hK cx.hu (sv 4) (sv 5)))) (sv 1)))) aE)
 (ae (a4 nd (bD (bh (bh (bw (sv 3) (ah)) (ah)) (sv 2)) (bh (bh (bw (sv 3) (ah)) (ah)) (bD (ah) (sv 2)))))
 (ae (a4 nd (bw (bD (sv 6) (ah)) (ah)))
 (ae (aM (eO cx.hK cx.hu (sv 0) (ah)) (ai (aB (vH cx.calm rfl (t.tx.b 3) (ac (sv 4) (ac (bw (sv 6) (sv 1)) af))))) aE)
 (ae (aM (eO cx.hK cx.hu (sv 0) (ah)) (ai (aB (bw (sv 3) (sv 1)))) aE)
 (ai (aB (bw (sv 6) (sv 1)))))))))))))
theorem B6:OkF pt hA P w K mg base 2 3 zV:=okC 3 t.tx fun _ _ _ _ _ _ cx nd =>
 (ae (a4 nd (a5 t.tx (pG t hB) cx (ac (sv 0) (ac (ah) af))))
 (by
 refine Bx.out ?_
 exact (xj (Ac nd rfl (Or.inr rfl) (xi cx.hK (Ad (a8 (fZ (a8 (Bx.mk (ah)) (a8 (Bx.mk (ah)) fC)) (ay (ay bc))) (a8 (fZ (a8 (Bx.mk (ah)) (a8 (Bx.mk (ah)) fC)) (ay (ay bc))) (a8 (fZ (a8 (Bx.mk (ah)) (a8 (Bx.mk (ah)) fC)) (ay (ay bc))) (a8 (fZ (a8 (Bx.mk (ah)) (a8 (Bx.mk (ah)) fC)) (ay (ay bc))) (a8 (fZ (a8 (Bx.mk (ah)) (a8 (Bx.mk (ah)) fC)) (ay (ay bc))) (a8 (fZ (a8 (Bx.mk (ah)) (a8 (Bx.mk (ah)) fC)) (ay (ay bc))) (a8 (fZ (a8 (Bx.mk (bw (cD (sv 2) (ah)) (ah))) (a8 (Bx.mk (bw (cD (sv 2) (ah)) (ah))) fC)) (ay (ay bc))) (a8 (fZ (a8 (Bx.mk (ah)) (a8 (Bx.mk (ah)) fC)) (ay (ay bc))) fC)))))))) (ay (ay (ay (ay (ay (ay (ay (ay bc))))))))) (Bx.mk (bw (sv 2) (ah)))))
 (Bx.mk (ae (a4 nd (bD (bD (sv 1) (sv 1)) (sv 1)))
 (ae (kC ["_law_place"] cx nd (cZ rfl (t.tx.b 2) (ac (sv 4) af)) df (fun _ _ _ _ nd=>⟨(sgN nd),bJ,(a5 t.tx (xR t hB) cx.comp (ac (a6 cx.comp (sv 0) (ah) (fun _ _=>rfl)) (ac (sv 1) (ac (sv 3) (ac (a5 t.tx (pG t hB) cx.comp (ac (sv 2) (ac (ah) af))) af)))))⟩))
 (ae (kC ["_law_place"] cx nd (cZ rfl (t.tx.b 2) (ac (sv 4) af)) df (fun _ _ _ _ nd=>⟨(sgN nd),bJ,(a5 t.tx (xR t hB) cx.comp (ac (a6 cx.comp (sv 0) (ah) (fun _ _=>rfl)) (ac (sv 1) (ac (sv 3) (ac (a5 t.tx (pG t hB) cx.comp (ac (sv 2) (ac (ah) af))) af)))))⟩))
 (ae (bB cx.po cx.calm (eC cx.hK (gK cx.hK (sv 0) (i3 (ah)) i4)) (sgN nd) (ae (a4 nd (bw (sv 7) (bD (bD (ah) (sv 4)) (bh (ah) (bw (cD (sv 2) (ah)) (ah))))))
 (ai (aM (gG (sv 8) (sv 4)) (ai (jo rfl (Or.inl rfl) (sv 8) (bw (cD (sv 7) (bD (ah) (sv 4))) (sv 1)))) (ai (aM (gG (sv 8) (bD (ah) (sv 4))) (ai (jo rfl (Or.inl rfl) (iq (sv 8) (sv 4)) (bw (cD (sv 7) (bD (ah) (sv 4))) (sv 1)))) aE))))))
 (ai (rP rfl (Or.inl rfl) rfl (Or.inl rfl)))))))))))
theorem xV:OkF pt hA P w K mg base 1 4 wR:=okC 4 t.tx fun _ _ _ _ _ _ cx nd =>
 (ae (aM (el cx.hK cx.hu (bu cx.hK rfl (t.tx.b 0) (sv 0)) (bD (bD (sv 1) (sv 1)) (sv 1))) (ai (dR 1 t.tx cx hB dM (ac (bC) af))) aE)
 (ai (bB cx.po cx.calm (eC cx.hK (sv 0)) (sgN nd) (ai (aM (SW.st (eM (gG (sv 2) (ah)) (dO (xE (sv 2) (sv 1))))) (ai (dR 1 t.tx cx hB dM (ac (bC) af))) aE)))))
theorem zo:OkI pt hA P w K mg base 1 5 p4:=okI 5 t.tx fun _ _ _ _ _ _ cx nd =>
 (ae (sFld 0 t.tx cx (sv 1))
 (ae (sFld 1 t.tx cx (sv 2))
 (ai (sFld 2 t.tx cx (sv 3)))))
theorem xW:OkI pt hA P w K mg base 3 6 uv:=okI 6 t.tx fun _ _ _ _ _ _ cx nd =>
 (ae (aM (SW.st (eM (gG (sv 1) (dQ rfl (t.tx.c 0))) (dO (iK (sv 1) (dQ rfl (t.tx.c 1)))))) (ai (dR 1 t.tx cx hB dM (ac (bC) af))) aE)
 (ae (aM (SW.st (eM (gG (sv 2) (dQ rfl (t.tx.c 2))) (dO (iK (sv 2) (dQ rfl (t.tx.c 3)))))) (ai (dR 1 t.tx cx hB dM (ac (bC) af))) aE)
 (ae (aM (qm rfl (t.gm 0) (t.gd 0) (sv 3)) (ai (dR 1 t.tx cx hB dM (ac (bC) af))) aE)
 (ae (eY (a5 t.tx (xV t hB) cx (ac (sv 4) (ac (sv 2) af))))
 (ae (eY (a5 t.tx (xV t hB) cx (ac (sv 5) (ac (sv 2) af))))
 (ae (sFld 3 t.tx cx (vK rfl (t.gm 0) (t.gd 0) (sv 3) (fun _ _=>rfl)))
 (ae (sFld 4 t.tx cx (mQ cx.hK rfl (t.tx.b 4) j_ (sv 4)))
 (ae (sFld 5 t.tx cx (mQ cx.hK rfl (t.tx.b 4) j_ (sv 5)))
 (ai (DN 0 t.tx (zo t hB) cx (ac (sv 1) (ac (sv 2) (ac (cw) af)))))))))))))
theorem B5:OkF pt hA P w K mg base 1 7 zU:=okC 7 t.tx fun _ _ _ _ _ _ cx nd =>
 (ae (a4 nd (dS (ac (dS af) af)))
 (ae (bB cx.po cx.calm (cb rfl (t.tx.b 2) (ac (sv 0) af)) (sgN nd) (ae (a4 nd (dS af))
 (dP (i:=2) (ae (bB cx.po cx.calm (eC cx.hK (sv 2)) (sgN nd) (ai (bB cx.po cx.calm (cb rfl (t.tx.b 2) (ac (sv 1) af)) (sgN nd) (ai (qv cx (bh (sv 5) (dS (ac (sv 6) af))))))))
 (ai (vB nd rfl (Or.inl rfl) rfl (Or.inl rfl)))))))
 (ai (et rfl (Or.inl rfl)))))
theorem zl:OkF pt hA P w K mg base 1 8 uy:=okC 8 t.tx fun _ _ _ _ _ _ cx nd =>
 (ae (a4 nd (dS af))
 (ae (bB cx.po cx.calm (cb rfl (t.tx.b 2) (ac (bu cx.hK rfl (t.tx.b 0) (sv 0)) af)) (sgN nd) (ae (a4 nd (a6 cx (sv 0) (iq (sv 5) (ah)) (fun _ _=>rfl)))
 (ae (a4 nd (a6 cx (sv 0) (bw (bh (sv 5) (ah)) (bu cx.hK rfl (t.tx.b 0) (sv 0))) (fun _ _=>rfl)))
 (ae (a4 nd (bh (bh (bD (bD (a6 cx (sv 0) (sv 5) (fun _ _=>rfl)) (sv 1)) (sv 1)) (bD (sv 6) (sv 1))) (sv 7)))
 (ai (qv cx (a6 cx (pb cx.hK (dS (ac (sv 3) (ac (sv 2) af))) (gL rfl (t.tx.b 1) (fE cx.hK cx.hu (sv 5) (ah))) (fun _ _=>rfl)) (sv 8) (fun _ _=>rfl))))))))
 (ai (et rfl (Or.inl rfl)))))
theorem B4:OkF pt hA P w K mg base 1 9 zT:=okC 9 t.tx fun _ _ _ _ _ _ cx nd =>
 (ae (a4 nd (dS af))
 (ae (a4 nd (ah))
 (ae (a4 nd (dS af))
 (ae (bB cx.po cx.calm (cb rfl (t.tx.b 2) (ac (bu cx.hK rfl (t.tx.b 0) (sv 1)) af)) (sgN nd) (ae (a4 nd (iq (iq (bu cx.hK rfl (t.tx.b 0) (sv 1)) (ah)) (sv 8)))
 (ae (a4 nd (bh (dS (ac (ju (ac (sv 9) (ac (bD (iq (a6 cx (sv 2) (sv 9) (fun _ _=>rfl)) (a6 cx (sv 1) (sv 9) (fun _ _=>rfl))) (sv 6)) af))) af)) (sv 7)))
 (ai (a4 nd (bD (sv 6) (sv 3)))))))
 (ae (aM (cB (aK cx.hK (sv 4))) (ai (aB (dC ["_law_at", "_law_leap"] cx (bU cx.hK (sv 7)) (iW (cI df (cI df gE))) (fun _ _ _ _ nd=>⟨(cC cx.comp.hK cx.comp.calm (aH nd rfl (Or.inl rfl) (aH nd rfl (Or.inl rfl) bY))),(iY (el cx.comp.hK cx.comp.hu (sv 2) (ah))),(ju (ac (dS (ac (sv 1) af)) (ac (bh (sv 0) (sv 2)) af)))⟩)))) aE)
 (ae (a4 nd (dS (ac (ju (ac (dS af) (ac (sv 0) af))) af)))
 (dP (i:=7) (ae (bB cx.po cx.calm (eC cx.hK (sv 7)) (cC cx.hK cx.calm (aH nd rfl (Or.inr rfl) (aH nd rfl (Or.inr rfl) bY))) (ai (aM (el cx.hK cx.hu (sv 10) (ah)) (dP (i:=5) (ai (a4 nd (bh (sv 5) (dC ["_law_named", "_law_behind"] cx (bU cx.hK (sv 5)) (iW (cI df (cI df gE))) (fun _ _ _ _ nd=>⟨(cC cx.comp.hK cx.comp.calm (aH nd rfl (Or.inl rfl) (aH nd rfl (Or.inl rfl) bY))),bJ,(ju (ac (bh (sv 2) (dS (ac (sv 0) af))) (ac (bh (sv 3) (sv 1)) af)))⟩)))))) aE)))
 (dP (i:=5) (ai (aB (gK cx.hK (sv 5) (i3 (ah)) i4))))))))))))
theorem xT:OkF pt hA P w K mg base 1 10 wP:=okC 10 t.tx fun _ _ _ _ _ _ cx nd =>
 (ai (aM (SW.st (fI (aK cx.hK (sv 1)) (d_ (aK cx.hK (cJ 2 t.tx cx (sv 0)))))) (ai (dR 3 t.tx cx hB dM (ac (bC) af))) aE))
theorem xN:OkF pt hA P w K mg base 1 11 ur:=okC 11 t.tx fun _ _ _ _ _ _ cx nd =>
 (ae (a4 nd (ah))
 (ae (bB cx.po cx.calm (cb rfl (t.tx.b 2) (ac (cJ 0 t.tx cx (sv 0)) af)) (sgN nd) (ae (a4 nd (bD (sv 1) (cJ 1 t.tx cx (sv 0))))
 (ai (aM (iK (sv 1) (dQ rfl (t.tx.c 4))) (ai (rS)) aE))))
 (ai (et rfl (Or.inl rfl)))))
theorem B9:OkF pt hA P w K mg base 2 12 zX:=okC 12 t.tx fun _ _ _ _ _ _ cx nd =>
 (ae (aM (iK (a5 t.tx (xN t hB) cx (ac (sv 0) af)) (dQ rfl (t.tx.c 4))) (ai (dR 4 t.tx cx hB dM (ac (bC) af))) aE)
 (ai (aM (SW.st (fI (aK cx.hK (sv 1)) (d_ (iK (cJ 0 t.tx cx (sv 0)) (dQ rfl (t.tx.c 5)))))) (ai (dR 4 t.tx cx hB dM (ac (bC) af))) aE)))
theorem lD:OkF pt hA P w K mg base 1 13 iQ:=okC 13 t.tx fun _ _ _ _ _ _ cx nd =>
 (ae (a4 nd (dS af))
 (ae (a4 nd (sv 1))
 (ae (bB cx.po cx.calm (cb rfl (t.tx.b 2) (ac (cJ 0 t.tx cx (sv 0)) af)) (sgN nd) (ae (qv cx (bw (sv 3) (cJ 1 t.tx cx (sv 0))))
 (ai (a4 nd (cD (sv 3) (cJ 1 t.tx cx (sv 0)))))))
 (ai (aB (oi cx.hK cx.calm rfl (t.tx.b 6) rfl (t.tx.b 7) (sv 2)))))))
theorem zm:OkF pt hA P w K mg base 1 14 ya:=okC 14 t.tx fun _ _ _ _ _ _ cx nd =>
 (ai (aB (a6 cx (sv 1) (sv 2) (fun _ _=>rfl))))
theorem B_:OkF pt hA P w K mg base 1 15 wS:=okC 15 t.tx fun _ _ _ _ _ _ cx nd =>
 (ae (a4 nd (a6 cx (sv 1) (bw (iq (sv 2) (ah)) (cJ 0 t.tx cx (sv 0))) (fun _ _=>rfl)))
 (ae (a4 nd (a6 cx (sv 1) (bw (bh (sv 2) (ah)) (cJ 0 t.tx cx (sv 0))) (fun _ _=>rfl)))
 (ae (a4 nd (bh (bh (bD (bD (a6 cx (sv 1) (sv 2) (fun _ _=>rfl)) (cJ 1 t.tx cx (sv 0))) (cJ 1 t.tx cx (sv 0))) (bD (sv 3) (cJ 1 t.tx cx (sv 0)))) (sv 4)))
 (ai (aB (gN (eO cx.hK cx.hu (sv 2) (ah)) (a6 cx (cJ 4 t.tx cx (sv 0)) (sv 5) (fun _ _=>rfl)) (a6 cx (cJ 5 t.tx cx (sv 0)) (sv 5) (fun _ _=>rfl))))))))
omit t hB in
theorem fP{X:Cx}(t:Ty pt pe X.w X.K X.mg)(hB:X.K.In X.base):nV X (T X.K) 1 "due" ["self", "cells", "at"] [] dr:=fun c _ hc e=>match c,hc,e with
 | 0,_,e=>dm 0 t.tx (zm t hB) e
 | 1,_,e=>dm 1 t.tx (B_ t hB) e
 | _+2,h,_=>dno (n:=2) h
theorem xS:OkF pt hA P w K mg base 2 16 wO:=okC 16 t.tx fun _ _ _ _ _ _ cx nd =>
 (ai (aB (dC ["at"] cx (cZ rfl (t.tx.b 2) (ac (cJ 0 t.tx cx (sv 0)) af)) df (fun _ _ _ _ nd=>⟨(sgN nd),(iY (el cx.comp.hK cx.comp.hu (om t.tx (fP t hB) cx.comp (sv 0) (ac (sv 1) (ac (sv 2) af))) (a6 cx.comp (sv 1) (sv 2) (fun _ _=>rfl)))),(sv 2)⟩))))
omit t hB in
theorem cR{X:Cx}(t:Ty pt pe X.w X.K X.mg)(hB:X.K.In X.base):nV X (T X.K) 2 "movers" ["self", "cells"] [] bX:=fun c _ hc e=>match c,hc,e with
 | 0,_,e=>dm 2 t.tx (xS t hB) e
 | 1,_,e=>dm 3 t.tx (xS t hB) e
 | _+2,h,_=>dno (n:=2) h
theorem B3:OkF pt hA P w K mg base 3 17 CN:=okC 17 t.tx fun _ _ _ _ _ _ cx nd =>
 (ai (aB (fE cx.hK cx.hu (bu cx.hK rfl (t.tx.b 0) (om t.tx (cR t hB) cx (sv 0) (ac (sv 1) af))) (ah))))
theorem Cb:OkF pt hA P w K mg base 3 18 zZ:=okC 18 t.tx fun _ _ _ _ _ _ cx nd =>
 (ai (aB (fE cx.hK cx.hu (bu cx.hK rfl (t.tx.b 0) (om t.tx (cR t hB) cx (sv 0) (ac (sv 1) af))) (cJ 3 t.tx cx (sv 0)))))
omit t hB in
theorem iU{X:Cx}(t:Ty pt pe X.w X.K X.mg)(hB:X.K.In X.base):nV X (T X.K) 3 "calm" ["self", "cells"] [] dH:=fun c _ hc e=>match c,hc,e with
 | 0,_,e=>dm 4 t.tx (B3 t hB) e
 | 1,_,e=>dm 5 t.tx (Cb t hB) e
 | _+2,h,_=>dno (n:=2) h
theorem zk:OkF pt hA P w K mg base 1 19 pY:=okC 19 t.tx fun _ _ _ _ _ _ cx nd =>
 (ae (a4 nd (dS (ac (dS af) af)))
 (ae (bB cx.po cx.calm (eC cx.hK (sv 0)) (sgN nd) (dP (i:=1) (ai (a4 nd (bh (sv 1) (dC ["named"] cx (bU cx.hK (sv 1)) df (fun _ _ _ _ nd=>⟨(sgN nd),bJ,(bh (sv 1) (dS (ac (sv 0) af)))⟩)))))))
 (dP (i:=1) (ai (aB (gK cx.hK (sv 1) (i3 (ah)) i4))))))
theorem B7:OkF pt hA P w K mg base 1 20 zW:=okC 20 t.tx fun _ _ _ _ _ _ cx nd =>
 (ae (aM (SW.st (fI (aK cx.hK (cJ 2 t.tx cx (sv 0))) (d_ (iK (bu cx.hK rfl (t.tx.b 0) (sv 1)) (ah))))) (ai (dR 3 t.tx cx hB dM (ac (bC) af))) aE)
 (ae (bB cx.po cx.calm (eC cx.hK (sv 1)) (sgN nd) (ai (aM (SW.st (eM (gG (sv 2) (ah)) (dO (xE (sv 2) (cJ 0 t.tx cx (sv 0)))))) (ai (dR 3 t.tx cx hB dM (ac (bC) af))) aE)))
 (ai (aM (el cx.hK cx.hu (qq cx.hK cx.calm rfl (t.tx.b 0) rfl (t.tx.b 8) (sv 1)) (bu cx.hK rfl (t.tx.b 0) (sv 1))) (ai (dR 3 t.tx cx hB dM (ac (bC) af))) aE))))
theorem xU:OkF pt hA P w K mg base 2 21 wQ:=okC 21 t.tx fun _ _ _ _ _ _ cx nd =>
 (ae (eY (a5 t.tx (B7 t hB) cx (ac (sv 0) (ac (sv 2) af))))
 (ai (aB (dC ["at"] cx (cZ rfl (t.tx.b 2) (ac (cJ 0 t.tx cx (sv 0)) af)) df (fun _ _ _ _ nd=>⟨(sgN nd),bJ,(gN (st_in cx.comp.hK cx.comp.hu2 (sv 3) (sv 0)) (om t.tx (fP t hB) cx.comp (sv 1) (ac (sv 2) (ac (sv 3) af))) (a6 cx.comp (sv 2) (sv 3) (fun _ _=>rfl)))⟩)))))
omit t hB in
theorem gW{X:Cx}(t:Ty pt pe X.w X.K X.mg)(hB:X.K.In X.base):nV X (T X.K) 2 "turned" ["self", "cells", "named"] [] d0:=fun c _ hc e=>match c,hc,e with
 | 0,_,e=>dm 6 t.tx (xU t hB) e
 | 1,_,e=>dm 7 t.tx (xU t hB) e
 | _+2,h,_=>dno (n:=2) h
theorem zh:OkD pt hA P w K mg base 3 (pe.at 0).1 pX:=okD (t.d 0) fun _ _ _ _ _ _ cx nd =>
 (ae (eY (a5 t.tx (xT t hB) cx (ac (sv 0) (ac (sv 2) af))))
 (ae (a4 nd (om t.tx (cR t hB) cx (sv 0) (ac (sv 1) af)))
 (ae (a4 nd (gN (aK cx.hK (sv 2)) (a5 t.tx (zk t hB) cx (ac (sv 3) af)) (dC ["at"] cx (bU cx.hK (sv 3)) df (fun _ _ _ _ nd=>⟨(sgN nd),bJ,(dS (ac (sv 0) af))⟩))))
 (dP (i:=4) (ai (aB (dC ["named"] cx (bU cx.hK (sv 4)) df (fun _ _ _ _ nd=>⟨(sgN nd),bJ,(ju (ac (sv 2) (ac (om t.tx (gW t hB) cx.comp (sv 0) (ac (sv 1) (ac (sv 2) af))) af)))⟩))))))))
theorem xP:OkF pt hA P w K mg base 1 22 ut:=okC 22 t.tx fun _ _ _ _ _ _ cx nd =>
 (ae (a4 nd (ah))
 (ae (bB cx.po cx.calm (eC cx.hK (sv 1)) (sgN nd) (ai (a4 nd (bh (bD (sv 2) (cJ 1 t.tx cx (sv 0))) (sv 3)))))
 (ai (et rfl (Or.inl rfl)))))
theorem zj:OkF pt hA P w K mg base 2 23 ux:=okC 23 t.tx fun _ _ _ _ _ _ cx nd =>
 (ae (bB cx.po cx.calm (fJ cx.hK rfl (t.tx.b 5) (sv 2)) (cC cx.hK cx.calm (aH nd rfl (Or.inl rfl) (aH nd rfl (Or.inl rfl) bY))) (ai (bB cx.po cx.calm (eC cx.hK (sv 4)) (cC cx.hK cx.calm (aH nd rfl (Or.inl rfl) (aH nd rfl (Or.inl rfl) bY))) (ai (aM (SW.st (fI (aK cx.hK (a6 cx (sv 1) (sv 3) (fun _ _=>rfl))) (d_ (cB (aK cx.hK (a6 cx (sv 1) (a5 t.tx (xP t hB) cx (ac (sv 0) (ac (sv 6) af))) (fun _ _=>rfl))))))) (ai (aB (ju (ac (bC) (ac (a5 t.tx (lD t hB) cx (ac (sv 0) (ac (sv 3) af))) (ac (sv 5) af)))))) aE)))))
 (ai (aB (dw))))
theorem zi:OkF pt hA P w K mg base 2 24 uw:=okC 24 t.tx fun _ _ _ _ _ _ cx nd =>
 (ae (bB cx.po cx.calm (fJ cx.hK rfl (t.tx.b 5) (sv 2)) (cC cx.hK cx.calm (aH nd rfl (Or.inl rfl) (aH nd rfl (Or.inl rfl) bY))) (ai (aM (SW.st (fI (cB (aK cx.hK (a6 cx (sv 1) (sv 3) (fun _ _=>rfl)))) (d_ (eO cx.hK cx.hu (bu cx.hK rfl (t.tx.b 0) (sv 4)) (ah))))) (ai (aB (ju (ac (bC) (ac (a5 t.tx (lD t hB) cx (ac (sv 0) (ac (sv 3) af))) af))))) aE)))
 (ai (aB (dw))))
theorem B8:OkF pt hA P w K mg base 1 25 wN:=okC 25 t.tx fun _ _ _ _ _ _ cx nd =>
 (ae (a4 nd (dC ["calm"] cx (bU cx.hK (sv 0)) df (fun _ _ _ _ nd=>⟨(sgN nd),bJ,(gN (aK cx.comp.hK (sv 0)) (ah) (dw))⟩)))
 (ae (a4 nd (cw))
 (ae (mM cx.po (aK cx.hK (sv 3)) (ae (a4 nd (cw))
 (ai (bB cx.po cx.calm (fJ cx.hK rfl (t.tx.b 5) (sv 1)) (cC cx.hK cx.calm (aH nd rfl (Or.inl rfl) (aH nd rfl (Or.inl rfl) bY))) (ai (aM (SW.st (fI (k9 (a6 cx (sv 2) (sv 4) (fun _ _=>rfl)) (dw)) (d_ (ji cx.hK cx.hu2 (dw) (dC ["other"] cx (bU cx.hK (sv 5)) df (fun _ _ _ _ nd=>⟨(sgN nd),bJ,(a6 cx.comp (sv 0) (sv 1) (fun _ _=>rfl))⟩)))))) (ae (jo rfl (Or.inr (Or.inl rfl)) (sv 4) (bh (ah) (o9 cx.hK cx.calm rfl (t.tx.b 9) (dC ["other"] cx (bU cx.hK (sv 5)) df (fun _ _ _ _ nd=>⟨(sgN nd),bJ,(a6 cx.comp (sv 0) (sv 1) (fun _ _=>rfl))⟩)))))
 (ai (a4 nd (cw)))) aE))))))
 (ai (et rfl (Or.inr (Or.inl rfl)))))))
theorem zn:OkF pt hA P w K mg base 1 26 pZ:=okC 26 t.tx fun _ _ _ _ _ _ cx nd =>
 (ae (a4 nd (dS (ac (gM cx cx.hu2 (sv 0) (dw)) af)))
 (ae (mM cx.po (eO cx.hK cx.hu (r8 cx cx.hu2 (sv 2) (a6 cx (sv 2) (ir (ah)) (fun _ _=>rfl))) (ah)) (ai (qv cx (a6 cx (dC ["other"] cx (bU cx.hK (a6 cx (sv 1) (a6 cx (sv 2) (ir (ah)) (fun _ _=>rfl)) (fun _ _=>rfl))) df (fun _ _ _ _ nd=>⟨(sgN nd),(iY (k9 (a6 cx.comp (sv 0) (sv 1) (fun _ _=>rfl)) (dw))),(sv 1)⟩)) (ah) (fun _ _=>rfl)))))
 (ai (aB (gK cx.hK (sv 2) (i3 (gM cx cx.hu2 (sv 2) (a6 cx (sv 2) (ir (ah)) (fun _ _=>rfl)))) i4)))))
theorem Cc:OkF pt hA P w K mg base 2 27 z0:=okC 27 t.tx fun _ _ _ _ _ _ cx nd =>
 (ae (kC ["pairs"] cx nd (bU cx.hK (sv 2)) df (fun _ _ _ _ nd=>⟨(sgN nd),bJ,(dC ["pair"] cx.comp (bU cx.comp.hK (sv 1)) df (fun _ _ _ _ nd=>⟨(sgN nd),bJ,(a5 t.tx (xP t hB) cx.comp.comp (ac (sv 0) (ac (a6 cx.comp.comp (sv 1) (ah) (fun _ _=>rfl)) af)))⟩))⟩))
 (ae (a4 nd (a5 t.tx (B8 t hB) cx (ac (sv 1) (ac (sv 3) af))))
 (ae (aM (st_in cx.hK cx.hu2 (dw) (sv 4)) (ai (aB (ju (ac (bC) (ac (dC ["number"] cx (bU cx.hK (a5 t.tx (zn t hB) cx (ac (sv 4) (ac (sv 3) af)))) df (fun _ _ _ _ nd=>⟨(sgN nd),bJ,(a5 t.tx (lD t hB) cx.comp (ac (sv 0) (ac (sv 1) af)))⟩)) af))))) aE)
 (ai (rQ rfl (Or.inl rfl))))))
theorem lC:OkD pt hA P w K mg base 4 (pe.at 1).1 jU:=okD (t.d 1) fun _ _ _ _ _ _ cx nd =>
 (ae (eY (a5 t.tx (xT t hB) cx (ac (sv 0) (ac (sv 1) af))))
 (ae (eY (a5 t.tx (B9 t hB) cx (ac (sv 0) (ac (sv 1) af))))
 (ae (kC ["number"] cx nd (cZ rfl (t.tx.b 2) (ac (a5 t.tx (xN t hB) cx (ac (sv 0) af)) af)) df (fun _ _ _ _ nd=>⟨(sgN nd),bJ,(a5 t.tx (lD t hB) cx.comp (ac (sv 0) (ac (sv 1) af)))⟩))
 (ae (kC ["cells"] cx nd (bU cx.hK (sv 2)) df (fun _ _ _ _ nd=>⟨(sgN nd),bJ,(om t.tx (iU t hB) cx.comp (sv 0) (ac (sv 1) af))⟩))
 (ae (kC ["cells"] cx nd (bU cx.hK (sv 2)) df (fun _ _ _ _ nd=>⟨(sgN nd),bJ,(sg (t.d 0) (zh t hB) cx.comp (ac (sv 0) (ac (sv 2) (ac (sv 1) af))))⟩))
 (dP (i:=4) (ae (a4 nd (a5 t.tx (zj t hB) cx (ac (sv 0) (ac (sv 3) (ac (sv 4) af)))))
 (ae (aM (k9 (sv 5) (dw)) (ai (a4 nd (a5 t.tx (zi t hB) cx (ac (sv 0) (ac (sv 3) (ac (sv 4) af)))))) aE)
 (ae (aM (k9 (sv 5) (dw)) (ai (a4 nd (a5 t.tx (Cc t hB) cx (ac (sv 0) (ac (sv 3) (ac (sv 4) af)))))) aE)
 (ai (et rfl (Or.inl rfl))))))))))))
theorem tm:OkF pt hA P w K mg base 5 28 nE:=okC 28 t.tx fun _ _ _ _ _ _ cx nd =>
 (ae (aM (aK cx.hK (sv 1)) (ai (aB (sg (t.d 1) (lC t hB) cx (ac (sv 0) (ac (cw) af))))) aE)
 (ae (aM (eO cx.hK cx.hu (bw (sv 2) (ah)) (ah)) (ai (aB (sf (t.d 1) (lC t hB) cx (ac (sv 0) af) (fun us hl=>match us,hl with | [_],_=>fun _ _ _ _ _ _ _=>⟨_,rfl,rfl⟩)))) aE)
 (ai (aB (yC (t.d 1) (lC t hB) cx (ac (sv 0) af) (fun us hl=>match us,hl with | [_],_=>fun _ _ _ _ _ _ _=>⟨_,rfl,rfl⟩))))))
theorem Ca:OkF pt hA P w K mg base 1 29 zY:=okC 29 t.tx fun _ _ _ _ _ _ cx nd =>
 (ae (bB cx.po cx.calm (cb rfl (t.tx.b 2) (ac (bu cx.hK rfl (t.tx.b 0) (sv 0)) af)) (sgN nd) (ai (aM (aK cx.hK (a6 cx (sv 2) (sv 3) (fun _ _=>rfl))) (ai (bB cx.po cx.calm (eC cx.hK (a6 cx (sv 1) (sv 3) (fun _ _=>rfl))) (cC cx.hK cx.calm (aH nd rfl (Or.inl rfl) (aH nd rfl (Or.inl rfl) bY))) (ai (aM (cB (aK cx.hK (a6 cx (sv 2) (sv 5) (fun _ _=>rfl)))) (ai (aB (ju (ac (bC) (ac (a6 cx (sv 0) (sv 3) (fun _ _=>rfl)) (ac (sv 4) af)))))) aE)))) aE)))
 (ae (bB cx.po cx.calm (cb rfl (t.tx.b 2) (ac (bu cx.hK rfl (t.tx.b 0) (sv 0)) af)) (sgN nd) (ai (aM (SW.st (fI (cB (aK cx.hK (a6 cx (sv 2) (sv 3) (fun _ _=>rfl)))) (d_ (eO cx.hK cx.hu (a6 cx (sv 1) (sv 3) (fun _ _=>rfl)) (dS af))))) (ai (aB (ju (ac (bC) (ac (a6 cx (sv 0) (sv 3) (fun _ _=>rfl)) af))))) aE)))
 (ai (aB (dw)))))
theorem xO:OkF pt hA P w K mg base 1 30 wM:=okC 30 t.tx fun _ _ _ _ _ _ cx nd =>
 (ai (aB ((oj (gq cx.hK wA rfl (t.tx.b 10) bR rfl (t.tx.b 1) uN (sv 0)) (ld (yu (gq cx.hK t_ rfl (t.tx.b 10) bR rfl (t.tx.b 13) xm (sv 0))))))))
theorem tj:OkF pt hA P w K mg base 2 31 qT:=okC 31 t.tx fun _ _ _ _ _ _ cx nd =>
 (ae (aM (SW.st (eM (cB (aK cx.hK (gq cx.hK jN rfl (t.tx.b 10) bR rfl (t.tx.b 6) je (sv 0)))) (dO (el cx.hK cx.hu (bu cx.hK rfl (t.tx.b 0) (sv 0)) (bu cx.hK rfl (t.tx.b 0) (sv 1)))))) (ai (aB (cw))) aE)
 (ae (bB cx.po cx.calm (yr cx.hK rfl (t.tx.b 12) (ac (sv 0) (ac (sv 1) af))) (cC cx.hK cx.calm (aH nd rfl (Or.inl rfl) (aH nd rfl (Or.inl rfl) bY))) (ai (aM (SW.st (eM (cB (aK cx.hK (a5 t.tx (xO t hB) cx (ac (sv 2) af)))) (dO (el cx.hK cx.hu (sv 2) (sv 3))))) (ai (aB (cw))) aE)))
 (ai (aB (cw)))))
theorem B2:OkF pt hA P w K mg base 3 32 zS:=okC 32 t.tx fun _ _ _ _ _ _ cx nd =>
 (ae (aM (SW.st (eM (cB (aK cx.hK (gq cx.hK jN rfl (t.tx.b 10) bR rfl (t.tx.b 6) je (sv 0)))) (dO (gG (bu cx.hK rfl (t.tx.b 0) (sv 0)) (ah))))) (ai (aB (cw))) aE)
 (ae (a4 nd (ir (ah)))
 (ae (bB cx.po cx.calm (fJ cx.hK rfl (t.tx.b 5) (sv 0)) (cC cx.hK cx.calm (aH nd rfl (Or.inl rfl) (aH nd rfl (Or.inl rfl) bY))) (ae (aM (SW.st (eM (ji cx.hK cx.hu2 (sv 6) (sv 1)) (dO (cB (aK cx.hK (a5 t.tx (tj t hB) cx (ac (sv 6) (ac (a6 cx (sv 1) (gM cx cx.hu2 (sv 1) (sv 6)) (fun _ _=>rfl)) af)))))))) (ai (aB (cw))) aE)
 (ae (a4 nd (gM cx cx.hu2 (sv 1) (sv 6)))
 (ae (aM (aK cx.hK (a6 cx (sv 3) (sv 7) (fun _ _=>rfl))) (ai (aB (cw))) aE)
 (ae (aM (SW.st (fI (iK (sv 5) (ah)) (d_ (ji cx.hK cx.hu2 (sv 7) (dC ["_law_named", "_law_behind"] cx (bU cx.hK (a6 cx (sv 2) (sv 4) (fun _ _=>rfl))) (iW (cI df (cI df gE))) (fun _ _ _ _ nd=>⟨(cC cx.comp.hK cx.comp.calm (aH nd rfl (Or.inl rfl) (aH nd rfl (Or.inl rfl) bY))),bJ,(sv 1)⟩)))))) (ai (aB (cw))) aE)
 (ai (a4 nd (sv 7))))))))
 (ai (aB (fE cx.hK cx.hu (a6 cx (sv 0) (ah) (fun _ _=>rfl)) (a6 cx (sv 0) (ir (ah)) (fun _ _=>rfl))))))))
theorem zq:OkF pt hA P w K mg base 2 33 uA:=okC 33 t.tx fun _ _ _ _ _ _ cx nd =>
 (ae (aM (SW.st (eM (cB (aK cx.hK (gq cx.hK jN rfl (t.tx.b 10) bR rfl (t.tx.b 6) je (sv 0)))) (dO (el cx.hK cx.hu (bu cx.hK rfl (t.tx.b 0) (sv 0)) (bu cx.hK rfl (t.tx.b 0) (sv 2)))))) (ai (aB (cw))) aE)
 (ae (bB cx.po cx.calm (eC cx.hK (sv 0)) (sgN nd) (ai (aM (cB (aK cx.hK (a5 t.tx (xO t hB) cx (ac (sv 3) af)))) (ai (aB (cw))) aE)))
 (ae (bB cx.po cx.calm (cb rfl (t.tx.b 2) (ac (bu cx.hK rfl (t.tx.b 0) (sv 2)) af)) (sgN nd) (ae (a4 nd (ah))
 (ae (aM (cB (aK cx.hK (a6 cx (sv 2) (sv 4) (fun _ _=>rfl)))) (ai (a4 nd (bh (ah) (o9 cx.hK cx.calm rfl (t.tx.b 9) (dC ["_law_named", "_law_behind"] cx (bU cx.hK (a6 cx (sv 1) (sv 4) (fun _ _=>rfl))) (iW (cI df (cI df gE))) (fun _ _ _ _ nd=>⟨(cC cx.comp.hK cx.comp.calm (aH nd rfl (Or.inl rfl) (aH nd rfl (Or.inl rfl) bY))),bJ,(a6 cx.comp (sv 0) (sv 2) (fun _ _=>rfl))⟩)))))) aE)
 (ai (aM (el cx.hK cx.hu (a6 cx (sv 0) (sv 4) (fun _ _=>rfl)) (sv 5)) (ai (aB (cw))) aE)))))
 (ai (aB (cw))))))
theorem xQ:OkF pt hA P w K mg base 4 34 uu:=okC 34 t.tx fun _ _ _ _ _ _ cx nd =>
 (ae (aM (SW.st (eM (cB (aK cx.hK (gq cx.hK qK rfl (t.tx.b 10) bR rfl (t.tx.b 4) j_ (sv 0)))) (eM (gG (bu cx.hK rfl (t.tx.b 0) (sv 0)) (ah)) (dO (cB (aK cx.hK (gq cx.hK wz rfl (t.tx.b 10) bR rfl (t.tx.b 11) Aj (a6 cx (sv 0) (ah) (fun _ _=>rfl))))))))) (ai (aB (cw))) aE)
 (ae (a4 nd (a5 t.tx (Ca t hB) cx (ac (sv 1) (ac (sv 2) (ac (sv 3) af)))))
 (ae (aM (vz (sv 4) (dw)) (ae (aM (SW.st (eM (el cx.hK cx.hu (bu cx.hK rfl (t.tx.b 0) (sv 0)) (bu cx.hK rfl (t.tx.b 0) (sv 4))) (eM (el cx.hK cx.hu (a6 cx (sv 0) (ah) (fun _ _=>rfl)) (a6 cx (sv 4) (ah) (fun _ _=>rfl))) (dO (cB (aK cx.hK (a5 t.tx (tj t hB) cx (ac (a6 cx (sv 0) (ah) (fun _ _=>rfl)) (ac (a6 cx (sv 4) (ah) (fun _ _=>rfl)) af))))))))) (ai (aB (cw))) aE)
 (ai (aB ((Bz (fE cx.hK cx.hu (bu cx.hK rfl (t.tx.b 0) (sv 4)) (ah)) (ld (a5 t.tx (tj t hB) cx (ac (a6 cx (sv 0) (ah) (fun _ _=>rfl)) (ac (a6 cx (sv 4) (ah) (fun _ _=>rfl)) af))))))))) aE)
 (ae (aM (el cx.hK cx.hu (bu cx.hK rfl (t.tx.b 0) (sv 0)) (ah)) (ai (aB (cw))) aE)
 (ae (aM (eO cx.hK cx.hu (a6 cx (sv 0) (ah) (fun _ _=>rfl)) (bC)) (ai (aB (a5 t.tx (B2 t hB) cx (ac (a6 cx (sv 0) (ah) (fun _ _=>rfl)) (ac (sv 1) (ac (sv 2) (ac (sv 3) af))))))) aE)
 (ai (aB ((oj (fE cx.hK cx.hu (a6 cx (sv 0) (ah) (fun _ _=>rfl)) (bC)) (ld (a5 t.tx (zq t hB) cx (ac (a6 cx (sv 0) (ah) (fun _ _=>rfl)) (ac (sv 2) (ac (sv 3) af))))))))))))))
theorem B1:OkU pt hA P w K mg base 1 35 wL:=okU 35 t.tx fun _ _ _ _ _ _ cx nd =>
 (Bv (el cx.hK cx.hu (a6 cx (sv 0) (ah) (fun _ _=>rfl)) (bC)) (rG (cw))
 (yn (n9 cx.hK rfl (Or.inl rfl) (fun _ _=>rfl) (fun _ _=>rfl))
 (rG (fE cx.hK cx.hu (bu cx.hK rfl (t.tx.b 0) (a6 cx (a6 cx (sv 0) (ah) (fun _ _=>rfl)) (ir (ah)) (fun _ _=>rfl))) (sv 1)))))
theorem zr:OkF pt hA P w K mg base 6 36 yb:=okC 36 t.tx fun _ _ _ _ _ _ cx nd =>
 (ae (a4 nd (a5 t.tx (pG t hB) cx (ac (sv 0) (ac (ah) af))))
 (ae (rT (a5 t.tx (zp t hB) cx (ac (sv 1) af)) (cC cx.hK cx.calm (aH nd rfl (Or.inl rfl) (aH nd rfl (Or.inl rfl) bY))))
 (ae (a4 nd (a6 cx (dS (ac (bC) (ac (bC) (ac (bC) af)))) (bw (cD (sv 1) (ah)) (ah)) (fun _ _=>rfl)))
 (ae (a4 nd ((oj (BA (sv 2) (ah)) (ld (fE cx.hK cx.hu (bw (cD (sv 1) (ah)) (ah)) (ah))))))
 (ae (rT (a5 t.tx (B6 t hB) cx (ac (sv 0) (ac (sv 3) af))) (cC cx.hK cx.calm (aH nd rfl (Or.inl rfl) (aH nd rfl (Or.inl rfl) bY))))
 (ae (a4 nd (BE 1 t.tx (xW t hB) cx (ac (sv 2) (ac (sv 3) (ac (sv 4) (ac (sv 6) (ac (sv 7) af)))))))
 (ae (a4 nd (BE 1 t.tx (xW t hB) cx (ac (ah) (ac (sv 3) (ac (bC) (ac (sv 7) (ac (sv 6) af)))))))
 (ae (a4 nd (a5 t.tx (B5 t hB) cx (ac (sv 2) (ac (sv 3) af))))
 (ae (a4 nd (dS af))
 (ae (a4 nd (dS af))
 (dP (i:=10) (ae (bB cx.po cx.calm (fJ cx.hK rfl (t.tx.b 5) (sv 10)) (cC cx.hK cx.calm (aH nd rfl (Or.inl rfl) (aH nd rfl (Or.inr rfl) bY))) (ae (a4 nd (a5 t.tx (zl t hB) cx (ac (sv 14) (ac (sv 3) (ac (sv 6) (ac (sv 7) af))))))
 (ae (qv cx (a5 t.tx (B4 t hB) cx (ac (sv 13) (ac (sv 14) (ac (sv 15) (ac (sv 3) (ac (sv 5) af)))))))
 (ae (a4 nd (bu cx.hK rfl (t.tx.b 0) (dC ["_law_at"] cx (cZ rfl (t.tx.b 2) (ac (sv 2) af)) df (fun _ _ _ _ nd=>⟨(sgN nd),(iY (el cx.comp.hK cx.comp.hu (a6 cx.comp (sv 0) (sv 2) (fun _ _=>rfl)) (a6 cx.comp (sv 1) (sv 2) (fun _ _=>rfl)))),(sv 2)⟩))))
 (ai (qv cx (fE cx.hK cx.hu (sv 16) (gL rfl (t.tx.b 1) (fE cx.hK cx.hu (sv 4) (bC))))))))))
 (dP (i:=11) (dP (i:=12) (ae (a4 nd (a5 t.tx (tm t hB) cx (ac (sv 8) (ac (sv 5) (ac (cD (sv 1) (ah)) af)))))
 (ae (BF t.tx (B1 t hB) cx (aK cx.hK (a5 t.tx (xQ t hB) cx (ac (sv 17) (ac (sv 10) (ac (sv 11) (ac (sv 12) af)))))))
 (ae (aM (iK (bu cx.hK rfl (t.tx.b 0) (sv 10)) (ah)) (ai (aB (cw))) aE)
 (ae (SSK.ss (n6 cx.hK rfl (Or.inl rfl) (fun _ _=>rfl)))
 (ae (eY (sf (t.d 1) (lC t hB) cx (ac (sv 9) af) (fun us hl=>match us,hl with | [_],_=>fun _ _ _ _ _ _ _=>⟨_,rfl,rfl⟩)))
 (ai (aB (a5 t.tx (xQ t hB) cx (ac (a5 t.tx (tm t hB) cx (ac (sv 8) (ac (sv 5) (ac (bh (cD (sv 1) (ah)) (ah)) af)))) (ac (sv 10) (ac (sv 11) (ac (sv 12) af))))))))))))))))))))))))))
end
end G
namespace G
open PySem L2 PR
def cell(ns:List Int)(k:Nat):Int:=ns.getD k 0
theorem qd{fl:Fl}(ns:List Int)(k:Nat)(h:Scr fl):iH [.lst fl (iL ns),.int k]=.ok (.int (cell ns k)):=by
 refine aA ?_
 show Ay [some (.lst fl (iL ns)),some (.int k)]=_
 unfold Ay cell
 by_cases hk:k < ns.length
 ·refine dF (d4 (by simp[h.lend,hk]) (ba ?_ (by simp)))
  simp only[h8,fo]
  simp[h.lend]
  rw[nA ns (by omega) (n:=ns.getD k 0) (by simp[hk])]
  simp[hk]
 ·refine ag (bg (by simp[h.lend,hk]) av) (ba (by simp[List.getElem?_eq_none (Nat.le_of_not_lt hk)]) (by simp))
theorem mH(n:Int):wM [.int n]=.ok (.bl true):=by
 refine aA (v:=.bl true) ?_
 show As [some (.int n)]=_
 unfold As
 exact ba (by simp[fV]) (by simp)
abbrev tab(fl:Fl)(n:Nat)(sp wi:Int)(fs os:List Int):PV:=.obj fl 1 [3,4,5,0,1,2] [.int wi,.tup (iL fs),.tup (iL os),.int n,.int sp,.bl false]
def Wd(w:Str)(wi:Int):Prop:=w = "none" /\ wi=0\/w = "one" /\ wi=1
structure cV(sp:Int)(t:List Int):Prop where
 len:(t.length:Int)=sp * sp * sp
 rng:∀x∈t,0<=x/\x < sp
theorem gI{sp:Int}(h1:2<=sp)(h2:sp<=4):sp=2\/sp=3\/sp=4:=by omega
theorem z_{sp:Int}(h1:2<=sp)(h2:sp<=4):bL (.int sp) (.int sp)=.ok (.int (sp * sp))/\bL (.int (sp * sp)) (.int sp)=.ok (.int (sp * sp * sp))/\4<=sp * sp/\sp * sp<=16/\8<=sp * sp * sp/\sp * sp * sp<=64:=by
 rcases gI h1 h2 with rfl | rfl | rfl<;>exact⟨rfl,rfl,by decide,by decide,by decide,by decide⟩
def plc(sp c l r:Int):Int:=c * sp * sp+l * sp+r
theorem lu{sp c l r:Int}(h1:2<=sp)(h2:sp<=4)(hc:0<=c/\c < sp)(hl:0<=l/\l < sp)(hr:0<=r/\r < sp):0<=plc sp c l r/\plc sp c l r < sp * sp * sp:=by
 unfold plc
 rcases gI h1 h2 with rfl | rfl | rfl<;>omega
theorem ow{sp c l r:Int}(h1:2<=sp)(h2:sp<=4):bL (.int c) (.int sp)=.ok (.int (c * sp))/\bL (.int (c * sp)) (.int sp)=.ok (.int (c * sp * sp))/\bL (.int l) (.int sp)=.ok (.int (l * sp)) :=
 ⟨cF (.inr ⟨by omega,by omega⟩),cF (.inr ⟨by omega,by omega⟩),cF (.inr ⟨by omega,by omega⟩)⟩
def lft(n i:Nat):Nat:=if i=0 then n - 1 else i - 1
def rgt(n i:Nat):Nat:=if i+1 < n then i+1 else 0
def bK(n:Nat)(sp:Int)(fs os cs:List Int)(i:Nat):Int:=gt (if i=0 then fs else os) (plc sp (gt cs i) (gt cs (lft n i)) (gt cs (rgt n i))).toNat
def InC(sp:Int)(cs:List Int):Prop:=∀c∈cs,0<=c/\c < sp
theorem kD{sp:Int}{t:List Int}{f:Fl}(hf:f=.bor\/f=.frz)(h1:2<=sp)(h2:sp<=4)(ht:cV sp t):wR [.lst f (iL t),.int sp]=.ok .non:=by
 obtain⟨m1,m2,_⟩:=z_ h1 h2
 have hf1:f.lend=f:=by rcases hf with rfl | rfl<;>rfl
 have hf2:f.isLnt=false:=by rcases hf with rfl | rfl<;>rfl
 refine f6 ?_
 show Ends (AF [some (.lst f (iL t)),some (.int sp),none])
 unfold AF
 refine h_ (bg (by simp[hf1,p1,b6,a_,m1,m2,ht.len]) av) ?_
 refine lX (fun _ e=>∃x,e=[some (.lst f (iL t)),some (.int sp),x]) (fun r=>∃e,r=.next e) (xs:=iL t) (cv (f:=f) (by simp[hf1]) hf2 (by simp) (by simp)) ⟨_,rfl⟩ (fun k x e hx hP=>?_) (fun e hP=>⟨e,rfl⟩)
 obtain⟨y,rfl⟩:=hP
 obtain⟨z,hz,rfl⟩:=iF hx
 have:=ht.rng z (List.mem_of_getElem? hz)
 exact⟨_,cq rfl,.inl ⟨_,.inl (bg (by simp[show ¬z < 0 by omega,show ¬sp<=z by omega]) av),_,rfl⟩⟩
theorem mJ{n:Nat}{sp wi:Int}{w:Str}{fs os:List Int}(n2:2<=n)(n8:n<=8)(h1:2<=sp)(h2:sp<=4)(hw:Wd w wi)(hf:cV sp fs)(ho:cV sp os):uv [.obj .own 1 [] [],.int n,.int sp,.str w,.lst .bor (iL fs),.lst .bor (iL os)]=.ok (tab .own n sp wi fs os):=by
 refine pf (e:=[some (tab .own n sp wi fs os),some (.int n),some (.int sp),some (.str w),some (.lst .bor (iL fs)),some (.lst .bor (iL os))]) ?_ rfl
 show AH [some (.obj .own 1 [] []),some (.int n),some (.int sp),some (.str w),some (.lst .bor (iL fs)),some (.lst .bor (iL os))]=_
 unfold AH
 have r1:=kD (f:=.bor) (.inl rfl) h1 h2 hf
 have r2:=kD (f:=.bor) (.inl rfl) h1 h2 ho
 have d1:i6 [("none",(0)),("one",(1))] (.str w)=.ok (.bl false):=by rcases hw with⟨rfl,_⟩ |⟨rfl,_⟩<;>rfl
 have d2:mZ [("none",(0)),("one",(1))] (.str w)=.ok (.int wi):=by rcases hw with⟨rfl,rfl⟩ |⟨rfl,rfl⟩<;>rfl
 refine ag (bg (by simp[show ¬(n:Int) < 2 by omega,show ¬(8:Int) < n by omega]) av) ?_
 refine ag (bg (by simp[show ¬sp < 2 by omega,show ¬(4:Int) < sp by omega]) av) ?_
 refine ag (bg (by simp[d1]) av) ?_
 refine ag (fA (v:=.non) (by simp[r1,aJ,Fl.lend,Fl.toBor])) ?_
 refine ag (fA (v:=.non) (by simp[r2,aJ,Fl.lend,Fl.toBor])) ?_
 refine ag (iG (v:=.int wi) (ks:=[]) (vs:=[]) (by simp[d2]) rfl (by simp) rfl (by decide)) ?_
 simp only[s0_,s1_]
 refine ag (iG (v:=.tup (iL fs)) (ks:=[3]) (vs:=[.int wi]) (by simp[p1,gs,a_]) rfl (by simp[PV.noLnt,PV.has]) rfl (by decide)) ?_
 simp only[s0_,s1_]
 refine ag (iG (v:=.tup (iL os)) (ks:=[3,4]) (vs:=[.int wi,.tup (iL fs)]) (by simp[p1,gs,a_]) rfl (by simp[PV.noLnt,PV.has]) rfl (by decide)) ?_
 simp only[s0_,s1_]
 have ri:p4 [.obj .own 1 [3,4,5] [.int wi,.tup (iL fs),.tup (iL os)],.int n,.int sp,.bl false]=.ok (tab .own n sp wi fs os):=by
  refine pf (e:=[some (tab .own n sp wi fs os),some (.int n),some (.int sp),some (.bl false)]) ?_ rfl
  show u0 [some (.obj .own 1 [3,4,5] [.int wi,.tup (iL fs),.tup (iL os)]),some (.int n),some (.int sp),some (.bl false)]=_
  unfold u0
  refine ag (iG (v:=.int n) (ks:=[3,4,5]) (vs:=[.int wi,.tup (iL fs),.tup (iL os)]) (by simp) rfl (by simp) rfl (by decide)) ?_
  refine ag (iG (v:=.int sp) (ks:=[3,4,5,0]) (vs:=[.int wi,.tup (iL fs),.tup (iL os),.int n]) (by simp) rfl (by simp) rfl (by decide)) ?_
  exact iG (v:=.bl false) (ks:=[3,4,5,0,1]) (vs:=[.int wi,.tup (iL fs),.tup (iL os),.int n,.int sp]) (by simp) rfl (by simp) rfl (by decide)
 have:=yk (env:=[some (.obj .own 1 [3,4,5] [.int wi,.tup (iL fs),.tup (iL os)]),some (.int n),some (.int sp),some (.str w),some (.lst .bor (iL fs)),some (.lst .bor (iL os))]) (m:=p4) (ms:=ad (aa 1) (ad (aa 2) (ad (mC (.bl false)) aj))) (xs:=[.int n,.int sp,.bl false]) rfl (by simp) (by simp) (by simpa using ri) (by simp[PV.has])
 simpa using this
section
variable{n:Nat}{sp wi:Int}{fs os cs:List Int}
theorem ip{sp:Int}{t:List Int}{p:Int}(ht:cV sp t)(h:0<=p/\p < sp * sp * sp):(au (.tup (iL t)) (.int p)=.ok (.int (gt t p.toNat)))/\∀f,au (.lst f (iL t)) (.int p)=.ok (.int (gt t p.toNat)):=by
 obtain⟨k,rfl⟩:∃k:Nat,p=(k:Int):=⟨p.toNat,by omega⟩
 have hl:k < t.length:=by have:=ht.len;omega
 refine⟨?_,fun f=>c_ h.1 (by omega)⟩
 exact bf rfl (by simp[iL,gt,hl]) (by simp)
theorem Dz{fl fc:Fl}(hfl:fl=.frz\/fl=.bor)(hfc:fc=.bor\/fc=.own)(n2:2<=n)(n8:n<=8)(h1:2<=sp)(h2:sp<=4)(hf:cV sp fs)(ho:cV sp os)(hn:cs.length=n)(hc:InC sp cs){i:Nat}(hi:i < n):wS [tab fl n sp wi fs os,.lst fc (iL cs),.int i]=.ok (.int (bK n sp fs os cs i)):=by
 have np:(0:Int) < n:=by omega
 have hl:((i:Int) - 1) % (n:Int)=(lft n i:Nat):=by
  unfold lft
  split
  ·rename_i e
   subst e
   have:((0:Nat):Int) - 1=((n:Int) - 1)+n * (-1):=by omega
   rw[this,Int.add_mul_emod_self_left,Int.emod_eq_of_lt (by omega) (by omega)]
   omega
  ·rw[Int.emod_eq_of_lt (by omega) (by omega)];omega
 have hr:((i:Int)+1) % (n:Int)=(rgt n i:Nat):=by
  unfold rgt
  split
  ·rw[Int.emod_eq_of_lt (by omega) (by omega)];omega
  ·have:(i:Int)+1=n:=by omega
   rw[this,Int.emod_self];rfl
 have ll:lft n i < n:=by unfold lft;split<;>omega
 have rl:rgt n i < n:=by unfold rgt;split<;>omega
 have ix:∀(k:Nat),k < n->∀f,au (.lst f (iL cs)) (.int (k:Int))=.ok (.int (gt cs k)):=fun k hk f=>by simpa using c_ (f:=f) (cs:=cs) (i:=k) (by omega) (by omega)
 have ci:=hc _ (bQ (far:=cs) (i:=i) (by omega))
 have cl:=hc _ (bQ (far:=cs) (i:=lft n i) (by omega))
 have cr:=hc _ (bQ (far:=cs) (i:=rgt n i) (by omega))
 have pin:=lu h1 h2 ci cl cr
 obtain⟨q1,q2,q3⟩:=ow (c:=gt cs i) (l:=gt cs (lft n i)) (r:=gt cs (rgt n i)) h1 h2
 obtain⟨tf,_⟩:=ip hf pin
 obtain⟨to,_⟩:=ip ho pin
 have ft:fl.lend=fl:=by rcases hfl with rfl | rfl<;>rfl
 refine aA ?_
 show uQ [some (tab fl n sp wi fs os),some (.lst fc (iL cs)),some (.int i),none,none,none]=_
 unfold uQ
 refine ag (aq (v:=.int (gt cs (lft n i))) (by rcases hfc with rfl | rfl<;>simp[ft,aT,cK,a9 np,hl,ix _ ll]) (by simp) rfl) ?_
 simp only[s0_,s1_]
 refine ag (aq (v:=.int (gt cs (rgt n i))) (by rcases hfc with rfl | rfl<;>simp[ft,aT,cK,a9 np,hr,ix _ rl]) (by simp) rfl) ?_
 simp only[s0_,s1_]
 refine ag (aq (v:=.int (plc sp (gt cs i) (gt cs (lft n i)) (gt cs (rgt n i)))) (by rcases hfc with rfl | rfl<;>simp[ft,aT,cK,ix _ hi,q1,q2,q3,plc]) (by simp) rfl) ?_
 simp only[s0_,s1_]
 refine ba ?_ (by simp)
 unfold bK
 by_cases e:i=0
 ·subst e
  rcases hfl with rfl | rfl<;>simp[aT,cK,tf]
 ·rcases hfl with rfl | rfl<;>simp[aT,cK,to,e,show ¬(i:Int)=0 by omega]
end
def qt(s x:Int):Nat->Int
 | 0=>x
 | k+1=>qt s x k / s
def dgs(s x:Int):Nat->List Int
 | 0=>[]
 | k+1=>qt s x k % s::dgs s x k
theorem sB{s x:Int}(hs:0 < s)(h0:0<=x):∀k,0<=qt s x k/\qt s x k<=x
 | 0=>⟨h0,Int.le_refl _⟩
 | k+1=>by
  have⟨h1,h2⟩:=sB hs h0 k
  exact⟨Int.ediv_nonneg h1 (by omega),Int.le_trans (Int.ediv_le_self _ h1) h2⟩
theorem xK{s x:Int}(hs:0 < s){n:Nat}(hx:x < s ^ n):∀k,k<=n->qt s x k < s ^ (n - k)
 | 0,_=>hx
 | k+1,h=>by
  have h1:=xK hs hx k (by omega)
  have e:n - k=n - (k+1)+1:=by omega
  rw[e,Int.pow_succ]at h1
  exact Int.ediv_lt_of_lt_mul hs h1
theorem sC{s x:Int}(hs:0 < s)(h0:0<=x){n:Nat}(hx:x < s ^ n):qt s x n=0:=by
 have h1:=xK hs hx n (Nat.le_refl _)
 have h2:=(sB hs h0 n).1
 rw[Nat.sub_self,Int.pow_zero]at h1
 omega
theorem BH(s x:Int)(k:Nat):qt s x (k+1) * s+qt s x k % s=qt s x k:=by
 show qt s x k / s * s+qt s x k % s=qt s x k
 have:=Int.mul_ediv_add_emod (qt s x k) s
 rw[Int.mul_comm]at this
 exact this
@[simp] theorem qa(s x:Int):∀k,(dgs s x k).length=k
 | 0=>rfl
 | k+1=>by simp[dgs,qa s x k]
theorem uF{s x:Int}(hs:0 < s):∀k,InC s (dgs s x k)
 | 0,_,h=>nomatch h
 | k+1,c,h=>by
  rcases List.mem_cons.mp h with rfl | h
  ·exact⟨Int.emod_nonneg _ (by omega),Int.emod_lt_of_pos _ hs⟩
  ·exact uF hs k c h
theorem oq{s:Int}(hs:0 < s)(x m:Int)(k:Nat):∀j,j<=k->qt s (x+m * s ^ k) j=qt s x j+m * s ^ (k - j)
 | 0,_=>rfl
 | j+1,h=>by
  have e:k - j=k - (j+1)+1:=by omega
  show qt s (x+m * s ^ k) j / s=qt s x j / s+m * s ^ (k - (j+1))
  rw[oq hs x m k j (by omega),e,Int.pow_succ,<- Int.mul_assoc,Int.add_mul_ediv_right _ _ (by omega)]
theorem qb{s:Int}(hs:0 < s)(x m:Int)(k:Nat):∀j,j<=k->dgs s (x+m * s ^ k) j=dgs s x j
 | 0,_=>rfl
 | j+1,h=>by
  have e:k - j=k - (j+1)+1:=by omega
  show qt s (x+m * s ^ k) j % s::dgs s (x+m * s ^ k) j=qt s x j % s::dgs s x j
  rw[qb hs x m k j (by omega),oq hs x m k j (by omega),e,Int.pow_succ,<- Int.mul_assoc,Int.add_mul_emod_self_right]
def num(s:Int)(cs:List Int):Int:=cs.foldl (fun a c=>a * s+c) 0
theorem jS(s:Int):∀(cs:List Int) (a:Int),cs.foldl (fun a c=>a * s+c) a=a * s ^ cs.length+num s cs
 | [],a=>by simp[num]
 | c::cs,a=>by
  have h1:=jS s cs (a * s+c)
  have h2:=jS s cs (0 * s+c)
  unfold num at *
  rw[List.foldl_cons,List.foldl_cons,h1,h2,List.length_cons,Int.pow_succ]
  have e:a * (s ^ cs.length * s)=a * s * s ^ cs.length:=by rw[Int.mul_comm (s ^ cs.length) s,Int.mul_assoc]
  rw[e,Int.add_mul,Int.zero_mul,Int.zero_add]
  omega
theorem dU(s c:Int)(cs:List Int):num s (c::cs)=num s cs+c * s ^ cs.length:=by
 have:=jS s cs (0 * s+c)
 rw[Int.zero_mul,Int.zero_add]at this
 unfold num at *
 rw[List.foldl_cons,Int.zero_mul,Int.zero_add,this]
 omega
theorem lF{s:Int}(hs:0 < s):∀cs:List Int,InC s cs->0<=num s cs/\num s cs < s ^ cs.length
 | [],_=>by simp[num]
 | c::cs,h=>by
  obtain⟨h1,h2⟩:=lF hs cs fun x hx=>h x (List.mem_cons_of_mem _ hx)
  obtain⟨c0,c1⟩:=h c List.mem_cons_self
  rw[dU,List.length_cons,Int.pow_succ]
  have p:0<=c * s ^ cs.length:=Int.mul_nonneg c0 (by omega)
  have q:(c+1) * s ^ cs.length<=s * s ^ cs.length:=Int.mul_le_mul_of_nonneg_right (by omega) (by omega)
  rw[Int.add_mul,Int.one_mul]at q
  rw[Int.mul_comm (s ^ cs.length) s]
  omega
theorem p_{s:Int}(hs:0 < s):∀cs:List Int,InC s cs->dgs s (num s cs) cs.length=cs
 | [],_=>rfl
 | c::cs,h=>by
  have ht:InC s cs:=fun x hx=>h x (List.mem_cons_of_mem _ hx)
  obtain⟨h1,h2⟩:=lF hs cs ht
  obtain⟨c0,c1⟩:=h c List.mem_cons_self
  rw[dU,List.length_cons]
  show qt s (num s cs+c * s ^ cs.length) cs.length % s::dgs s (num s cs+c * s ^ cs.length) cs.length=c::cs
  rw[qb hs _ _ _ _ (Nat.le_refl _),oq hs _ _ _ _ (Nat.le_refl _),sC hs h1 h2,p_ hs cs ht,Nat.sub_self,Int.pow_zero,Int.mul_one,Int.zero_add,Int.emod_eq_of_lt c0 c1]
theorem m6(s x:Int):∀k,num s (dgs s x k)+qt s x k * s ^ k=x
 | 0=>by simp[dgs,num,qt]
 | k+1=>by
  have ih:=m6 s x k
  have u:=BH s x k
  show num s (qt s x k % s::dgs s x k)+qt s x (k+1) * s ^ (k+1)=x
  rw[dU,qa,Int.pow_succ,Int.mul_comm (s ^ k) s,<- Int.mul_assoc]
  have:qt s x k * s ^ k=qt s x (k+1) * s * s ^ k+qt s x k % s * s ^ k:=by rw[<- Int.add_mul,u]
  omega
theorem we{s x:Int}(hs:0 < s)(h0:0<=x){n:Nat}(hx:x < s ^ n):num s (dgs s x n)=x:=by
 have:=m6 s x n
 rw[sC hs h0 hx]at this
 omega
theorem ui{a b:List Int}(hl:a.length=b.length)(h:∀i,i < a.length->gt a i=gt b i):a=b:=by
 apply List.ext_getElem hl
 intro i h1 h2
 have:=h i h1
 simpa[gt,h1,h2]using this
theorem uk(a:Int)(l:List Int):gt (a::l) 0=a:=rfl
theorem uj(a:Int)(l:List Int)(i:Nat):gt (a::l) (i+1)=gt l i:=by simp[gt]
structure Bf(f:Fl):Prop where
 le:f.lend=f
 tb:f.toBor=f
 bo:f.borrow=f
 fz:f.freeze=f
 nl:f.isLnt=false
 no:f.isOwn=false
 nm:f≠.mod
theorem j9:Bf .bor:=⟨rfl,rfl,rfl,rfl,rfl,rfl,by decide⟩
theorem fB:Bf .frz:=⟨rfl,rfl,rfl,rfl,rfl,rfl,by decide⟩
structure Ky(n:Nat)(s:Int)(fs os:List Int):Prop where
 n2:2<=n
 n8:n<=8
 s2:2<=s
 s4:s<=4
 hf:cV s fs
 ho:cV s os
 big:s ^ n<=256
structure Ce(n:Nat)(s:Int)(cs:List Int):Prop where
 len:cs.length=n
 inn:InC s cs
def mv(n:Nat)(s:Int)(fs os cs:List Int):List Int:=((List.range n).filter fun i=>decide (bK n s fs os cs i≠gt cs i)).map fun i:Nat=>(i:Int)
def stp(n:Nat)(s:Int)(fs os cs nm:List Int):List Int:=(List.range n).map fun i:Nat=>if nm.contains (i:Int)then bK n s fs os cs i else gt cs i
def bV(l:List Int):List (List Int):=l.foldl (fun S a=>S++S.map (·++[a])) [[]]
def trn(n:Nat)(s:Int)(fs os:List Int)(many:Bool)(cs:List Int):List (List Int):=if many then(bV (mv n s fs os cs)).drop 1 else(mv n s fs os cs).map fun a=>[a]
structure ig(l0:List Int)(S:List (List Int)):Prop where
 ex:∃S',S=[]::S'/\(∀nm∈S',nm≠[]/\(∀a∈nm,a∈l0)/\nm.Nodup)/\(l0≠[]->S'≠[])
 len:S.length=2 ^ l0.length
theorem ig.step{l0:List Int}{S:List (List Int)}{a:Int}(h:ig l0 S)(ha:a∉l0):ig (l0++[a]) (S++S.map (·++[a])):=by
 obtain⟨⟨S',rfl,h1,h2⟩,hl⟩:=h
 refine⟨⟨S' ++([]::S').map (·++[a]),rfl,fun nm hm=>?_,fun _=>by simp⟩,?_⟩
 ·rcases List.mem_append.mp hm with hm | hm
  ·obtain⟨p1,p2,p3⟩:=h1 nm hm
   exact⟨p1,fun x hx=>List.mem_append_left _ (p2 x hx),p3⟩
  ·obtain⟨m,hm2,rfl⟩:=List.mem_map.mp hm
   have hm':(∀x∈m,x∈l0)/\m.Nodup:=by
    rcases List.mem_cons.mp hm2 with e | hm2
    ·subst e
     exact⟨fun x hx=>(nomatch hx),List.nodup_nil⟩
    ·exact(h1 m hm2).2
   refine⟨by simp,fun x hx=>?_,?_⟩
   ·rcases List.mem_append.mp hx with hx | hx
    ·exact List.mem_append_left _ (hm'.1 x hx)
    ·exact List.mem_append_right _ hx
   ·rw[List.nodup_append]
    exact⟨hm'.2,by simp,fun x hx y hy e=>ha (by rw[List.mem_singleton]at hy;rw[<- hy,<- e];exact hm'.1 x hx)⟩
 ·rw[List.length_append,List.length_map,hl,List.length_append,List.length_singleton,Nat.pow_succ]
  omega
theorem ig.fold:∀(l l0:List Int) (S:List (List Int)),ig l0 S->(l0++l).Nodup->ig (l0++l) (l.foldl (fun S a=>S++S.map (·++[a])) S)
 | [],l0,S,h,_=>by simpa using h
 | a::l,l0,S,h,hn=>by
  have hn':((l0++[a])++ l).Nodup:=by simpa using hn
  have ha:a∉l0:=fun hm=>by
   rw[List.nodup_append]at hn
   exact hn.2.2 a hm a List.mem_cons_self rfl
  have:=ig.fold l (l0++[a]) _ (h.step ha) hn'
  simpa using this
theorem ee{l:List Int}(h:l.Nodup):ig l (bV l):=by
 have:=ig.fold l [] [[]] ⟨⟨[],rfl,fun _ w=>(nomatch w),fun w=>absurd rfl w⟩,rfl⟩ (by simpa using h)
 rw[List.nil_append]at this
 exact this
section
variable{n:Nat}{s:Int}{fs os cs:List Int}{fc:Fl}{w:Int}
theorem jF:(mv n s fs os cs).Nodup:=by
 unfold mv
 have:((List.range n).filter fun i=>decide (bK n s fs os cs i≠gt cs i)).Nodup:=List.Pairwise.filter _ List.nodup_range
 exact List.Pairwise.map _ (fun a b (h:a≠b)=>by omega) this
theorem zw{a:Int}(h:a∈mv n s fs os cs):∃i:Nat,a=i/\i < n/\bK n s fs os cs i≠gt cs i:=by
 unfold mv at h
 obtain⟨i,hi,rfl⟩:=List.mem_map.mp h
 obtain⟨h1,h2⟩:=List.mem_filter.mp hi
 exact⟨i,rfl,List.mem_range.mp h1,by simpa using h2⟩
theorem oC:(mv n s fs os cs).length<=n:=by
 unfold mv
 rw[List.length_map]
 have:=List.length_filter_le (fun i=>decide (bK n s fs os cs i≠gt cs i)) (List.range n)
 rwa [List.length_range]at this
theorem vt{many:Bool}{nm:List Int}(h:nm∈trn n s fs os many cs):nm≠[]/\(∀a∈nm,a∈mv n s fs os cs)/\nm.Nodup:=by
 unfold trn at h
 cases many with
 | true =>
  obtain⟨⟨S',e,h1,_⟩,_⟩:=ee (jF (n:=n) (s:=s) (fs:=fs) (os:=os) (cs:=cs))
  rw[if_pos rfl,e]at h
  exact h1 nm h
 | false =>
  rw[if_neg (by decide)]at h
  obtain⟨a,ha,rfl⟩:=List.mem_map.mp h
  exact⟨by simp,fun x hx=>by rw[List.mem_singleton.mp hx];exact ha,by simp⟩
theorem o3{many:Bool}(h:n<=8):(trn n s fs os many cs).length<=256:=by
 have hm:=oC (n:=n) (s:=s) (fs:=fs) (os:=os) (cs:=cs)
 unfold trn
 cases many with
 | true =>
  obtain⟨_,hl⟩:=ee (jF (n:=n) (s:=s) (fs:=fs) (os:=os) (cs:=cs))
  have:2 ^ (mv n s fs os cs).length<=2 ^ 8:=Nat.pow_le_pow_right (by decide) (by omega)
  simp
  omega
 | false=>simp;omega
theorem k7{nm:List Int}{i:Nat}(hi:i < n):gt (stp n s fs os cs nm) i=if nm.contains (i:Int)then bK n s fs os cs i else gt cs i:=by
 unfold stp
 simp only[gt]
 rw[List.getD_eq_getElem?_getD,List.getElem?_map,List.getElem?_range hi]
 rfl
theorem p8(K:Ky n s fs os)(C:Ce n s cs){i:Nat}(hi:i < n):0<=bK n s fs os cs i/\bK n s fs os cs i < s:=by
 have ll:lft n i < n:=by unfold lft;split<;>omega
 have rl:rgt n i < n:=by unfold rgt;split<;>omega
 have hl:=C.len
 have ci:=C.inn _ (bQ (far:=cs) (i:=i) (by omega))
 have cl:=C.inn _ (bQ (far:=cs) (i:=lft n i) (by omega))
 have cr:=C.inn _ (bQ (far:=cs) (i:=rgt n i) (by omega))
 have pin:=lu K.s2 K.s4 ci cl cr
 unfold bK
 generalize plc s (gt cs i) (gt cs (lft n i)) (gt cs (rgt n i))=p at pin
 split
 ·have:=K.hf.len
  exact K.hf.rng _ (bQ (by omega))
 ·have:=K.ho.len
  exact K.ho.rng _ (bQ (by omega))
theorem k8(K:Ky n s fs os)(C:Ce n s cs)(nm:List Int):Ce n s (stp n s fs os cs nm):=by
 refine⟨by simp[stp],fun c hc=>?_⟩
 unfold stp at hc
 obtain⟨i,hi,rfl⟩:=List.mem_map.mp hc
 have hi:=List.mem_range.mp hi
 split
 ·exact p8 K C hi
 ·exact C.inn _ (bQ (by have:=C.len;omega))
theorem p9(hB:Bf fc)(K:Ky n s fs os)(C:Ce n s cs){i:Nat}(hi:i < n):wS [tab .bor n s w fs os,.lst fc (iL cs),.int i]=.ok (.int (bK n s fs os cs i)):=by
 have n2:=K.n2
 have hn:=C.len
 have hc:=C.inn
 have np:(0:Int) < n:=by omega
 have hl:((i:Int) - 1) % (n:Int)=(lft n i:Nat):=by
  unfold lft
  split
  ·rename_i e
   subst e
   have:((0:Nat):Int) - 1=((n:Int) - 1)+n * (-1):=by omega
   rw[this,Int.add_mul_emod_self_left,Int.emod_eq_of_lt (by omega) (by omega)]
   omega
  ·rw[Int.emod_eq_of_lt (by omega) (by omega)];omega
 have hr:((i:Int)+1) % (n:Int)=(rgt n i:Nat):=by
  unfold rgt
  split
  ·rw[Int.emod_eq_of_lt (by omega) (by omega)];omega
  ·have:(i:Int)+1=n:=by omega
   rw[this,Int.emod_self];rfl
 have ll:lft n i < n:=by unfold lft;split<;>omega
 have rl:rgt n i < n:=by unfold rgt;split<;>omega
 have ix:∀(k:Nat),k < n->∀f,au (.lst f (iL cs)) (.int (k:Int))=.ok (.int (gt cs k)):=fun k hk f=>by simpa using c_ (f:=f) (cs:=cs) (i:=k) (by omega) (by omega)
 have ci:=hc _ (bQ (far:=cs) (i:=i) (by omega))
 have cl:=hc _ (bQ (far:=cs) (i:=lft n i) (by omega))
 have cr:=hc _ (bQ (far:=cs) (i:=rgt n i) (by omega))
 have pin:=lu K.s2 K.s4 ci cl cr
 obtain⟨q1,q2,q3⟩:=ow (c:=gt cs i) (l:=gt cs (lft n i)) (r:=gt cs (rgt n i)) K.s2 K.s4
 obtain⟨tf,_⟩:=ip K.hf pin
 obtain⟨to,_⟩:=ip K.ho pin
 refine aA ?_
 show uQ [some (tab .bor n s w fs os),some (.lst fc (iL cs)),some (.int i),none,none,none]=_
 unfold uQ
 refine ag (aq (v:=.int (gt cs (lft n i))) (by simp[hB.le,aT,cK,a9 np,hl,ix _ ll]) (by simp) rfl) ?_
 simp only[s0_,s1_]
 refine ag (aq (v:=.int (gt cs (rgt n i))) (by simp[hB.le,aT,cK,a9 np,hr,ix _ rl]) (by simp) rfl) ?_
 simp only[s0_,s1_]
 refine ag (aq (v:=.int (plc s (gt cs i) (gt cs (lft n i)) (gt cs (rgt n i)))) (by simp[hB.le,aT,cK,ix _ hi,q1,q2,q3,plc]) (by simp) rfl) ?_
 simp only[s0_,s1_]
 refine ba ?_ (by simp)
 unfold bK
 by_cases e:i=0
 ·subst e
  simp[aT,cK,tf]
 ·simp[aT,cK,to,e,show ¬(i:Int)=0 by omega]
theorem kK(hB:Bf fc)(K:Ky n s fs os)(C:Ce n s cs):wO [tab .bor n s w fs os,.lst fc (iL cs)]=.ok (.lst .own (iL (mv n s fs os cs))):=by
 have hn:=C.len
 have n8:=K.n8
 refine aA ?_
 show AA [some (tab .bor n s w fs os),some (.lst fc (iL cs))]=_
 unfold AA mv
 refine ba ?_ (by simp)
 refine bF (xs:=cN 0 n) (b9 (n:=n) (by simp[aT,cK]) (by omega)) (by rw[bM];omega) (j3 (fun k=>decide (bK n s fs os cs k≠gt cs k)) (fun k=>(k:Int)) n fun k hk=>⟨[some (tab .bor n s w fs os),some (.lst fc (iL cs)),some (.int (0+k))],by simp[tgN,a7,bT,PV.borrow,hB.bo],?_,fun _=>by simp⟩)
 have gk:au (.lst fc (iL cs)) (.int (k:Int))=.ok (.int (gt cs k)):=by simpa using c_ (f:=fc) (cs:=cs) (i:=k) (by omega) (by omega)
 simp[hB.le,hB.tb,dr,p9 hB K C hk,gk,aJ]
theorem w_(hB:Bf fc)(K:Ky n s fs os)(C:Ce n s cs):zZ [tab .bor n s w fs os,.lst fc (iL cs)]=.ok (.bl (decide (((mv n s fs os cs).length:Int)=w))):=by
 refine aA ?_
 show AI [some (tab .bor n s w fs os),some (.lst fc (iL cs))]=_
 unfold AI
 refine ba ?_ (by simp)
 have e:∀k:Nat,((k:Int)=0)↔ k=0:=fun k=>by omega
 simp[hB.le,hB.tb,bX,kK hB K C,aJ,aT,cK,-List.length_eq_zero_iff]
theorem jw{nm:List Int}{f:Fl}(hf:Bf f)(hd:nm.Nodup)(hr:∀x∈nm,0<=x/\x < n)(hl:nm.length<=1000):zW [tab .bor n s w fs os,.lst f (iL nm)]=.ok .non:=by
 refine f6 ?_
 show Ends (Ax [some (tab .bor n s w fs os),some (.lst f (iL nm)),none])
 unfold Ax
 refine h_ (bg (by simp[aT,cK]) av) ?_
 refine uD (fun _ e=>∃x,e=[some (tab .bor n s w fs os),some (.lst f (iL nm)),x]) (xs:=iL nm) (cv (f:=f) (by simp[hf.le]) hf.nl (by simp) (by simp)) ⟨_,rfl⟩ (fun k x e hx hP=>?_) (fun e hP=>?_)
 ·obtain⟨y,rfl⟩:=hP
  obtain⟨m,hm,rfl⟩:=iF hx
  obtain⟨h1,h2⟩:=hr m (List.mem_of_getElem? hm)
  refine⟨_,cq rfl,aR (bg ?_ av) ⟨_,rfl⟩⟩
  simp[aT,cK,show ¬m < 0 by omega,show ¬(n:Int)<= m by omega]
 ·obtain⟨y,rfl⟩:=hP
  exact iJ (bg (by simp[hf.le,qJ hl,uG hd]) av)
theorem lG{many:Bool}{nm:List Int}(h:nm∈trn n s fs os many cs):nm.Nodup/\(∀x∈nm,0<=x/\x < n)/\nm.length<=n:=by
 obtain⟨_,h2,h3⟩:=vt h
 refine⟨h3,fun x hx=>?_,?_⟩
 ·obtain⟨i,rfl,hi,_⟩:=zw (h2 x hx)
  omega
 ·exact Nat.le_trans (kJ h3 h2) oC
theorem qh{many:Bool}{nm:List Int}(hB:Bf fc)(K:Ky n s fs os)(C:Ce n s cs)(h:nm∈trn n s fs os many cs):wQ [tab .bor n s w fs os,.lst fc (iL cs),.lst .frz (iL nm)]=.ok (.lst .own (iL (stp n s fs os cs nm))):=by
 obtain⟨g1,g2,g3⟩:=lG h
 have hn:=C.len
 have n8:=K.n8
 refine aA ?_
 show AD [some (tab .bor n s w fs os),some (.lst fc (iL cs)),some (.lst .frz (iL nm))]=_
 unfold AD stp
 have rf:=jw (w:=w) (n:=n) (s:=s) (fs:=fs) (os:=os) fB g1 g2 (by omega)
 refine ag (fA (v:=.non) (by simp[rf,aJ])) (ba ?_ (by simp))
 refine bF (xs:=cN 0 n) (b9 (n:=n) (by simp[aT,cK]) (by omega)) (by rw[bM];omega) (kT 0 (fun i:Nat=>if nm.contains (i:Int)then bK n s fs os cs i else gt cs i) n fun k hk=>⟨[some (.lst .frz (iL nm)),some (tab .bor n s w fs os),some (.lst fc (iL cs)),some (.int (0+k))],by simp[tgN,a7,bT,PV.borrow,hB.bo],?_⟩)
 have gk:au (.lst fc (iL cs)) (.int (k:Int))=.ok (.int (gt cs k)):=by simpa using c_ (f:=fc) (cs:=cs) (i:=k) (by omega) (by omega)
 have dk:=p9 (w:=w) hB K C hk
 by_cases q:nm.contains (k:Int)=true
 ·simp only[q,if_true]
  simp at q
  simp[q,hB.le,hB.tb,dr,dk,aJ]
 ·simp only[q]
  simp at q
  simp[q,hB.le,gk]
theorem wv(S:List (List Int)):mapL Fl.freeze (llL .own S)=llL .frz S:=by rw[bx];rfl
theorem gZ(g:Fl->Fl):∀xs ys:List PV,mapL g (xs++ys)=mapL g xs++mapL g ys
 | [],ys=>by simp
 | x::xs,ys=>by simp[gZ g xs ys]
theorem jR(p:Fl->Bool):∀xs ys:List PV,hasL p (xs++ys)=(hasL p xs||hasL p ys)
 | [],ys=>by simp
 | x::xs,ys=>by simp[jR p xs ys,Bool.or_assoc]
theorem nt(g:Fl->Fl):∀xs:List PV,(mapL g xs).length=xs.length
 | []=>by simp
 | x::xs=>by simp[nt g xs]
theorem oe{l:List Int}(hl:l.length<=8)(hd:l.Nodup):pY [.lst .bor (iL l)]=.ok (.lst .own (llL .frz ((bV l).drop 1))):=by
 refine aA ?_
 show uV [some (.lst .bor (iL l)),none,none]=_
 unfold uV
 refine ag (aq (v:=.lst .own [.lst .own []]) (by simp) (by simp) rfl) ?_
 simp only[s0_,s1_]
 refine ce (fun k e=>∃xs x2,e=[some (.lst .bor (iL l)),some (.lst .own xs),x2]/\mapL Fl.freeze xs=llL .frz (bV (l.take k))) (xs:=iL l) (cv (f:=.bor) (by simp) rfl (by simp) (by simp)) ⟨[.lst .own []],none,rfl,by simp[bV]⟩ (fun k x e hx hP=>?_) (fun e hP=>?_)
 ·obtain⟨xs,x2,rfl,hxs⟩:=hP
  obtain⟨a,ha,rfl⟩:=iF hx
  have hk:k < l.length:=(List.getElem?_eq_some_iff.mp ha).1
  have hS:(bV (l.take k)).length<=256:=by
   rw[(ee (List.Sublist.nodup (List.take_sublist k l) hd)).len]
   have:2 ^ (l.take k).length<=2 ^ 8:=Nat.pow_le_pow_right (by decide) (by rw[List.length_take];omega)
   omega
  have hN:∀nm∈bV (l.take k),nm.length<=8:=fun nm hm=>by
   obtain⟨⟨S',e,h1,_⟩,_⟩:=ee (List.Sublist.nodup (List.take_sublist k l) hd)
   rw[e]at hm
   rcases List.mem_cons.mp hm with rfl | hm
   ·simp
   ·obtain⟨_,h2,h3⟩:=h1 nm hm
    have:=kJ h3 h2
    rw[List.length_take]at this
    omega
  have e1:bV (l.take (k+1))=bV (l.take k)++(bV (l.take k)).map (·++[a]):=by
   unfold bV
   rw[List.take_succ,ha]
   simp
  refine⟨_,cq rfl,?_⟩
  simp only[s0_,s1_]
  refine aX (dZ (v:=.lst .own xs) rfl) ?_
  simp only[s0_,s1_,bN,hxs,bI]
  generalize bV (l.take k)=S at *
  have cp:aV [2] 1 (bA (aa 1)) (tgN 1) br (mOp aY (aa 1) (b7 (ad (aa 0) aj))) [some (.lst .bor (iL l)),some (.lst .frz (llL .frz S)),some (.int a)]=.ok (.lst .own (llL .own (S.map (·++[a])))):=by
   refine bF (xs:=llL .frz S) (by simp) (by simp;omega) ?_
   have:=bv (env:=bT [2] 1 [some (.lst .bor (iL l)),some (.lst .frz (llL .frz S)),some (.int a)]) (g:=tgN 1) (me:=mOp aY (aa 1) (b7 (ad (aa 0) aj))) (a:=fun nm:List Int=>PV.lst .frz (iL nm)) (f:=fun nm=>PV.lst .own (iL (nm++[a]))) S fun nm hm=>⟨[some (.int a),some (.lst .frz (iL nm))],by simp[tgN,a7,bT,PV.borrow],?_,by simp,by simp⟩
   ·rw[show llL .own (S.map (·++[a]))=S.map fun nm=>PV.lst .own (iL (nm++[a])) by simp[llL]]
    exact this
   ·have:=hN nm hm
    simp
    rw[eQ (by decide) (by decide) (by simp;omega)]
    simp[iL]
  refine aR (aq (v:=.lst .own (llL .frz S++llL .own (S.map (·++[a])))) ?_ ?_ rfl) ⟨_,_,rfl,?_⟩
  ·simp only[h8,cp]
   simp
   rw[eQ (by decide) (by decide) (by simp;omega)]
  ·simp only[cz,cU]
   rw[jR,aQ _ _ _ rfl,aQ _ _ _ rfl]
   rfl
  ·rw[gZ,wv,bx,e1,<- ww]
   rfl
 ·obtain⟨xs,x2,rfl,hxs⟩:=hP
  rw[di,List.take_length]at hxs
  refine ag (dZ (v:=.lst .own xs) rfl) ?_
  simp only[s0_,s1_,bN,hxs,bI]
  refine ba (v:=.lst .own (llL .frz ((bV l).drop 1))) ?_ (by simp only[cz,cU];rw[aQ _ _ _ rfl];rfl)
  have:=jY (llL .frz (bV l)) 1 (by rw[ez,(ee hd).len];exact Nat.pow_pos (by decide))
  simp
  rw[show((1:Nat):Int)=1 from rfl]at this
  rw[this]
  simp[llL]
def nxV(f:Fl)(n:Nat)(s:Int)(fs os:List Int)(many:Bool)(cs:List Int):List PV:=(trn n s fs os many cs).map fun nm=>.tup [.lst .frz (iL nm),.lst f (iL (stp n s fs os cs nm))]
theorem gu{p:Fl->Bool}{f:Fl}{many:Bool}(h1:p .frz=false)(h2:p f=false):hasL p (nxV f n s fs os many cs)=false:=by
 unfold nxV
 induction trn n s fs os many cs with
 | nil=>simp
 | cons a l ih=>simp[ih,h1,h2]
theorem jE{g:Fl->Fl}{f:Fl}{many:Bool}(h1:g .frz=.frz):mapL g (nxV f n s fs os many cs)=nxV (g f) n s fs os many cs:=by
 unfold nxV
 induction trn n s fs os many cs with
 | nil=>simp
 | cons a l ih=>simp[ih,h1]
theorem fL(many:Bool):wP [tab .bor n s w fs os,.bl many]=.ok .non:=by
 refine f6 ?_
 show Ends (AC [some (tab .bor n s w fs os),some (.bl many)])
 unfold AC
 exact iJ (bg (by cases many<;>simp[aT,cK]) av)
theorem tH{many:Bool}(hB:Bf fc)(K:Ky n s fs os)(C:Ce n s cs):pX [tab .bor n s w fs os,.lst fc (iL cs),.bl many]=.ok (.lst .own (nxV .own n s fs os many cs)):=by
 have n8:=K.n8
 have ml:=oC (n:=n) (s:=s) (fs:=fs) (os:=os) (cs:=cs)
 have md:=jF (n:=n) (s:=s) (fs:=fs) (os:=os) (cs:=cs)
 refine aA ?_
 show uS [some (tab .bor n s w fs os),some (.lst fc (iL cs)),some (.bl many),none,none]=_
 unfold uS
 refine ag (fA (v:=.non) (by simp[fL,aJ])) ?_
 refine ag (aq (v:=.lst .own (iL (mv n s fs os cs))) (by simp[hB.le,hB.tb,bX,kK hB K C,aJ]) (by simp) rfl) ?_
 simp only[s0_,s1_]
 obtain⟨f,hf,hl,e⟩:∃f:Fl,f.freeze=.frz/\f.isLnt=false/\(lL (aU (aa 2)) (ak (ax pY) (ad (aa 3) aj)) (aV [] 1 (bA (aa 3)) (tgN 0) br (b7 (ad (aa 0) aj)))) [some (tab .bor n s w fs os),some (.lst fc (iL cs)),some (.bl many),some (.lst .own (iL (mv n s fs os cs))),none]=.ok (.lst .own (llL f (trn n s fs os many cs))):=by
  cases many with
  | true =>
   refine⟨.frz,rfl,rfl,?_⟩
   have:=oe (l:=mv n s fs os cs) (by omega) md
   have hb:hasL Fl.isBor (llL .frz ((bV (mv n s fs os cs)).drop 1))=false:=aQ _ _ _ rfl
   simp only[uC,jV,fo,fq,dG,fW,fY]
   simp only[List.getElem?_cons_zero,List.getElem?_cons_succ,eR,lJ,bN,qF,Res.ok_bind,mI,if_true,t7,f8,gY,fY,qk,this,trn]
   unfold aJ
   rw[cU,hb]
   rfl
  | false =>
   refine⟨.own,rfl,rfl,?_⟩
   have:=bv (env:=bT [] 1 [some (tab .bor n s w fs os),some (.lst fc (iL cs)),some (.bl false),some (.lst .own (iL (mv n s fs os cs))),none]) (g:=tgN 0) (me:=b7 (ad (aa 0) aj)) (a:=PV.int) (f:=fun a=>PV.lst .own (iL [a])) (mv n s fs os cs) fun a ha=>⟨[some (.int a)],by simp[tgN,a7,b8,bT],by simp,by simp,by simp⟩
   have c:=bF (caps:=[]) (k:=1) (mi:=bA (aa 3)) (env:=[some (tab .bor n s w fs os),some (.lst fc (iL cs)),some (.bl false),some (.lst .own (iL (mv n s fs os cs))),none]) (xs:=iL (mv n s fs os cs)) (by simp) (by simp;omega) this
   simp only[uC,jV,fo]
   simp only[List.getElem?_cons_zero,List.getElem?_cons_succ,eR,lJ,Res.ok_bind,mI,Bool.false_eq_true,if_false,c]
   simp[trn,llL]
 refine ag (aq e (by simp only[cz,cU];rw[aQ _ _ _ hl];rfl) rfl) ?_
 simp only[s0_,s1_]
 refine ag (dZ (v:=.lst .own (llL f (trn n s fs os many cs))) rfl) ?_
 simp only[s0_,s1_,bN,bx,hf,bI]
 refine ba (v:=.lst .own (nxV .own n s fs os many cs)) ?_ (by simp only[cz,cU];rw[gu rfl rfl];rfl)
 refine bF (xs:=llL .frz (trn n s fs os many cs)) (by simp) (by have:=o3 (n:=n) (s:=s) (fs:=fs) (os:=os) (cs:=cs) (many:=many) n8;simp;omega) ?_
 exact bv (a:=fun nm:List Int=>PV.lst .frz (iL nm)) (f:=fun nm=>PV.tup [.lst .frz (iL nm),.lst .own (iL (stp n s fs os cs nm))]) (trn n s fs os many cs) fun nm hm=>⟨[some (tab .bor n s w fs os),some (.lst fc (iL cs)),some (.lst .frz (iL nm))],by simp[tgN,a7,bT,PV.borrow,hB.bo],by simp[hB.le,hB.tb,d0,qh hB K C hm,aJ],by simp,by simp⟩
theorem tw(s c:Int)(l:List Int):num s (l++[c])=num s l * s+c:=by simp[num]
theorem gX(hB:Bf fc)(K:Ky n s fs os):ut [tab .bor n s w fs os,.lst fc (iL cs)]=.ok (.int (num s cs)):=by
 have s2:=K.s2
 have s4:=K.s4
 refine aA ?_
 show At [some (tab .bor n s w fs os),some (.lst fc (iL cs)),none,none]=_
 unfold At
 refine ag (aq (v:=.int 0) (by simp) (by simp) rfl) ?_
 simp only[s0_,s1_]
 refine ce (fun k e=>∃x3,e=[some (tab .bor n s w fs os),some (.lst fc (iL cs)),some (.int (num s (cs.take k))),x3]) (xs:=iL cs) (cv (f:=fc) (by simp[hB.le]) hB.nl (by simp) (by simp)) ⟨none,rfl⟩ (fun k y e hy hP=>?_) (fun e hP=>?_)
 ·obtain⟨x3,rfl⟩:=hP
  obtain⟨z,hz,rfl⟩:=iF hy
  refine⟨_,cq rfl,?_⟩
  simp only[s0_,s1_]
  have mm:bL (.int (num s (cs.take k))) (.int s)=.ok (.int (num s (cs.take k) * s)):=cF (.inr ⟨by omega,by omega⟩)
  refine aR (aq (v:=.int (num s (cs.take (k+1)))) ?_ (by simp) rfl) ⟨_,rfl⟩
  rw[List.take_succ,hz,Option.toList_some,tw]
  simp[aT,cK,mm]
 ·obtain⟨x3,rfl⟩:=hP
  rw[di,List.take_length]
  exact eE rfl
theorem eA(K:Ky n s fs os)(x:Int):iQ [tab .bor n s w fs os,.int x]=.ok (.lst .own (iL (dgs s x n))):=by
 have s2:=K.s2
 have s4:=K.s4
 have n8:=K.n8
 have hs:0 < s:=by omega
 refine aA ?_
 show uW [some (tab .bor n s w fs os),some (.int x),none,none,none]=_
 unfold uW
 refine ag (aq (v:=.lst .own []) (by simp) (by simp) rfl) ?_
 simp only[s0_,s1_]
 refine ag (aq (v:=.int x) (by simp) (by simp) rfl) ?_
 simp only[s0_,s1_]
 refine ce (fun k e=>∃x4,e=[some (tab .bor n s w fs os),some (.int x),some (.lst .own (iL (dgs s x k).reverse)),some (.int (qt s x k)),x4]) (b9 (n:=n) (by simp[aT,cK]) (by omega)) ⟨none,rfl⟩ (fun k y e hy hP=>?_) (fun e hP=>?_)
 ·obtain⟨x4,rfl⟩:=hP
  obtain⟨hk,rfl⟩:=cM hy
  refine⟨_,cq rfl,?_⟩
  simp only[s0_,s1_]
  refine aX (dL (v:=.int (qt s x k % s)) (xs:=iL (dgs s x k).reverse) (by simp[aT,cK,a9 hs]) rfl (by simp) (by simp;omega)) ?_
  simp only[s0_,s1_]
  refine aR (aq (v:=.int (qt s x (k+1))) (by simp[aT,cK,dz hs (show s < 1073741824 by omega),qt]) (by simp) rfl) ⟨some (.int (0+(k:Int))),?_⟩
  simp[dgs,iL]
 ·obtain⟨x4,rfl⟩:=hP
  rw[bM]
  refine ba ?_ (by simp)
  have lr:∀f:Fl,eS (.lst f (iL (dgs s x n).reverse))=.ok (.lst .own (iL (dgs s x n))):=fun f=>by
   unfold eS
   dsimp only
   rw[dJ]
   dsimp only
   rw[if_pos (by simp;omega),List.reverse_reverse]
   rfl
  simp[lr]
theorem ja{s:Int}(h:1<=s){a:Nat}:∀d,1<=s ^ a/\s ^ a<=s ^ (a+d)
 | 0=>by
  refine⟨?_,Int.le_refl _⟩
  have:0 < s ^ a:=Int.pow_pos (by omega)
  omega
 | d+1=>by
  obtain⟨h1,h2⟩:=ja h (a:=a) d
  refine⟨h1,?_⟩
  rw[<- Nat.add_assoc,Int.pow_succ]
  have:s ^ (a+d) * 1<=s ^ (a+d) * s:=Int.mul_le_mul_of_nonneg_left h (by omega)
  omega
theorem gF(K:Ky n s fs os):ur [tab .bor n s w fs os]=.ok (.int (s ^ n)):=by
 have s2:=K.s2
 have s4:=K.s4
 have n8:=K.n8
 have big:=K.big
 refine aA ?_
 show Ar [some (tab .bor n s w fs os),none,none]=_
 unfold Ar
 refine ag (aq (v:=.int 1) (by simp) (by simp) rfl) ?_
 simp only[s0_,s1_]
 refine ce (fun k e=>∃x2,e=[some (tab .bor n s w fs os),some (.int (s ^ k)),x2]) (b9 (n:=n) (by simp[aT,cK]) (by omega)) ⟨none,by rw[Int.pow_zero]⟩ (fun k y e hy hP=>?_) (fun e hP=>?_)
 ·obtain⟨x4,rfl⟩:=hP
  obtain⟨hk,rfl⟩:=cM hy
  have h1:=(ja (s:=s) (by omega) (a:=k+1) (n - (k+1))).2
  rw[show k+1+(n - (k+1))=n by omega]at h1
  refine⟨_,cq rfl,?_⟩
  simp only[s0_,s1_]
  have mm:bL (.int (s ^ k)) (.int s)=.ok (.int (s ^ (k+1))):=by rw[Int.pow_succ];exact cF (.inr ⟨by omega,by omega⟩)
  refine aX (aq (v:=.int (s ^ (k+1))) (by simp[aT,cK,mm]) (by simp) rfl) ?_
  simp only[s0_,s1_]
  refine aR (bg ?_ av) ⟨_,rfl⟩
  generalize s ^ (k+1)=u at *
  simp[show ¬256 < u by omega]
 ·obtain⟨x4,rfl⟩:=hP
  rw[bM]
  exact eE rfl
theorem iT(K:Ky n s fs os){many:Bool}(h4:many=true->n<=4):zX [tab .bor n s w fs os,.bl many]=.ok .non:=by
 have big:=K.big
 refine f6 ?_
 show Ends (AE [some (tab .bor n s w fs os),some (.bl many)])
 unfold AE
 have st:=gF (w:=w) K
 generalize s ^ n=u at *
 refine h_ (bg (by simp[st,aJ,show ¬256 < u by omega]) av) ?_
 refine iJ (bg ?_ av)
 cases many with
 | false=>simp
 | true =>
  have:=h4 rfl
  simp[aT,cK]
  omega
end
theorem vG{it:MI}{g:TgM}{body aN:MS}{xs:List PV}{env:En}{R:Out->Prop}(P:Nat->En->Prop)(h:it env=.ok xs)(h0:P 0 env)
  (step:∀(k:Nat) (x:PV) (e:En),xs[k]?=some x->P k e->∃e1,g x e=some e1/\((∃e2,body e1=.next e2/\P (k+1) e2)\/ ∃v,body e1=.ret v/\R (.ret v)))
  (fin:∀e,P xs.length e->R (aN e)):R (ao (bW it g body) aN env):=by
 have:=lX (g:=g) (body:=body) P (fun o=>R (match o with | .next e=>aN e | o=>o)) h h0 (fun k x e hx hP=>by
  obtain⟨e1,h1,h2⟩:=step k x e hx hP
  refine⟨e1,h1,?_⟩
  rcases h2 with⟨e2,h2,h3⟩ |⟨v,h2,h3⟩
  ·exact .inl ⟨e2,.inl h2,h3⟩
  ·exact .inr (.inr (.inl ⟨v,h2,h3⟩))) fin
 unfold ao
 exact this
theorem gO{it:MI}{g:TgM}{body aN:MS}{xs:List PV}{env:En}{Q:PV->Prop}(P:Nat->En->Prop)(h:it env=.ok xs)(h0:P 0 env)
  (step:∀(k:Nat) (x:PV) (e:En),xs[k]?=some x->P k e->∃e1,g x e=some e1/\((∃e2,body e1=.next e2/\P (k+1) e2)\/ ∃v,body e1=.ret v/\Q v))
  (fin:∀e,P xs.length e->d9 (aN e) Q):d9 (ao (bW it g body) aN env) Q :=
 vG (R:=fun o=>d9 o Q) P h h0 (fun k x e hx hP=>by
  obtain⟨e1,h1,h2⟩:=step k x e hx hP
  exact⟨e1,h1,h2.imp id fun⟨v,a,b⟩=>⟨v,a,v,rfl,b⟩⟩) fin
theorem pF{it:MI}{g:TgM}{body:MS}{xs:List PV}{env:En}{A:En->Prop}{B:PV->Prop}(P:Nat->En->Prop)(h:it env=.ok xs)(h0:P 0 env)
  (step:∀(k:Nat) (x:PV) (e:En),xs[k]?=some x->P k e->∃e1,g x e=some e1/\((∃e2,body e1=.next e2/\P (k+1) e2)\/ ∃v,body e1=.ret v/\B v))
  (fin:∀e,P xs.length e->A e):(∃e2,bW it g body env=.next e2/\A e2)\/ ∃v,bW it g body env=.ret v/\B v :=
 lX (g:=g) (body:=body) P (fun o=>(∃ e2,o=.next e2/\A e2) \/ ∃ v,o=.ret v/\B v) h h0 (fun k x e hx hP=>by
  obtain⟨e1,h1,h2⟩:=step k x e hx hP
  refine⟨e1,h1,?_⟩
  rcases h2 with⟨e2,h2,h3⟩ |⟨v,h2,h3⟩
  ·exact .inl ⟨e2,.inl h2,h3⟩
  ·exact .inr (.inr (.inl ⟨v,h2,.inr ⟨v,rfl,h3⟩⟩))) fun e hP=>.inl ⟨e,rfl,fin e hP⟩
theorem l8{α:Type}{p:α->Bool}:∀{l:List α}{j:Nat}{x:α},l[j]?=some x->p x=true->(∀i < j,∀y,l[i]?=some y->p y=false)->l.find? p=some x
 | [],j,x,h,_,_=>by simp at h
 | a::l,0,x,h,hp,_=>by
  simp at h
  subst h
  simp[hp]
 | a::l,j+1,x,h,hp,hn=>by
  have h0:=hn 0 (by omega) a rfl
  have:=l8 (l:=l) (j:=j) (x:=x) (by simpa using h) hp fun i hi y hy=>hn (i+1) (by omega) y (by simpa using hy)
  simp[h0,this]
theorem pW{α:Type}{p:α->Bool}{l:List α}(h:∀(i:Nat) (y:α),l[i]?=some y->p y=false):l.find? p=none:=by
 rw[List.find?_eq_none]
 intro x hx q
 obtain⟨i,hi⟩:=List.getElem?_of_mem hx
 rw[h i x hi]at q
 cases q
structure Pz where
 n:Nat
 s:Int
 fs:List Int
 os:List Int
 w:Int
 many:Bool
namespace Pz
variable(z:Pz)
abbrev K:Prop:=Ky z.n z.s z.fs z.os
abbrev T:PV:=tab .bor z.n z.s z.w z.fs z.os
abbrev N:Nat:=(z.s ^ z.n).toNat
abbrev dg(k:Nat):List Int:=dgs z.s k z.n
abbrev cal(cs:List Int):Bool:=decide (((mv z.n z.s z.fs z.os cs).length:Int)=z.w)
abbrev tr(cs:List Int):List (List Int):=trn z.n z.s z.fs z.os z.many cs
abbrev sp(cs nm:List Int):List Int:=stp z.n z.s z.fs z.os cs nm
abbrev nu(cs nm:List Int):Int:=num z.s (z.sp cs nm)
def St:List (List Int):=(List.range z.N).map z.dg
def cm:List Bool:=z.St.map z.cal
def cmV:List PV:=z.cm.map .bl
def nx(f:Fl)(cs:List Int):List PV:=nxV f z.n z.s z.fs z.os z.many cs
def wy(f:Fl):List PV:=z.St.map fun cs=>.lst f (z.nx f cs)
def fol(cs:List Int):List Int:=(z.tr cs).map (z.nu cs)
def Fw:List (List Int):=z.St.map z.fol
def lvC(cs:List Int):Option (List Int):=if z.cal cs then(z.tr cs).find? (fun nm=>!z.cal (z.sp cs nm))else none
def skC(cs:List Int):Bool:=!z.cal cs&&(z.tr cs).isEmpty
end Pz
theorem cA(g:Fl->Fl):∀l:List Bool,mapL g (l.map .bl)=l.map .bl
 | []=>by simp
 | b::l=>by simp[cA g l]
theorem qe(p:Fl->Bool):∀l:List Bool,hasL p (l.map .bl)=false
 | []=>by simp
 | b::l=>by simp[qe p l]
theorem gx{l:List Bool}{k:Nat}{b:Bool}(h:l[k]?=some b)(f:Fl):au (.lst f (l.map .bl)) (.int k)=.ok (.bl b):=bf rfl (by simp[h]) (by simp)
section
variable{z:Pz}
theorem d5:z.St.length=z.N:=by simp[Pz.St]
theorem kc{k:Nat}(h:k < z.N):z.St[k]?=some (z.dg k):=by simp[Pz.St,h]
theorem vd{k:Nat}{cs:List Int}(h:z.St[k]?=some cs):k < z.N/\cs=z.dg k:=by
 have hk:k < z.N:=by rw[<- d5];exact(List.getElem?_eq_some_iff.mp h).1
 rw[kc hk]at h
 cases h
 exact⟨hk,rfl⟩
theorem kP(K:z.K)(x:Int):Ce z.n z.s (dgs z.s x z.n):=⟨by simp,uF (by have:=K.s2;omega) _⟩
theorem oT(K:z.K){cs:List Int}(C:Ce z.n z.s cs):0<=num z.s cs/\(num z.s cs).toNat < z.N/\z.dg (num z.s cs).toNat=cs:=by
 have s2:=K.s2
 have:=lF (s:=z.s) (by omega) cs C.inn
 rw[C.len]at this
 refine⟨this.1,by show _ <(z.s ^ z.n).toNat;omega,?_⟩
 have e:=p_ (s:=z.s) (by omega) cs C.inn
 rw[C.len]at e
 show dgs z.s ((num z.s cs).toNat:Int) z.n=cs
 rw[Int.toNat_of_nonneg this.1,e]
theorem oB(K:z.K){k:Nat}(h:k < z.N):num z.s (z.dg k)=k:=by
 have s2:=K.s2
 exact we (by omega) (by omega) (by have:k <(z.s ^ z.n).toNat:=h;omega)
theorem rh(K:z.K):z.N<=256:=by have:=K.big;show(z.s ^ z.n).toNat<=256;omega
theorem j4:z.cm.length=z.N:=by simp[Pz.cm,d5]
theorem fH{k:Nat}(h:k < z.N):z.cm[k]?=some (z.cal (z.dg k)):=by simp only[Pz.cm,List.getElem?_map,kc h,Option.map_some]
theorem uJ(K:z.K){cs:List Int}(C:Ce z.n z.s cs)(f:Fl):au (.lst f z.cmV) (.int (num z.s cs))=.ok (.bl (z.cal cs)):=by
 obtain⟨h0,h1,h2⟩:=oT K C
 have:=fH h1
 rw[h2]at this
 have:=gx this f
 rwa [Int.toNat_of_nonneg h0]at this
theorem im{g:Fl->Fl}{f:Fl}(h1:g .frz=.frz):mapL g (z.wy f)=z.wy (g f):=by
 unfold Pz.wy Pz.nx
 induction z.St with
 | nil=>simp
 | cons a l ih=>simp[ih,jE h1]
theorem nX{p:Fl->Bool}{f:Fl}(h1:p .frz=false)(h2:p f=false):hasL p (z.wy f)=false:=by
 unfold Pz.wy Pz.nx
 induction z.St with
 | nil=>simp
 | cons a l ih=>simp[ih,gu h1 h2,h2]
theorem xD{m:ME}{e:En}(h:m e=.ok (.lst .frz (z.wy .frz))):dX m e=.ok (enP 0 (z.wy .frz)):=by
 unfold dX
 rw[h]
 simp[d7,nX (p:=Fl.isOwn) (f:=.frz) rfl rfl,nX (p:=Fl.isLnt) (f:=.frz) rfl rfl]
theorem nW{f:Fl}:(z.wy f).length=z.N:=by simp[Pz.wy,d5]
theorem rn{f:Fl}{k:Nat}{x:PV}(h:(z.wy f)[k]?=some x):k < z.N/\x=.lst f (z.nx f (z.dg k)):=by
 unfold Pz.wy at h
 rw[List.getElem?_map]at h
 obtain⟨cs,h1,rfl⟩:=Option.map_eq_some_iff.mp h
 obtain⟨h2,rfl⟩:=vd h1
 exact⟨h2,rfl⟩
theorem zt{f:Fl}{cs:List Int}{k:Nat}{x:PV}(h:(z.nx f cs)[k]?=some x):∃nm,(z.tr cs)[k]?=some nm/\x=.tup [.lst .frz (iL nm),.lst f (iL (z.sp cs nm))]:=by
 unfold Pz.nx nxV at h
 rw[List.getElem?_map]at h
 obtain⟨nm,h1,rfl⟩:=Option.map_eq_some_iff.mp h
 exact⟨nm,h1,rfl⟩
theorem oA{f:Fl}{cs:List Int}:(z.nx f cs).length=(z.tr cs).length:=by simp[Pz.nx,nxV]
theorem oJ(K:z.K):∃ r,ux [z.T,.lst .bor z.cmV,.lst .frz (z.wy .frz)]=.ok r/\((r=.non/\∀ k < z.N,z.lvC (z.dg k)=none) \/
  ∃k nm,k < z.N/\z.lvC (z.dg k)=some nm/\(∀j < k,z.lvC (z.dg j)=none)/\r=.tup [.str "leaves", .lst .own (iL (z.dg k)),.lst .frz (iL nm)]):=by
 suffices hh:d9 (uU [some z.T,some (.lst .bor z.cmV),some (.lst .frz (z.wy .frz)),none,none,none,none]) (fun r=>(r=.non/\∀k < z.N,z.lvC (z.dg k)=none)\/ ∃k nm,k < z.N/\z.lvC (z.dg k)=some nm/\(∀j < k,z.lvC (z.dg j)=none)/\r=.tup [.str "leaves", .lst .own (iL (z.dg k)),.lst .frz (iL nm)]) by
  obtain⟨v,h1,h2⟩:=hh
  exact⟨v,aA h1,h2⟩
 unfold uU
 refine gO (fun k e=>(∃x3 x4 x5 x6,e=[some z.T,some (.lst .bor z.cmV),some (.lst .frz (z.wy .frz)),x3,x4,x5,x6])/\∀j < k,z.lvC (z.dg j)=none) (xD (z:=z) (by simp[im (g:=Fl.lend) (f:=.frz) rfl])) ⟨⟨_,_,_,_,rfl⟩,fun _ h=>absurd h (Nat.not_lt_zero _)⟩ (fun k y e hy hP=>?_) (fun e hP=>?_)
 ·obtain⟨⟨x3,x4,x5,x6,rfl⟩,hn⟩:=hP
  rw[fw]at hy
  obtain⟨x,hx,rfl⟩:=Option.map_eq_some_iff.mp hy
  obtain⟨hk,rfl⟩:=rn hx
  have C:=kP K (k:Int)
  refine⟨[some z.T,some (.lst .bor z.cmV),some (.lst .frz (z.wy .frz)),some (.int k),some (.lst .frz (z.nx .frz (z.dg k))),x5,x6],by rw[Int.zero_add];rfl,?_⟩
  have ck:au (.lst .bor z.cmV) (.int k)=.ok (.bl (z.cal (z.dg k))):=gx (fH hk) _
  have hcm:∀g,mapL g z.cmV=z.cmV:=fun g=>cA g _
  refine pF (fun i e=>(∃x5 x6,e=[some z.T,some (.lst .bor z.cmV),some (.lst .frz (z.wy .frz)),some (.int k),some (.lst .frz (z.nx .frz (z.dg k))),x5,x6])/\∀j < i,∀nm,(z.tr (z.dg k))[j]?=some nm->(z.cal (z.dg k)&&!z.cal (z.sp (z.dg k) nm))=false) (xs:=z.nx .frz (z.dg k))
   (cv (f:=.frz) (by simp[Pz.nx,G.jE (g:=Fl.lend) (f:=.frz) rfl]) rfl (G.gu rfl rfl) (G.gu rfl rfl)) ⟨⟨_,_,rfl⟩,fun _ h=>absurd h (Nat.not_lt_zero _)⟩ (fun i y e hy hP=>?_) (fun e hP=>?_)
  ·obtain⟨⟨x5,x6,rfl⟩,hm⟩:=hP
   obtain⟨nm,hnm,rfl⟩:=zt hy
   refine⟨[some z.T,some (.lst .bor z.cmV),some (.lst .frz (z.wy .frz)),some (.int k),some (.lst .frz (z.nx .frz (z.dg k))),some (.lst .frz (iL nm)),some (.lst .frz (iL (z.sp (z.dg k) nm)))],rfl,?_⟩
   have D:=k8 K C nm
   have no:=gX (w:=z.w) (cs:=z.sp (z.dg k) nm) fB K
   have cn:=uJ K D .bor
   cases hc:z.cal (z.dg k)&&!z.cal (z.sp (z.dg k) nm)with
   | false =>
    refine .inl ⟨_,bg ?_ av,⟨_,_,rfl⟩,fun j hj nm' hj'=>?_⟩
    ·rcases Bool.and_eq_false_iff.mp hc with h | h
     ·rw[h]at ck
      simp[hcm,ck]
     ·rw[Bool.not_eq_false']at h
      rw[h]at cn
      cases h2:z.cal (z.dg k)with
      | false=>rw[h2]at ck;simp[hcm,ck]
      | true=>rw[h2]at ck;simp[hcm,ck,no,aJ,cn]
    ·by_cases e:j=i
     ·subst e
      rw[hnm]at hj'
      cases hj'
      exact hc
     ·exact hm j (by omega) nm' hj'
   | true =>
    obtain⟨h1,h2⟩:=Bool.and_eq_true_iff.mp hc
    have h3:z.cal (z.sp (z.dg k) nm)=false:=by simpa using h2
    have ck':=ck
    have cn':=cn
    rw[h1]at ck'
    rw[h3]at cn'
    refine .inr ⟨.tup [.str "leaves", .lst .own (iL (z.dg k)),.lst .frz (iL nm)],d4 (by simp[hcm,ck',no,aJ,cn']) (ba (by simp[eA K,aJ]) (by simp)),.inr ⟨k,nm,hk,?_,hn,rfl⟩⟩
    unfold Pz.lvC
    rw[if_pos h1]
    refine l8 hnm h2 fun j hj y hy=>?_
    have:=hm j hj y hy
    rw[h1,Bool.true_and]at this
    exact this
  ·obtain⟨⟨x5,x6,rfl⟩,hm⟩:=hP
   refine⟨⟨_,_,_,_,rfl⟩,fun j hj=>?_⟩
   by_cases e:j=k
   ·subst e
    unfold Pz.lvC
    split
    ·rename_i h1
     refine pW fun i y hy=>?_
     have:=hm i (by rw[oA];exact(List.getElem?_eq_some_iff.mp hy).1) y hy
     rw[h1,Bool.true_and]at this
     exact this
    ·rfl
   ·exact hn j (by omega)
 ·obtain⟨⟨x3,x4,x5,x6,rfl⟩,hn⟩:=hP
  rw[fv,nW]at hn
  exact aZ (ba (by simp) (by simp)) (.inl ⟨rfl,hn⟩)
theorem rH(K:z.K):∃ r,uw [z.T,.lst .bor z.cmV,.lst .frz (z.wy .frz)]=.ok r/\((r=.non/\∀ k < z.N,z.skC (z.dg k)=false) \/
  ∃k,k < z.N/\z.skC (z.dg k)=true/\(∀j < k,z.skC (z.dg j)=false)/\r=.tup [.str "stuck", .lst .own (iL (z.dg k))]):=by
 suffices hh:d9 (uT [some z.T,some (.lst .bor z.cmV),some (.lst .frz (z.wy .frz)),none,none]) (fun r=>(r=.non/\∀k < z.N,z.skC (z.dg k)=false)\/ ∃k,k < z.N/\z.skC (z.dg k)=true/\(∀j < k,z.skC (z.dg j)=false)/\r=.tup [.str "stuck", .lst .own (iL (z.dg k))]) by
  obtain⟨v,h1,h2⟩:=hh
  exact⟨v,aA h1,h2⟩
 unfold uT
 refine gO (fun k e=>(∃x3 x4,e=[some z.T,some (.lst .bor z.cmV),some (.lst .frz (z.wy .frz)),x3,x4])/\∀j < k,z.skC (z.dg j)=false) (xD (z:=z) (by simp[im (g:=Fl.lend) (f:=.frz) rfl])) ⟨⟨_,_,rfl⟩,fun _ h=>absurd h (Nat.not_lt_zero _)⟩ (fun k y e hy hP=>?_) (fun e hP=>?_)
 ·obtain⟨⟨x3,x4,rfl⟩,hn⟩:=hP
  rw[fw]at hy
  obtain⟨x,hx,rfl⟩:=Option.map_eq_some_iff.mp hy
  obtain⟨hk,rfl⟩:=rn hx
  refine⟨[some z.T,some (.lst .bor z.cmV),some (.lst .frz (z.wy .frz)),some (.int k),some (.lst .frz (z.nx .frz (z.dg k)))],by rw[Int.zero_add];rfl,?_⟩
  have ck:au (.lst .bor z.cmV) (.int k)=.ok (.bl (z.cal (z.dg k))):=gx (fH hk) _
  have hcm:∀g,mapL g z.cmV=z.cmV:=fun g=>cA g _
  have hnm:mapL Fl.lend (z.nx .frz (z.dg k))=z.nx .frz (z.dg k):=G.jE (g:=Fl.lend) (f:=.frz) rfl
  have hl:(decide (((z.nx .frz (z.dg k)).length:Int)=0))=(z.tr (z.dg k)).isEmpty:=by
   rw[oA]
   cases z.tr (z.dg k)with
   | nil=>rfl
   | cons a l=>simp;omega
  cases hc:z.skC (z.dg k)with
  | false =>
   refine .inl ⟨_,bg ?_ av,⟨_,_,rfl⟩,fun j hj=>?_⟩
   ·cases h2:z.cal (z.dg k)with
    | true=>rw[h2]at ck;simp[hcm,ck]
    | false =>
     unfold Pz.skC at hc
     rw[h2,Bool.not_false,Bool.true_and]at hc
     rw[h2]at ck
     rw[hc]at hl
     simp only[decide_eq_false_iff_not]at hl
     simp[hcm,ck,hnm,hl,-Int.natCast_eq_zero,-List.length_eq_zero_iff]
   ·by_cases e:j=k
    ·rw[e];exact hc
    ·exact hn j (by omega)
  | true =>
   have hc':=hc
   unfold Pz.skC at hc'
   obtain⟨h1,h2⟩:=Bool.and_eq_true_iff.mp hc'
   have h3:z.cal (z.dg k)=false:=by simpa using h1
   rw[h3]at ck
   rw[h2]at hl
   simp only[decide_eq_true_iff]at hl
   exact .inr ⟨.tup [.str "stuck", .lst .own (iL (z.dg k))],d4 (by simp[hcm,ck,hnm,hl,-Int.natCast_eq_zero,-List.length_eq_zero_iff]) (ba (by simp[eA K,aJ]) (by simp)),.inr ⟨k,hk,hc,hn,rfl⟩⟩
 ·obtain⟨⟨x3,x4,rfl⟩,hn⟩:=hP
  rw[fv,nW]at hn
  exact aZ (ba (by simp) (by simp)) (.inl ⟨rfl,hn⟩)
end
def rO:Option Int->PV
 | some v=>.int v
 | none=>.non
def rL(r:List (Option Int)):List PV:=r.map rO
theorem yI(g:Fl->Fl)(o:Option Int):(rO o).mapF g=rO o:=by cases o<;>simp[rO]
theorem iw(p:Fl->Bool)(o:Option Int):(rO o).has p=false:=by cases o<;>simp[rO]
theorem dy(g:Fl->Fl):∀r,mapL g (rL r)=rL r
 | []=>by simp[rL]
 | o::r=>by
  have:=dy g r
  unfold rL at *
  simp[this,yI]
theorem lm(p:Fl->Bool):∀r,hasL p (rL r)=false
 | []=>by simp[rL]
 | o::r=>by
  have:=lm p r
  unfold rL at *
  simp[this,iw]
theorem i5:∀r,(rL r).all shp=true
 | []=>rfl
 | o::r=>by
  have:=i5 r
  unfold rL at *
  rw[List.map_cons,List.all_cons,this]
  cases o<;>rfl
theorem oM:∀r,inL .non (rL r)=r.any Option.isNone
 | []=>rfl
 | o::r=>by
  have:=oM r
  unfold rL inL at *
  rw[List.map_cons,List.any_cons,this,List.any_cons]
  cases o<;>rfl
theorem m8(r:List (Option Int))(f:Fl):cO .non (.lst f (rL r))=.ok (.bl (!r.any Option.isNone)):=by
 unfold cO
 simp only[a_,lb,i5,Bool.and_self,if_true,oM]
theorem CG(r:List (Option Int))(f:Fl):pIn .non (.lst f (rL r))=.ok (.bl (r.any Option.isNone)):=by
 unfold pIn
 simp only[a_,lb,i5,Bool.and_self,if_true,oM]
theorem oN{r:List (Option Int)}{k:Nat}{o:Option Int}(h:r[k]?=some o)(f:Fl):au (.lst f (rL r)) (.int k)=.ok (rO o) :=
 bf rfl (by simp[rL,h]) (iw _ _)
theorem lT(o:Option Int):fM (rO o) .non=.ok (.bl o.isNone):=by cases o<;>rfl
def og(r:List (Option Int))(y:Int):Option Int:=r.getD y.toNat none
theorem kI{r:List (Option Int)}{y:Int}(h:y.toNat < r.length):r[y.toNat]?=some (og r y):=by simp[og,h]
structure Rk(Fw:List (List Int))(cs:List Bool)(r:List (Option Int)):Prop where
 len:r.length=Fw.length
 ok:∀(k:Nat) (v:Int),r[k]?=some (some v)->(cs[k]?=some true/\v=0)\/(cs[k]?=some false/\∃l:List Int,(Fw.getD k []).map (og r)=l.map some/\v=1+c9 l)
 no:∀k:Nat,r[k]?=some none->cs[k]?=some false
structure vg(Fw:List (List Int))(cs:List Bool):Prop where
 rng:∀k < Fw.length,∀y∈Fw.getD k [],0<=y/\y.toNat < Fw.length
 ne:∀k:Nat,cs[k]?=some false->Fw.getD k []≠ []
 len:cs.length=Fw.length
theorem Rk.step{Fw:List (List Int)}{cs:List Bool}{r:List (Option Int)}{k:Nat}{l:List Int}(F:vg Fw cs)(h:Rk Fw cs r)(hk:r[k]?=some none)(hl:(Fw.getD k []).map (og r)=l.map some):Rk Fw cs (r.set k (some (1+c9 l))):=by
 have kl:k < r.length:=(List.getElem?_eq_some_iff.mp hk).1
 have hlen:=h.len
 have st:∀j,(r.set k (some (1+c9 l)))[j]?=if j=k then some (some (1+c9 l))else r[j]?:=fun j=>by
  rw[List.getElem?_set]
  by_cases e:k=j
  ·subst e;simp[kl]
  ·rw[if_neg e,if_neg fun q=>e q.symm]
 have og1:∀(y:Int) (v:Int),og r y=some v->og (r.set k (some (1+c9 l))) y=some v:=fun y v hy=>by
  unfold og at *
  rw[List.getD_eq_getElem?_getD]at hy ⊢
  rw[st]
  by_cases e:y.toNat=k
  ·rw[e,hk]at hy
   cases hy
  ·rw[if_neg e]
   exact hy
 have keep:∀(j:Nat) (l':List Int),(Fw.getD j []).map (og r)=l'.map some->(Fw.getD j []).map (og (r.set k (some (1+c9 l))))=l'.map some:=fun j l'=>by
  generalize Fw.getD j []=F
  induction F generalizing l' with
  | nil=>exact fun h=>h
  | cons y F ih =>
   intro h
   cases l' with
   | nil=>simp at h
   | cons a l' =>
    simp only[List.map_cons,List.cons.injEq]at h ⊢
    exact⟨og1 y a h.1,ih l' h.2⟩
 refine⟨by simpa using h.len,fun j v hj=>?_,fun j hj=>?_⟩
 ·rw[st]at hj
  by_cases e:j=k
  ·subst e
   rw[if_pos rfl]at hj
   cases hj
   exact .inr ⟨h.no j hk,l,keep j l hl,rfl⟩
  ·rw[if_neg e]at hj
   exact(h.ok j v hj).imp id fun⟨a,l',b,c⟩=>⟨a,l',keep j l' b,c⟩
 ·rw[st]at hj
  by_cases e:j=k
  ·rw[if_pos e]at hj
   cases hj
  ·rw[if_neg e]at hj
   exact h.no j hj
def nns(r:List (Option Int)):Nat:=(r.filter Option.isNone).length
theorem pI:∀{r:List (Option Int)}{k:Nat} (v:Int),r[k]?=some none->nns (r.set k (some v))+1=nns r
 | [],k,v,h=>by simp at h
 | o::r,0,v,h=>by
  simp at h
  subst h
  simp[nns]
 | o::r,k+1,v,h=>by
  have:=pI (r:=r) (k:=k) v (by simpa using h)
  unfold nns at *
  rw[s1_]
  cases o<;>simp<;>omega
theorem li(l:List Int):rL (l.map some)=iL l:=by simp[rL,iL,rO]
theorem yJ(r:List (Option Int))(k:Nat)(v:Int):(rL r).set k (.int v)=rL (r.set k (some v)):=by simp[rL,List.map_set,rO]
theorem ka:∀{l:List (Option Int)},l.any Option.isNone=false->l=(l.map fun o=>o.getD 0).map some
 | [],_=>rfl
 | none::l,h=>by simp at h
 | some v::l,h=>by
  have:=ka (l:=l) (by simpa using h)
  simp only[List.map_cons,Option.getD_some]
  rw[<- this]
def Cl(Fw:List (List Int))(r:List (Option Int)):Prop:=∀k,r[k]?=some none->∃y∈Fw.getD k [],r[y.toNat]?=some none
theorem on{Fw:List (List Int)}{cs:List Bool}{r:List (Option Int)}{k:Nat}{F:List Int}{x0 x1 x3 x4:Option PV}(hr:Rk Fw cs r)(W:vg Fw cs)(hk:Fw[k]?=some F)(hF:F.length<=1000):aV [2] 1 (bA (aa 5)) (tgN 1) br (mOp au (aa 0) (aa 1)) [x0,x1,some (.lst .own (rL r)),x3,x4,some (.lst .bor (iL F))]=.ok (.lst .own (rL (F.map (og r)))):=by
 have kl:k < Fw.length:=(List.getElem?_eq_some_iff.mp hk).1
 have eF:Fw.getD k []=F:=by simp[List.getD_eq_getElem?_getD,hk]
 refine bF (xs:=iL F) (by simp) (by simp;omega) ?_
 rw[show rL (F.map (og r))=F.map fun y=>rO (og r y) by simp[rL]]
 refine bv (a:=PV.int) (f:=fun y=>rO (og r y)) F fun y hy=>⟨[some (.lst .bor (rL r)),some (.int y)],by simp[tgN,a7,bT,PV.borrow,dy],?_,iw _ _,iw _ _⟩
 obtain⟨y0,y1⟩:=W.rng k kl y (by rw[eF];exact hy)
 have:=oN (kI (r:=r) (y:=y) (by rw[hr.len];exact y1)) .bor
 rw[Int.toNat_of_nonneg y0]at this
 simp[dy,this]
theorem sw{Fw:List (List Int)}{calms:List Bool}(W:vg Fw calms)(hl:Fw.length<=1000)(hF:∀F∈Fw,F.length<=1000) :
  ∃r,wN [.lst .bor (calms.map .bl),.lst .bor (llL .bor Fw)]=.ok (.lst .own (rL r))/\Rk Fw calms r/\Cl Fw r:=by
 have bmap:∀(g:Fl->Fl),mapL g (calms.map .bl)=calms.map .bl:=fun g=>cA g _
 have hc:=W.len
 suffices hh:d9 (Az [some (.lst .bor (calms.map .bl)),some (.lst .bor (llL .bor Fw)),none,none,none,none]) (fun x=>∃r,x=.lst .own (rL r)/\Rk Fw calms r/\Cl Fw r) by
  obtain⟨x,e,r,rfl,hr,cl⟩:=hh
  exact⟨r,aA e,hr,cl⟩
 unfold Az
 have c0:aV [] 1 (bA (aa 0)) (tgN 0) br (lL (aU (aa 0)) (mC (.int (0))) (mC .non)) [some (.lst .bor (calms.map .bl)),some (.lst .bor (llL .bor Fw)),none,none,none,none]=.ok (.lst .own (rL (calms.map fun b=>if b then some 0 else none))):=by
  refine bF (xs:=calms.map .bl) (by simp[bmap]) (by simp;omega) ?_
  rw[show rL (calms.map fun b=>if b then some (0:Int)else none)=calms.map fun b=>rO (if b then some 0 else none) by simp[rL]]
  exact bv (a:=PV.bl) (f:=fun b=>rO (if b then some 0 else none)) calms fun b hb=>⟨[some (.bl b)],by simp[tgN,a7,b8,bT],by cases b<;>simp[rO],iw _ _,iw _ _⟩
 refine az (aq c0 (by simp[lm]) rfl) ?_
 simp only[s0_,s1_]
 refine az (aq (v:=.bl true) (by simp) (by simp) rfl) ?_
 simp only[s0_,s1_]
 have R0:Rk Fw calms (calms.map fun b=>if b then some 0 else none):=by
  refine⟨by simpa using W.len,fun k v hk=>?_,fun k hk=>?_⟩
  ·rw[List.getElem?_map]at hk
   obtain⟨b,hb,e⟩:=Option.map_eq_some_iff.mp hk
   cases b with
   | false=>simp at e
   | true =>
    simp at e
    exact .inl ⟨hb,e.symm⟩
  ·rw[List.getElem?_map]at hk
   obtain⟨b,hb,e⟩:=Option.map_eq_some_iff.mp hk
   cases b with
   | true=>simp at e
   | false=>exact hb
 generalize(calms.map fun b=>if b then some (0:Int)else none)=r0 at *
 have ns0:nns r0<=1000:=by
  have:=List.length_filter_le Option.isNone r0
  unfold nns
  have:=R0.len
  omega
 refine jv (Fin:=fun e=>∃r x3 x4 x5,e=[some (.lst .bor (calms.map .bl)),some (.lst .bor (llL .bor Fw)),some (.lst .own (rL r)),x3,x4,x5]/\Rk Fw calms r/\Cl Fw r) (fun m e=>∃r g x4 x5,e=[some (.lst .bor (calms.map .bl)),some (.lst .bor (llL .bor Fw)),some (.lst .own (rL r)),some (.bl g),x4,x5]/\Rk Fw calms r/\(g=true->m=nns r+1)/\(g=false->m=0/\Cl Fw r)) (nns r0+1) (by omega) ⟨r0,true,_,_,rfl,R0,fun _=>rfl,fun h=>by cases h⟩ (fun m e hP=>?_) (fun e hP=>?_)
 ·obtain⟨r,g,x4,x5,rfl,hr,hg1,hg2⟩:=hP
  cases g with
  | false=>exact .inl ⟨by simp,r,_,_,_,rfl,hr,(hg2 rfl).2⟩
  | true =>
   refine .inr ⟨by simp,?_⟩
   have it:dX (aa 1) [some (.lst .bor (calms.map .bl)),some (.lst .bor (llL .bor Fw)),some (.lst .own (rL r)),some (.bl false),x4,x5]=.ok (enP 0 (llL .bor Fw)):=by
    unfold dX
    simp[d7,aQ Fw Fl.isOwn .bor rfl,aQ Fw Fl.isLnt .bor rfl]
   refine Exists.elim (f_ (g:=tgT 2 (aD (tgN 4) (aD (tgN 5) b5))) (body:=mBr ((eT (aw (mOp fM (mOp au (aa 2) (aa 4)) (mC .non))) (aw (mOp cO (mC .non) (aV [2] 1 (bA (aa 5)) (tgN 1) br (mOp au (aa 0) (aa 1)))))))
  (ao (fR 2 (aa 4) (mOp aY (mC (.int (1))) (ak (p1 (fF c9)) (ad (aV [2] 1 (bA (aa 5)) (tgN 1) br (mOp au (aa 0) (aa 1))) aj))))
 (aI 3 (mC (.bl true))))
  aL) (fun k e=>∃r' g x4 x5,e=[some (.lst .bor (calms.map .bl)),some (.lst .bor (llL .bor Fw)),some (.lst .own (rL r')),some (.bl g),x4,x5]/\Rk Fw calms r'/\nns r'<=nns r/\(g=true->nns r' < nns r)/\(g=false->r'=r/\∀j < k,r[j]?=some none->∃y∈Fw.getD j [],r[y.toNat]?=some none)) it ⟨r,false,_,_,rfl,hr,Nat.le_refl _,nofun,fun _=>⟨rfl,fun j hj=>absurd hj (Nat.not_lt_zero _)⟩⟩ (fun k x e hx hP=>?_)) (fun e2 b=>?_)
   rotate_left
   ·obtain⟨b1,b2⟩:=b
    rw[fv,ez]at b2
    obtain⟨r',g,y4,y5,rfl,hr',_,g1,g2⟩:=b2
    have eb:=ag (a:=aI 3 (mC (.bl false))) (env:=[some (.lst .bor (calms.map .bl)),some (.lst .bor (llL .bor Fw)),some (.lst .own (rL r)),some (.bl true),x4,x5]) (aq (v:=.bl false) (by simp) (by simp) rfl) b1
    cases g with
    | true=>exact⟨nns r' + 1,_,by have:=hg1 rfl;have:=g1 rfl;omega,.inl eb,r',true,_,_,rfl,hr',fun _=>rfl,fun h=>by cases h⟩
    | false =>
     obtain⟨e3,cl⟩:=g2 rfl
     subst e3
     refine⟨0,_,by have:=hg1 rfl;omega,.inl eb,r',false,_,_,rfl,hr',nofun,fun _=>⟨rfl,fun k hk=>cl k ?_ hk⟩⟩
     rw[<- hr.len]
     exact(List.getElem?_eq_some_iff.mp hk).1
   ·obtain⟨r',g,x4,x5,rfl,hr',q0,q1,q2⟩:=hP
    rw[fw]at hx
    obtain⟨z,hz,rfl⟩:=Option.map_eq_some_iff.mp hx
    obtain⟨F,hkF,rfl⟩:=lO _ _ hz
    have kl:k < Fw.length:=(List.getElem?_eq_some_iff.mp hkF).1
    have eF:Fw.getD k []=F:=by simp[List.getD_eq_getElem?_getD,hkF]
    have cm:=on (x0:=some (.lst .bor (calms.map .bl))) (x1:=some (.lst .bor (llL .bor Fw))) (x3:=some (.bl g)) (x4:=some (.int k)) hr' W hkF (hF F (List.mem_of_getElem? hkF))
    obtain⟨o,ho⟩:∃o,r'[k]?=some o:=⟨_,List.getElem?_eq_getElem (by rw[hr'.len];exact kl)⟩
    have ix:∀f,au (.lst f (rL r')) (.int k)=.ok (rO o):=oN ho
    refine⟨[some (.lst .bor (calms.map .bl)),some (.lst .bor (llL .bor Fw)),some (.lst .own (rL r')),some (.bl g),some (.int k),some (.lst .bor (iL F))],?_⟩
    rw[Int.zero_add]
    cases o with
    | some v =>
     refine⟨_,rfl,.inl (bg (by simp[dy,ix,lT]) av),r',g,_,_,rfl,hr',q0,q1,fun h=>?_⟩
     obtain⟨e3,cl⟩:=q2 h
     refine⟨e3,fun j hj hn=>?_⟩
     by_cases e4:j=k
     ·rw[e4,<- e3,ho]at hn
      cases hn
     ·exact cl j (by omega) hn
    | none =>
     cases an:(F.map (og r')).any Option.isNone with
     | true =>
      refine⟨_,rfl,.inl (bg (by simp only[l_,l9,h8,qW,cm];simp[dy,ix,lT,m8,an,-List.any_map]) av),r',g,_,_,rfl,hr',q0,q1,fun h=>?_⟩
      obtain⟨e3,cl⟩:=q2 h
      refine⟨e3,fun j hj hn=>?_⟩
      by_cases e4:j=k
      ·rw[e4,eF]
       obtain⟨o,h1,h2⟩:=List.any_eq_true.mp an
       obtain⟨y,hy,rfl⟩:=List.mem_map.mp h1
       obtain⟨y0,y1⟩:=W.rng k kl y (by rw[eF];exact hy)
       refine⟨y,hy,?_⟩
       rw[<- e3,kI (by rw[hr'.len];exact y1)]
       cases h:og r' y with
       | none=>rfl
       | some v=>rw[h]at h2;simp at h2
      ·exact cl j (by omega) hn
     | false =>
      have e5:=ka an
      generalize(F.map (og r')).map (fun o=>o.getD 0)=l at e5
      have ne:l≠[]:=fun e=>by
       rw[e]at e5
       exact W.ne k (hr'.no k ho) (by rw[eF];exact List.map_eq_nil_iff.mp e5)
      have mx:fF c9 (.lst .own (iL l))=.ok (.int (c9 l)):=by
       unfold fF
       simp only[a_,dJ]
       rw[if_neg (by cases l<;>simp_all)]
      have st:=pI (1+c9 l) ho
      have ni:cO .non (.lst .own (iL l))=.ok (.bl true):=by rw[<- li,m8];simp
      rw[e5,li]at cm
      refine⟨_,rfl,.inl (d4 (by simp only[l_,l9,h8,qW,cm];simp[dy,ix,lT,ni]) (ag (jq (v:=.int (1+c9 l)) (xs:=rL r') (j:=k) (n:=k) (by simp only[h8,qW,fq,dG,fW,cm];simp[mx]) rfl (by simp) (i_ (by simp[rL,hr'.len];exact kl)) (by simp)) (aq (v:=.bl true) (by simp) (by simp) rfl))),?_⟩
      simp only[s0_,s1_,yJ]
      exact⟨_,true,_,_,rfl,hr'.step W ho (by rw[eF];exact e5),by omega,fun _=>by omega,fun h=>by cases h⟩
 ·obtain⟨r,x3,x4,x5,rfl,hr,cl⟩:=hP
  exact aZ (eE rfl) ⟨r,rfl,hr,cl⟩
theorem o7:∀r,(rL r).all smp=true
 | []=>rfl
 | o::r=>by
  have:=o7 r
  unfold rL at *
  rw[List.map_cons,List.all_cons,this]
  cases o<;>rfl
theorem jT:∀r:List (Option Int),(rL r).findIdx? (eqD .non)=r.findIdx? Option.isNone
 | []=>rfl
 | o::r=>by
  have:=jT r
  unfold rL at *
  rw[List.map_cons,List.findIdx?_cons,List.findIdx?_cons,this]
  cases o<;>rfl
theorem uc{r:List (Option Int)}(hl:r.length<=1000)(h:r.any Option.isNone=true)(f:Fl):∃j:Nat,cQ (.lst f (rL r)) .non=.ok (.int j)/\r[j]?=some none:=by
 unfold cQ
 simp only[lb,i5,o7,Bool.and_self,Bool.true_and,decide_eq_true_eq]
 rw[if_pos (by simp[rL];omega),jT]
 cases e:r.findIdx? Option.isNone with
 | none =>
  rw[List.findIdx?_eq_none_iff]at e
  obtain⟨o,h1,h2⟩:=List.any_eq_true.mp h
  rw[e o h1]at h2
  cases h2
 | some j =>
  refine⟨j,rfl,?_⟩
  obtain⟨h1,h2,_⟩:=List.findIdx?_eq_some_iff_getElem.mp e
  rw[List.getElem?_eq_getElem h1]
  cases h3:r[j]with
  | none=>rfl
  | some v=>rw[h3]at h2;cases h2
theorem lc:∀l:List Int,(iL l).all shp=true
 | []=>rfl
 | a::l=>by
  have:=lc l
  unfold iL at *
  rw[List.map_cons,List.all_cons,this]
  rfl
theorem k_:∀l:List Int,(iL l).all smp=true
 | []=>rfl
 | a::l=>by
  have:=k_ l
  unfold iL at *
  rw[List.map_cons,List.all_cons,this]
  rfl
theorem p6(a b:Int):eqD (.int a) (.int b)=(b==a):=rfl
theorem uI(l:List Int)(a:Int)(f:Fl):fO (.lst f (iL l)) (.int a)=.ok (.int (l.count a)):=by
 have:∀l:List Int,(iL l).countP (eqD (.int a))=l.count a:=fun l=>by
  induction l with
  | nil=>rfl
  | cons b l ih =>
   have e:iL (b::l)=.int b::iL l:=rfl
   rw[e,List.countP_cons,ih,p6,List.count_cons]
 unfold fO
 simp only[lc,k_,Bool.and_true,this]
 rfl
theorem ud{l:List Int}{a:Int}(hl:l.length<=1000)(h:a∈l)(f:Fl):∃j:Nat,cQ (.lst f (iL l)) (.int a)=.ok (.int j)/\l[j]?=some a/\∀i < j,l[i]?≠some a:=by
 have fi:∀l:List Int,(iL l).findIdx? (eqD (.int a))=l.findIdx? (·==a):=fun l=>by
  induction l with
  | nil=>rfl
  | cons b l ih =>
   have e:iL (b::l)=.int b::iL l:=rfl
   rw[e,List.findIdx?_cons,List.findIdx?_cons,ih,p6]
 unfold cQ
 simp only[lc,k_,Bool.and_true,Bool.and_eq_true,decide_eq_true_eq]
 rw[if_pos ⟨rfl,by simp;omega⟩,fi]
 cases e:l.findIdx? (·==a)with
 | none =>
  rw[List.findIdx?_eq_none_iff]at e
  have:=e a h
  simp at this
 | some j =>
  obtain⟨h1,h2,h3⟩:=List.findIdx?_eq_some_iff_getElem.mp e
  refine⟨j,rfl,?_,fun i hi q=>?_⟩
  ·rw[List.getElem?_eq_getElem h1,eq_of_beq h2]
  ·obtain⟨h4,h5⟩:=List.getElem?_eq_some_iff.mp q
   exact h3 i hi (by rw[h5];simp)
theorem ug{l:List Int}(h:l≠[])(f:Fl):au (.lst f (iL l)) (.int (-1))=.ok (.int (l.getLast h)):=by
 have hl:0 < l.length:=List.length_pos_iff.mpr h
 have hn:ixN (iL l).length (-1)=some (l.length - 1):=by
  unfold ixN
  simp
  omega
 have h1:(iL l)[l.length - 1]?=some (.int (l.getLast h)):=by
  rw[List.getLast_eq_getElem]
  simp[iL,show l.length - 1 < l.length by omega]
 have:atI (iL l) (-1)=some (.int (l.getLast h)):=by
  unfold atI
  rw[hn]
  exact h1
 unfold au
 simp only[a_]
 rw[this]
 simp
structure Wk(Fw:List (List Int))(r:List (Option Int))(l:List Int):Prop where
 ne:l≠[]
 un:∀y∈l,0<=y/\r[y.toNat]?=some none
 nx:∀i,i+1 < l.length->gt l (i+1)∈ Fw.getD (gt l i).toNat []
 nd:l.dropLast.Nodup
theorem lW{l:List Int}{a:Int}{i:Nat}(h:i < l.length):gt (l++[a]) i=gt l i:=by simp[gt,List.getElem?_append_left h]
theorem wH{l:List Int}{a:Int}:gt (l++[a]) l.length=a:=by simp[gt]
theorem pU{l:List Int}(h:l≠[]):gt l (l.length - 1)=l.getLast h:=by
 have hl:0 < l.length:=List.length_pos_iff.mpr h
 rw[List.getLast_eq_getElem]
 simp[gt,show l.length - 1 < l.length by omega]
theorem Wk.more{Fw:List (List Int)}{r:List (Option Int)}{l:List Int}(h:Wk Fw r l)(hn:l.Nodup){y:Int}(hy:y∈Fw.getD (l.getLast h.ne).toNat [])(hy0:0<=y)(hr:r[y.toNat]?=some none):Wk Fw r (l++[y]):=by
 have hl:0 < l.length:=List.length_pos_iff.mpr h.ne
 refine⟨by simp,fun a ha=>?_,fun i hi=>?_,by simpa using hn⟩
 ·rcases List.mem_append.mp ha with ha | ha
  ·exact h.un a ha
  ·rw[List.mem_singleton.mp ha]
   exact⟨hy0,hr⟩
 ·rw[List.length_append,List.length_singleton]at hi
  by_cases e:i+1 < l.length
  ·rw[lW e,lW (by omega)]
   exact h.nx i e
  ·have:i=l.length - 1:=by omega
   subst this
   rw[show l.length - 1+1=l.length by omega,wH,lW (by omega),pU h.ne]
   exact hy
theorem jZ{l:List Int}(h:l≠[]):l.count (l.getLast h)=l.dropLast.count (l.getLast h)+1:=by
 have e:=List.dropLast_concat_getLast h
 generalize l.getLast h=a at *
 rw[<- e,List.count_append]
 simp
theorem uE{l:List Int}(h:l≠[])(hd:l.dropLast.Nodup)(hc:l.count (l.getLast h)=1):l.Nodup:=by
 have e:=List.dropLast_concat_getLast h
 rw[<- e,List.nodup_append]
 refine⟨hd,by simp,fun a ha b hb q=>?_⟩
 rw[List.mem_singleton.mp hb]at q
 have:=jZ h
 have h2:0 < l.dropLast.count (l.getLast h):=List.count_pos_iff.mpr (by rw[<- q];exact ha)
 omega
theorem mU{Fw:List (List Int)}{cs:List Bool}{r:List (Option Int)}(W:vg Fw cs)(hr:Rk Fw cs r)(cl:Cl Fw r)(hl:Fw.length<=256)(hF:∀F∈Fw,F.length<=1000)(hn:r.any Option.isNone=true) :
  ∃wl:List Int,pZ [.lst .bor (rL r),.lst .bor (llL .bor Fw)]=.ok (.lst .own (iL wl))/\2<=wl.length/\wl.length<=257/\(∀y∈wl,0<=y/\r[y.toNat]?=some none)/\(∀i,i+1 < wl.length->gt wl (i+1)∈ Fw.getD (gt wl i).toNat [])/\gt wl 0=gt wl (wl.length - 1):=by
 have rl:=hr.len
 have wlen:∀{l:List Int},Wk Fw r l->l.length<=257:=fun {l} h=>by
  have:=kJ (l':=(List.range Fw.length).map fun k:Nat=>(k:Int)) h.nd fun x hx=>by
   obtain⟨h1,h2⟩:=h.un x ((List.dropLast_sublist l).subset hx)
   have:=(List.getElem?_eq_some_iff.mp h2).1
   exact List.mem_map.mpr ⟨x.toNat,List.mem_range.mpr (by omega),by omega⟩
  rw[List.length_dropLast,List.length_map,List.length_range]at this
  omega
 suffices hh:d9 (uZ [some (.lst .bor (rL r)),some (.lst .bor (llL .bor Fw)),none]) (fun v=>∃wl:List Int,v=.lst .own (iL wl)/\2<=wl.length/\wl.length<=257/\(∀y∈wl,0<=y/\r[y.toNat]?=some none)/\(∀i,i+1 < wl.length->gt wl (i+1)∈ Fw.getD (gt wl i).toNat [])/\gt wl 0=gt wl (wl.length - 1)) by
  obtain⟨v,h1,wl,rfl,h2⟩:=hh
  exact⟨wl,aA h1,h2⟩
 unfold uZ
 obtain⟨j0,ij,rj⟩:=uc (by omega) hn .bor
 refine az (aq (v:=.lst .own (iL [(j0:Int)])) (by simp[dW,dy,ij]) (by simp) rfl) ?_
 simp only[s0_,s1_]
 refine jv (Fin:=fun e=>∃l,e=[some (.lst .bor (rL r)),some (.lst .bor (llL .bor Fw)),some (.lst .own (iL l))]/\∃h:Wk Fw r l,l.count (l.getLast h.ne)≠ 1) (fun m e=>∃l,e=[some (.lst .bor (rL r)),some (.lst .bor (llL .bor Fw)),some (.lst .own (iL l))]/\Wk Fw r l/\m=258 - l.length) 257 (by decide)
  ⟨[(j0:Int)],rfl,⟨by simp,fun y hy=>by rw[List.mem_singleton.mp hy];exact⟨by omega,by simpa using rj⟩,fun i hi=>by simp at hi,by simp⟩,rfl⟩ (fun m e hP=>?_) (fun e hP=>?_)
 ·obtain⟨l,rfl,hw,rfl⟩:=hP
  have hll:=wlen hw
  have i1:=fun f=>ug hw.ne f
  have ct:(aw (mOp pEq (dW fO (aa 2) (mOp au (aa 2) (mUn jC (mC (.int (1)))))) (mC (.int (1))))) [some (.lst .bor (rL r)),some (.lst .bor (llL .bor Fw)),some (.lst .own (iL l))]=.ok (decide (l.count (l.getLast hw.ne)=1)):=by
   simp[dW,i1,uI]
   omega
  by_cases hc:l.count (l.getLast hw.ne)=1
  ·refine .inr ⟨by rw[ct,decide_eq_true hc],?_⟩
   obtain⟨y0,ry⟩:=hw.un _ (List.getLast_mem hw.ne)
   obtain⟨y,hy,hyr⟩:=cl _ ry
   have kl:(l.getLast hw.ne).toNat < Fw.length:=by rw[<- rl];exact(List.getElem?_eq_some_iff.mp ry).1
   have eF:Fw[(l.getLast hw.ne).toNat]?=some (Fw.getD (l.getLast hw.ne).toNat []):=by simp[List.getD_eq_getElem?_getD,kl]
   have rng:=W.rng _ kl
   have hFl:=hF _ (List.mem_of_getElem? eF)
   generalize eG:Fw.getD (l.getLast hw.ne).toNat []=F at *
   have ix:au (.lst .bor (llL .bor Fw)) (.int (l.getLast hw.ne))=.ok (.lst .bor (iL F)):=by
    have:=bf (x:=.lst .bor (llL .bor Fw)) (k:=(l.getLast hw.ne).toNat) (y:=.lst .bor (iL F)) rfl (by simp[llL,eF]) (by simp)
    rwa [Int.toNat_of_nonneg y0]at this
   have cp:(aV [0] 1 (bA (mOp au (aa 1) (mOp au (aa 2) (mUn jC (mC (.int (1))))))) (tgN 1) (aw (mOp fM (mOp au (aa 0) (aa 1)) (mC .non))) (aa 1)) [some (.lst .bor (rL r)),some (.lst .bor (llL .bor Fw)),some (.lst .own (iL l))]=.ok (.lst .own (iL (F.filter fun y=>(og r y).isNone))):=by
    refine bF (xs:=iL F) (by simp[i1,ix]) (by simp;omega) ?_
    have:=nM (env:=bT [0] 1 [some (.lst .bor (rL r)),some (.lst .bor (llL .bor Fw)),some (.lst .own (iL l))]) (g:=tgN 1) (mc:=aw (mOp fM (mOp au (aa 0) (aa 1)) (mC .non))) (me:=aa 1) (fun y=>(og r y).isNone) (fun y=>y) F fun x hx=>⟨[some (.lst .bor (rL r)),some (.int x)],by simp[tgN,a7,bT,PV.borrow,dy],?_,fun _=>by simp⟩
    ·simpa using this
    ·obtain⟨x0,x1⟩:=rng x hx
     have:=oN (kI (r:=r) (y:=x) (by omega)) .bor
     rw[Int.toNat_of_nonneg x0]at this
     simp[dy,this,lT]
   obtain⟨b,G,eB⟩:∃b G,F.filter (fun y=>(og r y).isNone)=b::G:=by
    have:y ∈ F.filter fun y=>(og r y).isNone:=List.mem_filter.mpr ⟨hy,by
     have:=kI (r:=r) (y:=y) ((List.getElem?_eq_some_iff.mp hyr).1)
     rw[hyr]at this
     rw[<- Option.some.inj this]
     rfl⟩
    cases e:F.filter (fun y=>(og r y).isNone)with
    | nil=>rw[e]at this;exact nomatch this
    | cons b G=>exact⟨b,G,rfl⟩
   obtain⟨hb1,hb2⟩:=List.mem_filter.mp (show b∈F.filter (fun y=>(og r y).isNone) by rw[eB];exact List.mem_cons_self)
   obtain⟨b0,b1⟩:=rng b hb1
   have hbr:r[b.toNat]?=some none:=by
    rw[kI (by omega)]
    cases h:og r b with
    | none=>rfl
    | some v=>rw[h]at hb2;cases hb2
   rw[eB]at cp
   have ib:au (.lst .own (iL (b::G))) (.int 0)=.ok (.int b):=by simpa[gt]using c_ (f:=.own) (cs:=b::G) (i:=0) (by omega) (by simp)
   refine⟨_,_,?_,.inl (dL (v:=.int b) (xs:=iL l) (by simp only[h8,cp];simpa using ib) rfl (by simp) (by simp;omega)),l++[b],by simp[iL],hw.more (uE hw.ne hw.nd hc) (by rw[eG];exact hb1) b0 hbr,rfl⟩
   rw[List.length_append,List.length_singleton]
   omega
  ·exact .inl ⟨by rw[ct,decide_eq_false hc],l,rfl,hw,hc⟩
 ·obtain⟨l,rfl,hw,hc⟩:=hP
  have hll:=wlen hw
  have hl0:0 < l.length:=List.length_pos_iff.mpr hw.ne
  obtain⟨j,pj,lj,jm⟩:=ud (by omega) (List.getLast_mem hw.ne) .lnt
  have jl:j < l.length:=(List.getElem?_eq_some_iff.mp lj).1
  have j2:j < l.length - 1:=by
   have cp:0 < l.count (l.getLast hw.ne):=List.count_pos_iff.mpr (List.getLast_mem hw.ne)
   have e2:=jZ hw.ne
   have h2:l.getLast hw.ne∈l.dropLast:=List.count_pos_iff.mp (by omega)
   obtain⟨i,hi⟩:=List.getElem?_of_mem h2
   have il:=(List.getElem?_eq_some_iff.mp hi).1
   rw[List.length_dropLast]at il
   have:l[i]?=some (l.getLast hw.ne):=by
    rw[<- hi,List.getElem?_dropLast,if_pos il]
   refine Nat.lt_of_le_of_lt (Nat.le_of_not_lt fun q=>jm i q this) il
  have gd:∀i,gt (l.drop j) i=gt l (j+i):=fun i=>by simp[gt]
  refine aZ (ba (v:=.lst .own (iL (l.drop j))) ?_ (by simp)) ⟨l.drop j,rfl,by rw[List.length_drop];omega,by rw[List.length_drop];omega,fun y hy=>hw.un y (List.mem_of_mem_drop hy),fun i hi=>?_,?_⟩
  ·have:=qX l j (by omega)
   simp[dW,ug hw.ne,pj,this]
  ·rw[List.length_drop]at hi
   rw[gd,gd]
   exact hw.nx (j+i) (by omega)
  ·rw[gd,gd,List.length_drop,show j+(l.length - j - 1)=l.length - 1 by omega,pU hw.ne,Nat.add_zero]
   simp[gt,lj]
structure RkA(z:Pz)(R:List Int):Prop where
 len:R.length=z.N
 ok:∀k < z.N,gt R k=if z.cal (z.dg k)then 0 else 1+c9 ((z.fol (z.dg k)).map fun y=>gt R y.toNat)
structure RdA(z:Pz)(wl:List Int):Prop where
 l2:2<=wl.length
 l7:wl.length<=257
 un:∀y∈wl,0<=y/\y.toNat < z.N/\z.cal (z.dg y.toNat)=false
 nx:∀i,i+1 < wl.length->gt wl (i+1)∈ z.fol (z.dg (gt wl i).toNat)
 ro:gt wl 0=gt wl (wl.length - 1)
def rdV(z:Pz)(f:Fl)(wl:List Int):List PV:=llL f (wl.map fun y=>z.dg y.toNat)
inductive Ans(z:Pz):PV->Prop
 | lv (k:Nat) (nm:List Int):k < z.N->z.lvC (z.dg k)=some nm->(∀j < k,z.lvC (z.dg j)=none)->Ans z (.tup [.str "leaves", .lst .own (iL (z.dg k)),.lst .frz (iL nm)])
 | sk (k:Nat):(∀j < z.N,z.lvC (z.dg j)=none)->k < z.N->z.skC (z.dg k)=true->(∀j < k,z.skC (z.dg j)=false)->Ans z (.tup [.str "stuck", .lst .own (iL (z.dg k))])
 | rd (wl:List Int):(∀j < z.N,z.lvC (z.dg j)=none)->(∀j < z.N,z.skC (z.dg j)=false)->RdA z wl->Ans z (.tup [.str "round", .lst .own (rdV z .own wl)])
 | rk (R:List Int):(∀j < z.N,z.lvC (z.dg j)=none)->(∀j < z.N,z.skC (z.dg j)=false)->RkA z R->Ans z (.tup [.str "calm", .lst .own (iL R)])
section
variable{z:Pz}
theorem ke:z.Fw.length=z.N:=by simp[Pz.Fw,d5]
theorem qg{k:Nat}(h:k < z.N):z.Fw.getD k []=z.fol (z.dg k):=by simp[Pz.Fw,List.getD_eq_getElem?_getD,kc h]
theorem lY(K:z.K){k:Nat}{y:Int}(hy:y∈z.fol (z.dg k)):0<=y/\y.toNat < z.N:=by
 obtain⟨nm,_,rfl⟩:=List.mem_map.mp hy
 obtain⟨h0,h1,_⟩:=oT K (k8 K (kP K (k:Int)) nm)
 exact⟨h0,h1⟩
theorem n0(K:z.K)(cs:List Int):(z.tr cs).length<=256:=o3 K.n8
theorem pV(K:z.K):∀F∈z.Fw,F.length<=1000:=fun F hF=>by
 obtain⟨cs,_,rfl⟩:=List.mem_map.mp hF
 have:=n0 K cs
 simp only[Pz.fol,List.length_map]
 omega
theorem CL(K:z.K)(hs:∀k < z.N,z.skC (z.dg k)=false):vg z.Fw z.cm:=by
 refine⟨fun k hk y hy=>?_,fun k hk q=>?_,by rw[j4,ke]⟩
 ·rw[ke]at hk ⊢
  rw[qg hk]at hy
  exact lY K hy
 ·have kl:k < z.N:=by rw[<- j4];exact(List.getElem?_eq_some_iff.mp hk).1
  rw[fH kl]at hk
  have h1:=hs k kl
  unfold Pz.skC at h1
  rw[Option.some.inj hk]at h1
  rw[qg kl]at q
  rw[List.map_eq_nil_iff.mp q]at h1
  simp at h1
theorem uf(a b:PV)(h:b.has Fl.isOwn=false):au (.tup [a,b]) (.int 1)=.ok b:=bf (x:=.tup [a,b]) (k:=1) (y:=b) rfl rfl h
theorem yF(K:z.K)(hv:∀k < z.N,z.lvC (z.dg k)=none)(hs:∀k < z.N,z.skC (z.dg k)=false):∃v,z0 [z.T,.lst .bor z.cmV,.lst .frz (z.wy .frz)]=.ok v/\Ans z v:=by
 have hN:=rh K
 have W:=CL K hs
 obtain⟨r,hr,Rr,cl⟩:=sw W (by rw[ke];omega) (pV K)
 suffices hh:d9 (AJ [some z.T,some (.lst .bor z.cmV),some (.lst .frz (z.wy .frz)),none,none]) (Ans z) by
  obtain⟨v,h1,h2⟩:=hh
  exact⟨v,aA h1,h2⟩
 unfold AJ
 have cp:aV [0] 1 (bA (aa 2)) (tgN 1) br (aV [0] 1 (bA (aa 1)) (tgN 1) br (ak (ax ut) (ad (aa 0) (ad (mOp au (aa 1) (mC (.int (1)))) aj)))) [some z.T,some (.lst .bor z.cmV),some (.lst .frz (z.wy .frz)),none,none]=.ok (.lst .own (llL .own z.Fw)):=by
  refine bF (xs:=z.wy .frz) (by simp[im (g:=Fl.lend) (f:=.frz) rfl]) (by rw[nW];omega) ?_
  rw[show llL .own z.Fw=z.St.map fun cs=>PV.lst .own (iL (z.fol cs)) by simp[llL,Pz.Fw]]
  refine bv (a:=fun cs=>PV.lst .frz (z.nx .frz cs)) (f:=fun cs=>PV.lst .own (iL (z.fol cs))) z.St fun cs hcs=>⟨[some z.T,some (.lst .frz (z.nx .frz cs))],by simp[tgN,a7,bT,PV.borrow,Pz.nx,jE (g:=Fl.borrow) (f:=.frz) rfl],?_,by simp,by simp⟩
  have tl:=n0 K cs
  refine bF (xs:=z.nx .frz cs) (by simp[Pz.nx,jE (g:=Fl.lend) (f:=.frz) rfl]) (by rw[oA];omega) ?_
  rw[show iL (z.fol cs)=(z.tr cs).map fun nm=>PV.int (z.nu cs nm) by simp[Pz.fol,iL]]
  refine bv (a:=fun nm=>PV.tup [.lst .frz (iL nm),.lst .frz (iL (z.sp cs nm))]) (f:=fun nm=>PV.int (z.nu cs nm)) (z.tr cs) fun nm hm=>⟨[some z.T,some (.tup [.lst .frz (iL nm),.lst .frz (iL (z.sp cs nm))])],by simp[tgN,a7,bT,PV.borrow],?_,by simp,by simp⟩
  have nk:=gX (w:=z.w) (fc:=.frz) (cs:=z.sp cs nm) fB K
  have it:=uf (.lst .frz (iL nm)) (.lst .frz (iL (z.sp cs nm))) (by simp)
  simp[it,nk,aJ]
 have hcm:∀g,mapL g z.cmV=z.cmV:=fun g=>cA g _
 refine az (aq cp (by simp only[cz,cU];rw[aQ _ _ _ rfl];rfl) rfl) ?_
 simp only[s0_,s1_]
 have hr':wN [.lst .bor z.cmV,.lst .bor (llL .bor z.Fw)]=.ok (.lst .own (rL r)):=hr
 refine az (aq (v:=.lst .own (rL r)) (by simp[hcm,hr',aJ,lm]) (by simp[lm]) rfl) ?_
 simp only[s0_,s1_]
 have ni:∀f,pIn .non (.lst f (rL r))=.ok (.bl (r.any Option.isNone)):=fun f=>CG r f
 cases an:r.any Option.isNone with
 | true =>
  obtain⟨wl,h1,h2,h3,h4,h5,h6⟩:=mU W Rr cl (by rw[ke];exact hN) (pV K) an
  rw[an]at ni
  have un:∀y∈wl,0<=y/\y.toNat < z.N/\z.cal (z.dg y.toNat)=false:=fun y hy=>by
   obtain⟨a,b⟩:=h4 y hy
   have c:=Rr.no _ b
   have kl:y.toNat < z.N:=by rw[<- j4];exact(List.getElem?_eq_some_iff.mp c).1
   rw[fH kl]at c
   exact⟨a,kl,Option.some.inj c⟩
  have cp:(aV [0] 1 (bA (ak (ax pZ) (ad (aa 4) (ad (aa 3) aj)))) (tgN 1) br (ak (ax iQ) (ad (aa 0) (ad (aa 1) aj)))) [some z.T,some (.lst .bor z.cmV),some (.lst .frz (z.wy .frz)),some (.lst .own (llL .own z.Fw)),some (.lst .own (rL r))]=.ok (.lst .own (rdV z .own wl)):=by
   refine bF (xs:=iL wl) (by simp[dy,h1,aJ]) (by simp;omega) ?_
   rw[show rdV z .own wl=wl.map fun y=>PV.lst .own (iL (z.dg y.toNat)) by simp[rdV,llL]]
   refine bv (a:=PV.int) (f:=fun y=>PV.lst .own (iL (z.dg y.toNat))) wl fun y hy=>⟨[some z.T,some (.int y)],by simp[tgN,a7,bT,PV.borrow],?_,by simp,by simp⟩
   have:=eA (w:=z.w) K y
   simp[this,aJ,Pz.dg,Int.toNat_of_nonneg (un y hy).1]
  refine eP (by simp[dy,ni]) (aZ (v:=.tup [.str "round", .lst .own (rdV z .own wl)]) (ba (by simp only[z6,dG,qW,fW,cp];simp) (by simp[rdV,aQ _ Fl.isLnt .own rfl])) (.rd wl hv hs ⟨h2,h3,un,fun i hi=>?_,h6⟩))
  have:=h5 i hi
  rwa [qg (un _ (bQ (by omega))).2.1]at this
 | false =>
  rw[an]at ni
  refine az (bg (by simp[dy,ni]) av) ?_
  have e2:=ka an
  generalize(r.map fun o=>o.getD 0)=R at e2
  subst e2
  rw[li]
  have rl:=Rr.len
  rw[List.length_map,ke]at rl
  have ge:∀k,k < z.N->(R.map some)[k]?=some (some (gt R k)):=fun k hk=>by simp[gt,show k < R.length by omega]
  refine aZ (v:=.tup [.str "calm", .lst .own (iL R)]) (by simp[lK]) (.rk R hv hs ⟨rl,fun k hk=>?_⟩)
  rcases Rr.ok k _ (ge k hk)with⟨h1,h2⟩ |⟨h1,l,h2,h3⟩
  ·rw[fH hk]at h1
   rw[if_pos (Option.some.inj h1),h2]
  ·rw[fH hk]at h1
   rw[if_neg (by rw[Option.some.inj h1];decide),h3,<- show l=(z.fol (z.dg k)).map (fun y=>gt R y.toNat)from ?_]
   rw[qg hk]at h2
   have:(z.fol (z.dg k)).map (og (R.map some))=((z.fol (z.dg k)).map fun y=>gt R y.toNat).map some:=by
    rw[List.map_map]
    refine List.map_congr_left fun y hy=>?_
    have:=kI (r:=R.map some) (y:=y) (by rw[List.length_map,rl];exact(lY K hy).2)
    rw[ge _ (lY K hy).2]at this
    exact(Option.some.inj this).symm
   rw[this]at h2
   exact(List.map_inj_right (fun _ _ h=>Option.some.inj h)).mp h2.symm
theorem Ans.own{v:PV}(h:Ans z v)(p:Fl->Bool)(h1:p .own=false)(h2:p .frz=false):v.has p=false:=by
 cases h<;>simp[h1,h2,rdV,aQ _ p .own h1]
theorem Ans.mm{v:PV}(h:Ans z v):(v.mapF Fl.lend).mapF Fl.toBor=v.mapF fun g=>g.lend.toBor:=by cases h<;>simp[rdV,bx]
theorem pP(K:z.K)(h4:z.many=true->z.n<=4):∃v,jU [z.T,.bl z.many]=.ok v/\Ans z v:=by
 have hN:=rh K
 have s2:=K.s2
 have pp:0 < z.s ^ z.n:=Int.pow_pos (by omega)
 suffices hh:d9 (uR [some z.T,some (.bl z.many),none,none,none,none]) (Ans z) by
  obtain⟨v,h1,h2⟩:=hh
  exact⟨v,aA h1,h2⟩
 unfold uR
 refine az (fA (v:=.non) (by simp[fL,aJ])) ?_
 refine az (fA (v:=.non) (by simp[iT K h4,aJ])) ?_
 have hS:z.s ^ z.n=(z.N:Int):=by show _=(((z.s ^ z.n).toNat:Nat):Int);omega
 have st:=gF (w:=z.w) K
 rw[hS]at st
 have c1:aV [0] 1 (bO (ad (ak (ax ur) (ad (aa 0) aj)) aj)) (tgN 1) br (ak (ax iQ) (ad (aa 0) (ad (aa 1) aj))) [some z.T,some (.bl z.many),none,none,none,none]=.ok (.lst .own (llL .own z.St)):=by
  refine bF (xs:=cN 0 z.N) (b9 (n:=z.N) (by simp[st,aJ]) (by omega)) (by rw[bM];omega) ?_
  rw[show llL .own z.St=(List.range z.N).map fun k:Nat=>PV.lst .own (iL (z.dg k)) by simp[llL,Pz.St]]
  exact bv (a:=fun k:Nat=>PV.int (0+(k:Int))) (f:=fun k:Nat=>PV.lst .own (iL (z.dg k))) (List.range z.N) fun k hk=>⟨[some z.T,some (.int (0+(k:Int)))],by simp[tgN,a7,bT,PV.borrow],by simp[eA K,aJ],by simp,by simp⟩
 have sl:z.St.length<=256:=by rw[d5];exact hN
 have sm:∀cs∈z.St,Ce z.n z.s cs:=fun cs h=>by
  obtain⟨k,_,rfl⟩:=List.mem_map.mp h
  exact kP K k
 refine az (aq c1 (by simp only[cz,cU];rw[aQ _ _ _ rfl];rfl) rfl) ?_
 simp only[s0_,s1_]
 have c2:aV [0] 1 (bA (aa 2)) (tgN 1) br (g6 dH (aa 0) (ad (aa 1) aj)) [some z.T,some (.bl z.many),some (.lst .own (llL .own z.St)),none,none,none]=.ok (.lst .own z.cmV):=by
  refine bF (xs:=llL .lnt z.St) (by simp) (by simp;omega) ?_
  rw[show z.cmV=z.St.map fun cs=>PV.bl (z.cal cs) by simp only[Pz.cmV,Pz.cm,List.map_map];rfl]
  exact bv (a:=fun cs=>PV.lst .lnt (iL cs)) (f:=fun cs=>PV.bl (z.cal cs)) z.St fun cs hcs=>⟨[some z.T,some (.lst .bor (iL cs))],by simp[tgN,a7,bT,PV.borrow],by simp[dH,w_ j9 K (sm cs hcs),aJ],by simp,by simp⟩
 have hcm:∀g,mapL g z.cmV=z.cmV:=fun g=>cA g _
 have hch:∀p,hasL p z.cmV=false:=fun p=>qe p _
 refine az (aq c2 (by simp[hch]) rfl) ?_
 simp only[s0_,s1_]
 have c3:aV [0,1] 1 (bA (aa 2)) (tgN 2) br (ak (ax pX) (ad (aa 0) (ad (aa 2) (ad (aa 1) aj)))) [some z.T,some (.bl z.many),some (.lst .own (llL .own z.St)),some (.lst .own z.cmV),none,none]=.ok (.lst .own (z.wy .own)):=by
  refine bF (xs:=llL .lnt z.St) (by simp) (by simp;omega) ?_
  refine bv (a:=fun cs=>PV.lst .lnt (iL cs)) (f:=fun cs=>PV.lst .own (z.nx .own cs)) z.St fun cs hcs=>⟨[some z.T,some (.bl z.many),some (.lst .bor (iL cs))],by simp[tgN,a7,bT,PV.borrow],?_,?_,?_⟩
  ·simp[tH j9 K (sm cs hcs),aJ,gu (p:=Fl.isBor) (f:=.own) rfl rfl,Pz.nx]
  ·simp[gu (p:=Fl.isBor) (f:=.own) rfl rfl,Pz.nx]
  ·simp[gu (p:=Fl.isLnt) (f:=.own) rfl rfl,Pz.nx]
 refine az (aq c3 (by simp[nX (p:=Fl.isLnt) (f:=.own) rfl rfl]) rfl) ?_
 simp only[s0_,s1_]
 refine az (dZ (v:=.lst .own (z.wy .own)) rfl) ?_
 simp only[s0_,s1_,bN,im (g:=Fl.freeze) (f:=.own) rfl,bI]
 have wl:=im (z:=z) (g:=Fl.lend) (f:=.frz) rfl
 have wt:=im (z:=z) (g:=Fl.toBor) (f:=.frz) rfl
 simp only[jM,io]at wl wt
 obtain⟨r1,e1,h1⟩:=oJ K
 have b1:∀p:Fl->Bool,p .own=false->p .frz=false->r1.has p=false:=fun p q1 q2=>by
  rcases h1 with⟨rfl,_⟩ |⟨k,nm,_,_,_,rfl⟩<;>simp[q1,q2]
 refine az (aq (v:=r1) (by simp[wl,wt,hcm,e1,aJ,b1 Fl.isBor rfl rfl]) (by simp[b1 Fl.isLnt rfl rfl]) rfl) ?_
 simp only[s0_,s1_]
 rcases h1 with⟨rfl,hv⟩ |⟨k,nm,hk,g1,g2,rfl⟩
 ·obtain⟨r2,e2,h2⟩:=rH K
  have b2:∀p:Fl->Bool,p .own=false->p .frz=false->r2.has p=false:=fun p q1 q2=>by
   rcases h2 with⟨rfl,_⟩ |⟨k,_,_,_,rfl⟩<;>simp[q1,q2]
  refine az (d4 (by simp[fM,PV.isNon]) (aq (v:=r2) (by simp[wl,wt,hcm,e2,aJ,b2 Fl.isBor rfl rfl]) (by simp[b2 Fl.isLnt rfl rfl]) rfl)) ?_
  simp only[s0_,s1_]
  rcases h2 with⟨rfl,hs⟩ |⟨k,hk,g1,g2,rfl⟩
  ·obtain⟨v,e3,h3⟩:=yF K hv hs
   refine az (d4 (by simp[fM,PV.isNon]) (aq (v:=v) (by simp[wl,wt,hcm,e3,aJ,h3.own Fl.isBor rfl rfl]) (by simp[h3.own Fl.isLnt rfl rfl]) rfl)) ?_
   simp only[s0_,s1_]
   exact aZ (eE rfl) h3
  ·refine az (bg (by simp[fM,PV.isNon]) av) ?_
   exact aZ (eE rfl) (.sk k hv hk g1 g2)
 ·refine az (bg (by simp[fM,PV.isNon]) av) ?_
  refine az (bg (by simp[fM,PV.isNon]) av) ?_
  exact aZ (eE rfl) (.lv k nm hk g1 g2)
end
theorem pT{f:Fl}{xs:List PV}{k:Nat}{y:PV}(h:xs[k]?=some y):fN (.lst f xs) (.int k)=.ok y:=by
 obtain⟨hl,rfl⟩:=List.getElem?_eq_some_iff.mp h
 simp[fN,a_,atI,ixN,hl]
theorem CQ(F:Nat->Int)(k:Nat):iL ((List.range k).map F)++ [PV.int (F k)]=iL ((List.range (k+1)).map F):=by
 rw[List.range_succ]
 simp[iL]
theorem w4{fc:Fl}(hB:Bf fc){n:Nat}{sp:Int}{fs os cs:List Int}(n2:2<=n)(n8:n<=8)(h1:2<=sp)(h2:sp<=4)(hf:cV sp fs)(ho:cV sp os)(hn:cs.length=n)(hc:InC sp cs):uy [.lst fc (iL cs),.int sp,.lst .bor (iL fs),.lst .bor (iL os)]=.ok (.lst .own (iL ((List.range n).map (bK n sp fs os cs)))):=by
 refine aA ?_
 show uX [some (.lst fc (iL cs)),some (.int sp),some (.lst .bor (iL fs)),some (.lst .bor (iL os)),none,none,none,none,none]=_
 unfold uX
 have np:(0:Int) < n:=by omega
 have ix:∀(k:Nat),k < n->au (.lst fc (iL cs)) (.int (k:Int))=.ok (.int (gt cs k)):=fun k hk=>by simpa using c_ (f:=fc) (cs:=cs) (i:=k) (by omega) (by omega)
 have ixl:au (.lst fc (iL cs)) (.int (-1))=.ok (.int (gt cs (n - 1))):=by
  unfold au
  simp only[a_]
  have:atI (iL cs) (-1)=some (.int (gt cs (n - 1))):=by
   unfold atI
   have e:ixN (iL cs).length (-1)=some (n - 1):=by
    rw[di,hn]
    unfold ixN
    rw[if_neg (by omega),if_pos (by omega)]
    congr 1
    omega
   rw[e]
   simp[iL,gt,show n - 1 < cs.length by omega]
  rw[this]
  simp
 refine ag (aq (v:=.lst .own []) (by simp) (by simp) rfl) ?_
 simp only[s0_,s1_]
 refine ce (fun k e=>∃x5 x6 x7 x8,e=[some (.lst fc (iL cs)),some (.int sp),some (.lst .bor (iL fs)),some (.lst .bor (iL os)),some (.lst .own (iL ((List.range k).map (bK n sp fs os cs)))),x5,x6,x7,x8]) (b9 (n:=n) (by simp[hB.le,hn]) (by omega)) ⟨_,_,_,_,rfl⟩ (fun k x e hx hP=>?_) (fun e hP=>?_)
 ·obtain⟨x5,x6,x7,x8,rfl⟩:=hP
  obtain⟨hk,rfl⟩:=cM hx
  have ll:lft n k < n:=by unfold lft;split<;>omega
  have rl:rgt n k < n:=by unfold rgt;split<;>omega
  have lx:au (.lst fc (iL cs)) (.int ((k:Int) - 1))=.ok (.int (gt cs (lft n k))):=by
   unfold lft
   by_cases e:k=0
   ·rw[if_pos e,e];exact ixl
   ·rw[if_neg e,<- ix (k - 1) (by omega)]
    congr 2
    omega
  have rx:((k:Int)+1) % (n:Int)=(rgt n k:Nat):=by
   unfold rgt
   split
   ·rw[Int.emod_eq_of_lt (by omega) (by omega)];omega
   ·have:(k:Int)+1=n:=by omega
    rw[this,Int.emod_self];rfl
  have pin:=lu h1 h2 (hc _ (bQ (far:=cs) (i:=k) (by omega))) (hc _ (bQ (far:=cs) (i:=lft n k) (by omega))) (hc _ (bQ (far:=cs) (i:=rgt n k) (by omega)))
  obtain⟨q1,q2,q3⟩:=ow (c:=gt cs k) (l:=gt cs (lft n k)) (r:=gt cs (rgt n k)) h1 h2
  have tf:=(ip hf pin).2 .bor
  have to:=(ip ho pin).2 .bor
  refine⟨_,cq rfl,?_⟩
  simp only[s0_,s1_,Int.zero_add]
  refine aX (aq (v:=.int (gt cs (lft n k))) (by simp[hB.le,lx]) (by simp) rfl) ?_
  simp only[s0_,s1_]
  refine aX (aq (v:=.int (gt cs (rgt n k))) (by simp[hB.le,hn,a9 np,rx,ix _ rl]) (by simp) rfl) ?_
  simp only[s0_,s1_]
  refine aX (aq (v:=.int (plc sp (gt cs k) (gt cs (lft n k)) (gt cs (rgt n k)))) (by simp[hB.le,ix _ hk,q1,q2,q3,plc]) (by simp) rfl) ?_
  simp only[s0_,s1_]
  refine aR (dL (v:=.int (bK n sp fs os cs k)) (xs:=iL ((List.range k).map (bK n sp fs os cs))) ?_ rfl (by simp) (by simp;omega)) ⟨_,_,_,_,by simp only[s0_,s1_];rw[CQ]⟩
  have o0:fN (.lst .own [.lst .bor (iL os),.lst .bor (iL fs)]) (.int 0)=.ok (.lst .bor (iL os)):=pT (k:=0) rfl
  have o1:fN (.lst .own [.lst .bor (iL os),.lst .bor (iL fs)]) (.int 1)=.ok (.lst .bor (iL fs)):=pT (k:=1) rfl
  unfold bK
  by_cases e:k=0
  ·simp[e,p1,cP,o1]
   rw[e]at tf
   exact tf
  ·simp[e,p1,cP,o0,to]
 ·obtain⟨x5,x6,x7,x8,rfl⟩:=hP
  rw[bM]
  exact eE rfl
theorem kx:∀l:List Int,gC (iL l) (iL l)=l.map fun x=>PV.tup [.int x,.int x]
 | []=>rfl
 | x::l=>by
  have:=kx l
  simp only[iL,List.map_cons,gC]at this ⊢
  rw[this]
theorem lE{f g:Fl}(hf:Bf f)(hg:Bf g)(l:List Int)(hl:l.length<=1000):qT [.lst f (iL l),.lst g (iL l)]=.ok (.bl true):=by
 refine aA (v:=.bl true) ?_
 show AB [some (.lst f (iL l)),some (.lst g (iL l)),none,none]=_
 unfold AB
 refine ag (bg (by simp[p1,b6,a_,fV]) av) ?_
 have mz:nv (ad (aa 0) (ad (aa 1) aj)) [some (.lst f (iL l)),some (.lst g (iL l)),none,none]=.ok (l.map fun x=>PV.tup [.int x,.int x]):=by
  unfold nv
  simp[hf.le,hg.le,d7,hf.nl,hg.nl,kx]
 refine ce (fun k e=>∃x2 x3,e=[some (.lst f (iL l)),some (.lst g (iL l)),x2,x3]) mz ⟨_,_,rfl⟩ (fun k x e hx hP=>?_) (fun e hP=>ba (by simp) (by simp))
 obtain⟨x2,x3,rfl⟩:=hP
 rw[List.getElem?_map]at hx
 obtain⟨o,_,rfl⟩:=Option.map_eq_some_iff.mp hx
 exact⟨[some (.lst f (iL l)),some (.lst g (iL l)),some (.int o),some (.int o)],rfl,aR (bg (by simp[mH,aJ]) av) ⟨_,_,rfl⟩⟩
theorem pH(s v:Int):∀(l:List Int) (i:Nat),i < l.length->num s (l.set i v)=num s l+(v - gt l i) * s ^ (l.length - 1 - i)
 | [],i,h=>by simp at h
 | c::l,0,h=>by
  rw[s0_,dU,dU,uk,List.length_cons,show l.length+1 - 1 - 0=l.length by omega,Int.sub_mul]
  omega
 | c::l,i+1,h=>by
  have:=pH s v l i (by simpa using h)
  rw[s1_,dU,dU,uj,this,List.length_set,List.length_cons,show l.length+1 - 1 - (i+1)=l.length - 1 - i by omega]
  omega
def eL(z:Pz)(cs:List Int)(a:Int):Int:=(bK z.n z.s z.fs z.os cs a.toNat - gt cs a.toNat) * z.s ^ (z.n - 1 - a.toNat)
theorem vy{n:Nat}{s:Int}{fs os cs:List Int}(h:cs.length=n):stp n s fs os cs []=cs:=by
 refine ui (by simp[stp,h]) fun i hi=>?_
 have hi:i < n:=by simpa[stp]using hi
 rw[k7 hi]
 rfl
theorem rJ{n:Nat}{s:Int}{fs os cs nm:List Int}{i:Nat}(hi:i < n):stp n s fs os cs ((i:Int)::nm)=(stp n s fs os cs nm).set i (bK n s fs os cs i):=by
 refine ui (by simp[stp]) fun j hj=>?_
 have hj:j < n:=by simpa[stp]using hj
 rw[k7 hj]
 by_cases e:j=i
 ·subst e
  have:((j:Int)::nm).contains (j:Int)=true:=by simp
  rw[if_pos this]
  simp only[gt,List.getD_eq_getElem?_getD]
  rw[List.getElem?_set_self (by simp[stp];exact hi)]
  rfl
 ·have e1:gt ((stp n s fs os cs nm).set i (bK n s fs os cs i)) j=gt (stp n s fs os cs nm) j:=by
   simp only[gt,List.getD_eq_getElem?_getD]
   rw[List.getElem?_set_ne (Ne.symm e)]
  rw[e1,k7 hj]
  have:((i:Int)::nm).contains (j:Int)=nm.contains (j:Int):=by
   simp only[List.contains_cons]
   rw[show((j:Int)==(i:Int))=false by simp;omega,Bool.false_or]
  rw[this]
theorem tz{z:Pz}(K:z.K){cs:List Int}(C:Ce z.n z.s cs):∀nm:List Int,nm.Nodup->(∀a∈nm,0<=a/\a.toNat < z.n)->z.nu cs nm=num z.s cs+(nm.map (eL z cs)).sum
 | [],_,_=>by
  show num z.s (stp _ _ _ _ cs [])=_
  rw[vy C.len]
  simp
 | a::nm,hn,hr=>by
  obtain⟨h0,h1⟩:=hr a List.mem_cons_self
  obtain⟨hn1,hn2⟩:=List.nodup_cons.mp hn
  have ih:=tz K C nm hn2 fun b hb=>hr b (List.mem_cons_of_mem _ hb)
  obtain⟨i,rfl⟩:∃i:Nat,a=i:=⟨a.toNat,by omega⟩
  have h1:i < z.n:=by omega
  show num z.s (stp _ _ _ _ cs _)=_
  rw[rJ h1,pH _ _ _ _ (by simp[stp];exact h1),List.map_cons,List.sum_cons]
  have:gt (stp z.n z.s z.fs z.os cs nm) i=gt cs i:=by
   rw[k7 h1,if_neg]
   simpa using hn1
  have e:(stp z.n z.s z.fs z.os cs nm).length=z.n:=by simp[stp]
  rw[this,e]
  have ih':num z.s (stp z.n z.s z.fs z.os cs nm)=num z.s cs+(nm.map (eL z cs)).sum:=ih
  rw[ih']
  unfold eL
  simp only[Int.toNat_natCast]
  omega
theorem mW(s y:Int):∀k,qt s y (k+1)=qt s (y / s) k
 | 0=>rfl
 | k+1=>by
  show qt s y (k+1) / s=qt s (y / s) k / s
  rw[mW s y k]
theorem nK{s:Int}(hs:0 < s)(x:Int){c:Int}(h0:0<=c)(h1:c < s):∀k,dgs s (x * s+c) (k+1)=dgs s x k++[c]
 | 0=>by
  show [(x * s+c) % s]=[c]
  rw[Int.add_comm,Int.add_mul_emod_self_right,Int.emod_eq_of_lt h0 h1]
 | k+1=>by
  have e:(x * s+c) / s=x:=by
   rw[Int.add_comm,Int.add_mul_ediv_right _ _ (by omega),Int.ediv_eq_zero_of_lt h0 h1]
   omega
  show qt s (x * s+c) (k+1) % s::dgs s (x * s+c) (k+1)=qt s x k % s::dgs s x k++[c]
  rw[nK hs x h0 h1 k,mW,e]
  rfl
def Ls(s:Int)(k m:Nat):List (List Int):=(List.range m).map fun y:Nat=>dgs s y k
theorem xt(s:Int)(k m:Nat):llL .own (Ls s k m)++ [.lst .own (iL (dgs s m k))]=llL .own (Ls s k (m+1)):=by simp[Ls,llL,List.range_succ]
theorem ki{z:Pz}(K:z.K):zU [.int z.n,.int z.s]=.ok (.lst .own (llL .own z.St)):=by
 have n8:=K.n8
 have s2:=K.s2
 have s4:=K.s4
 have big:=K.big
 obtain⟨b,hb⟩:∃b:Nat,z.s=(b:Int):=⟨z.s.toNat,by omega⟩
 have pw:∀k,z.s ^ k=((b ^ k:Nat):Int):=fun k=>by rw[hb];exact(Int.natCast_pow b k).symm
 have le:∀k,k<=z.n->b ^ k<=256:=fun k hk=>by
  have h1:=(ja (s:=z.s) (by omega) (a:=k) (z.n - k)).2
  rw[show k+(z.n - k)=z.n by omega,pw]at h1
  omega
 have eN:z.N=b ^ z.n:=by show(z.s ^ z.n).toNat=_;rw[pw];exact Int.toNat_natCast _
 refine aA ?_
 show Av [some (.int z.n),some (.int z.s),none,none,none,none,none]=_
 unfold Av
 refine ag (aq (v:=.lst .own (llL .own (Ls z.s 0 (b ^ 0)))) (by simp[Ls,llL,dgs]) (by simp[aQ _ Fl.isLnt .own rfl]) rfl) ?_
 simp only[s0_,s1_]
 refine ce (fun k e=>∃x3 x4 x5 x6,e=[some (.int z.n),some (.int z.s),some (.lst .own (llL .own (Ls z.s k (b ^ k)))),x3,x4,x5,x6]) (b9 (n:=z.n) (by simp) (by omega)) ⟨_,_,_,_,rfl⟩ (fun k x e hx hP=>?_) (fun e hP=>?_)
 ·obtain⟨x3,x4,x5,x6,rfl⟩:=hP
  obtain⟨hk,rfl⟩:=cM hx
  refine⟨_,cq rfl,?_⟩
  simp only[s0_,s1_]
  refine aX (aq (v:=.lst .own (llL .own (Ls z.s (k+1) 0))) (by simp[Ls,llL]) (by simp[aQ _ Fl.isLnt .own rfl]) rfl) ?_
  simp only[s0_,s1_]
  refine aX (dZ (v:=.lst .own (llL .own (Ls z.s k (b ^ k)))) rfl) ?_
  simp only[s0_,s1_,bN,bx,bI]
  have l1:=le (k+1) (by omega)
  rw[Nat.pow_succ]at l1
  refine ul (fun j e=>∃x5 x6,e=[some (.int z.n),some (.int z.s),some (.lst .frz (llL .frz (Ls z.s k (b ^ k)))),some (.int (0+(k:Int))),some (.lst .own (llL .own (Ls z.s (k+1) (j * b)))),x5,x6]) (xs:=llL .frz (Ls z.s k (b ^ k))) (cv (f:=.frz) (by simp) rfl (aQ _ _ _ rfl) (aQ _ _ _ rfl)) ⟨x5,x6,by rw[Nat.zero_mul]⟩ (fun j x e hx hP=>?_) (fun e hP=>?_)
  ·obtain⟨x5,x6,rfl⟩:=hP
   obtain⟨cs,hcs,rfl⟩:=lO _ _ hx
   have hj:j < b ^ k:=by have:=(List.getElem?_eq_some_iff.mp hcs).1;simpa[Ls]using this
   have ecs:cs=dgs z.s j k:=by
    simp[Ls,hj]at hcs
    exact hcs.symm
   subst ecs
   have jb:(j+1) * b<=b ^ k * b:=Nat.mul_le_mul_right b hj
   rw[Nat.add_mul,Nat.one_mul]at jb
   refine⟨_,cq rfl,?_⟩
   simp only[s0_,s1_]
   refine qQ (fun c e=>∃x6,e=[some (.int z.n),some (.int z.s),some (.lst .frz (llL .frz (Ls z.s k (b ^ k)))),some (.int (0+(k:Int))),some (.lst .own (llL .own (Ls z.s (k+1) (j * b+c)))),some (.lst .frz (iL (dgs z.s j k))),x6]) (b9 (n:=b) (by simp[hb]) (by omega)) ⟨x6,rfl⟩ (fun c x e hx hP=>?_) (fun e hP=>?_)
   ·obtain⟨x6,rfl⟩:=hP
    obtain⟨hc,rfl⟩:=cM hx
    refine⟨_,cq rfl,?_⟩
    simp only[s0_,s1_,Int.zero_add]
    refine aR (dL (v:=.lst .own (iL (dgs z.s ((j * b+c:Nat):Int) (k+1)))) (xs:=llL .own (Ls z.s (k+1) (j * b+c))) ?_ rfl (by simp) (by rw[ez];simp[Ls];omega)) ⟨some (.int c),?_⟩
    ·have:=nK (s:=z.s) (by omega) (j:Int) (c:=c) (by omega) (by omega) k
     have e:((j * b+c:Nat):Int)=(j:Int) * z.s+c:=by rw[hb];simp
     rw[e,this]
     simp
     rw[eQ (by decide) (by decide) (by simp;omega)]
     simp[iL]
    ·simp only[s0_,s1_]
     rw[xt]
     rfl
   ·obtain⟨x6,rfl⟩:=hP
    rw[bM]
    exact⟨_,_,by rw[Nat.add_mul,Nat.one_mul]⟩
  ·obtain⟨x5,x6,rfl⟩:=hP
   rw[ez,show(Ls z.s k (b ^ k)).length=b ^ k by simp[Ls]]
   refine aR (wg (v:=.lst .own (llL .own (Ls z.s (k+1) (b ^ k * b)))) (i:=2) (j:=4) rfl (by decide) (by decide) rfl) ⟨some (.int (0+(k:Int))),none,x5,x6,?_⟩
   rw[Nat.pow_succ]
   rfl
 ·obtain⟨x3,x4,x5,x6,rfl⟩:=hP
  rw[bM]
  have:z.St=Ls z.s z.n (b ^ z.n):=by rw[<- eN];rfl
  rw[this]
  exact eE rfl
def lwV(z:Pz)(f:Fl)(cs:List Int)(T:List (List Int)):List PV:=T.map fun nm=>.tup [.lst f (iL nm),.int (num z.s cs+(nm.map (eL z cs)).sum)]
theorem gw{z:Pz}{f:Fl}{cs:List Int}{p:Fl->Bool}(h:p f=false)(T:List (List Int)):hasL p (lwV z f cs T)=false:=by
 unfold lwV
 induction T with
 | nil=>simp
 | cons a l ih=>simp[ih,h]
theorem gv{z:Pz}{f:Fl}{cs:List Int}(g:Fl->Fl)(T:List (List Int)):mapL g (lwV z f cs T)=lwV z (g f) cs T:=by
 unfold lwV
 induction T with
 | nil=>simp
 | cons a l ih=>simp[ih]
theorem pQ{z:Pz}(K:z.K){cs:List Int}{i:Nat}:(eL z cs (i:Int)≠ 0)↔ bK z.n z.s z.fs z.os cs i≠gt cs i:=by
 have s2:=K.s2
 have pp:0 < z.s ^ (z.n - 1 - i):=Int.pow_pos (by omega)
 unfold eL
 rw[Int.toNat_natCast]
 constructor
 ·intro h q
  exact h (by rw[q,Int.sub_self,Int.zero_mul])
 ·intro h q
  rcases Int.mul_eq_zero.mp q with q | q<;>omega
def stV(z:Pz)(cs:List Int)(i:Nat):PV:=.tup [.int i,.int (eL z cs i)]
theorem gH{z:Pz}{cs:List Int}(g:Fl->Fl):∀l:List Nat,mapL g (l.map (stV z cs))=l.map (stV z cs)
 | []=>by simp
 | a::l=>by simp[gH g l,stV]
theorem iZ{z:Pz}{cs:List Int}(p:Fl->Bool):∀l:List Nat,hasL p (l.map (stV z cs))=false
 | []=>by simp
 | a::l=>by simp[iZ p l,stV]
theorem mL{z:Pz}(K:z.K){cs:List Int}(C:Ce z.n z.s cs){f1 f2:Fl}(hf1:Bf f1)(hf2:Bf f2){x0 x4:PV}{aN:MS}{r:Out}
  (h:∀x8 x9,aN [some x0,some (.lst f1 (iL cs)),some (.lst f2 (iL ((List.range z.n).map (bK z.n z.s z.fs z.os cs)))),some (.int z.s),some x4,some (.lst .own []),some (.int (z.s ^ z.n)),some (.lst .own ((List.range z.n).map (stV z cs))),x8,x9,none]=r) :
  ao (bW (bO (ad (ak (p1 b6) (ad (aa 1) aj)) aj)) (tgN 8)
  (ao (aI 9 (mOp jB (mOp jB (ak (p1 b6) (ad (aa 1) aj)) (mC (.int (1)))) (aa 8)))
 (ao (aI 7 (mOp aY (b7 (ad (cY (ad (aa 9) (ad (mOp bL (mOp jB (mOp au (aa 2) (aa 9)) (mOp au (aa 1) (aa 9))) (aa 6)) aj))) aj)) (aa 7)))
 (aI 6 (mOp bL (aa 6) (aa 3)))))) aN [some x0,some (.lst f1 (iL cs)),some (.lst f2 (iL ((List.range z.n).map (bK z.n z.s z.fs z.os cs)))),some (.int z.s),some x4,some (.lst .own []),some (.int 1),some (.lst .own []),none,none,none]=r:=by
 have n8:=K.n8
 have n2:=K.n2
 have s2:=K.s2
 have s4:=K.s4
 have big:=K.big
 have hl:=C.len
 generalize eD:(List.range z.n).map (bK z.n z.s z.fs z.os cs)=D at *
 have Dl:D.length=z.n:=by rw[<- eD];simp
 have Dg:∀i,i < z.n->gt D i=bK z.n z.s z.fs z.os cs i:=fun i hi=>by rw[<- eD];simp[gt,hi]
 refine ce (fun k e=>∃x8 x9,e=[some x0,some (.lst f1 (iL cs)),some (.lst f2 (iL D)),some (.int z.s),some x4,some (.lst .own []),some (.int (z.s ^ k)),some (.lst .own ((List.range' (z.n - k) k).map (stV z cs))),x8,x9,none]) (b9 (n:=z.n) (by simp[hf1.le,hl]) (by omega)) ⟨none,none,by simp⟩ (fun k x e hx hP=>?_) (fun e hP=>?_)
 ·obtain⟨x8,x9,rfl⟩:=hP
  obtain⟨hk,rfl⟩:=cM hx
  refine⟨_,cq rfl,?_⟩
  simp only[s0_,s1_,Int.zero_add]
  have ea:(z.n:Int) - 1 - k=((z.n - (k+1):Nat):Int):=by omega
  refine aX (aq (v:=.int ((z.n - (k+1):Nat):Int)) (by simp[hf1.le,hl,ea]) (by simp) rfl) ?_
  simp only[s0_,s1_]
  generalize ei:z.n - (k+1)=i at *
  have hi:i < z.n:=by omega
  have i1:=c_ (f:=f1) (cs:=cs) (i:=(i:Int)) (by omega) (by omega)
  have i2:=c_ (f:=f2) (cs:=D) (i:=(i:Int)) (by omega) (by omega)
  rw[Int.toNat_natCast]at i1 i2
  rw[Dg i hi]at i2
  have pk:1<=z.s ^ k/\z.s ^ k<=256:=by
   have h1:=(ja (s:=z.s) (by omega) (a:=k) (z.n - k))
   rw[show k+(z.n - k)=z.n by omega]at h1
   omega
  have d1:=p8 K C hi
  have c1:=C.inn _ (bQ (far:=cs) (i:=i) (by omega))
  have lp:(bK z.n z.s z.fs z.os cs i - gt cs i) * z.s ^ k=eL z cs i:=by
   unfold eL
   rw[Int.toNat_natCast,show z.n - 1 - i=k by omega]
  have mm:bL (.int (bK z.n z.s z.fs z.os cs i - gt cs i)) (.int (z.s ^ k))=.ok (.int (eL z cs i)):=by rw[<- lp];exact cF (.inr ⟨by omega,by omega⟩)
  refine aX (aq (v:=.lst .own ((List.range' i (k+1)).map (stV z cs))) ?_ (by simp[iZ]) rfl) ?_
  ·simp[hf1.le,hf2.le,i1,i2,mm,gH]
   rw[eQ (by decide) (by decide) (by simp;omega),List.range'_succ]
   simp[stV,show z.n - k=i+1 by omega]
  ·simp only[s0_,s1_]
   have m2:bL (.int (z.s ^ k)) (.int z.s)=.ok (.int (z.s ^ (k+1))):=by rw[Int.pow_succ];exact cF (.inr ⟨by omega,by omega⟩)
   exact aR (aq (v:=.int (z.s ^ (k+1))) (by simp[m2]) (by simp) rfl) ⟨_,_,rfl⟩
 ·obtain⟨x8,x9,rfl⟩:=hP
  rw[bM,Nat.sub_self,<- List.range_eq_range']
  exact h x8 x9
def mvP(z:Pz)(cs:List Int)(j:Nat):List Int:=((List.range j).filter fun i=>decide (bK z.n z.s z.fs z.os cs i≠gt cs i)).map fun i:Nat=>(i:Int)
theorem nb{z:Pz}{cs:List Int}{j:Nat}:mvP z cs (j+1)=if bK z.n z.s z.fs z.os cs j≠gt cs j then mvP z cs j++[(j:Int)]else mvP z cs j:=by
 unfold mvP
 rw[List.range_succ,List.filter_append,List.map_append]
 by_cases h:bK z.n z.s z.fs z.os cs j≠gt cs j
 ·rw[if_pos h,List.filter_cons_of_pos (by simpa using h)]
  rfl
 ·rw[if_neg h,List.filter_cons_of_neg (by simpa using h)]
  simp
theorem iA{z:Pz}{cs:List Int}{j:Nat}:(mvP z cs j).Nodup:=by
 unfold mvP
 have:((List.range j).filter fun i=>decide (bK z.n z.s z.fs z.os cs i≠gt cs i)).Nodup:=List.Pairwise.filter _ List.nodup_range
 exact List.Pairwise.map _ (fun a b (h:a≠b)=>by omega) this
theorem pJ{z:Pz}{cs:List Int}{j:Nat}:(mvP z cs j).length<=j:=by
 unfold mvP
 rw[List.length_map]
 have:=List.length_filter_le (fun i=>decide (bK z.n z.s z.fs z.os cs i≠gt cs i)) (List.range j)
 rwa [List.length_range]at this
theorem n5(l:List Int)(a:Int):bV (l++[a])=bV l ++(bV l).map (·++[a]):=by simp[bV]
theorem zA{z:Pz}{f:Fl}{cs:List Int}(S T:List (List Int)):lwV z f cs (S++T)=lwV z f cs S++lwV z f cs T:=by simp[lwV]
theorem lR{z:Pz}(K:z.K){cs:List Int}(C:Ce z.n z.s cs){f1 f2:Fl}(hf1:Bf f1)(hf2:Bf f2) :
  ∃f:Fl,(f=.own\/f=.frz)/\zT [.int (num z.s cs),.lst f1 (iL cs),.lst f2 (iL ((List.range z.n).map (bK z.n z.s z.fs z.os cs))),.int z.s,.bl z.many]=.ok (.lst .own (lwV z f cs (z.tr cs))):=by
 have n8:=K.n8
 cases hm:z.many with
 | false =>
  refine⟨.own,.inl rfl,aA ?_⟩
  show uP [some _,some _,some _,some _,some _,none,none,none,none,none,none]=_
  unfold uP
  refine ag (aq (v:=.lst .own []) (by simp) (by simp) rfl) ?_
  refine ag (aq (v:=.int 1) (by simp) (by simp) rfl) ?_
  refine ag (aq (v:=.lst .own []) (by simp) (by simp) rfl) ?_
  simp only[s0_,s1_]
  refine mL K C hf1 hf2 fun x8 x9=>?_
  refine dF (d4 (by simp) (ba ?_ (by simp only[cz,cU];rw[gw rfl];rfl)))
  refine bF (xs:=(List.range z.n).map (stV z cs)) (by simp[gH]) (by simp;omega) ?_
  have:=dI (env:=bT [0] 2 [some (.int (num z.s cs)),some (.lst f1 (iL cs)),some (.lst f2 (iL ((List.range z.n).map (bK z.n z.s z.fs z.os cs)))),some (.int z.s),some (.bl false),some (.lst .own []),some (.int (z.s ^ z.n)),some (.lst .own ((List.range z.n).map (stV z cs))),x8,x9,none]) (g:=tgT 2 (aD (tgN 1) (aD (tgN 2) b5))) (mc:=aw (mOp pNe (aa 2) (mC (.int (0))))) (me:=cY (ad (b7 (ad (aa 1) aj)) (ad (mOp aY (aa 0) (aa 2)) aj))) (a:=stV z cs) (f:=fun i:Nat=>.tup [.lst .own (iL [(i:Int)]),.int (num z.s cs+eL z cs i)]) (p:=fun i=>decide (bK z.n z.s z.fs z.os cs i≠gt cs i)) (List.range z.n) fun i _=>⟨[some (.int (num z.s cs)),some (.int i),some (.int (eL z cs i))],rfl,?_,fun _=>by simp⟩
  ·rw[this]
   simp[lwV,Pz.tr,trn,hm,mv]
  ·have:=pQ K (cs:=cs) (i:=i)
   simp
   exact Decidable.not_iff_not.mp this
 | true =>
  refine⟨.frz,.inr rfl,aA ?_⟩
  show uP [some _,some _,some _,some _,some _,none,none,none,none,none,none]=_
  unfold uP
  refine ag (aq (v:=.lst .own []) (by simp) (by simp) rfl) ?_
  refine ag (aq (v:=.int 1) (by simp) (by simp) rfl) ?_
  refine ag (aq (v:=.lst .own []) (by simp) (by simp) rfl) ?_
  simp only[s0_,s1_]
  refine mL K C hf1 hf2 fun x8 x9=>?_
  refine ag (bg (by simp) av) ?_
  refine ag (aq (v:=.lst .own (lwV z .own cs [[]])) (by simp[lwV]) (by simp only[cz,cU];rw[gw rfl];rfl) rfl) ?_
  simp only[s0_,s1_]
  refine ag (dZ (v:=.lst .own ((List.range z.n).map (stV z cs))) rfl) ?_
  simp only[s0_,s1_,bN,gH,bI]
  generalize(List.range z.n).map (bK z.n z.s z.fs z.os cs)=D
  have Sl:∀j,j<=z.n->(bV (mvP z cs j)).length<=256:=fun j hj=>by
   rw[(ee iA).len]
   have:=pJ (z:=z) (cs:=cs) (j:=j)
   have:2 ^ (mvP z cs j).length<=2 ^ 8:=Nat.pow_le_pow_right (by decide) (by omega)
   omega
  refine ce (fun j e=>∃xs y9 y10,e=[some (.int (num z.s cs)),some (.lst f1 (iL cs)),some (.lst f2 (iL D)),some (.int z.s),some (.bl true),some (.lst .own xs),some (.int (z.s ^ z.n)),some (.lst .frz ((List.range z.n).map (stV z cs))),x8,y9,y10]/\mapL Fl.freeze xs=lwV z .frz cs (bV (mvP z cs j))) (xs:=(List.range z.n).map (stV z cs)) (cv (f:=.frz) (by simp[gH]) rfl (iZ _ _) (iZ _ _)) ⟨_,_,_,rfl,by rw[gv];rfl⟩ (fun j x e hx hP=>?_) (fun e hP=>?_)
  ·obtain⟨xs,y9,y10,rfl,hxs⟩:=hP
   rw[List.getElem?_map]at hx
   obtain⟨i,hi,rfl⟩:=Option.map_eq_some_iff.mp hx
   have hj:j < z.n:=by simpa using(List.getElem?_eq_some_iff.mp hi).1
   rw[List.getElem?_range hj]at hi
   cases hi
   refine⟨[some (.int (num z.s cs)),some (.lst f1 (iL cs)),some (.lst f2 (iL D)),some (.int z.s),some (.bl true),some (.lst .own xs),some (.int (z.s ^ z.n)),some (.lst .frz ((List.range z.n).map (stV z cs))),x8,some (.int j),some (.int (eL z cs j))],rfl,?_⟩
   have hS:=Sl j (by omega)
   have ln:=pQ K (cs:=cs) (i:=j)
   by_cases hd:bK z.n z.s z.fs z.os cs j≠gt cs j
   ·refine qR (by simp[ln.mpr hd]) ?_
    refine aX (dZ (v:=.lst .own xs) rfl) ?_
    simp only[s0_,s1_,bN,hxs,bI]
    have e1:bV (mvP z cs (j+1))=bV (mvP z cs j)++(bV (mvP z cs j)).map (·++[(j:Int)]):=by rw[nb,if_pos hd,n5]
    have hN:∀nm∈bV (mvP z cs j),nm.length<=8:=fun nm h=>by
     obtain⟨⟨S',e,h1,_⟩,_⟩:=ee (iA (z:=z) (cs:=cs) (j:=j))
     rw[e]at h
     rcases List.mem_cons.mp h with rfl | h
     ·simp
     ·obtain⟨_,h2,h3⟩:=h1 nm h
      have:=kJ h3 h2
      have:=pJ (z:=z) (cs:=cs) (j:=j)
      omega
    generalize bV (mvP z cs j)=S at *
    have cp:aV [9,10] 2 (bA (aa 5)) (tgT 2 (aD (tgN 2) (aD (tgN 3) b5))) br (cY (ad (mOp aY (aa 2) (b7 (ad (aa 0) aj))) (ad (mOp aY (aa 3) (aa 1)) aj))) [some (.int (num z.s cs)),some (.lst f1 (iL cs)),some (.lst f2 (iL D)),some (.int z.s),some (.bl true),some (.lst .frz (lwV z .frz cs S)),some (.int (z.s ^ z.n)),some (.lst .frz ((List.range z.n).map (stV z cs))),x8,some (.int j),some (.int (eL z cs j))]=.ok (.lst .own (lwV z .own cs (S.map (·++[(j:Int)])))):=by
     refine bF (xs:=lwV z .frz cs S) (by simp[gv]) (by simp[lwV];omega) ?_
     have:=bv (env:=bT [9,10] 2 [some (.int (num z.s cs)),some (.lst f1 (iL cs)),some (.lst f2 (iL D)),some (.int z.s),some (.bl true),some (.lst .frz (lwV z .frz cs S)),some (.int (z.s ^ z.n)),some (.lst .frz ((List.range z.n).map (stV z cs))),x8,some (.int j),some (.int (eL z cs j))]) (g:=tgT 2 (aD (tgN 2) (aD (tgN 3) b5))) (me:=cY (ad (mOp aY (aa 2) (b7 (ad (aa 0) aj))) (ad (mOp aY (aa 3) (aa 1)) aj))) (a:=fun nm=>PV.tup [.lst .frz (iL nm),.int (num z.s cs+(nm.map (eL z cs)).sum)]) (f:=fun nm=>PV.tup [.lst .own (iL (nm++[(j:Int)])),.int (num z.s cs+((nm++[(j:Int)]).map (eL z cs)).sum)]) S fun nm hm=>⟨[some (.int j),some (.int (eL z cs j)),some (.lst .frz (iL nm)),some (.int (num z.s cs+(nm.map (eL z cs)).sum))],by simp[bT,PV.borrow,tgT,aD,tgN,b5,a7],?_,by simp,by simp⟩
     ·rw[show lwV z .own cs (S.map (·++[(j:Int)]))=S.map fun nm=>PV.tup [.lst .own (iL (nm++[(j:Int)])),.int (num z.s cs+((nm++[(j:Int)]).map (eL z cs)).sum)] by simp[lwV]]
      exact this
     ·have:=hN nm hm
      simp
      rw[eQ (by decide) (by decide) (by simp;omega)]
      simp[iL]
      omega
    refine aR (aq (v:=.lst .own (lwV z .frz cs S++lwV z .own cs (S.map (·++[(j:Int)])))) ?_ ?_ rfl) ⟨_,_,_,rfl,?_⟩
    ·simp only[h8,cp]
     simp[gv]
     rw[eQ (by decide) (by decide) (by simp[lwV];omega)]
    ·simp only[cz,cU]
     rw[jR,gw rfl,gw rfl]
     rfl
    ·rw[gZ,gv,gv,e1,zA]
     rfl
   ·refine kN (by simp[show eL z cs j=0 from Classical.byContradiction fun q=>hd (ln.mp q)]) (aR av ⟨xs,_,_,rfl,?_⟩)
    rw[nb,if_neg hd]
    exact hxs
  ·obtain⟨xs,y9,y10,rfl,hxs⟩:=hP
   rw[List.length_map,List.length_range]at hxs
   refine ag (dZ (v:=.lst .own xs) rfl) ?_
   simp only[s0_,s1_,bN,hxs,bI]
   have sp:=(ee (iA (z:=z) (cs:=cs) (j:=z.n))).len
   refine ba (v:=.lst .own (lwV z .frz cs (z.tr cs))) ?_ (by simp only[cz,cU];rw[gw rfl];rfl)
   have:=jY (lwV z .frz cs (bV (mvP z cs z.n))) 1 (by simp only[lwV,List.length_map,sp];exact Nat.pow_pos (by decide))
   simp[gv]
   rw[show((1:Nat):Int)=1 from rfl]at this
   rw[this]
   simp[lwV,Pz.tr,trn,hm,mv,mvP]
theorem nG{sp p:Int}(kd c:Int)(h1:2<=sp)(h2:sp<=4)(hp:0<=p/\p < sp * sp * sp):∃v:Int,qS [.int kd,.int sp,.int p,.int c]=.ok (.int v)/\0<=v/\v < sp:=by
 obtain⟨m1,m2,b1,b2,b3,b4⟩:=z_ h1 h2
 have sp0:0 < sp:=by omega
 suffices hh:d9 (Au [some (.int kd),some (.int sp),some (.int p),some (.int c),none,none,none]) (fun x=>∃v:Int,x=.int v/\0<=v/\v < sp) by
  obtain⟨x,e,v,rfl,h⟩:=hh
  exact⟨v,aA e,h⟩
 unfold Au
 have dq:cy (.int p) (.int (sp * sp))=.ok (.int (p / (sp * sp))):=dz (by omega) (by omega)
 have ds:cy (.int p) (.int sp)=.ok (.int (p / sp)):=dz sp0 (by omega)
 have o1:0<=p / (sp * sp)/\p / (sp * sp) < sp:=by
  rcases gI h1 h2 with rfl | rfl | rfl<;>omega
 have o2:0<=p / sp % sp/\p / sp % sp < sp:=⟨Int.emod_nonneg _ (by omega),Int.emod_lt_of_pos _ sp0⟩
 refine az (aq (v:=.int (p / (sp * sp))) (by simp[m1,dq]) (by simp) rfl) ?_
 simp only[s0_,s1_]
 refine az (aq (v:=.int (p / sp % sp)) (by simp[ds,a9 sp0]) (by simp) rfl) ?_
 simp only[s0_,s1_]
 generalize p / (sp * sp)=a at *
 generalize p / sp % sp=b at *
 by_cases k0:kd=0
 ·exact eP (by simp[k0]) (aZ (v:=.int a) (eE rfl) ⟨a,rfl,o1⟩)
 refine az (bg (by simp[k0]) av) ?_
 by_cases k1:kd=1
 ·exact eP (by simp[k1]) (aZ (v:=.int b) (eE rfl) ⟨b,rfl,o2⟩)
 refine az (bg (by simp[k1]) av) ?_
 have md:∀x:Int,0<=x % sp/\x % sp < sp:=fun x=>⟨Int.emod_nonneg _ (by omega),Int.emod_lt_of_pos _ sp0⟩
 by_cases k2:kd=2
 ·refine eP (by simp[k2]) ?_
  by_cases e:a=b
  ·exact aZ (v:=.int ((a+1) % sp)) (ba (by simp[e,p1,cP,a9 sp0]) (by simp)) ⟨_,rfl,md _⟩
  ·exact aZ (v:=.int ((a+0) % sp)) (ba (by simp[e,p1,cP,a9 sp0]) (by simp)) ⟨_,rfl,md _⟩
 refine az (bg (by simp[k2]) av) ?_
 have m3:bL (.int 3) (.int p)=.ok (.int (3 * p)):=cF (.inl ⟨by decide,by decide⟩)
 have m4:bL (.int (c % 1000003+1+p)) (.int (c % 999983+7+3 * p))=.ok (.int ((c % 1000003+1+p) * (c % 999983+7+3 * p))):=cF (.inl ⟨by omega,by omega⟩)
 generalize(c % 1000003+1+p) * (c % 999983+7+3 * p)=y at *
 have m5:bL (.int y) (.int 48271)=.ok (.int (y * 48271)):=cF (.inr ⟨by decide,by decide⟩)
 refine az (aq (v:=.int y) (by simp[a9,m3,m4]) (by simp) rfl) ?_
 simp only[s0_,s1_]
 refine az (aq (v:=.int (y * 48271 % 2147483647)) (by simp[a9,m5]) (by simp) rfl) ?_
 simp only[s0_,s1_]
 generalize y * 48271 % 2147483647=u
 by_cases k3:kd=3
 ·exact eP (by simp[k3]) (aZ (v:=.int (min a (u % sp))) (ba (by simp[a9 sp0,lB]) (by simp)) ⟨_,rfl,by have:=md u;omega⟩)
 refine az (bg (by simp[k3]) av) ?_
 by_cases k4:kd=4
 ·exact eP (by simp[k4]) (aZ (v:=.int (c % sp)) (ba (by simp[a9 sp0]) (by simp)) ⟨_,rfl,md c⟩)
 ·exact az (bg (by simp[k4]) av) (aZ (v:=.int (u % sp)) (ba (by simp[a9 sp0]) (by simp)) ⟨_,rfl,md u⟩)
theorem kR{caps:List Nat}{k:Nat}{mi:MI}{g:TgM}{me:ME}{env:En}{N:Nat}{P:Int->Prop}(h:mi env=.ok (cN 0 N))(hN:N<=1000)(hs:∀j < N,∃e1 v,g (.int (0+(j:Int))) (bT caps k env)=some e1/\me e1=.ok (.int v)/\P v):∃l:List Int,aV caps k mi g br me env=.ok (.lst .own (iL l))/\l.length=N/\∀x∈l,P x:=by
 have hs':∀j:Nat,∃v:Int,j < N->∃e1,g (.int (0+(j:Int))) (bT caps k env)=some e1/\me e1=.ok (.int v)/\P v:=fun j=>by
  by_cases q:j < N
  ·obtain⟨e1,v,h1,h2,h3⟩:=hs j q
   exact⟨v,fun _=>⟨e1,h1,h2,h3⟩⟩
  ·exact⟨0,fun z=>absurd z q⟩
 obtain⟨f,hf⟩:=Classical.axiomOfChoice hs'
 refine⟨(List.range N).map f,bF (xs:=cN 0 N) h (by rw[bM];omega) (kT 0 f N fun j hj=>?_),by simp,fun x hx=>?_⟩
 ·obtain⟨e1,h1,h2,_⟩:=hf j hj
  exact⟨e1,h1,h2⟩
 ·obtain⟨j,hj,rfl⟩:=List.mem_map.mp hx
  obtain⟨_,_,_,h3⟩:=hf j (List.mem_range.mp hj)
  exact h3
theorem cV.set{sp v:Int}{t:List Int}(ht:cV sp t)(hv:0 <= v/\v < sp)(k:Nat):cV sp (t.set k v):=⟨by simpa using ht.len,fun x hx=>by
 rcases List.mem_or_eq_of_mem_set hx with hx | rfl
 ·exact ht.rng x hx
 ·exact hv⟩
theorem ql{fl:Fl}{ns:List Int}{sp:Int}(h:Scr fl)(h1:2<=sp)(h2:sp<=4):∃fs os:List Int,zV [.lst fl (iL ns),.int sp]=.ok (.tup [.lst .own (iL fs),.lst .own (iL os)])/\cV sp fs/\cV sp os:=by
 obtain⟨m1,m2,b1,b2,b3,b4⟩:=z_ h1 h2
 have sp0:0 < sp:=by omega
 have cl:∀k:Nat,iH [.lst fl (iL ns),.int k]=.ok (.int (cell ns k)):=fun k=>qd ns k h
 have c1:iH [.lst fl (iL ns),.int 1]=.ok (.int (cell ns 1)):=cl 1
 have c2:iH [.lst fl (iL ns),.int 2]=.ok (.int (cell ns 2)):=cl 2
 have c3:iH [.lst fl (iL ns),.int 3]=.ok (.int (cell ns 3)):=cl 3
 obtain⟨N,hN⟩:∃N:Nat,sp * sp * sp=N:=⟨(sp * sp * sp).toNat,by omega⟩
 suffices hh:d9 (Aw [some (.lst fl (iL ns)),some (.int sp),none,none,none,none,none,none,none]) (fun x=>∃fs os:List Int,x=.tup [.lst .own (iL fs),.lst .own (iL os)]/\cV sp fs/\cV sp os) by
  obtain⟨x,e,fs,os,rfl,q⟩:=hh
  exact⟨fs,os,aA e,q⟩
 unfold Aw
 refine az (aq (v:=.int (cell ns 1)) (by simp[h.lend,h.toBor,c1,aJ]) (by simp) rfl) ?_
 simp only[s0_,s1_]
 generalize cell ns 1=z
 have d8:cy (.int z) (.int 8)=.ok (.int (z / 8)):=dz (by decide) (by decide)
 have d48:cy (.int z) (.int 48)=.ok (.int (z / 48)):=dz (by decide) (by decide)
 have d288:cy (.int z) (.int 288)=.ok (.int (z / 288)):=dz (by decide) (by decide)
 obtain⟨a,b,hab⟩:∃a b:Int,fN (.lst .own [.tup [.int 2,.int 1],.tup [.int 2,.int 1],.tup [.int 3,.int 3],.tup [.int 5,.int 5],.tup [.int 0,.int 0],.tup [.int 4,.int 1],.tup [.int (z / 8 % 6),.int (z / 48 % 6)],.tup [.int 5,.int 1]]) (.int (z % 8))=.ok (.tup [.int a,.int b]):=by
  have:z % 8=0\/z % 8=1\/z % 8=2\/z % 8=3\/z % 8=4\/z % 8=5\/z % 8=6\/z % 8=7:=by omega
  rcases this with e | e | e | e | e | e | e | e<;>rw[e]<;>exact⟨_,_,rfl⟩
 refine az (aq (v:=.tup [.int a,.int b]) (by simp[a9,d8,d48,hab]) (by simp) rfl) ?_
 simp only[s0_,s1_]
 refine az (aq (v:=.int N) (by simp[m1,m2,hN]) (by simp) rfl) ?_
 simp only[s0_,s1_]
 have i0:au (.tup [.int a,.int b]) (.int 0)=.ok (.int a):=bf (k:=0) rfl rfl rfl
 have i1:au (.tup [.int a,.int b]) (.int 1)=.ok (.int b):=bf (k:=1) rfl rfl rfl
 obtain⟨fs,hf1,hf2,hf3⟩:=kR (caps:=[3,1,0]) (k:=1) (mi:=bO (ad (aa 4) aj)) (g:=tgN 3) (me:=ak (ax qS) (ad (mOp au (aa 0) (mC (.int (0)))) (ad (aa 1) (ad (aa 3) (ad (ak (ax iH) (ad (aa 2) (ad (mC (.int (2))) aj))) aj))))) (env:=[some (.lst fl (iL ns)),some (.int sp),some (.int z),some (.tup [.int a,.int b]),some (.int N),none,none,none,none]) (N:=N) (P:=fun v=>0<=v/\v < sp) (b9 (n:=N) (by simp) (by omega)) (by omega) fun j hj=>by
  obtain⟨v,e1,e2⟩:=nG (p:=j) a (cell ns 2) h1 h2 (by omega)
  exact⟨[some (.tup [.int a,.int b]),some (.int sp),some (.lst fl (iL ns)),some (.int (0+j))],v,by simp[tgN,a7,bT,PV.borrow,h.borrow],by simp[i0,h.lend,h.toBor,c2,e1,aJ],e2⟩
 refine az (aq (v:=.lst .own (iL fs)) hf1 (by simp) rfl) ?_
 simp only[s0_,s1_]
 obtain⟨os,ho1,ho2,ho3⟩:=kR (caps:=[3,1,0]) (k:=1) (mi:=bO (ad (aa 4) aj)) (g:=tgN 3) (me:=ak (ax qS) (ad (mOp au (aa 0) (mC (.int (1)))) (ad (aa 1) (ad (aa 3) (ad (ak (ax iH) (ad (aa 2) (ad (mC (.int (3))) aj))) aj))))) (env:=[some (.lst fl (iL ns)),some (.int sp),some (.int z),some (.tup [.int a,.int b]),some (.int N),some (.lst .own (iL fs)),none,none,none]) (N:=N) (P:=fun v=>0<=v/\v < sp) (b9 (n:=N) (by simp) (by omega)) (by omega) fun j hj=>by
  obtain⟨v,e1,e2⟩:=nG (p:=j) b (cell ns 3) h1 h2 (by omega)
  exact⟨[some (.tup [.int a,.int b]),some (.int sp),some (.lst fl (iL ns)),some (.int (0+j))],v,by simp[tgN,a7,bT,PV.borrow,h.borrow],by simp[i1,h.lend,h.toBor,c3,e1,aJ],e2⟩
 refine az (aq (v:=.lst .own (iL os)) ho1 (by simp) rfl) ?_
 simp only[s0_,s1_]
 have key:∀e:En,e[0]?=some (some (.lst fl (iL ns)))->dD (fQ (aa 0) (iM (mC (.int (4)))) fg) e=.ok (iL (ns.drop 4)):=fun e he=>by
  refine cv (f:=.own) ?_ rfl (by simp) (by simp)
  have ec:mf (iL ns) (some 4) none=iL (ns.drop 4):=w6 ns 4 rfl
  simp only[qW,uB,fo,wW,qV,he]
  simp[h.lend,ec]
 refine sj (fun _ e=>∃fs os x7 x8,e=[some (.lst fl (iL ns)),some (.int sp),some (.int z),some (.tup [.int a,.int b]),some (.int N),some (.lst .own (iL fs)),some (.lst .own (iL os)),x7,x8]/\cV sp fs/\cV sp os) (key _ rfl) ⟨fs,os,_,_,rfl,⟨by omega,hf3⟩,⟨by omega,ho3⟩⟩ (fun k x e hx hP=>?_) (fun e hP=>?_)
 ·clear hf1 hf2 hf3 ho1 ho2 ho3 fs os
  obtain⟨fs,os,x7,x8,rfl,hf,ho⟩:=hP
  obtain⟨y,_,rfl⟩:=iF hx
  obtain⟨m,hm,m1',m7⟩:∃m:Int,1+z / 288 % 7=m/\1<=m/\m<=7:=⟨_,rfl,by omega,by omega⟩
  have mN:bL (.int 2) (.int (N:Int))=.ok (.int (2 * (N:Int))):=cF (.inl ⟨by decide,by decide⟩)
  have m14:bL (.int 14) (.int (N:Int))=.ok (.int (14 * (N:Int))):=cF (.inl ⟨by decide,by decide⟩)
  have mm:bL (.int (2 * (N:Int))) (.int m)=.ok (.int (2 * (N:Int) * m)):=cF (.inr ⟨by omega,by omega⟩)
  have n2:0 < 2 * (N:Int) * m:=Int.mul_pos (by omega) (by omega)
  have dN:cy (.int y) (.int (14 * (N:Int)))=.ok (.int (y / (14 * (N:Int)))):=dz (by omega) (by omega)
  obtain⟨p,hp⟩:∃p:Nat,y % (2 * (N:Int) * m)=p:=⟨(y % (2 * (N:Int) * m)).toNat,by have:=Int.emod_nonneg y (show 2 * (N:Int) * m≠0 by omega);omega⟩
  have sI:∀(rs:List Int) (c:Nat) (v:Int),(iL rs).set c (.int v)=iL (rs.set c v):=fun rs c v=>by simp[iL,List.map_set]
  have vr:∀x:Int,0<=x % sp/\x % sp < sp:=fun x=>⟨Int.emod_nonneg _ (by omega),Int.emod_lt_of_pos _ sp0⟩
  have lf:=hf.len
  have lo:=ho.len
  refine⟨_,cq rfl,?_⟩
  simp only[s0_,s1_]
  refine aX (aq (v:=.int p) (by simp[mN,a9,d288,hm,mm,a9 n2,hp]) (by simp) rfl) ?_
  simp only[s0_,s1_]
  by_cases q:p < N
  ·refine aR (d4 (by simp[q]) (jq (v:=.int (y / (14 * (N:Int)) % sp)) (xs:=iL fs) (j:=p) (n:=p) (by simp[m14,dN,a9 sp0]) rfl (by simp) (i_ (by rw[di];omega)) (by simp))) ?_
   simp only[s0_,s1_,sI]
   exact⟨_,_,_,_,rfl,hf.set (vr _) p,ho⟩
  ·refine kN (by simp[q]) ?_
   by_cases q2:p < 2 * N
   ·refine aR (d4 (by simp[mN];omega) (jq (v:=.int (y / (14 * (N:Int)) % sp)) (xs:=iL os) (j:=((p - N:Nat):Int)) (n:=p - N) (by simp[m14,dN,a9 sp0]) rfl (by simp;omega) (i_ (by rw[di];omega)) (by simp))) ?_
    simp only[s0_,s1_,sI]
    exact⟨_,_,_,_,rfl,hf,ho.set (vr _) (p - N)⟩
   ·exact aR (bg (by simp[mN];omega) av) ⟨_,_,_,_,rfl,hf,ho⟩
 ·obtain⟨fs,os,x7,x8,rfl,hf,ho⟩:=hP
  exact aZ (v:=.tup [.lst .own (iL fs),.lst .own (iL os)]) rfl ⟨fs,os,rfl,hf,ho⟩
theorem pC{n:Nat}{s:Int}(h2:2<=s)(h4:s<=4)(n8:n<=8)(h:s=2\/n<=4):s ^ n<=256:=by
 have hn:n=0\/n=1\/n=2\/n=3\/n=4\/n=5\/n=6\/n=7\/n=8:=by omega
 rcases gI h2 h4 with rfl | rfl | rfl<;>rcases hn with rfl | rfl | rfl | rfl | rfl | rfl | rfl | rfl | rfl<;>first | decide | omega
theorem rW(hd:Int):∃(n:Nat) (s:Int),uz [.int hd]=.ok (.tup [.int n,.int s])/\2<=n/\n<=8/\2<=s/\s<=4/\s ^ n<=256:=by
 have d3:cy (.int hd) (.int 3)=.ok (.int (hd / 3)):=dz (by decide) (by decide)
 have d15:cy (.int hd) (.int 15)=.ok (.int (hd / 15)):=dz (by decide) (by decide)
 suffices hh:d9 (u7 [some (.int hd),none,none]) (fun x=>∃(n:Nat) (s:Int),x=.tup [.int n,.int s]/\2<=n/\n<=8/\2<=s/\s<=4/\(s=2\/n<=4)) by
  obtain⟨x,e,n,s,rfl,h1,h2,h3,h4,h5⟩:=hh
  exact⟨n,s,aA e,h1,h2,h3,h4,pC h3 h4 h2 h5⟩
 unfold u7
 refine az (aq (v:=.int (2+hd % 3)) (by simp[a9]) (by simp) rfl) ?_
 simp only[s0_,s1_]
 refine az (aq (v:=.int (2+hd / 3 % 2)) (by simp[a9,d3]) (by simp) rfl) ?_
 simp only[s0_,s1_]
 obtain⟨s,es,s2,s4⟩:∃s:Int,2+hd % 3=s/\2<=s/\s<=4:=⟨_,rfl,by omega,by omega⟩
 rw[es]
 obtain⟨y,ey,y2,y6,yl⟩:∃y:Int,(mBr (aw (mOp pEq (aa 1) (mC (.int (2))))) (aI 2 (mOp aY (mC (.int (2))) (mOp cE (mOp cy (aa 0) (mC (.int (3)))) (mC (.int (5)))))) aL) [some (.int hd),some (.int s),some (.int (2+hd / 3 % 2))]=.next [some (.int hd),some (.int s),some (.int y)]/\2<=y/\y<=8/\(s=2\/y<=4):=by
  by_cases q:s=2
  ·exact⟨2+hd / 3 % 5,d4 (by simp[q]) (aq (v:=.int (2+hd / 3 % 5)) (by simp[a9,d3]) (by simp) rfl),by omega,by omega,.inl q⟩
  ·exact⟨2+hd / 3 % 2,bg (by simp[q]) av,by omega,by omega,.inr (by omega)⟩
 refine az ey ?_
 obtain⟨w,ew,w2,w8,wl⟩:∃w:Int,(mBr (aw (mOp pEq (mOp cE (mOp cy (aa 0) (mC (.int (15)))) (mC (.int (16)))) (mC (.int (5))))) (aI 2 (mOp aY (mC (.int (4))) (mOp bL (mC (.int (4))) (ak (p1 cP) (ad (mOp pEq (aa 1) (mC (.int (2)))) aj))))) aL) [some (.int hd),some (.int s),some (.int y)]=.next [some (.int hd),some (.int s),some (.int w)]/\2<=w/\w<=8/\(s=2\/w<=4):=by
  by_cases q:hd / 15 % 16=5
  ·by_cases q2:s=2
   ·exact⟨8,d4 (by simp[a9,d15,q]) (aq (v:=.int 8) (by simp[q2,p1,cP,cF (i:=4) (j:=1) (.inl ⟨by decide,by decide⟩)]) (by simp) rfl),by omega,by omega,.inl q2⟩
   ·exact⟨4,d4 (by simp[a9,d15,q]) (aq (v:=.int 4) (by simp[q2,p1,cP,cF (i:=4) (j:=0) (.inl ⟨by decide,by decide⟩)]) (by simp) rfl),by omega,by omega,.inr (by omega)⟩
  ·exact⟨y,bg (by simp[a9,d15,q]) av,y2,y6,yl⟩
 refine az ew ?_
 obtain⟨n,rfl⟩:∃n:Nat,w=n:=⟨w.toNat,by omega⟩
 exact aZ (v:=.tup [.int n,.int s]) (ba (by simp) (by simp)) ⟨n,s,rfl,by omega,by omega,s2,s4,wl.imp id fun h=>by omega⟩
def lw(z:Pz)(cs:List Int):List PV:=(z.tr cs).map fun nm=>.tup [.lst .frz (iL nm),.int (z.nu cs nm)]
def lwA(z:Pz):List PV:=z.St.map fun cs=>.lst .frz (lw z cs)
section
variable{z:Pz}
theorem Cp(K:z.K){cs:List Int}(C:Ce z.n z.s cs):lwV z .frz cs (z.tr cs)=lw z cs:=by
 refine List.map_congr_left fun nm hm=>?_
 obtain⟨g1,g2,g3⟩:=lG hm
 rw[tz K C nm g1 fun a ha=>by have:=g2 a ha;omega]
theorem lM{p:Fl->Bool}(h:p .frz=false)(cs:List Int):hasL p (lw z cs)=false:=by
 unfold lw
 induction z.tr cs with
 | nil=>simp
 | cons a l ih=>simp[ih,h]
theorem pM{g:Fl->Fl}(h:g .frz=.frz)(cs:List Int):mapL g (lw z cs)=lw z cs:=by
 unfold lw
 induction z.tr cs with
 | nil=>simp
 | cons a l ih=>simp[ih,h]
theorem fh{g:Fl->Fl}(h:g .frz=.frz):mapL g (lwA z)=lwA z:=by
 unfold lwA
 induction z.St with
 | nil=>simp
 | cons a l ih=>simp[ih,h,pM h]
theorem lN{k:Nat}(h:k < z.N):au (.lst .frz (lwA z)) (.int k)=.ok (.lst .frz (lw z (z.dg k))) :=
 bf rfl (by simp only[lwA,List.getElem?_map,kc h,Option.map_some]) (by simp[lM (z:=z) (p:=Fl.isOwn) rfl])
theorem rM{k:Nat}(h:k < z.N):au (.lst .frz (llL .frz z.St)) (.int k)=.ok (.lst .frz (iL (z.dg k))) :=
 bf rfl (by simp only[llL,List.getElem?_map,kc h,Option.map_some]) (by simp)
theorem zy{cs:List Int}{k:Nat}{x:PV}(h:(lw z cs)[k]?=some x):∃nm,(z.tr cs)[k]?=some nm/\x=.tup [.lst .frz (iL nm),.int (z.nu cs nm)]:=by
 unfold lw at h
 rw[List.getElem?_map]at h
 obtain⟨nm,h1,rfl⟩:=Option.map_eq_some_iff.mp h
 exact⟨nm,h1,rfl⟩
theorem zz(cs:List Int):PyData.canLayAll0 (dataL (lw z cs))=true/\PyData.depthAll (dataL (lw z cs))<= 2:=by
 unfold lw
 induction z.tr cs with
 | nil=>exact⟨rfl,by simp[dataL,PyData.depthAll]⟩
 | cons a l ih =>
  obtain⟨h1,h2⟩:=ih
  rw[List.map_cons]
  unfold dataL PyData.canLayAll0 PyData.depthAll
  rw[h1]
  refine⟨by simp[PV.data,dataL,PyData.canLay0,PyData.canLayAll0],?_⟩
  simp[PV.data,dataL,PyData.depth,PyData.depthAll]
  omega
theorem zx(cs:List Int):pEq (.lst .frz (lw z cs)) (.lst .own [])=.ok (.bl (z.tr cs).isEmpty):=by
 obtain⟨h1,h2⟩:=zz (z:=z) cs
 have e1:shp (.lst .frz (lw z cs))=true:=by
  simp[shp,SeqAt.shaped,PV.data,PyData.canLay0,PyData.depth,h1]
  omega
 unfold pEq
 rw[e1,show shp (.lst .own [])=true from rfl]
 simp only[Bool.and_self,if_true,PV.data,PyData.eqv]
 unfold lw
 cases z.tr cs with
 | nil=>rfl
 | cons a l=>simp[dataL,PyData.eqvAll]
abbrev aS(z:Pz):PV:=.lst .frz (llL .frz z.St)
abbrev aW(z:Pz):PV:=.lst .frz (lwA z)
abbrev aC(z:Pz):PV:=.lst .frz z.cmV
inductive Bad(z:Pz):PV->Prop
 | lv (k:Nat) (nm:List Int):k < z.N->z.lvC (z.dg k)=some nm->(∀j < k,z.lvC (z.dg j)=none)->Bad z (.tup [.str "leaves", .lst .frz (iL (z.dg k)),.lst .frz (iL nm)])
 | sk (k:Nat):(∀j < z.N,z.lvC (z.dg j)=none)->k < z.N->z.skC (z.dg k)=true->(∀j < k,z.skC (z.dg j)=false)->Bad z (.tup [.str "stuck", .lst .frz (iL (z.dg k))])
 | no:(∀j < z.N,z.lvC (z.dg j)=none)->(∀j < z.N,z.skC (z.dg j)=false)->Bad z .non
theorem lZ(K:z.K):∃r,zY [aS z,aW z,aC z]=.ok r/\Bad z r:=by
 have hN:=rh K
 suffices hh:d9 (AG [some (aS z),some (aW z),some (aC z),none,none,none]) (Bad z) by
  obtain⟨v,h1,h2⟩:=hh
  exact⟨v,aA h1,h2⟩
 have hcm:∀g,mapL g z.cmV=z.cmV:=fun g=>cA g _
 have hsm:mapL Fl.lend (llL .frz z.St)=llL .frz z.St:=by rw[bx];rfl
 have hwm:mapL Fl.lend (lwA z)=lwA z:=fh rfl
 have hlw:∀cs,mapL Fl.lend (lw z cs)=lw z cs:=fun cs=>pM rfl cs
 have it:∀x3 x4 x5,bO (ad (ak (p1 b6) (ad (aa 0) aj)) aj) [some (aS z),some (aW z),some (aC z),x3,x4,x5]=.ok (cN 0 z.N):=fun x3 x4 x5=>b9 (n:=z.N) (by simp[hsm,d5]) (by omega)
 unfold AG
 refine gO (fun k e=>(∃x3 x4 x5,e=[some (aS z),some (aW z),some (aC z),x3,x4,x5])/\∀j < k,z.lvC (z.dg j)=none) (it _ _ _) ⟨⟨_,_,_,rfl⟩,fun _ h=>absurd h (Nat.not_lt_zero _)⟩ (fun k y e hy hP=>?_) (fun e hP=>?_)
 ·obtain⟨⟨x3,x4,x5,rfl⟩,hn⟩:=hP
  obtain⟨hk,rfl⟩:=cM hy
  have C:=kP K (k:Int)
  have ck:au (aC z) (.int k)=.ok (.bl (z.cal (z.dg k))):=gx (fH hk) _
  have wk:=lN hk
  refine⟨_,cq rfl,?_⟩
  simp only[s0_,s1_,Int.zero_add]
  have more:z.lvC (z.dg k)=none->∀j < k+1,z.lvC (z.dg j)=none:=fun h j hj=>by
   by_cases e:j=k
   ·rw[e];exact h
   ·exact hn j (by omega)
  cases hc:z.cal (z.dg k)with
  | false =>
   rw[hc]at ck
   refine .inl ⟨_,bg (by simp[hcm,ck]) av,⟨_,_,_,rfl⟩,more ?_⟩
   unfold Pz.lvC
   rw[hc]
   rfl
  | true =>
   rw[hc]at ck
   rw[d4 (c:=aU (mOp au (aa 2) (aa 3))) (by simp[hcm,ck]) rfl]
   refine pF (fun i e=>(∃x4 x5,e=[some (aS z),some (aW z),some (aC z),some (.int k),x4,x5])/\∀j < i,∀nm,(z.tr (z.dg k))[j]?=some nm->z.cal (z.sp (z.dg k) nm)=true) (xs:=lw z (z.dg k))
    (cv (f:=.frz) (by simp[hwm,wk]) rfl (lM rfl _) (lM rfl _)) ⟨⟨_,_,rfl⟩,fun _ h=>absurd h (Nat.not_lt_zero _)⟩ (fun i y e hy hP=>?_) (fun e hP=>?_)
   ·obtain⟨⟨x4,x5,rfl⟩,hm⟩:=hP
    obtain⟨nm,hnm,rfl⟩:=zy hy
    refine⟨[some (aS z),some (aW z),some (aC z),some (.int k),some (.lst .frz (iL nm)),some (.int (z.nu (z.dg k) nm))],rfl,?_⟩
    have cn:=uJ K (k8 K C nm) .frz
    cases h3:z.cal (z.sp (z.dg k) nm)with
    | true =>
     rw[h3]at cn
     refine .inl ⟨_,bg (by simp[hcm,cn]) av,⟨_,_,rfl⟩,fun j hj nm' hj'=>?_⟩
     by_cases e:j=i
     ·subst e
      rw[hnm]at hj'
      cases hj'
      exact h3
     ·exact hm j (by omega) nm' hj'
    | false =>
     rw[h3]at cn
     have sk:=rM hk
     refine .inr ⟨.tup [.str "leaves", .lst .frz (iL (z.dg k)),.lst .frz (iL nm)],d4 (by simp[hcm,cn]) (ba (by simp[hsm,sk]) (by simp)),.lv k nm hk ?_ hn⟩
     unfold Pz.lvC
     rw[if_pos hc]
     refine l8 hnm (by rw[h3];rfl) fun j hj y hy=>?_
     rw[hm j hj y hy]
     rfl
   ·obtain⟨⟨x4,x5,rfl⟩,hm⟩:=hP
    refine⟨⟨_,_,_,rfl⟩,more ?_⟩
    unfold Pz.lvC
    rw[if_pos hc]
    refine pW fun i y hy=>?_
    rw[hm i (by simp[lw];exact(List.getElem?_eq_some_iff.mp hy).1) y hy]
    rfl
 ·obtain⟨⟨x3,x4,x5,rfl⟩,hn⟩:=hP
  rw[bM]at hn
  refine gO (fun k e=>(∃x3,e=[some (aS z),some (aW z),some (aC z),x3,x4,x5])/\∀j < k,z.skC (z.dg j)=false) (it _ _ _) ⟨⟨_,rfl⟩,fun _ h=>absurd h (Nat.not_lt_zero _)⟩ (fun k y e hy hP=>?_) (fun e hP=>?_)
  ·obtain⟨⟨x3,rfl⟩,hs⟩:=hP
   obtain⟨hk,rfl⟩:=cM hy
   have ck:au (aC z) (.int k)=.ok (.bl (z.cal (z.dg k))):=gx (fH hk) _
   have wk:=lN hk
   have wn:=zx (z:=z) (z.dg k)
   refine⟨_,cq rfl,?_⟩
   simp only[s0_,s1_,Int.zero_add]
   have ts:(eT (cS (aU (mOp au (aa 2) (aa 3)))) (aw (mOp pEq (mOp au (aa 1) (aa 3)) (b7 aj)))) [some (aS z),some (aW z),some (aC z),some (.int k),x4,x5]=.ok (z.skC (z.dg k)):=by
    unfold Pz.skC
    cases hc:z.cal (z.dg k)with
    | true=>rw[hc]at ck;simp[hcm,ck]
    | false=>rw[hc]at ck;simp[hcm,ck,hwm,wk,wn]
   cases hc:z.skC (z.dg k)with
   | false =>
    rw[hc]at ts
    refine .inl ⟨_,bg ts av,⟨_,rfl⟩,fun j hj=>?_⟩
    by_cases e:j=k
    ·rw[e];exact hc
    ·exact hs j (by omega)
   | true =>
    rw[hc]at ts
    have sk:=rM hk
    exact .inr ⟨.tup [.str "stuck", .lst .frz (iL (z.dg k))],d4 ts (ba (by simp[hsm,sk]) (by simp)),.sk k hn hk hc hs⟩
  ·obtain⟨⟨x3,rfl⟩,hs⟩:=hP
   rw[bM]at hs
   exact aZ (ba (by simp) (by simp)) (.no hn hs)
theorem p5(f g:Fl)(a b:List Int):eqD (.lst f (iL a)) (.lst g (iL b))=decide (b=a):=by
 unfold eqD
 simp only[PV.data,PyData.eqv,gc]
theorem z9(K:z.K){j k:Nat}(hj:j < z.N)(hk:k < z.N)(h:z.dg j=z.dg k):j=k:=by
 have h1:=oB K hj
 have h2:=oB K hk
 rw[h,h2]at h1
 omega
theorem jp(f:Fl):∀l:List (List Int),(llL f l).all shp=true
 | []=>rfl
 | a::l=>by
  rw[show llL f (a::l)=.lst f (iL a)::llL f l from rfl,List.all_cons,jp f l,fK]
  rfl
theorem mO:∀l:List (List Int),(llL .frz l).all smp=true
 | []=>rfl
 | a::l=>by
  rw[show llL .frz (a::l)=.lst .frz (iL a)::llL .frz l from rfl,List.all_cons,mO l]
  simp[smp,dJ]
theorem rK(K:z.K){k:Nat}(hk:k < z.N)(f:Fl):cQ (aS z) (.lst f (iL (z.dg k)))=.ok (.int k):=by
 have hN:=rh K
 unfold cQ
 dsimp only
 rw[if_pos (by simp only[fK,jp,mO,ez,d5,Bool.and_self,Bool.true_and,decide_eq_true_eq];omega)]
 have:(llL .frz z.St).findIdx? (eqD (.lst f (iL (z.dg k))))=some k:=by
  rw[List.findIdx?_eq_some_iff_getElem]
  refine⟨by rw[ez,d5];exact hk,?_,fun j hj=>?_⟩
  ·simp[llL,Pz.St,p5]
  ·simp[llL,Pz.St,p5]
   intro q
   have:=z9 K (by omega) hk q
   omega
 rw[this]
theorem st_in{k:Nat}(hk:k < z.N)(f:Fl):cO (.lst f (iL (z.dg k))) (aS z)=.ok (.bl false):=by
 unfold cO
 simp only[a_,fK,jp,Bool.and_self,if_true]
 have:inL (.lst f (iL (z.dg k))) (llL .frz z.St)=true:=by
  unfold inL
  rw[List.any_eq_true]
  refine⟨.lst .frz (iL (z.dg k)),List.mem_map.mpr ⟨z.dg k,List.mem_of_getElem? (kc hk),rfl⟩,?_⟩
  simp only[PV.data,PyData.eqv,gc]
  simp
 rw[this]
 rfl
theorem pO(K:z.K){k:Nat}(hk:k < z.N){e:En}{mi:ME}(h:mi e=.ok (.lst .frz (lw z (z.dg k)))){caps:List Nat}{j m:Nat}{me:ME}{F:Int->Int}
  (hm:∀nm,∃e1,(tgT 2 (aD (tgN j) (aD (tgN m) b5))) (.tup [.lst .frz (iL nm),.int (z.nu (z.dg k) nm)]) (bT caps 2 e)=some e1/\me e1=.ok (.int (F (z.nu (z.dg k) nm)))) :
  aV caps 2 (bA mi) (tgT 2 (aD (tgN j) (aD (tgN m) b5))) br me e=.ok (.lst .own (iL ((z.fol (z.dg k)).map F))):=by
 have tl:=n0 K (z.dg k)
 refine bF (xs:=lw z (z.dg k)) (by simp[h]) (by simp[lw];omega) ?_
 rw[show iL ((z.fol (z.dg k)).map F)=(z.tr (z.dg k)).map fun nm=>PV.int (F (z.nu (z.dg k) nm)) by simp[Pz.fol,iL]]
 refine bv (a:=fun nm=>PV.tup [.lst .frz (iL nm),.int (z.nu (z.dg k) nm)]) (f:=fun nm=>PV.int (F (z.nu (z.dg k) nm))) (z.tr (z.dg k)) fun nm _=>?_
 obtain⟨e1,h1,h2⟩:=hm nm
 exact⟨e1,by simpa[PV.borrow]using h1,h2,by simp,by simp⟩
theorem lP(K:z.K){wl:List Int}(R:RdA z wl):zS [.lst .bor (rdV z .bor wl),aS z,aW z,aC z]=.ok (.bl true):=by
 have l2:=R.l2
 have l7:=R.l7
 have hcm:∀g,mapL g z.cmV=z.cmV:=fun g=>cA g _
 have hsm:mapL Fl.lend (llL .frz z.St)=llL .frz z.St:=by rw[bx];rfl
 have hwm:mapL Fl.lend (lwA z)=lwA z:=fh rfl
 have hrm:mapL Fl.lend (rdV z .bor wl)=rdV z .bor wl:=by unfold rdV;rw[bx];rfl
 have rl:(rdV z .bor wl).length=wl.length:=by simp[rdV]
 refine aA ?_
 show Aq [some (.lst .bor (rdV z .bor wl)),some (aS z),some (aW z),some (aC z),none,none,none,none]=_
 unfold Aq
 refine ag (bg (by simp[hrm,rl,fV];omega) av) ?_
 refine ag (aq (v:=.int (-1)) (by simp) (by simp) rfl) ?_
 simp only[s0_,s1_]
 have it:∀e:En,e[0]?=some (some (.lst .bor (rdV z .bor wl)))->dX (aa 0) e=.ok (enP 0 (rdV z .bor wl)):=fun e he=>by
  unfold dX
  simp only[fo,he]
  simp[hrm,d7,rdV,aQ _ Fl.isOwn .bor rfl,aQ _ Fl.isLnt .bor rfl]
 refine ce (fun k e=>∃x4 x5 x6 x7,e=[some (.lst .bor (rdV z .bor wl)),some (aS z),some (aW z),some (aC z),some (.int x4),x5,x6,x7]/\(0 < k->x4=gt wl (k - 1))) (it _ rfl) ⟨_,_,_,_,rfl,fun h=>absurd h (Nat.lt_irrefl _)⟩ (fun k y e hy hP=>?_) (fun e hP=>?_)
 ·obtain⟨x4,x5,x6,x7,rfl,hx4⟩:=hP
  rw[fw]at hy
  obtain⟨x,hx,rfl⟩:=Option.map_eq_some_iff.mp hy
  have kl:k < wl.length:=by rw[<- rl];exact(List.getElem?_eq_some_iff.mp hx).1
  have ex:x=.lst .bor (iL (z.dg (gt wl k).toNat)):=by
   unfold rdV llL at hx
   simp[kl]at hx
   rw[<- hx]
   simp[gt,kl]
  subst ex
  obtain⟨y0,yN,yc⟩:=R.un (gt wl k) (bQ kl)
  obtain⟨m,hm⟩:∃m:Nat,gt wl k=m:=⟨(gt wl k).toNat,by omega⟩
  rw[hm,Int.toNat_natCast]at yN yc ⊢
  refine⟨[some (.lst .bor (rdV z .bor wl)),some (aS z),some (aW z),some (aC z),some (.int x4),some (.int k),some (.lst .bor (iL (z.dg m))),x7],by rw[Int.zero_add];rfl,?_⟩
  have s1:=st_in yN .bor
  have s2:=rK K yN .bor
  have s3:=rM yN
  have s4:=lE j9 fB (z.dg m) (by have:=K.n8;simp;omega)
  have ck:au (aC z) (.int m)=.ok (.bl (z.cal (z.dg m))):=gx (fH yN) _
  rw[yc]at ck
  refine aX (bg (by simp[hsm,dW,s1,s2,s3,s4,aJ]) av) ?_
  refine aX (aq (v:=.int m) (by simp[hsm,dW,s2]) (by simp) rfl) ?_
  simp only[s0_,s1_]
  refine aX (bg (by simp[hcm,ck]) av) ?_
  refine aX (bg ?_ av) ?_
  ·by_cases k0:k=0
   ·simp[k0]
   ·have h4:=hx4 (by omega)
    obtain⟨p0,pN,pc⟩:=R.un (gt wl (k - 1)) (bQ (by omega))
    obtain⟨q,hq⟩:∃q:Nat,gt wl (k - 1)=q:=⟨(gt wl (k - 1)).toNat,by omega⟩
    rw[hq,Int.toNat_natCast]at pN
    have nx:=R.nx (k - 1) (by omega)
    rw[show k - 1+1=k by omega,hm,hq,Int.toNat_natCast]at nx
    rw[hq]at h4
    subst h4
    have wq:=lN pN
    have cp:=pO K pN (e:=[some (.lst .bor (rdV z .bor wl)),some (aS z),some (aW z),some (aC z),some (.int q),some (.int k),some (.lst .bor (iL (z.dg m))),some (.int m)]) (mi:=mOp au (aa 2) (aa 4)) (caps:=[]) (j:=0) (m:=1) (me:=aa 1) (F:=fun y=>y) (by simp[hwm,wq]) fun nm=>⟨[some (.lst .frz (iL nm)),some (.int (z.nu (z.dg q) nm))],rfl,by simp⟩
    rw[List.map_id']at cp
    simp only[l_,l9,h8,cp]
    simp[nx,show 0 < k by omega]
  ·exact aR (aq (v:=.int m) (by simp) (by simp) rfl) ⟨_,_,_,_,rfl,fun _=>by rw[show k+1 - 1=k by omega,hm]⟩
 ·obtain⟨x4,x5,x6,x7,rfl,_⟩:=hP
  have e0:au (.lst .bor (rdV z .bor wl)) (.int 0)=.ok (.lst .bor (iL (z.dg (gt wl 0).toNat))):=bf (k:=0) rfl (by simp[rdV,llL,gt,show 0 < wl.length by omega]) (by simp)
  have e1:au (.lst .bor (rdV z .bor wl)) (.int (-1))=.ok (.lst .bor (iL (z.dg (gt wl (wl.length - 1)).toNat))):=by
   have hn:ixN (rdV z .bor wl).length (-1)=some (wl.length - 1):=by
    rw[rl]
    unfold ixN
    simp
    omega
   have:atI (rdV z .bor wl) (-1)=some (.lst .bor (iL (z.dg (gt wl (wl.length - 1)).toNat))):=by
    unfold atI
    rw[hn]
    simp[rdV,llL,gt,show wl.length - 1 < wl.length by omega]
   unfold au
   simp only[a_]
   rw[this]
   simp
  exact ba (by simp[hrm,e0,e1,R.ro]) (by simp)
theorem lQ(K:z.K)(hs:∀j < z.N,z.skC (z.dg j)=false){R:List Int}(A:RkA z R):uA [.lst .bor (iL R),aW z,aC z]=.ok (.bl true):=by
 have hN:=rh K
 have hl:=A.len
 have hcm:∀g,mapL g z.cmV=z.cmV:=fun g=>cA g _
 have hwm:mapL Fl.lend (lwA z)=lwA z:=fh rfl
 have cl:z.cmV.length=z.N:=by simp[Pz.cmV,j4]
 refine aA ?_
 show u8 [some (.lst .bor (iL R)),some (aW z),some (aC z),none,none,none]=_
 unfold u8
 refine ag (bg (by simp[hcm,cl,hl,fV]) av) ?_
 refine ce (fun _ e=>∃x3,e=[some (.lst .bor (iL R)),some (aW z),some (aC z),x3,none,none]) (xs:=iL R) (cv (f:=.bor) (by simp) rfl (by simp) (by simp)) ⟨_,rfl⟩ (fun k x e hx hP=>?_) (fun e hP=>?_)
 ·obtain⟨x3,rfl⟩:=hP
  obtain⟨y,_,rfl⟩:=iF hx
  exact⟨_,cq rfl,aR (bg (by simp[mH,aJ]) av) ⟨_,rfl⟩⟩
 ·obtain⟨x3,rfl⟩:=hP
  refine ce (fun _ e=>∃x4 x5,e=[some (.lst .bor (iL R)),some (aW z),some (aC z),x3,x4,x5]) (b9 (n:=z.N) (by simp[hcm,cl]) (by omega)) ⟨_,_,rfl⟩ (fun k x e hx hP=>?_) (fun e hP=>?_)
  ·obtain⟨x4,x5,rfl⟩:=hP
   obtain⟨hk,rfl⟩:=cM hx
   have ck:au (aC z) (.int k)=.ok (.bl (z.cal (z.dg k))):=gx (fH hk) _
   have rk:=A.ok k hk
   have ik:=c_ (f:=.bor) (cs:=R) (i:=(k:Int)) (by omega) (by omega)
   rw[Int.toNat_natCast]at ik
   refine⟨_,cq rfl,?_⟩
   simp only[s0_,s1_,Int.zero_add]
   refine aX (aq (v:=.int 0) (by simp) (by simp) rfl) ?_
   simp only[s0_,s1_]
   cases hc:z.cal (z.dg k)with
   | true =>
    rw[hc]at ck
    rw[if_pos hc]at rk
    rw[rk]at ik
    refine aX (bg (by simp[hcm,ck]) av) ?_
    exact aR (bg (by simp[ik]) av) ⟨_,_,rfl⟩
   | false =>
    rw[hc]at ck
    rw[if_neg (by rw[hc];decide)]at rk
    have wk:=lN hk
    have cp:=pO K hk (e:=[some (.lst .bor (iL R)),some (aW z),some (aC z),x3,some (.int k),some (.int 0)]) (mi:=mOp au (aa 1) (aa 4)) (caps:=[0]) (j:=1) (m:=2) (me:=mOp au (aa 0) (aa 2)) (F:=fun y=>gt R y.toNat) (by simp [hwm,wk]) fun nm=>⟨[some (.lst .bor (iL R)),some (.lst .frz (iL nm)),some (.int (z.nu (z.dg k) nm))],by simp [bT,PV.borrow,tgT,aD,tgN,b5,a7],by
     obtain⟨h0,h1,_⟩:=oT K (k8 K (kP K (k:Int)) nm)
     have:=c_ (f:=.bor) (cs:=R) (i:=z.nu (z.dg k) nm) h0 (by have:(z.nu (z.dg k) nm).toNat < z.N:=h1;omega)
     simp[this]⟩
    have ne:(z.fol (z.dg k)).map (fun y=>gt R y.toNat)≠ []:=fun q=>by
     have h1:=hs k hk
     unfold Pz.skC at h1
     rw[hc]at h1
     have h2:=List.map_eq_nil_iff.mp (List.map_eq_nil_iff.mp q)
     rw[h2]at h1
     simp at h1
    generalize(z.fol (z.dg k)).map (fun y=>gt R y.toNat)=l at *
    have mx:fF c9 (.lst .own (iL l))=.ok (.int (c9 l)):=by
     unfold fF
     simp only[a_,dJ]
     rw[if_neg (by cases l<;>simp_all)]
    refine aX (d4 (by simp[hcm,ck]) (aq (v:=.int (1+c9 l)) (by simp only[h8,qW,fq,dG,fW,cp];simp[mx]) (by simp) rfl)) ?_
    simp only[s0_,s1_]
    rw[rk]at ik
    exact aR (bg (by simp[ik]) av) ⟨_,_,rfl⟩
  ·obtain⟨x4,x5,rfl⟩:=hP
   exact ba (by simp) (by simp)
theorem yA(a:Str)(h:shp (.str a)=true):pEq (.str a) (.str a)=.ok (.bl true):=wX rfl h
theorem yz(a:Str)(h:shp (.str a)=true):pNe (.str a) (.str a)=.ok (.bl false):=wf rfl h
theorem BD:shp (.str "leaves")=true:=by first | decide +kernel | simp[shp,SeqAt.shaped,PV.data,PyData.canLay0,PyData.depth]
theorem BB:shp (.str "stuck")=true:=by first | decide +kernel | simp[shp,SeqAt.shaped,PV.data,PyData.canLay0,PyData.depth]
theorem qu:shp (.str "round")=true:=by first | decide +kernel | simp[shp,SeqAt.shaped,PV.data,PyData.canLay0,PyData.depth]
theorem yB:shp (.str "calm")=true:=by first | decide +kernel | simp[shp,SeqAt.shaped,PV.data,PyData.canLay0,PyData.depth]
theorem se{a b:Str}(ha:shp (.str a)=true)(hb:shp (.str b)=true)(h:a≠b):pEq (.str a) (.str b)=.ok (.bl false)/\pNe (.str a) (.str b)=.ok (.bl true):=by
 have:PyData.eqv (PV.str a).data (PV.str b).data=false:=by simpa[PV.data,PyData.eqv]using h
 constructor
 ·unfold pEq;rw[ha,hb,this];rfl
 ·unfold pNe;rw[ha,hb,this];rfl
theorem lS(w:Str):lA "str" (.str w)=.ok (.bl true):=rfl
theorem Ap{r:PV}{k:Nat}{nm:List Int}(B:Bad z r)(hk:k < z.N)(h1:z.lvC (z.dg k)=some nm)(h2:∀j < k,z.lvC (z.dg j)=none):r=.tup [.str "leaves", .lst .frz (iL (z.dg k)),.lst .frz (iL nm)]:=by
 cases B with
 | lv k' nm' hk' h1' h2' =>
  rcases Nat.lt_trichotomy k k' with q | q | q
  ·rw[h2' k q]at h1;cases h1
  ·subst q
   rw[h1]at h1'
   cases h1'
   rfl
  ·rw[h2 k' q]at h1';cases h1'
 | sk k' hn | no hn=>rw[hn k hk]at h1;cases h1
theorem Ao{r:PV}{k:Nat}(B:Bad z r)(hn:∀j < z.N,z.lvC (z.dg j)=none)(hk:k < z.N)(h1:z.skC (z.dg k)=true)(h2:∀j < k,z.skC (z.dg j)=false):r=.tup [.str "stuck", .lst .frz (iL (z.dg k))]:=by
 cases B with
 | lv k' nm' hk' h1' h2'=>rw[hn k' hk']at h1';cases h1'
 | sk k' hn' hk' h1' h2' =>
  rcases Nat.lt_trichotomy k k' with q | q | q
  ·rw[h2' k q]at h1;cases h1
  ·subst q;rfl
  ·rw[h2 k' q]at h1';cases h1'
 | no hn hs=>rw[hs k hk]at h1;cases h1
theorem uO{r:PV}(B:Bad z r)(hn:∀j < z.N,z.lvC (z.dg j)=none)(hs:∀j < z.N,z.skC (z.dg j)=false):r=.non:=by
 cases B with
 | lv k' nm' hk' h1' h2'=>rw[hn k' hk']at h1';cases h1'
 | sk k' hn' hk' h1' h2'=>rw[hs k' hk']at h1';cases h1'
 | no=>rfl
theorem hG(K:z.K){v:PV}(A:Ans z v){φ:Fl->Fl}(hφ:φ .own=.own\/φ .own=.bor)(hz:φ .frz=.frz):uu [v.mapF φ,aS z,aW z,aC z]=.ok (.bl true):=by
 obtain⟨r,hr,B⟩:=lZ K
 have n8:=K.n8
 have hcm:∀g,mapL g z.cmV=z.cmV:=fun g=>cA g _
 have hs1:mapL Fl.lend (llL .frz z.St)=llL .frz z.St:=by rw[bx];rfl
 have hs2:mapL Fl.toBor (llL .frz z.St)=llL .frz z.St:=by rw[bx];rfl
 have hw1:mapL Fl.lend (lwA z)=lwA z:=fh rfl
 have hw2:mapL Fl.toBor (lwA z)=lwA z:=fh rfl
 obtain⟨g,hg⟩:∃g,φ .own=g:=⟨_,rfl⟩
 obtain⟨gl,hl,hb,ho,hn⟩:∃gl:Fl,g.lend=gl/\gl.toBor=.bor/\gl.isOwn=false/\g.isLnt=false:=by
  rw[hg]at hφ
  rcases hφ with rfl | rfl
  ·exact⟨.lnt,rfl,rfl,rfl,rfl⟩
  ·exact⟨.bor,rfl,rfl,rfl,rfl⟩
 have nd:∀k:Nat,qT [.lst .bor (iL (z.dg k)),.lst .frz (iL (z.dg k))]=.ok (.bl true):=fun k=>lE j9 fB _ (by simp;omega)
 cases A with
 | lv k nm hk h1 h2 =>
  cases Ap B hk h1 h2
  rw[show(PV.tup [.str "leaves", .lst .own (iL (z.dg k)),.lst .frz (iL nm)]).mapF φ=.tup [.str "leaves", .lst g (iL (z.dg k)),.lst .frz (iL nm)] by simp[hg,hz]]
  have nl:nm.length<=1000:=by
   unfold Pz.lvC at h1
   split at h1
   ·have:=(lG (List.mem_of_find?_eq_some h1)).2.2
    omega
   ·cases h1
  have t0:au (.tup [.str "leaves", .lst gl (iL (z.dg k)),.lst .frz (iL nm)]) (.int 0)=.ok (.str "leaves"):=bf (k:=0) rfl rfl rfl
  have t1:au (.tup [.str "leaves", .lst gl (iL (z.dg k)),.lst .frz (iL nm)]) (.int 1)=.ok (.lst gl (iL (z.dg k))):=bf (k:=1) rfl rfl (by simp[ho])
  have t2:au (.tup [.str "leaves", .lst gl (iL (z.dg k)),.lst .frz (iL nm)]) (.int 2)=.ok (.lst .frz (iL nm)):=bf (k:=2) rfl rfl (by simp)
  have r0:au (.tup [.str "leaves", .lst .frz (iL (z.dg k)),.lst .frz (iL nm)]) (.int 0)=.ok (.str "leaves"):=bf (k:=0) rfl rfl rfl
  have r1:au (.tup [.str "leaves", .lst .frz (iL (z.dg k)),.lst .frz (iL nm)]) (.int 1)=.ok (.lst .frz (iL (z.dg k))):=bf (k:=1) rfl rfl (by simp)
  have r2:au (.tup [.str "leaves", .lst .frz (iL (z.dg k)),.lst .frz (iL nm)]) (.int 2)=.ok (.lst .frz (iL nm)):=bf (k:=2) rfl rfl (by simp)
  have e0:=yz _ BD
  have n1:=lE fB fB nm nl
  refine aA ?_
  show mB [some _,some (aS z),some (aW z),some (aC z),none]=_
  unfold mB
  refine ag (bg (by simp[hl,t0,fV,lS]) av) ?_
  refine ag (aq (v:=.tup [.str "leaves", .lst .frz (iL (z.dg k)),.lst .frz (iL nm)]) (by simp[hs1,hs2,hw1,hw2,hcm,hr,aJ]) (by simp) rfl) ?_
  simp only[s0_,s1_]
  refine dF (d4 (by simp[gS,PV.isNon]) ?_)
  refine ag (bg (by simp[hl,t0,t1,r0,r1,e0,hb,nd,aJ]) av) ?_
  exact ba (by simp[hl,t2,r2,n1,aJ]) (by simp)
 | sk k hv hk h1 h2 =>
  cases Ao B hv hk h1 h2
  rw[show(PV.tup [.str "stuck", .lst .own (iL (z.dg k))]).mapF φ=.tup [.str "stuck", .lst g (iL (z.dg k))] by simp[hg]]
  have t0:au (.tup [.str "stuck", .lst gl (iL (z.dg k))]) (.int 0)=.ok (.str "stuck"):=bf (k:=0) rfl rfl rfl
  have t1:au (.tup [.str "stuck", .lst gl (iL (z.dg k))]) (.int 1)=.ok (.lst gl (iL (z.dg k))):=bf (k:=1) rfl rfl (by simp[ho])
  have r0:au (.tup [.str "stuck", .lst .frz (iL (z.dg k))]) (.int 0)=.ok (.str "stuck"):=bf (k:=0) rfl rfl rfl
  have r1:au (.tup [.str "stuck", .lst .frz (iL (z.dg k))]) (.int 1)=.ok (.lst .frz (iL (z.dg k))):=bf (k:=1) rfl rfl (by simp)
  have e0:=yz _ BB
  refine aA ?_
  show mB [some _,some (aS z),some (aW z),some (aC z),none]=_
  unfold mB
  refine ag (bg (by simp[hl,t0,fV,lS]) av) ?_
  refine ag (aq (v:=.tup [.str "stuck", .lst .frz (iL (z.dg k))]) (by simp[hs1,hs2,hw1,hw2,hcm,hr,aJ]) (by simp) rfl) ?_
  simp only[s0_,s1_]
  refine dF (d4 (by simp[gS,PV.isNon]) ?_)
  refine ag (bg (by simp[hl,t0,t1,r0,r1,e0,hb,nd,aJ]) av) ?_
  exact ba (by simp) (by simp)
 | rd wl hv hs R =>
  cases uO B hv hs
  rw[show(PV.tup [.str "round", .lst .own (rdV z .own wl)]).mapF φ=.tup [.str "round", .lst g (rdV z g wl)] by simp[hg,rdV,bx]]
  have m1:mapL Fl.lend (rdV z g wl)=rdV z gl wl:=by unfold rdV;rw[bx,hl]
  have m2:mapL Fl.toBor (rdV z gl wl)=rdV z .bor wl:=by unfold rdV;rw[bx,hb]
  have t0:au (.tup [.str "round", .lst gl (rdV z gl wl)]) (.int 0)=.ok (.str "round"):=bf (k:=0) rfl rfl rfl
  have t1:au (.tup [.str "round", .lst gl (rdV z gl wl)]) (.int 1)=.ok (.lst gl (rdV z gl wl)):=bf (k:=1) rfl rfl (by simp[ho,rdV,aQ _ Fl.isOwn gl ho])
  have e0:=yA _ qu
  have lr:=lP K R
  refine aA ?_
  show mB [some _,some (aS z),some (aW z),some (aC z),none]=_
  unfold mB
  refine ag (bg (by simp[hl,m1,t0,fV,lS]) av) ?_
  refine ag (aq (v:=.non) (by simp[hs1,hs2,hw1,hw2,hcm,hr,aJ]) (by simp) rfl) ?_
  simp only[s0_,s1_]
  refine ag (bg (by simp[gS,PV.isNon]) av) ?_
  refine ag (bg (by simp) av) ?_
  exact dF (d4 (by simp[hl,m1,t0,e0]) (ba (by simp[hl,m1,m2,t1,hb,hs1,hs2,hw1,hw2,hcm,lr,aJ]) (by simp)))
 | rk R hv hs Rk =>
  cases uO B hv hs
  rw[show(PV.tup [.str "calm", .lst .own (iL R)]).mapF φ=.tup [.str "calm", .lst g (iL R)] by simp[hg]]
  have t0:au (.tup [.str "calm", .lst gl (iL R)]) (.int 0)=.ok (.str "calm"):=bf (k:=0) rfl rfl rfl
  have t1:au (.tup [.str "calm", .lst gl (iL R)]) (.int 1)=.ok (.lst gl (iL R)):=bf (k:=1) rfl rfl (by simp[ho])
  have e0:=yA _ yB
  have e1:=(se yB qu (by decide)).1
  have lr:=lQ K hs Rk
  refine aA ?_
  show mB [some _,some (aS z),some (aW z),some (aC z),none]=_
  unfold mB
  refine ag (bg (by simp[hl,t0,fV,lS]) av) ?_
  refine ag (aq (v:=.non) (by simp[hs1,hs2,hw1,hw2,hcm,hr,aJ]) (by simp) rfl) ?_
  simp only[s0_,s1_]
  refine ag (bg (by simp[gS,PV.isNon]) av) ?_
  refine ag (bg (by simp) av) ?_
  refine ag (bg (by simp[hl,t0,e1]) av) ?_
  exact ba (by simp[hl,hb,t0,t1,e0,hw1,hw2,hcm,lr,aJ]) (by simp)
theorem vc{v:PV}(A:Ans z v)(n4:z.n<=8):∃xs w ys aN,v=.tup xs/\wL [v,.int z.n]=some (true,.tup (.str w::.lst .own ys::aN))/\hasL Fl.isBor ys=false/\hasL Fl.isBor aN=false:=by
 cases A with
 | lv k nm hk h1 h2 =>
  refine⟨_, "leaves", iL (z.dg k),[.lst .frz (iL nm)],rfl,?_,by simp,by simp⟩
  have t0:au (.tup [.str "leaves", .lst .lnt (iL (z.dg k)),.lst .frz (iL nm)]) (.int 0)=.ok (.str "leaves"):=bf (k:=0) rfl rfl rfl
  have e0:=(se BD qu (by decide)).2
  have tt:(aw (mOp pNe (mOp au (aa 0) (mC (.int (0)))) (mC (.str "round")))) [some (.tup [.str "leaves", .lst .own (iL (z.dg k)),.lst .frz (iL nm)]),some (.int z.n)]=.ok true:=by simp[t0,e0]
  show iS 2 my _=_
  unfold iS my uIf
  simp only[List.map_cons,List.map_nil,List.length_cons,List.length_nil,Nat.sub_self,List.replicate,List.append_nil,tt]
  rfl
 | sk k hv hk h1 h2 =>
  refine⟨_, "stuck", iL (z.dg k),[],rfl,?_,by simp,by simp⟩
  have t0:au (.tup [.str "stuck", .lst .lnt (iL (z.dg k))]) (.int 0)=.ok (.str "stuck"):=bf (k:=0) rfl rfl rfl
  have e0:=(se BB qu (by decide)).2
  have tt:(aw (mOp pNe (mOp au (aa 0) (mC (.int (0)))) (mC (.str "round")))) [some (.tup [.str "stuck", .lst .own (iL (z.dg k))]),some (.int z.n)]=.ok true:=by simp[t0,e0]
  show iS 2 my _=_
  unfold iS my uIf
  simp only[List.map_cons,List.map_nil,List.length_cons,List.length_nil,Nat.sub_self,List.replicate,List.append_nil,tt]
  rfl
 | rk R hv hs Rk =>
  refine⟨_, "calm", iL R,[],rfl,?_,by simp,by simp⟩
  have t0:au (.tup [.str "calm", .lst .lnt (iL R)]) (.int 0)=.ok (.str "calm"):=bf (k:=0) rfl rfl rfl
  have e0:=(se yB qu (by decide)).2
  have tt:(aw (mOp pNe (mOp au (aa 0) (mC (.int (0)))) (mC (.str "round")))) [some (.tup [.str "calm", .lst .own (iL R)]),some (.int z.n)]=.ok true:=by simp[t0,e0]
  show iS 2 my _=_
  unfold iS my uIf
  simp only[List.map_cons,List.map_nil,List.length_cons,List.length_nil,Nat.sub_self,List.replicate,List.append_nil,tt]
  rfl
 | rd wl hv hs R =>
  have l2:=R.l2
  obtain⟨d,D,hd⟩:∃d D,wl.map (fun y=>z.dg y.toNat)=d::D:=by
   cases wl with
   | nil=>simp at l2
   | cons a l=>exact⟨_,_,rfl⟩
  have dl:∀c∈d::D,c.length=z.n:=fun c hc=>by
   rw[<- hd]at hc
   obtain⟨y,_,rfl⟩:=List.mem_map.mp hc
   simp
  have Dl:D≠[]:=fun q=>by
   have:=congrArg List.length hd
   rw[q]at this
   simp at this
   omega
  have er:rdV z .own wl=.lst .own (iL d)::llL .own D:=by unfold rdV;rw[hd];rfl
  rw[er]
  refine⟨_, "round", .lst .own (iL (d++[0]))::llL .own D,[],rfl,?_,by simp[aQ _ Fl.isBor .own rfl],by simp⟩
  have m1:mapL Fl.lend (llL .own D)=llL .lnt D:=by rw[bx];rfl
  have t0:au (.tup [.str "round", .lst .lnt (.lst .lnt (iL d)::llL .lnt D)]) (.int 0)=.ok (.str "round"):=bf (k:=0) rfl rfl rfl
  have e0:=yz _ qu
  have tt:(aw (mOp pNe (mOp au (aa 0) (mC (.int (0)))) (mC (.str "round")))) [some (.tup [.str "round", .lst .own (.lst .own (iL d)::llL .own D)]),some (.int z.n)]=.ok false:=by simp[m1,t0,e0]
  have d8:d.length<=1000000:=by have:=dl d List.mem_cons_self;omega
  have ap:g7 0 1 0 0 [some (.tup [.str "round", .lst .own (.lst .own (iL d)::llL .own D)]),some (.int z.n)]=.next [some (.tup [.str "round", .lst .own (.lst .own (iL (d++[0]))::llL .own D)]),some (.int z.n)]:=by
   unfold g7
   have i1:ixN 2 1=some 1:=rfl
   have i0:ixN (llL .own D).length.succ 0=some 0:=by simp[ixN]
   simp only[List.getElem?_cons_zero,List.getElem?_cons_succ,List.length_cons,List.length_nil,i1,i0,dJ]
   rw[if_pos d8]
   rfl
  generalize d++[0]=d' at *
  have t1:au (.tup [.str "round", .lst .lnt (.lst .lnt (iL d')::llL .lnt D)]) (.int 1)=.ok (.lst .lnt (.lst .lnt (iL d')::llL .lnt D)):=bf (k:=1) rfl rfl (by simp[aQ _ Fl.isOwn .lnt rfl])
  have Dp:0 < D.length:=List.length_pos_iff.mpr Dl
  have t2:au (.lst .lnt (.lst .lnt (iL d')::llL .lnt D)) (.int (-1))=.ok (.lst .lnt (iL (D.getLast Dl))):=by
   have hn:ixN (PV.lst .lnt (iL d')::llL .lnt D).length (-1)=some D.length:=by
    unfold ixN
    simp
    omega
   have:atI (.lst .lnt (iL d')::llL .lnt D) (-1)=some (.lst .lnt (iL (D.getLast Dl))):=by
    unfold atI
    rw[hn]
    obtain⟨m,hm⟩:∃m,D.length=m+1:=⟨D.length - 1,by omega⟩
    rw[List.getLast_eq_getElem]
    simp[llL,hm]
   unfold au
   simp only[a_]
   rw[this]
   simp
  have lg:=dl _ (List.mem_cons_of_mem _ (List.getLast_mem Dl))
  have ft:(mOp pEq (ak (p1 b6) (ad (mOp au (mOp au (aa 0) (mC (.int (1)))) (mUn jC (mC (.int (1))))) aj)) (aa 1)) [some (.tup [.str "round", .lst .own (.lst .own (iL d')::llL .own D)]),some (.int z.n)]=.ok (.bl true):=by
   simp[m1,t1,t2,lg]
  show iS 2 my _=_
  unfold iS my uIf
  simp only[List.map_cons,List.map_nil,List.length_cons,List.length_nil,Nat.sub_self,List.replicate,List.append_nil,tt]
  unfold vq rA
  simp only[ap,ft]
  rfl
theorem o4(K:z.K)(h4:z.many=true->z.n<=4)(c:Int):∃v,nE [z.T,.bl z.many,.int c]=.ok v/\Ans z v:=by
 obtain⟨v,h1,A⟩:=pP K h4
 have b1:=A.own Fl.isBor rfl rfl
 have b2:=A.own Fl.isLnt rfl rfl
 refine⟨v,aA ?_,A⟩
 show uY [some z.T,some (.bl z.many),some (.int c)]=_
 unfold uY
 cases hm:z.many with
 | true =>
  rw[hm]at h1
  exact dF (d4 (by simp) (ba (by simp[h1,aJ,b1]) (by simp[b2])))
 | false =>
  rw[hm]at h1
  refine ag (bg (by simp) av) ?_
  by_cases q:c % 2=0
  ·exact dF (d4 (by simp[a9,q]) (ba (by simp[h1,aJ,b1]) (by simp[b2])))
  ·exact ag (bg (by simp[a9,q]) av) (ba (by simp[h1,aJ,b1]) (by simp[b2]))
end
theorem vk{x:Int}(h:x=0\/x=1\/x=2):∃(w:Str) (wi:Int),au (.lst .own [.str "none", .str "one", .str "none"]) (.int x)=.ok (.str w)/\Wd w wi:=by
 rcases h with rfl | rfl | rfl
 ·exact⟨"none", 0,rfl,.inl ⟨rfl,rfl⟩⟩
 ·exact⟨"one", 1,rfl,.inr ⟨rfl,rfl⟩⟩
 ·exact⟨"none", 0,rfl,.inl ⟨rfl,rfl⟩⟩
theorem DM:shp (.str "none")=true:=by first | decide +kernel | simp[shp,SeqAt.shaped,PV.data,PyData.canLay0,PyData.depth]
theorem BC:shp (.str "one")=true:=by first | decide +kernel | simp[shp,SeqAt.shaped,PV.data,PyData.canLay0,PyData.depth]
theorem rp{w:Str}{wi:Int}(h:Wd w wi):∃b,pEq (.str w) (.str "one")=.ok (.bl b)/\cP (.bl b)=.ok (.int wi):=by
 rcases h with⟨rfl,rfl⟩ |⟨rfl,rfl⟩
 ·exact⟨false,(se DM BC (by decide)).1,rfl⟩
 ·exact⟨true,yA _ BC,rfl⟩
def bes(f:Fl)(z:Pz):PV:=.obj f 1 [3,4,5,0,1,2] [.int 0,.tup (iL z.os),.tup (iL z.fs),.int 2,.int z.s,.bl false]
theorem law_true(fl:Fl)(ns:List Int)(h:Scr fl)(hl:ns.length<=63):yb [.lst fl (ns.map .int)]=.ok (.bl true):=by
 rw[ub]
 have c0:iH [.lst fl (iL ns),.int 0]=.ok (.int (cell ns 0)):=qd ns 0 h
 generalize cell ns 0=hd at c0
 obtain⟨n,s,hsz,n2,n8,s2,s4,big⟩:=rW hd
 obtain⟨fs,os,htb,hf,ho⟩:=ql (ns:=ns) h s2 s4
 have d240:cy (.int hd) (.int 240)=.ok (.int (hd / 240)):=dz (by decide) (by decide)
 have d720:cy (.int hd) (.int 720)=.ok (.int (hd / 720)):=dz (by decide) (by decide)
 have d1440:cy (.int hd) (.int 1440)=.ok (.int (hd / 1440)):=dz (by decide) (by decide)
 obtain⟨w,wi,hw1,hw⟩:=vk (x:=hd / 240 % 3) (by omega)
 obtain ⟨many,hm,h4⟩:∃ many:Bool,(decide ((n:Int) <= 4) && decide (hd / 720 % 2=1))=many/\(many=true->n <= 4):=⟨_,rfl,fun e=>by
  have:=(Bool.and_eq_true_iff.mp e).1
  have:=of_decide_eq_true this
  omega⟩
 obtain⟨z,en,es,ef,eo,ew,em⟩:∃z:Pz,z.n=n/\z.s=s/\z.fs=fs/\z.os=os/\z.w=wi/\z.many=many:=⟨⟨n,s,fs,os,wi,many⟩,rfl,rfl,rfl,rfl,rfl,rfl⟩
 subst en es ef eo ew em
 have K:z.K:=⟨n2,n8,s2,s4,hf,ho,big⟩
 have hN:=rh K
 refine aA (v:=.bl true) ?_
 show u9 [some (.lst fl (iL ns)),none,none,none,none,none,none,none,none,none,none,none,none,none,none,none,none,none]=_
 unfold u9
 refine ag (aq (v:=.int hd) (by simp[h.lend,h.toBor,c0,aJ]) (by simp) rfl) ?_
 simp only[s0_,s1_]
 refine ag (va (v:=.tup [.int z.n,.int z.s]) (e:=[some (.lst fl (iL ns)),some (.int hd),some (.int z.n),some (.int z.s),none,none,none,none,none,none,none,none,none,none,none,none,none,none]) (by simp[hsz,aJ]) (by simp) rfl) ?_
 refine ag (aq (v:=.str w) (by simp[d240,a9,hw1]) (by simp) rfl) ?_
 simp only[s0_,s1_]
 refine ag (aq (v:=.bl z.many) ?_ (by simp) rfl) ?_
 ·rw[<- hm]
  by_cases q:(z.n:Int)<= 4
  ·simp[d720,a9,q]
  ·simp[d720,a9,q]
 simp only[s0_,s1_]
 refine ag (va (v:=.tup [.lst .own (iL z.fs),.lst .own (iL z.os)]) (e:=[some (.lst fl (iL ns)),some (.int hd),some (.int z.n),some (.int z.s),some (.str w),some (.bl z.many),some (.lst .own (iL z.fs)),some (.lst .own (iL z.os)),none,none,none,none,none,none,none,none,none,none]) (by simp[h.lend,h.toBor,htb,aJ]) (by simp) rfl) ?_
 have i1:=mJ n2 n8 s2 s4 hw hf ho
 have i2:uv [.obj .own 1 [] [],.int 2,.int z.s,.str "none", .lst .bor (iL z.os),.lst .bor (iL z.fs)]=.ok (bes .own z):=mJ (n:=2) (by omega) (by omega) s2 s4 (.inl ⟨rfl,rfl⟩) ho hf
 refine ag (aq (v:=tab .own z.n z.s z.w z.fs z.os) (by simp[i1,aJ]) (by simp) rfl) ?_
 simp only[s0_,s1_]
 refine ag (aq (v:=bes .own z) (by simp[i2,aJ];simp[bes]) (by simp[bes]) rfl) ?_
 simp only[s0_,s1_]
 refine ag (aq (v:=.lst .own (llL .own z.St)) (by simp[ki K,aJ,aQ _ Fl.isBor .own rfl]) (by simp[aQ _ Fl.isLnt .own rfl]) rfl) ?_
 simp only[s0_,s1_]
 refine ag (aq (v:=.lst .own []) (by simp) (by simp) rfl) ?_
 refine ag (aq (v:=.lst .own []) (by simp) (by simp) rfl) ?_
 simp only[s0_,s1_]
 refine ag (dZ (v:=.lst .own (llL .own z.St)) rfl) ?_
 simp only[s0_,s1_,bN,bx,bI]
 have hs1:mapL Fl.lend (llL .frz z.St)=llL .frz z.St:=by rw[bx];rfl
 have hs2:mapL Fl.toBor (llL .frz z.St)=llL .frz z.St:=by rw[bx];rfl
 have it:∀e:En,e[10]?=some (some (aS z))->dX (aa 10) e=.ok (enP 0 (llL .frz z.St)):=fun e he=>by
  unfold dX
  simp only[fo,he]
  simp[hs1,d7,aQ _ Fl.isOwn .frz rfl,aQ _ Fl.isLnt .frz rfl]
 obtain⟨b1,wo1,wo2⟩:=rp hw
 refine ce (fun k e=>∃xs x13 x14 x15 x16,e=[some (.lst fl (iL ns)),some (.int hd),some (.int z.n),some (.int z.s),some (.str w),some (.bl z.many),some (.lst .own (iL z.fs)),some (.lst .own (iL z.os)),some (tab .own z.n z.s z.w z.fs z.os),some (bes .own z),some (aS z),some (.lst .own xs),some (.lst .own ((z.cm.take k).map .bl)),x13,x14,x15,x16,none]/\mapL Fl.freeze xs=(lwA z).take k) (it _ rfl) ⟨[],none,none,none,none,rfl,rfl⟩ (fun k y e hy hP=>?_) (fun e hP=>?_)
 ·obtain⟨xs,x13,x14,x15,x16,rfl,hxs⟩:=hP
  rw[fw]at hy
  obtain⟨x,hx,rfl⟩:=Option.map_eq_some_iff.mp hy
  obtain⟨cs,hcs,rfl⟩:=lO _ _ hx
  obtain⟨hk,rfl⟩:=vd hcs
  have C:=kP K (k:Int)
  have du:=w4 fB n2 n8 s2 s4 hf ho C.len C.inn
  obtain⟨f,hfl,hnx⟩:=lR K C fB j9
  rw[show num z.s (dgs z.s (k:Int) z.n)=k from oB K hk]at hnx
  have fb:∀p:Fl->Bool,p .own=false->p .frz=false->p f=false:=fun p a b=>hfl.elim (fun e=>by rw[e];exact a) fun e=>by rw[e];exact b
  have ff:f.freeze=.frz:=by rcases hfl with rfl | rfl<;>rfl
  have xl:xs.length<=256:=by
   rw[<- nt Fl.freeze xs,hxs,List.length_take]
   omega
  refine⟨[some (.lst fl (iL ns)),some (.int hd),some (.int z.n),some (.int z.s),some (.str w),some (.bl z.many),some (.lst .own (iL z.fs)),some (.lst .own (iL z.os)),some (tab .own z.n z.s z.w z.fs z.os),some (bes .own z),some (aS z),some (.lst .own xs),some (.lst .own ((z.cm.take k).map .bl)),some (.int k),some (.lst .frz (iL (z.dg k))),x15,x16,none],by rw[Int.zero_add];rfl,?_⟩
  refine aX (aq (v:=.lst .own (iL ((List.range z.n).map (bK z.n z.s z.fs z.os (z.dg k))))) (by simp[du,aJ]) (by simp) rfl) ?_
  simp only[s0_,s1_]
  have Dl:((List.range z.n).map (bK z.n z.s z.fs z.os (z.dg k))).length=z.n:=by simp
  have Dg:∀i,i < z.n->gt ((List.range z.n).map (bK z.n z.s z.fs z.os (z.dg k))) i=bK z.n z.s z.fs z.os (z.dg k) i:=fun i hi=>by simp[gt,hi]
  generalize(List.range z.n).map (bK z.n z.s z.fs z.os (z.dg k))=D at *
  refine aX (dL (v:=.lst .own (lwV z f (z.dg k) (z.tr (z.dg k)))) (xs:=xs) (by simp[hnx,aJ,gw (fb Fl.isBor rfl rfl)]) rfl (by simp[gw (fb Fl.isLnt rfl rfl)]) (by omega)) ?_
  simp only[s0_,s1_]
  have cp:aV [15,14] 1 (bO (ad (aa 2) aj)) (tgN 2) (aw (mOp pNe (mOp au (aa 0) (aa 2)) (mOp au (aa 1) (aa 2)))) (aa 2) [some (.lst fl (iL ns)),some (.int hd),some (.int z.n),some (.int z.s),some (.str w),some (.bl z.many),some (.lst .own (iL z.fs)),some (.lst .own (iL z.os)),some (tab .own z.n z.s z.w z.fs z.os),some (bes .own z),some (aS z),some (.lst .own (xs++[.lst .own (lwV z f (z.dg k) (z.tr (z.dg k)))])),some (.lst .own ((z.cm.take k).map .bl)),some (.int k),some (.lst .frz (iL (z.dg k))),some (.lst .own (iL D)),x16,none]=.ok (.lst .own (iL (mv z.n z.s z.fs z.os (z.dg k)))):=by
   unfold mv
   refine bF (xs:=cN 0 z.n) (b9 (n:=z.n) (by simp) (by omega)) (by rw[bM];omega) (j3 (fun i=>decide (bK z.n z.s z.fs z.os (z.dg k) i≠gt (z.dg k) i)) (fun i=>(i:Int)) z.n fun i hi=>⟨[some (.lst .bor (iL D)),some (.lst .frz (iL (z.dg k))),some (.int (0+i))],by simp[tgN,a7,bT,PV.borrow],?_,fun _=>by simp⟩)
   have g1:=c_ (f:=.frz) (cs:=z.dg k) (i:=(i:Int)) (by omega) (by rw[C.len];omega)
   have g2:=c_ (f:=.bor) (cs:=D) (i:=(i:Int)) (by omega) (by omega)
   rw[Int.toNat_natCast]at g1 g2
   rw[Dg i hi]at g2
   simp[g1,g2]
  refine aX (aq (v:=.int (mv z.n z.s z.fs z.os (z.dg k)).length) (by simp only[fq,dG,fW,cp];simp) (by simp) rfl) ?_
  simp only[s0_,s1_]
  refine aR (dL (v:=.bl (z.cal (z.dg k))) (xs:=(z.cm.take k).map .bl) (by simp[wo1,p1,wo2]) rfl (by simp) (by simp;omega)) ?_
  simp only[s0_,s1_]
  have ck:=fH hk
  rw[show(z.cm.take k).map PV.bl++[.bl (z.cal (z.dg k))]=(z.cm.take (k+1)).map .bl by rw[List.take_succ,ck];simp]
  refine⟨_,_,_,_,_,rfl,?_⟩
  rw[gZ,hxs,List.take_succ]
  have:(lwA z)[k]?=some (.lst .frz (lw z (z.dg k))):=by simp only[lwA,List.getElem?_map,kc hk,Option.map_some]
  rw[this,<- Cp K C]
  simp[gv,ff]
 ·obtain⟨xs,x13,x14,x15,x16,rfl,hxs⟩:=hP
  rw[fv,ez,d5,List.take_of_length_le (by rw[j4];exact Nat.le_refl _)]
  rw[fv,ez,d5,List.take_of_length_le (by simp[lwA,d5])]at hxs
  refine ag (dZ (v:=.lst .own xs) rfl) ?_
  simp only[s0_,s1_,bN,hxs,bI]
  refine ag (dZ (v:=.lst .own (z.cm.map .bl)) rfl) ?_
  simp only[s0_,s1_,bN,cA,bI]
  have hcm:∀g,mapL g z.cmV=z.cmV:=fun g=>cA g _
  have hw1':mapL Fl.lend (lwA z)=lwA z:=fh rfl
  have hw2:mapL Fl.toBor (lwA z)=lwA z:=fh rfl
  show _=Out.ret (.bl true)
  rw[show z.cm.map PV.bl=z.cmV from rfl]
  obtain⟨v,hv,A⟩:=o4 K h4 (hd / 1440)
  obtain⟨v2,hv2,A2⟩:=o4 K h4 (hd / 1440+1)
  have ab:=A.own Fl.isBor rfl rfl
  have al:=A.own Fl.isLnt rfl rfl
  have ab2:=A2.own Fl.isBor rfl rfl
  refine ag (aq (v:=v) (by simp[d1440,hv,aJ,ab]) (by simp[al]) rfl) ?_
  simp only[s0_,s1_]
  obtain⟨us,w1,ys,aN,rfl,hap,y1,y2⟩:=vc A n8
  have lr1:=hG K A (φ:=fun g=>g.lend.toBor) (.inr rfl) rfl
  have lr2:=hG K A2 (φ:=Fl.toBor) (.inl rfl) rfl
  have mm:=A.mm
  obtain⟨M,hM⟩:∃M,z.St.length=M:=⟨_,rfl⟩
  refine ag (e:=[some (.lst fl (iL ns)),some (.int hd),some (.int z.n),some (.int z.s),some (.str w),some (.bl z.many),some (.lst .own (iL z.fs)),some (.lst .own (iL z.os)),some (tab .own z.n z.s z.w z.fs z.os),some (bes .own z),some (aS z),some (aW z),some (aC z),x13,x14,x15,x16,some (.tup (.str w1::.lst .own ys::aN))]) ?_ ?_
  ·unfold ny
   have tc:(aU (ak (ax uu) (ad (aa 17) (ad (aa 10) (ad (aa 11) (ad (aa 12) aj)))))) [some (.lst fl (iL ns)),some (.int hd),some (.int z.n),some (.int z.s),some (.str w),some (.bl z.many),some (.lst .own (iL z.fs)),some (.lst .own (iL z.os)),some (tab .own z.n z.s z.w z.fs z.os),some (bes .own z),some (aS z),some (aW z),some (aC z),x13,x14,x15,x16,some (.tup us)]=.ok true:=by
    simp only[jV,fq,dG,fW,fo,List.getElem?_cons_zero,List.getElem?_cons_succ,eR,Res.ok_bind,fY,f8,gY,mm,lr1,bN,hs1,hs2,hw1',hw2,hcm,jM,io]
    rfl
   have ta:mAp 17 2 wL [some (.lst fl (iL ns)),some (.int hd),some (.int z.n),some (.int z.s),some (.str w),some (.bl z.many),some (.lst .own (iL z.fs)),some (.lst .own (iL z.os)),some (tab .own z.n z.s z.w z.fs z.os),some (bes .own z),some (aS z),some (aW z),some (aC z),x13,x14,x15,x16,some (.tup us)]=some (true,[some (.lst fl (iL ns)),some (.int hd),some (.int z.n),some (.int z.s),some (.str w),some (.bl z.many),some (.lst .own (iL z.fs)),some (.lst .own (iL z.os)),some (tab .own z.n z.s z.w z.fs z.os),some (bes .own z),some (aS z),some (aW z),some (aC z),x13,x14,x15,x16,some (.tup (.str w1::.lst .own ys::aN))]):=by
    unfold mAp
    simp only[List.getElem?_cons_zero,List.getElem?_cons_succ,hap]
    rw[if_neg (by simp[y1,y2])]
    rfl
   rw[tc]
   dsimp only
   rw[ta]
  ·by_cases q:81 < M
   ·exact dF (d4 (by simp[hs1,hM];omega) (ba (by simp) (by simp)))
   ·refine ag (bg (by simp[hs1,hM];omega) av) ?_
    refine ag (e:=[some (.lst fl (iL ns)),some (.int hd),some (.int z.n),some (.int z.s),some (.str w),some (.bl z.many),some (.lst .own (iL z.fs)),some (.lst .own (iL z.os)),some (tab .own z.n z.s z.w z.fs z.os),some (bes .own z),some (aS z),some (aW z),some (aC z),x13,x14,x15,x16,some (.tup (.str w1::.lst .own []::aN))]) ?_ ?_
    ·unfold i8
     have i1:ixN (aN.length+1+1) 1=some 1:=by
      unfold ixN
      simp
      omega
     simp only[List.getElem?_cons_zero,List.getElem?_cons_succ,List.length_cons,i1]
     rfl
    ·obtain⟨vb,hb,Ab⟩:=pP (z:=⟨2,z.s,z.os,z.fs,0,false⟩) ⟨Nat.le_refl 2,by show 2<=8;decide,s2,s4,ho,hf,pC (n:=2) s2 s4 (by decide) (.inr (by decide))⟩ nofun
     have hb':jU [bes .bor z,.bl false]=.ok vb:=hb
     have bb:=Ab.own Fl.isBor rfl rfl
     have be:((bes .own z).mapF Fl.lend).mapF Fl.toBor=bes .bor z:=by simp[bes]
     refine ag (fA (v:=vb) ?_) ?_
     ·simp only[fq,dG,fW,fo,List.getElem?_cons_zero,List.getElem?_cons_succ,eR,Res.ok_bind,List.cons_append,List.nil_append,fY,f8,gY,be,lJ,hb']
      simp[aJ,bb]
     ·refine ba (v:=.bl true) ?_ (by simp)
      have e2:(ak (ax nE) (ad (aa 8) (ad (aa 5) (ad (mOp aY (mOp cy (aa 1) (mC (.int (1440)))) (mC (.int (1)))) aj)))) [some (.lst fl (iL ns)),some (.int hd),some (.int z.n),some (.int z.s),some (.str w),some (.bl z.many),some (.lst .own (iL z.fs)),some (.lst .own (iL z.os)),some (tab .own z.n z.s z.w z.fs z.os),some (bes .own z),some (aS z),some (aW z),some (aC z),x13,x14,x15,x16,some (.tup (.str w1::.lst .own []::aN))]=.ok v2:=by simp[d1440,hv2,aJ,ab2]
      rw[fq,dG,e2]
      simp only[dG,fW,fo,List.getElem?_cons_zero,List.getElem?_cons_succ,eR,Res.ok_bind,fY,f8,gY,lr2,bN,hs1,hs2,hw1',hw2,hcm,jM,io]
      rfl
end G
namespace G
open PySem L2 PR
theorem hb:vj pt.F:=⟨bn2,bn1,bn4,bn2,bn2,bn4,bn6,bn2,bn4,bn5,bn2,bn1,bn2,bn2,bn3,bn3,bn2,bn2,bn2,bn1,bn2,bn3,bn2,bn3,bn3,bn2,bn2,bn3,bn3,bn3,bn1,bn2,bn4,bn3,bn4,bn2,bn1,trivial⟩
theorem hd:vi pe.D:=⟨bd3,bd2,trivial⟩
theorem hds:pe.D.all (fun y=>scB y.1)=true:=by decide +kernel
theorem hs:pt.F.all scB=true:=by decide +kernel
theorem fin{l:PySem.W.OpenLaw}{w:World}{K:PySem.W.Frag}{mg:Str->Option Value}{fa:Addr}(t:Ty pt pe w K mg)(hfa:mg "law" = some (.ref fa)) :
  ∃fd:FuncData,(∀(s:Shared) (u:Value),BindsTo s fd ⟨[u],[]⟩ [("_law_script", u)])/\∀base:Heap,K.In base->base.Ns mainGlobals mg->bS l.prog w K mg base (CXP l.prog w) 6 fa fd ["_law_script"] (o6 K):=by
 have e:=hfa.symm.trans (t.tx.gl 36 rfl)
 cases e
 refine⟨dAt K (pt.fa K 36),fun s u=>?_,fun base hB _=>zB (T:=T K) (zr t hB) law_true⟩
 obtain⟨oc,od,kV,doc,pm,an,cdv,ct,osl,e,_⟩:=(t.tx.fn 36).ex
 rw[e]
 exact .of_eq rfl
end G
def PySem.W.Fast.tw17360568418331079441 : Unit := ()
def PySem.W.Fast.tw10395138576372560109 : Unit := ()
def PySem.W.Fast.tw12086811777550168977 : Unit := ()
def PySem.W.Fast.tw5981443594419794459 : Unit := ()
def PySem.W.Fast.tw10753779265012966127 : Unit := ()
def PySem.W.Fast.tw17001891430639975433 : Unit := ()
def PySem.W.Fast.tw9509486242578481400 : Unit := ()
def PySem.W.Fast.tw11139065612744806867 : Unit := ()
def PySem.W.Fast.tw6202379927710267246 : Unit := ()
def PySem.W.Fast.tw16540902607505447202 : Unit := ()
def PySem.W.Fast.tw1458145001934418524 : Unit := ()
def PySem.W.Fast.tw4362222272983953504 : Unit := ()
def PySem.W.Fast.tw6176615080334838246 : Unit := ()
def PySem.W.Fast.tw14980943922772813174 : Unit := ()
def PySem.W.Fast.tw17093858427469221304 : Unit := ()
def PySem.W.Fast.tw16274863835868200295 : Unit := ()
def PySem.W.Fast.tw2914259790156291668 : Unit := ()
def PySem.W.Fast.tw17594030220390645170 : Unit := ()
def PySem.W.Fast.tw8860725829422844727 : Unit := ()
def PySem.W.Fast.tw10051041080477833834 : Unit := ()
def PySem.W.Fast.tw10764092702503330901 : Unit := ()
def PySem.W.Fast.tw4161485154819024818 : Unit := ()
def PySem.W.Fast.tw6256500584332954059 : Unit := ()
def PySem.W.Fast.tw6476531040933788496 : Unit := ()
def PySem.W.Fast.tw991844551493533570 : Unit := ()
def PySem.W.Fast.tw2089067772061182390 : Unit := ()
def PySem.W.Fast.tw349649144450614444 : Unit := ()
def PySem.W.Fast.tw11537196734859540816 : Unit := ()
def PySem.W.Fast.tw10520933768465418565 : Unit := ()
def PySem.W.Fast.tw6473962589429624629 : Unit := ()
def PySem.W.Fast.tw3796155028499320749 : Unit := ()
def PySem.W.Fast.tw17301693379812571655 : Unit := ()
def PySem.W.Fast.tw1628510186206861543 : Unit := ()
def PySem.W.Fast.tw14276368716254243758 : Unit := ()
def PySem.W.Fast.tw17760308273493509054 : Unit := ()
def PySem.W.Fast.tw10088174403968998215 : Unit := ()
def PySem.W.Fast.tw5545884497536982560 : Unit := ()
def PySem.W.Fast.tw11021297645422328425 : Unit := ()
def PySem.W.Fast.tw2331200181373446060 : Unit := ()
def PySem.W.Fast.tw16342954410258408013 : Unit := ()
def PySem.W.Fast.tw17166676540289393216 : Unit := ()
def PySem.W.Fast.tw14180315157205081268 : Unit := ()
def PySem.W.Fast.tw16942288089363378303 : Unit := ()
def PySem.W.Fast.tw16418020885219273392 : Unit := ()
def PySem.W.Fast.tw5590463366020647691 : Unit := ()
def PySem.W.Fast.tw4519490125354340679 : Unit := ()
def PySem.W.Fast.tw8826865190043181322 : Unit := ()
def PySem.W.Fast.tw12834492419762188514 : Unit := ()
def PySem.W.Fast.tw2401921262220087192 : Unit := ()
def PySem.W.Fast.tw16213859854047712291 : Unit := ()
def PySem.W.Fast.tw2730536137779253665 : Unit := ()
def PySem.W.Fast.tw5086470125741144693 : Unit := ()
open PySem PySem.W PyProof.Rows
set_option maxRecDepth 100000 in
set_option maxHeartbeats 0 in
theorem PySem.Challenge.cw_calmring_k34_look_walked_holds : PySem.Challenge.rw_calmring_k34_look_walked.Holds := by
 w_on;o_law;k_head;(case hw=>w_witness2)
 k_fill
 refine PR.t8 (l:=PySem.Challenge.rw_calmring_k34_look_walked) (k:=6) (x := "_law_script") rfl rfl ⟨rfl,by decide,by decide⟩ (fun w h Y=>PySem.W.kIn_of Y) ?F
 case F =>
  intro w mg fa h KX G hmg
  refine' _root_.G.fin (_root_.PR.Ty.of KX G (_root_.PR.Tx.of KX G _root_.G.hb _root_.G.hs ?a ?b ?c ?d ?e ?f ?g) _root_.G.hd _root_.G.hds ?h ?i ?j ?k) hmg
  (case a=>exact fun z=>nomatch z)
  (case b=>exact fun z=>nomatch z)
  (case c=>exact fun z=>nomatch z)
  (case d=>kernel_rfl)
  (case e=>kernel_rfl)
  (case f=>kernel_rfl)
  (case g=>kernel_rfl)
  (case h=>kernel_rfl)
  (case i=>kernel_rfl)
  (case j=>kernel_rfl)
  (case k=>kernel_rfl)
