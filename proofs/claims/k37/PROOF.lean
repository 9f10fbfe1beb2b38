import PyProof.Rows.All
import Wide.All
import OpenK.AllK
import Wide.FinOn
import Lean
import PyProof.EqAt
import PyProof.EqKinds
import PyProof.TupleCall
import PySem.Challenge.RW_calmring_k37_too_great
set_option Elab.async false
set_option linter.all false
set_option maxRecDepth 100000
namespace L2
open PySem PySem.Spec PyProof.Rows
abbrev Key:=Sum Int Str
def vV:Key→Value→Bool
 | .inl k,v=>Value.isInt k v
 | .inr x,v=>Value.isStrOf x v
def B4(w:World):Key→Int
 | .inl k=>hashInt k
 | .inr x=>hashStr w x
theorem bz:∀{k:Key}{v:Value},vV k v=true→(∃i t,k=Sum.inl i∧v=Value.int i t)∨(∃x t,k=Sum.inr x∧v=Value.str x t)
 | .inl i,v,h=>by
  obtain⟨t,e⟩:=Value.isInt_shape (k:=i) (v:=v) h
  exact .inl ⟨i,t,rfl,e⟩
 | .inr x,v,h=>by
  obtain⟨t,e⟩:=Value.isStrOf_shape (x:=x) (v:=v) h
  exact .inr ⟨x,t,rfl,e⟩
theorem xT(a b:Int):decide ((Sum.inl a:Key)=Sum.inl b)=(a==b):=by
 by_cases e:a=b
 ·subst e;simp
 ·have h:¬(Sum.inl a:Key)=Sum.inl b:=fun q=>e (Sum.inl.inj q)
  rw[decide_eq_false h]
  exact(beq_eq_false_iff_ne.mpr e).symm
theorem xQ(a b:Str):decide ((Sum.inr a:Key)=Sum.inr b)=decide (a=b):=by
 by_cases e:a=b
 ·subst e;simp
 ·have h:¬(Sum.inr a:Key)=Sum.inr b:=fun q=>e (Sum.inr.inj q)
  rw[decide_eq_false h,decide_eq_false e]
theorem xS(a:Int)(b:Str):decide ((Sum.inl a:Key)=Sum.inr b)=false:=decide_eq_false (fun q=>nomatch q)
theorem xR(a:Str)(b:Int):decide ((Sum.inr a:Key)=Sum.inl b)=false:=decide_eq_false (fun q=>nomatch q)
def km(prog:Program)(w:World):PySem.KeyKind prog w Key where
 is:=vV
 hash:=B4 w
 inj:=fun v a b ha hb=>by
  rcases bz ha with⟨i,t,rfl,rfl⟩ |⟨x,t,rfl,rfl⟩
  ·rcases bz hb with⟨j,u,rfl,e⟩ |⟨y,u,rfl,e⟩
   ·injection e with e1 _;rw[e1]
   ·exact nomatch e
  ·rcases bz hb with⟨j,u,rfl,e⟩ |⟨y,u,rfl,e⟩
   ·exact nomatch e
   ·injection e with e1 _;rw[e1]
 byValue:=fun k v h=>by
  rcases bz h with⟨i,t,rfl,rfl⟩ |⟨x,t,rfl,rfl⟩<;>rfl
 pyHash:=fun hv h=>by
  rcases bz hv with⟨i,t,rfl,rfl⟩ |⟨x,t,rfl,rfl⟩
  ·exact wpAny_pyHash_int h
  ·exact wpAny_pyHash_str h
 eqBool:=fun hu hv h=>by
  rcases bz hu with⟨i,t,rfl,rfl⟩ |⟨x,t,rfl,rfl⟩
  ·rcases bz hv with⟨j,u,rfl,rfl⟩ |⟨y,u,rfl,rfl⟩
   ·rw[xT]at h;exact wpAny_eqBool_int h
   ·rw[xS]at h;exact SeqAt.EqAt.int_str i t y u _ _ _ _ h
  ·rcases bz hv with⟨j,u,rfl,rfl⟩ |⟨y,u,rfl,rfl⟩
   ·rw[xR]at h;exact SeqAt.EqAt.str_int x t j u _ _ _ _ h
   ·rw[xQ]at h;exact wpAny_eqBool_str h
 «strs»:=fun k x t v h=>by
  rcases bz h with⟨i,u,rfl,e⟩ |⟨y,u,rfl,e⟩
  ·exact nomatch e
  ·injection e with e1 _
   subst e1
   cases v<;>rfl
end L2
namespace L2
open PySem PySem.Spec PyProof.Rows
inductive V where
 | non | bl (b:Bool) | int (i:Int) | str (x:Str) | byt (b:Array UInt8) | flt (b:UInt64) | ref (a:Addr) | ty (n:String)
 deriving DecidableEq
def aY:V→Value→Prop
 | .non,u=>u=Value.none
 | .bl b,u=>u=Value.bool b
 | .int i,u=>∃t,u=Value.int i t
 | .str x,u=>∃t,u=Value.str x t
 | .byt b,u=>∃t,u=Value.bytes b t
 | .flt b,u=>∃t,u=Value.float b t
 | .ref a,u=>u=Value.ref a
 | .ty n,u=>u=Value.type n
abbrev aC:List V→List Value→Prop:=Paired aY
theorem aC.length{xs:List V}{us:List Value}(r:aC xs us):xs.length=us.length:=Paired.length r
theorem aC.get:∀{xs:List V}{us:List Value}{i:Nat}{x:V},aC xs us→xs[i]?=some x→∃u,us[i]?=some u∧aY x u
 | _,_,_,_,.nil,e=>by simp at e
 | _,_,0,_,.cons r _,e=>by simp at e;subst e;exact⟨_,rfl,r⟩
 | _,_,i+1,x,.cons _ t,e=>by
  obtain⟨u,h1,h2⟩:=aC.get (i:=i) (x:=x) t (by simpa using e)
  exact⟨u,by simpa using h1,h2⟩
theorem aC.set{x:V}{u:Value}(r:aY x u):∀{xs:List V}{us:List Value} (i:Nat),aC xs us→aC (xs.set i x) (us.set i u)
 | _,_,_,.nil=>.nil
 | _,_,0,.cons _ t=>.cons r t
 | _,_,i+1,.cons q t=>.cons q (aC.set r i t)
theorem aC.append:∀{xs ys:List V}{us ws:List Value},aC xs us→aC ys ws→aC (xs++ys) (us++ws)
 | _,_,_,_,.nil,s=>s
 | _,_,_,_,.cons r t,s=>.cons r (aC.append t s)
theorem aC.take:∀{xs:List V}{us:List Value} (n:Nat),aC xs us→aC (xs.take n) (us.take n)
 | _,_,0,_=>.nil
 | _,_,_+1,.nil=>.nil
 | _,_,n+1,.cons r t=>.cons r (aC.take n t)
theorem aC.drop:∀{xs:List V}{us:List Value} (n:Nat),aC xs us→aC (xs.drop n) (us.drop n)
 | _,_,0,r=>r
 | _,_,_+1,.nil=>.nil
 | _,_,n+1,.cons _ t=>aC.drop n t
def jy:Option V→Option Value→Prop
 | some v,some u=>aY v u
 | none,none=>True
 | _,_=>False
def KV{κ:Type}:List (κ×V)→List (κ×Value)→Prop:=Paired fun(p:κ×V) (q:κ×Value)=>p.1=q.1∧aY p.2 q.2
def kV:Key→V
 | .inl i=>.int i
 | .inr x=>.str x
inductive HO where
 | lst (xs:List V)
 | tup (xs:List V)
 | dK (kvs:List (Key×V)) | dT (kvs:List (List Key×V))
 | set(S:Int→Bool) (n:Nat)
 | ins (C dx:Addr) (fs:List (Str×V))
 | own (x:Addr)
 | xd (fs:List (Str×V))
 | met (f x:Addr)
 | rng (lo hi:Int)
 | frz (o:Obj) (u:HO)
 | tbl (ps:Array Value)
 | ext (φ:Heap→Prop)
abbrev Hp:=Addr→Option HO
def upd(H:Hp)(a:Addr)(o:HO):Hp:=fun b=>if b=a then some o else H b
theorem bg{H:Hp}{a:Addr}{o:HO}:upd H a o a=some o:=by unfold upd;rw[if_pos rfl]
theorem ay{H:Hp}{a b:Addr}{o:HO}(h:b≠a):upd H a o b=H b:=by unfold upd;rw[if_neg h]
theorem bh{H:Hp}{a b:Addr}{o:HO}(h:H a=some o)(h':H b=none):a≠b:=by
 intro e;subst e;rw[h]at h';cases h'
section
variable(P:Program)(w:World)
def b5(H:Hp)(h:Heap)(a:Addr):HO→Prop
 | .lst xs=>xs.length≤sizeLine∧∃(its:List Value) (n:Nat),aC xs its∧h.get? a=some { cls:=.type "list", data:=.seq its.toArray n }
 | .tup xs=>xs.length≤sizeLine∧∃its:List Value,aC xs its∧IsTup h a its.toArray
 | .dK kvs=>kvs.length≤sizeLine∧(a==sysModules)=false∧∃vs,KV kvs vs∧h.DictOf (km P w) a vs
 | .dT kvs=>kvs.length≤sizeLine∧(a==sysModules)=false∧∃xs:List (List Key×Addr×Value),
   Paired (fun(p:List Key×V) (q:List Key×Addr×Value)=>p.1=q.1∧H q.2.1=some (.tup (p.1.map kV))∧aY p.2 q.2.2) kvs xs ∧
   ∃o es ep,h.get? a=some o∧o.ExactDict∧o.data=.dict es ep∧es.toList=xs.map (entryOfKey (tupleKind (km P w)))∧(xs.map (·.1)).Nodup
 | .set S n=>h.SetOf (intKind P w) a S n
 | .ins C dx fs=>H dx=some (.own a)∧fs.length≤1000∧dx≠a∧h.get? a=some (PySem.W.instObj C dx)∧
   ∃mA,h.Ns1 dx mA∧(∀f,jy (fs.lookup f) (mA f))∧PySem.Within mA (fs.map (·.1))
 | .own _=>∃o,h.get? a=some o
 | .xd fs=>∃mA,h.Ns1 a mA∧∀f,jy (fs.lookup f) (mA f)
 | .rng lo hi=>∃t u v,h.get? a=some { cls:=.type "range", data:=.fields #[.int lo t,.int hi u,.int 1 v] }
 | .frz o u=>h.get? a=some o∧b5 H h a u
 | .tbl ps=>h.get? a=some { cls:=.none,data:=.fields ps }
 | .met f x=>h.get? a=some (PySem.W.methodObj (.ref f) (.ref x))
 | .ext φ=>φ h∧(∃o,h.get? a=some o)∧∀h1 h2:Heap,φ h1→(∀o,h1.get? a=some o→h2.get? a=some o)→φ h2
def HOk(H:Hp)(h:Heap):Prop:=∀a o,H a=some o→b5 P w H h a o
end
section
variable{P:Program}{w:World}{H H':Hp}{h h':Heap}{a:Addr}{o:HO}
theorem b5.lt(x:b5 P w H h a o):a < h.objs.size:=by
 cases o with
 | lst xs=>obtain⟨_,_,_,_,e⟩:=x;exact Heap.lt_size e
 | tup xs=>obtain⟨_,_,_,p⟩:=x;exact p.lt
 | dK kvs=>obtain⟨_,_,_,_,o,_,_,e,_⟩:=x;exact Heap.lt_size e
 | dT kvs=>obtain⟨_,_,_,_,o,_,_,e,_⟩:=x;exact Heap.lt_size e
 | set S n=>obtain⟨o,_,_,_,e,_⟩:=x;exact Heap.lt_size e
 | ins C dx fs=>obtain⟨_,_,_,e,_⟩:=x;exact Heap.lt_size e
 | own y=>obtain⟨_,e⟩:=x;exact Heap.lt_size e
 | xd fs=>obtain⟨_,⟨_,_,_,e,_⟩,_⟩:=x;exact Heap.lt_size e
 | rng lo hi=>obtain⟨_,_,_,e⟩:=x;exact Heap.lt_size e
 | frz ob u=>obtain⟨e,_⟩:=x;exact Heap.lt_size e
 | tbl ps=>exact Heap.lt_size (show h.get? a=some _ from x)
 | met f y=>exact Heap.lt_size (show h.get? a=some _ from x)
 | ext φ=>obtain⟨_,⟨_,e⟩,_⟩:=x;exact Heap.lt_size e
theorem Paired.mapP{α β:Type}{F G:α→β→Prop}:∀{l₁:List α}{l₂:List β},Paired F l₁ l₂→(∀a b,F a b→G a b)→Paired G l₁ l₂
 | _,_,.nil,_=>.nil
 | _,_,.cons r t,f=>.cons (f _ _ r) (Paired.mapP t f)
theorem b5.stay(x:b5 P w H h a o)(k:∀b u,(b=a∨H b=some (.own a))→h.get? b=some u→h'.get? b=some u)
  (ho:∀b,H b=some (.own a)→H' b=some (.own a)) (ht:∀b xs,H b=some (.tup xs)→H' b=some (.tup xs)):b5 P w H' h' a o:=by
 induction o with
 | lst xs=>obtain⟨z,its,n,r,e⟩:=x;exact⟨z,its,n,r,k _ _ (.inl rfl) e⟩
 | tup xs=>obtain⟨z,its,r,ob,e,c⟩:=x;exact⟨z,its,r,ob,k _ _ (.inl rfl) e,c⟩
 | dK kvs=>obtain⟨z,y,vs,r,ob,es,ep,e,c⟩:=x;exact⟨z,y,vs,r,ob,es,ep,k _ _ (.inl rfl) e,c⟩
 | dT kvs =>
  obtain⟨z,y,xs,r,ob,es,ep,e,c⟩:=x
  exact⟨z,y,xs,Paired.mapP r fun p q z=>⟨z.1,ht _ _ z.2.1,z.2.2⟩,ob,es,ep,k _ _ (.inl rfl) e,c⟩
 | set S n=>obtain⟨ob,es,ep,t,e,c⟩:=x;exact⟨ob,es,ep,t,k _ _ (.inl rfl) e,c⟩
 | ins C dx fs =>
  obtain⟨d,z,ne,e,mA,⟨od,es,ep,e2,c⟩,r⟩:=x
  exact⟨ho _ d,z,ne,k _ _ (.inl rfl) e,mA,⟨od,es,ep,k _ _ (.inr d) e2,c⟩,r⟩
 | own y=>obtain⟨ob,e⟩:=x;exact⟨ob,k _ _ (.inl rfl) e⟩
 | xd fs=>obtain⟨mA,⟨od,es,ep,e,c⟩,r⟩:=x;exact⟨mA,⟨od,es,ep,k _ _ (.inl rfl) e,c⟩,r⟩
 | rng lo hi=>obtain⟨t,u,v,e⟩:=x;exact⟨t,u,v,k _ _ (.inl rfl) e⟩
 | frz ob u ih=>obtain⟨e,q⟩:=x;exact⟨k _ _ (.inl rfl) e,ih q⟩
 | tbl ps =>
  have e:h.get? a=some { cls:=.none,data:=.fields ps }:=x
  show h'.get? a=some { cls:=.none,data:=.fields ps }
  exact k a _ (.inl rfl) e
 | met f y =>
  have e:h.get? a=some (PySem.W.methodObj (.ref f) (.ref y)):=x
  show h'.get? a=some (PySem.W.methodObj (.ref f) (.ref y))
  exact k a _ (.inl rfl) e
 | ext φ=>obtain⟨p,⟨o,e⟩,st⟩:=x;exact⟨st _ _ p fun o q=>k _ _ (.inl rfl) q,⟨o,k _ _ (.inl rfl) e⟩,st⟩
theorem HOk.lt(x:HOk P w H h)(e:H a=some o):a < h.objs.size:=(x a o e).lt
theorem HOk.fresh(x:HOk P w H h)(e:h.objs.size≤a):H a=none:=by
 cases q:H a with
 | none=>rfl
 | some u=>exact absurd (Nat.lt_of_lt_of_le (x.lt q) e) (Nat.lt_irrefl _)
theorem HOk.kept(x:HOk P w H h)(k:∀b u,h.get? b=some u→h'.get? b=some u):HOk P w H h':=fun a o e =>
 (x a o e).stay (fun b u _ q=>k b u q) (fun _ q=>q) fun _ _ q=>q
theorem HOk.laid(x:HOk P w H h)(k:∀b u,h.get? b=some u→h'.get? b=some u)(hp:h.objs.size≤a)(new:b5 P w (upd H a o) h' a o):HOk P w (upd H a o) h':=fun b u e=>by
 have hn:=x.fresh hp
 by_cases hb:b=a
 ·subst hb;rw[bg]at e;cases e;exact new
 ·rw[ay hb]at e
  exact(x b u e).stay (fun c v _ q=>k c v q) (fun c q=>by rw[ay (bh q hn)];exact q) fun c xs q=>by rw[ay (bh q hn)];exact q
end
def Rd(H:Hp)(a:Addr)(u:HO):Prop:=H a=some u∨∃o,H a=some (.frz o u)
theorem Rd.of{H:Hp}{a:Addr}{u:HO}(h:H a=some u):Rd H a u:=.inl h
theorem Rd.ok{P:Program}{w:World}{H:Hp}{h:Heap}{a:Addr}{u:HO}(r:Rd H a u)(x:HOk P w H h):b5 P w H h a u:=by
 rcases r with r |⟨o,r⟩
 ·exact x a u r
 ·obtain⟨_,q⟩:=x a _ r
  exact q
def Mut:Option HO→Prop
 | some (.lst _)=>True
 | some (.dK _)=>True
 | some (.dT _)=>True
 | some (.set _ _)=>True
 | some (.ins _ _ _)=>True
 | some (.ext _)=>True
 | _=>False
section
variable{P:Program}{w:World}{H:Hp}{h h':Heap}{x e:Addr}{o':HO}
theorem HOk.write(ok:HOk P w H h)(mu:Mut (H x))(he:e=x∨H e=some (.own x))(k:∀b u,b≠e→h.get? b=some u→h'.get? b=some u)(heo:∃u,h'.get? e=some u)
  (new:b5 P w (upd H x o') h' x o'):HOk P w (upd H x o') h':=fun b u q=>by
 have nown:∀c y,H c=some (.own y)→c≠x:=fun c y r z=>by subst z;rw[r]at mu;exact mu
 have ntup:∀c xs,H c=some (.tup xs)→c≠x:=fun c xs r z=>by subst z;rw[r]at mu;exact mu
 by_cases hb:b=x
 ·subst hb;rw[bg]at q;cases q;exact new
 ·rw[ay hb]at q
  by_cases hbe:b=e
  ·have q':H b=some (.own x):=by
    rcases he with z | z
    ·exact absurd (hbe.trans z) hb
    ·rw[hbe];exact z
   rw[q]at q';cases q'
   obtain⟨v,hv⟩:=heo
   exact⟨v,by rw[hbe];exact hv⟩
  ·refine(ok b u q).stay (fun c v hc r=>k c v ?_ r) (fun c r=>by rw[ay (nown c b r)];exact r) fun c xs r=>by rw[ay (ntup c xs r)];exact r
   rcases hc with rfl | hc
   ·exact hbe
   ·rintro rfl
    rcases he with z | z
    ·exact nown c b hc z
    ·rw[hc]at z;cases z;exact hb rfl
end
structure Un(fs ex:List Addr)(H H':Hp)(h h':Heap):Prop where
 keep:∀b o,h.get? b=some o→H b=none→b∉fs→b∉ex→h'.get? b=some o
 slot:∀b o,h.get? b=some o→H b=none→b∈fs→b∉ex→∃sl,h'.get? b=some { o with slots:=sl }
 free:∀b o,h.get? b=some o→H b=none→b∉ex→H' b=none
 there:∀b o,h.get? b=some o→b∉ex→∃o',h'.get? b=some o'
 tups:∀b xs,H b=some (.tup xs)→H' b=some (.tup xs)
 frzs:∀b o u,H b=some (.frz o u)→H' b=some (.frz o u)
 tbls:∀b ps,H b=some (.tbl ps)→∃more,H' b=some (.tbl (ps++more))
section
variable{fs fs' ex ex':List Addr}{H H1 H2:Hp}{h h1 h2 h':Heap}{a x e:Addr}{o:HO}
theorem Un.any(u:Un fs ex H H1 h h1){b:Addr}{ob:Obj}(q:h.get? b=some ob)(n:H b=none)(hx:b∉ex):∃sl,h1.get? b=some { ob with slots:=sl }:=by
 by_cases hb:b∈fs
 ·exact u.slot b ob q n hb hx
 ·exact⟨ob.slots,u.keep b ob q n hb hx⟩
theorem Un.trans(a:Un fs ex H H1 h h1)(b:Un fs ex H1 H2 h1 h2):Un fs ex H H2 h h2 where
 keep:=fun c ob q n hc hx=>b.keep c ob (a.keep c ob q n hc hx) (a.free c ob q n hx) hc hx
 slot:=fun c ob q n hc hx=>by
  obtain⟨sl,e1⟩:=a.slot c ob q n hc hx
  obtain⟨sl',e2⟩:=b.slot c _ e1 (a.free c ob q n hx) hc hx
  exact⟨sl',e2⟩
 free:=fun c ob q n hx=>by
  obtain⟨o',e1⟩:=a.there c ob q hx
  exact b.free c o' e1 (a.free c ob q n hx) hx
 there:=fun c ob q hx=>by
  obtain⟨o',e1⟩:=a.there c ob q hx
  exact b.there c o' e1 hx
 tups:=fun c xs q=>b.tups c xs (a.tups c xs q)
 frzs:=fun c ob xs q=>b.frzs c ob xs (a.frzs c ob xs q)
 tbls:=fun c ps q=>by
  obtain⟨m1,e1⟩:=a.tbls c ps q
  obtain⟨m2,e2⟩:=b.tbls c _ e1
  exact⟨m1++m2,by rw[e2,Array.append_assoc]⟩
theorem Un.kept(k:∀b u,h.get? b=some u→h'.get? b=some u):Un fs ex H H h h' :=
 ⟨fun b ob q _ _ _=>k b ob q,fun b ob q _ _ _=>⟨ob.slots,k b ob q⟩,fun _ _ _ n _=>n,fun b ob q _=>⟨ob,k b ob q⟩,fun _ _ q=>q,fun _ _ _ q=>q,fun _ ps q=>⟨#[],by rw[q];simp⟩⟩
theorem Un.refl:Un fs ex H H h h:=Un.kept fun _ _ q=>q
theorem Un.laid(k:∀b u,h.get? b=some u→h'.get? b=some u)(hp:h.objs.size≤a)(hn:H a=none):Un fs ex H (upd H a o) h h' where
 keep:=fun b u q _ _ _=>k b u q
 slot:=fun b u q _ _ _=>⟨u.slots,k b u q⟩
 free:=fun b u q n _=>by rw[ay (Nat.ne_of_lt (Nat.lt_of_lt_of_le (Heap.lt_size q) hp))];exact n
 there:=fun b u q _=>⟨u,k b u q⟩
 tups:=fun b xs q=>by rw[ay (bh q hn)];exact q
 frzs:=fun b u xs q=>by rw[ay (bh q hn)];exact q
 tbls:=fun b ps q=>⟨#[],by rw[ay (bh q hn),q];simp⟩
theorem Un.write(mu:Mut (H x))(he:e=x∨H e=some (.own x))(k:∀b u,b≠e→h.get? b=some u→h'.get? b=some u)(heo:∃u,h'.get? e=some u):Un fs ex H (upd H x o) h h':=by
 have hx:∀b,H b=none→b≠x:=fun b n z=>by subst z;rw[n]at mu;exact mu
 have hb:∀b,H b=none→b≠e:=fun b n z=>by
  subst z
  rcases he with r | r
  ·exact hx b n r
  ·rw[n]at r;cases r
 have hm:∀b u,H b=some u→¬Mut (some u)→b≠x:=fun b u q nm z=>by subst z;rw[q]at mu;exact nm mu
 refine ⟨fun b u q n _ _=>k b u (hb b n) q,fun b u q n _ _=>⟨u.slots,k b u (hb b n) q⟩,fun b u q n _=>by rw [ay (hx b n)];exact n,fun b u q _=>?_,
  fun b xs q=>by rw[ay (hm b _ q fun z=>z)];exact q,fun b u xs q=>by rw[ay (hm b _ q fun z=>z)];exact q,fun b ps q=>⟨#[],by rw[ay (hm b _ q fun z=>z),q];simp⟩⟩
 by_cases hbe:b=e
 ·subst hbe;exact heo
 ·exact⟨u,k b u hbe q⟩
theorem Un.mono(u:Un fs ex H H1 h h1)(hs:∀b∈fs,b∈fs')(hx:∀b∈ex,b∈ex'):Un fs' ex' H H1 h h1 :=
 ⟨fun b ob q n hb he=>u.keep b ob q n (fun z=>hb (hs b z)) fun z=>he (hx b z),fun _ _ q n _ he=>u.any q n fun z=>he (hx _ z),fun b ob q n he=>u.free b ob q n fun z=>he (hx b z),fun b ob q he=>u.there b ob q fun z=>he (hx b z),u.tups,u.frzs,u.tbls⟩
end
def trk(h:Heap)(H:Hp):List Addr:=(List.range h.objs.size).filter fun a=>(H a).isSome
def ky(h:Heap)(H:Hp):Heap:=PySem.W.hideAll h (trk h H)
theorem pL(h:Heap)(H:Hp):(ky h H).objs.size=h.objs.size:=PySem.W.hideAll_size _ _
theorem rQ{h:Heap}{H:Hp}{b:Addr}{o:Obj}(e:h.get? b=some o)(n:H b=none):(ky h H).get? b=some o :=
 PySem.W.hideAll_get _ e fun hm=>by
  have q:(H b).isSome=true:=(List.mem_filter.mp hm).2
  rw[n]at q;simp at q
theorem uA{h:Heap}{H:Hp}{b:Addr}{o:Obj}(e:(ky h H).get? b=some o):h.get? b=some o∧H b=none:=by
 have e':h.get? b=some o:=PySem.W.of_hideAll (trk h H) e
 refine⟨e',?_⟩
 cases q:H b with
 | none=>rfl
 | some x =>
  have hm:b∈trk h H:=List.mem_filter.mpr ⟨List.mem_range.mpr (Heap.lt_size e'),by simp[q]⟩
  have z:(ky h H).get? b=none:=PySem.W.hideAll_none (trk h H) hm
  rw[z]at e;cases e
def vm(g h:Heap)(L:Addr):List (Addr×Obj):=(List.range h.objs.size).filterMap fun a=>if a=L ∨(g.get? a).isSome=true then none else(h.get? a).map fun o=>(a,o)
def bw(g h:Heap)(L d:Addr):List (Addr×Obj):=(vm g h L).filter fun p=>decide (p.1≠d)
end L2
namespace L2
open PySem PySem.Spec PyProof.Rows
structure Mod(K:PySem.W.Frag)(mg:Str→Option Value)(base:Heap):Prop where
 kin:K.In base
 glob:base.Ns mainGlobals mg
 blt:∃mb,base.Ns builtinsNs mb∧∀x:Str,x≠"__name__" → mb x=bootBuiltins x
 nolimit:base.NoLimit
structure Cx where
 prog:Program
 w:World
 K:PySem.W.Frag
 mg:Str→Option Value
 base:Heap
 A:Around
 N:List Str
 s₀:Shared
 H₀:Hp
 env:Env
 outer:List Env
 stack:List Env
 ex:List Addr
 fn:Str→Bool
 calm:Bool
 pn:List (Addr×Obj)
 xe:Value→Shared→Prop
def frs(l:List Env):List Addr:=l.filterMap (·.frame)
abbrev Cx.fs(X:Cx):List Addr:=frs X.outer
def Vis(sc:Scope)(x:Str):Prop:=sc.names.lookup x=some .local∨sc.names.lookup x=some .cell∨sc.names.lookup x=some .free
def Loc(sc:Scope)(x:Str):Prop:=sc.names.lookup x=some .local∨sc.names.lookup x=some .cell
def Cz(env:Env)(h:Heap)(m:Str→Option Value)(x:Str)(u:Value):Prop :=
 (env.kindOf x=some .local∧m x=some u)∨((env.kindOf x=some .cell∨env.kindOf x=some .free)∧∃c,env.cells.lookup x=some c∧h.IsCell c (some u))
structure Cx.Ok(X:Cx):Prop where
 mod:Mod X.K X.mg X.base
 kind:X.env.scope.kind=.function
 glob:X.env.globals=mainGlobals
 blt:X.env.builtins=builtinsNs
 above:X.s₀.heap.objs.size≤X.env.locals
 inj:∀x y c,X.env.cells.lookup x=some c→X.env.cells.lookup y=some c→x=y
 has:∀x,(X.env.kindOf x=some .cell∨X.env.kindOf x=some .free)→∃c,X.env.cells.lookup x=some c
 cab:∀x c,X.fn x=true→X.env.cells.lookup x=some c→X.s₀.heap.objs.size≤c
 hd:X.calm=true→X.A.handled=none
 frames:X.A.frames=some X.stack
 stk:X.stack=X.outer ∨(X.stack=X.env::X.outer∧X.env.frame=some X.env.locals)
 exf:∀b∈X.ex,b≠X.env.locals∧∀x c,X.env.cells.lookup x=some c→c≠b
 bs:∀b o,X.base.get? b=some o→X.s₀.heap.get? b=some o∧X.H₀ b=none
 bsz:X.base.objs.size≤X.s₀.heap.objs.size
 noex:∀b o,X.base.get? b=some o→b∉X.ex
 exfs:∀b∈X.ex,b∉X.fs
 funs:X.s₀.heap.FunFrames X.base X.outer
 frf:∀b∈X.fs,X.H₀ b=none
structure Inv(X:Cx)(pins:List (Addr×Obj))(σ:List (Option V))(H:Hp)(s:Shared):Prop where
 ok:X.Ok
 os:s.os=X.s₀.os
 bare:AllBare s.gens
 base:Un X.fs X.ex X.H₀ H X.s₀.heap s.heap
 loc:∃m,s.heap.Ns X.env.locals m∧∀(i:Nat) (x:Str) (v:V),X.N[i]?=some x→σ[i]?=some (some v)→Vis X.env.scope x→∃u,aY v u∧Cz X.env s.heap m x u
 cell:∀x c,X.env.cells.lookup x=some c→∃v,s.heap.IsCell c v
 free:H X.env.locals=none
 freeC:∀x c,X.env.cells.lookup x=some c→H c=none
 pin:∀p∈X.pn++pins,s.heap.get? p.1=some p.2∧H p.1=none∧p.1≠X.env.locals∧p.1∉X.fs∧∀v,p.2.data≠.cell v
 hok:HOk X.prog X.w H s.heap
 len:σ.length=X.N.length
section
variable{X:Cx}{pins:List (Addr×Obj)}{σ:List (Option V)}{H H':Hp}{s:Shared}{h':Heap}
theorem Cx.Ok.nofr(ok:X.Ok){b:Addr}{o:Obj}(e:X.base.get? b=some o):b∉X.fs:=fun hb=>by
 have:=(ok.funs.mem hb).1
 rw[e]at this;cases this
theorem Inv.bs(I:Inv X pins σ H s):∀b o,X.base.get? b=some o→s.heap.get? b=some o∧H b=none:=fun b o e =>
 ⟨I.base.keep b o (I.ok.bs b o e).1 (I.ok.bs b o e).2 (I.ok.nofr e) (I.ok.noex b o e),I.base.free b o (I.ok.bs b o e).1 (I.ok.bs b o e).2 (I.ok.noex b o e)⟩
theorem Inv.bk(I:Inv X pins σ H s):∀b o,X.base.get? b=some o→s.heap.get? b=some o:=fun b o e=>(I.bs b o e).1
theorem Inv.mod(I:Inv X pins σ H s):Mod X.K X.mg X.base:=I.ok.mod
theorem Inv.kIn(I:Inv X pins σ H s):X.K.In s.heap:=I.ok.mod.kin.keeps I.bk
theorem Inv.lt(I:Inv X pins σ H s):X.env.locals < s.heap.objs.size:=let⟨_,hn,_⟩:=I.loc;hn.lt
theorem Inv.sz(I:Inv X pins σ H s):X.s₀.heap.objs.size≤s.heap.objs.size:=Nat.le_trans I.ok.above (Nat.le_of_lt I.lt)
theorem Inv.nofs(I:Inv X pins σ H s){a:Addr}(h:s.heap.objs.size≤a):a∉X.fs:=fun hb=>by
 obtain⟨_,o,ho,_⟩:=I.ok.funs.mem hb
 exact absurd (Nat.lt_of_lt_of_le (Heap.lt_size ho) (Nat.le_trans I.sz h)) (Nat.lt_irrefl _)
theorem Inv.cne(I:Inv X pins σ H s):∀x c,X.env.cells.lookup x=some c→c≠X.env.locals:=fun x c e z=>by
 obtain⟨v,o,ho,hd⟩:=I.cell x c e
 obtain⟨m,⟨o',es,ep,ho',hd',_⟩,_⟩:=I.loc
 rw[z,ho']at ho;cases ho;rw[hd']at hd;cases hd
theorem Inv.funs(I:Inv X pins σ H s):s.heap.FunFrames X.base X.outer:=by
 have all:∀(l:List Env),(∀b∈frs l,b∈X.fs)→X.s₀.heap.FunFrames X.base l→s.heap.FunFrames X.base l:=by
  intro l
  induction l with
  | nil=>intro _ _;trivial
  | cons env r ih =>
   intro hs hl
   obtain⟨hk,⟨L,o,hf,hn,ho,hd⟩,hr⟩:=hl
   have hL:L∈X.fs:=hs L (by unfold frs;rw[List.filterMap_cons,hf];exact List.mem_cons_self)
   obtain⟨sl,e⟩:=I.base.slot L o ho (I.ok.frf L hL) hL fun z=>I.ok.exfs L z hL
   exact⟨hk,⟨L,_,hf,hn,e,hd⟩,ih (fun b hb=>hs b (by unfold frs;rw[List.filterMap_cons,hf];exact List.mem_cons_of_mem _ hb)) hr⟩
 exact all X.outer (fun _ hb=>hb) I.ok.funs
theorem Inv.stack(I:Inv X pins σ H s):s.heap.FunFrames X.base X.stack:=by
 rcases I.ok.stk with e |⟨e,hf⟩
 ·rw[e];exact I.funs
 ·rw[e]
  obtain⟨m,hn,_⟩:=I.loc
  refine .cons (by rw[I.ok.kind];decide) hf hn ?_ I.funs
  exact Heap.get?_none_of_le (Nat.le_trans I.ok.bsz I.ok.above)
theorem Inv.stkSub(I:Inv X pins σ H s):∀b∈frs X.stack,b∈X.env.locals::X.fs:=fun b hb=>by
 rcases I.ok.stk with e |⟨e,hf⟩
 ·rw[e]at hb;exact List.mem_cons_of_mem _ hb
 ·rw[e]at hb
  unfold frs at hb
  rw[List.filterMap_cons,hf]at hb
  exact hb
theorem Inv.stkFree(I:Inv X pins σ H s):∀b∈frs X.stack,H b=none:=fun b hb=>by
 rcases List.mem_cons.mp (I.stkSub b hb)with e | hb
 ·rw[e];exact I.free
 ·obtain⟨_,o,ho,_⟩:=I.ok.funs.mem hb
  exact I.base.free b o ho (I.ok.frf b hb) fun z=>I.ok.exfs b z hb
theorem Inv.step{g':Array GenState}{t':Nat}{d':Drawn}{ch:List Addr}(I:Inv X pins σ H s)
  (hch:∀b∈ch,(b∈X.ex∨X.s₀.heap.objs.size≤b)∧b≠X.env.locals∧(∀x c,X.env.cells.lookup x=some c→c≠b)∧∀p∈X.pn++pins,p.1≠b)
  (keep:∀b o,b≠X.env.locals→b∉X.fs→b∉ch→s.heap.get? b=some o→H b=none→h'.get? b=some o)
  (slot:∀b o,b≠X.env.locals→b∈X.fs→b∉ch→s.heap.get? b=some o→H b=none→∃sl,h'.get? b=some { o with slots:=sl }) (free:∀b o,b∉ch→s.heap.get? b=some o→H b=none→H' b=none)
  (there:∀b o,b∉ch→s.heap.get? b=some o→∃o',h'.get? b=some o')
  (tups:∀b xs,H b=some (.tup xs)→H' b=some (.tup xs)) (frzs:∀b o u,H b=some (.frz o u)→H' b=some (.frz o u)) (tbls:∀b ps,H b=some (.tbl ps)→∃more,H' b=some (.tbl (ps++more)))
  (ns:∀m,s.heap.Ns X.env.locals m→h'.Ns X.env.locals m) (hok:HOk X.prog X.w H' h') (hg:AllBare g') :
  Inv X pins σ H' { s with heap:=h',gens:=g',drawn:=d',toks:=t' }:=by
 have neL:∀b o,X.s₀.heap.get? b=some o→b≠X.env.locals:=fun b o e=>Nat.ne_of_lt (Nat.lt_of_lt_of_le (Heap.lt_size e) I.ok.above)
 have neC:∀b o,X.s₀.heap.get? b=some o→b∉X.ex→b∉ch:=fun b o e hx hb=>by
  rcases(hch b hb).1 with z | z
  ·exact hx z
  ·exact absurd (Nat.lt_of_lt_of_le (Heap.lt_size e) z) (Nat.lt_irrefl _)
 have cellK:∀x c,X.env.cells.lookup x=some c→∀v,s.heap.IsCell c v→h'.IsCell c v:=fun x c e v ⟨o,ho,hd⟩=>by
  have nch:c∉ch:=fun z=>(hch c z).2.2.1 x c e rfl
  by_cases hc:c∈X.fs
  ·obtain⟨sl,q⟩:=slot c o (I.cne x c e) hc nch ho (I.freeC x c e)
   exact⟨_,q,hd⟩
  ·exact⟨o,keep c o (I.cne x c e) hc nch ho (I.freeC x c e),hd⟩
 refine⟨I.ok,I.os,hg,⟨fun b o e n hb hx=>?_,fun b o e n hb hx=>?_,fun b o e n hx=>?_,fun b o e hx=>?_,fun b xs e=>tups b xs (I.base.tups b xs e),fun b o xs e=>frzs b o xs (I.base.frzs b o xs e),fun b ps e=>?_⟩,?_,fun x c e=>?_,?_,fun x c e=>?_,fun p hp=>?_,hok,I.len⟩
 ·exact keep b o (neL b o e) hb (neC b o e hx) (I.base.keep b o e n hb hx) (I.base.free b o e n hx)
 ·obtain⟨sl,e1⟩:=I.base.slot b o e n hb hx
  obtain⟨sl',e2⟩:=slot b _ (neL b o e) hb (neC b o e hx) e1 (I.base.free b o e n hx)
  exact⟨sl',e2⟩
 ·obtain⟨o',e1⟩:=I.base.there b o e hx
  exact free b o' (neC b o e hx) e1 (I.base.free b o e n hx)
 ·obtain⟨o',e1⟩:=I.base.there b o e hx
  exact there b o' (neC b o e hx) e1
 ·obtain⟨m1,e1⟩:=I.base.tbls b ps e
  obtain⟨m2,e2⟩:=tbls b _ e1
  exact⟨m1++m2,by rw[e2,Array.append_assoc]⟩
 ·obtain⟨m,hn,hl⟩:=I.loc
  refine⟨m,ns m hn,fun i x v e1 e2 e3=>?_⟩
  obtain⟨u,r,l⟩:=hl i x v e1 e2 e3
  refine⟨u,r,?_⟩
  rcases l with l |⟨k,c,e,z⟩
  ·exact .inl l
  ·exact .inr ⟨k,c,e,cellK x c e _ z⟩
 ·obtain⟨v,z⟩:=I.cell x c e
  exact⟨v,cellK x c e v z⟩
 ·obtain⟨m,⟨o,_,_,ho,_⟩,_⟩:=I.loc
  exact free _ o (fun z=>(hch _ z).2.1 rfl) ho I.free
 ·obtain⟨v,o,ho,hd⟩:=I.cell x c e
  exact free c o (fun z=>(hch c z).2.2.1 x c e rfl) ho (I.freeC x c e)
 ·obtain⟨e,n,ne,nf,d⟩:=I.pin p hp
  have nch:p.1∉ch:=fun z=>(hch p.1 z).2.2.2 p hp rfl
  exact⟨keep p.1 p.2 ne nf nch e n,free p.1 p.2 nch e n,ne,nf,d⟩
theorem Inv.un{t':Nat}(I:Inv X pins σ H s)(u:Un X.fs [] H H' s.heap h')(hok:HOk X.prog X.w H' h'):Inv X pins σ H' { s with heap:=h',toks:=t' }:=by
 obtain⟨m,⟨o,es,ep,ho,r⟩,_⟩:=id I.loc
 obtain⟨sl,hL⟩:=u.any ho I.free (by simp)
 exact I.step (g':=s.gens) (d':=s.drawn) (ch:=[]) (fun _ z=>nomatch z) (fun b o _ hb _ e n=>u.keep b o e n hb (by simp)) (fun b o _ hb _ e n=>u.slot b o e n hb (by simp)) (fun b o _ e n=>u.free b o e n (by simp)) (fun b o _ e=>u.there b o e (by simp)) u.tups u.frzs u.tbls (fun m' hm=>by
  obtain⟨o',es',ep',ho',r'⟩:=hm
  rw[ho]at ho';cases ho'
  exact⟨_,es',ep',hL,r'⟩) hok I.bare
theorem Inv.call{g':Array GenState}{t':Nat}{d':Drawn}{ch:List Addr}(I:Inv X pins σ H s)(u:Un (frs X.stack) ch H H' s.heap h')(hok:HOk X.prog X.w H' h')(hg:AllBare g')
  (hch:∀b∈ch,(b∈X.ex∨X.s₀.heap.objs.size≤b)∧b≠X.env.locals∧(∀x c,X.env.cells.lookup x=some c→c≠b)∧∀p∈X.pn++pins,p.1≠b) :
  Inv X pins σ H' { s with heap:=h',gens:=g',drawn:=d',toks:=t' }:=by
 obtain⟨m,⟨o,es,ep,ho,r⟩,_⟩:=id I.loc
 obtain⟨sl,hL⟩:=u.any ho I.free fun z=>(hch _ z).2.1 rfl
 exact I.step (ch:=ch) hch (fun b o hL hb hc e n=>u.keep b o e n (fun z=>(List.mem_cons.mp (I.stkSub b z)).elim hL hb) hc) (fun b o _ _ hc e n=>u.any e n hc) (fun b o hc e n=>u.free b o e n hc) (fun b o hc e=>u.there b o e hc) u.tups u.frzs u.tbls (fun m' hm=>by
  obtain⟨o',es',ep',ho',r'⟩:=hm
  rw[ho]at ho';cases ho'
  exact⟨_,es',ep',hL,r'⟩) hok hg
theorem Inv.turned{t':Nat}{it:Addr}(I:Inv X pins σ H s)(k:∀b o,b≠it→s.heap.get? b=some o→h'.get? b=some o)(hn:H it=none)(hL:it≠X.env.locals)
  (h1:it∈X.ex∨X.s₀.heap.objs.size≤it) (h2:∀x c,X.env.cells.lookup x=some c→c≠it) (h3:∀p∈X.pn++pins,p.1≠it):Inv X pins σ H { s with heap:=h',toks:=t' }:=by
 have nit:∀b u,H b=some u→b≠it:=fun b u e z=>by rw[z,hn]at e;cases e
 refine I.step (g':=s.gens) (d':=s.drawn) (ch:=[it]) (fun b hb=>?_) (fun b o _ _ hc e _=>k b o (fun z=>hc (by simp[z])) e) (fun b o _ _ hc e _=>⟨o.slots,k b o (fun z=>hc (by simp[z])) e⟩) (fun _ _ _ _ n=>n)
  (fun b o hc e=>⟨o,k b o (fun z=>hc (by simp[z])) e⟩) (fun _ _ e=>e) (fun _ _ _ e=>e) (fun b ps e=>⟨#[],by rw[e];simp⟩) (fun m hm=>?_) (fun b u e=>?_) I.bare
 ·have e:b=it:=by simpa using hb
  subst e
  exact⟨h1,hL,h2,h3⟩
 ·obtain⟨o,es,ep,ho,r⟩:=hm
  exact⟨o,es,ep,k _ o (Ne.symm hL) ho,r⟩
 ·refine(I.hok b u e).stay (fun c v hc q=>k c v ?_ q) (fun _ q=>q) fun _ _ q=>q
  rcases hc with z | z
  ·rw[z];exact nit b u e
  ·exact nit c _ z
theorem Inv.tok(I:Inv X pins σ H s)(t:Nat):Inv X pins σ H { s with toks:=t }:=I.un (h':=s.heap) (t':=t) Un.refl I.hok
theorem Inv.kept{t':Nat}(I:Inv X pins σ H s)(k:∀b u,s.heap.get? b=some u→h'.get? b=some u):Inv X pins σ H { s with heap:=h',toks:=t' }:=I.un (Un.kept k) (I.hok.kept k)
theorem Inv.laid{a:Addr}{o:HO}{t':Nat}(I:Inv X pins σ H s)(k:∀b u,s.heap.get? b=some u→h'.get? b=some u)(hp:s.heap.objs.size≤a)(new:b5 X.prog X.w (upd H a o) h' a o) :
  Inv X pins σ (upd H a o) { s with heap:=h',toks:=t' }:=I.un (Un.laid k hp (I.hok.fresh hp)) (I.hok.laid k hp new)
theorem Inv.write{x e:Addr}{o:HO}{t':Nat}(I:Inv X pins σ H s)(mu:Mut (H x))(he:e=x∨H e=some (.own x))(k:∀b u,b≠e→s.heap.get? b=some u→h'.get? b=some u)(heo:∃u,h'.get? e=some u)
  (new:b5 X.prog X.w (upd H x o) h' x o):Inv X pins σ (upd H x o) { s with heap:=h',toks:=t' }:=I.un (Un.write mu he k heo) (I.hok.write mu he k heo new)
theorem Inv.pins_of{pins':List (Addr×Obj)}(I:Inv X pins σ H s)(h:∀p∈pins',s.heap.get? p.1=some p.2∧H p.1=none∧p.1≠X.env.locals∧p.1∉X.fs∧∀v,p.2.data≠.cell v):Inv X pins' σ H s :=
 ⟨I.ok,I.os,I.bare,I.base,I.loc,I.cell,I.free,I.freeC,fun p hp=>(List.mem_append.mp hp).elim (fun z=>I.pin p (List.mem_append_left _ z)) (h p),I.hok,I.len⟩
theorem iU{N:List Str}(hN:N.Nodup){i j:Nat}{x:Str}(a:N[i]?=some x)(b:N[j]?=some x):i=j:=by
 obtain⟨h1,e1⟩:=List.getElem?_eq_some_iff.mp a
 obtain⟨h2,e2⟩:=List.getElem?_eq_some_iff.mp b
 exact(List.getElem_inj hN).mp (e1.trans e2.symm)
theorem jC{M:Model}{A:Around}{E:Value→Shared→Prop}{i:Nat}{x:Str}{v:V}{u:Value}{Q:Unit→Shared→Prop}(I:Inv X pins σ H s)(hN:X.N.Nodup)(hi:X.N[i]?=some x)(hx:Loc X.env.scope x)(r:aY v u)
  (h:∀s',Inv X pins (σ.set i (some v)) H s'→(∃a,Heap.SameBut a s.heap s'.heap∧(a=X.env.locals∨X.env.cells.lookup x=some a))→Q () s') (hf:X.fn x=true∨X.env.scope.names.lookup x=some .local:=by first | exact .inl rfl | exact .inr rfl | assumption):wpAny M A (storeName X.env x u) Q E s:=by
 obtain⟨m,hn,hl⟩:=id I.loc
 have hcls:(X.env.scope.kind==.class ||(X.env.scope.kind==.module&&X.env.locals != X.env.globals))=false:=by rw[I.ok.kind];rfl
 have hiσ:i < σ.length:=by rw[I.len];exact(List.getElem?_eq_some_iff.mp hi).1
 have cne:=I.cne
 have tracked:∀{a:Addr}{h':Heap},(∃o,s.heap.get? a=some o∧H a=none)→Heap.SameBut a s.heap h'→HOk X.prog X.w H h':=fun {a h'} ha hs b ob e=>by
  obtain⟨_,_,hfree⟩:=ha
  refine(I.hok b ob e).stay (fun c w' hc q=>(hs.2 c ?_).trans q) (fun _ q=>q) fun _ _ q=>q
  rintro rfl
  rcases hc with rfl | hc
  ·rw[hfree]at e;cases e
  ·rw[hfree]at hc;cases hc
 rcases hx with hk | hk
 ·refine wpAny_storeName_local hk hn (fun h' hn' hs=>?_) hcls
  obtain⟨oL,_,_,hoL,_⟩:=id hn
  refine h _ ⟨I.ok,I.os,I.bare,⟨fun b o e n hb hx=>?_,fun b o e n hb hx=>?_,I.base.free,fun b o e hx=>?_,I.base.tups,I.base.frzs,I.base.tbls⟩,⟨_,hn',fun j y v' e1 e2 e3=>?_⟩,fun y c e=>?_,I.free,I.freeC,fun p hp=>?_,tracked ⟨oL,hoL,I.free⟩ hs,by simpa using I.len⟩ ⟨_,hs,.inl rfl⟩
  ·exact(hs.2 b (Nat.ne_of_lt (Nat.lt_of_lt_of_le (Heap.lt_size e) I.ok.above))).trans (I.base.keep b o e n hb hx)
  ·obtain⟨sl,e1⟩:=I.base.slot b o e n hb hx
   exact⟨sl,(hs.2 b (Nat.ne_of_lt (Nat.lt_of_lt_of_le (Heap.lt_size e) I.ok.above))).trans e1⟩
  ·obtain⟨o',e1⟩:=I.base.there b o e hx
   exact⟨o',(hs.2 b (Nat.ne_of_lt (Nat.lt_of_lt_of_le (Heap.lt_size e) I.ok.above))).trans e1⟩
  ·by_cases hj:j=i
   ·subst hj
    rw[hi]at e1;cases e1
    rw[List.getElem?_set_self hiσ]at e2
    cases e2
    exact⟨u,r,.inl ⟨hk,by simp⟩⟩
   ·rw[List.getElem?_set_ne (Ne.symm hj)]at e2
    obtain⟨u',r',q⟩:=hl j y v' e1 e2 e3
    refine⟨u',r',?_⟩
    rcases q with⟨k,e⟩ |⟨k,c,e,z⟩
    ·refine .inl ⟨k,?_⟩
     have:y≠x:=fun e=>hj (iU hN e1 (e▸hi))
     simp[this,e]
    ·exact .inr ⟨k,c,e,z.sameBut hs (cne y c e)⟩
  ·obtain⟨w',z⟩:=I.cell y c e
   exact⟨w',z.sameBut hs (cne y c e)⟩
  ·obtain⟨e,n,ne,nf,d⟩:=I.pin p hp
   exact⟨(hs.2 p.1 ne).trans e,n,ne,nf,d⟩
 ·have hfn:X.fn x=true:=by
   rcases hf with z | z
   ·exact z
   ·rw[z]at hk;cases hk
  obtain⟨c,hc⟩:=I.ok.has x (.inl hk)
  obtain⟨w',z⟩:=I.cell x c hc
  refine wpAny_storeName_cell I.ok.kind hk hc z (fun h' hc' hs=>?_)
  obtain⟨oc,hoc,hocd⟩:=id z
  refine h { s with heap:=h' } ⟨I.ok,I.os,I.bare,⟨fun b o e n hb hx=>?_,fun b o e n hb hx=>?_,I.base.free,fun b o e hx=>?_,I.base.tups,I.base.frzs,I.base.tbls⟩,⟨m,hn.sameBut hs (Ne.symm (cne x c hc)),fun j y v' e1 e2 e3=>?_⟩,fun y c' e=>?_,I.free,I.freeC,fun p hp=>?_,tracked ⟨oc,hoc,I.freeC x c hc⟩ hs,by simpa using I.len⟩ ⟨c,hs,.inr hc⟩
  ·exact(hs.2 b (Nat.ne_of_lt (Nat.lt_of_lt_of_le (Heap.lt_size e) (I.ok.cab x c hfn hc)))).trans (I.base.keep b o e n hb hx)
  ·obtain⟨sl,e1⟩:=I.base.slot b o e n hb hx
   exact⟨sl,(hs.2 b (Nat.ne_of_lt (Nat.lt_of_lt_of_le (Heap.lt_size e) (I.ok.cab x c hfn hc)))).trans e1⟩
  ·obtain⟨o',e1⟩:=I.base.there b o e hx
   exact⟨o',(hs.2 b (Nat.ne_of_lt (Nat.lt_of_lt_of_le (Heap.lt_size e) (I.ok.cab x c hfn hc)))).trans e1⟩
  ·by_cases hj:j=i
   ·subst hj
    rw[hi]at e1;cases e1
    rw[List.getElem?_set_self hiσ]at e2
    cases e2
    exact⟨u,r,.inr ⟨.inl hk,c,hc,hc'⟩⟩
   ·rw[List.getElem?_set_ne (Ne.symm hj)]at e2
    obtain⟨u',r',q⟩:=hl j y v' e1 e2 e3
    refine⟨u',r',?_⟩
    rcases q with q |⟨k,c',e,z'⟩
    ·exact .inl q
    ·refine .inr ⟨k,c',e,z'.sameBut hs ?_⟩
     rintro rfl
     exact hj (iU hN e1 (I.ok.inj _ _ _ e hc▸hi))
  ·by_cases hcc:c'=c
   ·subst hcc;exact⟨_,hc'⟩
   ·obtain⟨w2,z2⟩:=I.cell y c' e
    exact⟨w2,z2.sameBut hs hcc⟩
  ·obtain⟨e,n,ne,nf,d⟩:=I.pin p hp
   refine⟨(hs.2 p.1 ?_).trans e,n,ne,nf,d⟩
   intro q
   rw[q,hoc]at e
   have q':oc=p.2:=Option.some.inj e
   exact d w' (by rw[← q'];exact hocd)
theorem iz{M:Model}{A:Around}{E:Value→Shared→Prop}{i:Nat}{x:Str}{v:V}{u:Value}{Q:Unit→Shared→Prop}(I:Inv X pins σ H s)(hN:X.N.Nodup)(hi:X.N[i]?=some x)(hx:Loc X.env.scope x)(r:aY v u)
  (h:∀s',Inv X pins (σ.set i (some v)) H s'→Q () s') (hf:X.fn x=true∨X.env.scope.names.lookup x=some .local:=by first | exact .inl rfl | exact .inr rfl | assumption):wpAny M A (storeName X.env x u) Q E s :=
 jC I hN hi hx r (fun s' I' _=>h s' I') hf
theorem Inv.call'{s':Shared}{ch:List Addr}(I:Inv X pins σ H s)(ho:s'.os=s.os)(u:Un (frs X.stack) ch H H' s.heap s'.heap)(hok:HOk X.prog X.w H' s'.heap)(hg:AllBare s'.gens)
  (hch:∀b∈ch,(b∈X.ex∨X.s₀.heap.objs.size≤b)∧b≠X.env.locals∧(∀x c,X.env.cells.lookup x=some c→c≠b)∧∀p∈X.pn++pins,p.1≠b):Inv X pins σ H' s':=by
 obtain⟨h',g',d',t',o'⟩:=s'
 have e:o'=s.os:=ho
 subst e
 exact I.call (g':=g') (t':=t') (d':=d') u hok hg hch
end
abbrev XK:=Value→Option Addr→Hp→Prop
abbrev St:=List (Option V)
abbrev VK:=V→Hp→Prop
abbrev TE:=St→Hp→VK→Prop
abbrev TT:=St→Hp→(Bool→Hp→Prop)→Prop
abbrev TA:=St→Hp→(List V→Hp→Prop)→Prop
structure Ends where
 nx:St→Hp→Prop
 rt:VK
 bk:St→Hp→Prop:=fun _ _=>False
 ct:St→Hp→Prop:=fun _ _=>False
abbrev TS:=Ends→St→Hp→Prop
def EP(X:Cx)(pins:List (Addr×Obj))(σ:St)(Q:VK)(u:Value)(s':Shared):Prop:=∃v H',Inv X pins σ H' s'∧aY v u∧Q v H'
def TP(X:Cx)(pins:List (Addr×Obj))(σ:St)(Q:Bool→Hp→Prop)(b:Bool)(s':Shared):Prop:=∃H',Inv X pins σ H' s'∧Q b H'
def AP(X:Cx)(pins:List (Addr×Obj))(σ:St)(Q:List V→Hp→Prop)(us:List Value)(s':Shared):Prop:=∃vs H',Inv X pins σ H' s'∧aC vs us∧Q vs H'
def SP(X:Cx)(pins:List (Addr×Obj))(D:Ends)(f:Flow)(s':Shared):Prop :=
 match f with
 | .next=>∃σ' H',Inv X pins σ' H' s'∧D.nx σ' H'
 | .brk=>∃σ' H',Inv X pins σ' H' s'∧D.bk σ' H'
 | .cont=>∃σ' H',Inv X pins σ' H' s'∧D.ct σ' H'
 | .ret u=>∃v σ' H',Inv X pins σ' H' s'∧aY v u∧D.rt v H'
def PE(X:Cx)(e:Expr)(t:TE):Prop :=
 ∀(pins:List (Addr×Obj)) (s:Shared) (σ:St) (H:Hp) (Q:VK),Inv X pins σ H s→t σ H Q→wpAny (model X.prog X.w) X.A (eval e X.env) (EP X pins σ Q) X.xe s
def PT(X:Cx)(e:Expr)(t:TT):Prop :=
 ∀(pins:List (Addr×Obj)) (s:Shared) (σ:St) (H:Hp) (Q:Bool→Hp→Prop),Inv X pins σ H s→t σ H Q→wpAny (model X.prog X.w) X.A (isTrue e X.env (eval e X.env)) (TP X pins σ Q) X.xe s
def PW(X:Cx)(e:Expr)(t:TT):Prop :=
 ∀(whole:Sem Value) (pins:List (Addr×Obj)) (s:Shared) (σ:St) (H:Hp) (Q:Bool→Hp→Prop),Inv X pins σ H s→t σ H Q→wpAny (model X.prog X.w) X.A (isTrue e X.env whole) (TP X pins σ Q) X.xe s
theorem PW.pt{X:Cx}{e:Expr}{t:TT}(h:PW X e t):PT X e t:=h _
def PA(X:Cx)(es:List Expr)(t:TA):Prop :=
 ∀(pos:Pos) (pins:List (Addr×Obj)) (s:Shared) (σ:St) (H:Hp) (Q:List V→Hp→Prop),Inv X pins σ H s→t σ H Q→wpAny (model X.prog X.w) X.A (spliced (backTo pos (starEach es X.env))) (AP X pins σ Q) X.xe s
def PS(X:Cx)(st:Stmt)(t:TS):Prop :=
 ∀(pins:List (Addr×Obj)) (s:Shared) (σ:St) (H:Hp) (D:Ends),Inv X pins σ H s→t D σ H→wpAny (model X.prog X.w) X.A (exec st X.env) (SP X pins D) X.xe s
def PSs(X:Cx)(st:List Stmt)(t:TS):Prop :=
 ∀(pins:List (Addr×Obj)) (s:Shared) (σ:St) (H:Hp) (D:Ends),Inv X pins σ H s→t D σ H→wpAny (model X.prog X.w) X.A (execs st X.env) (SP X pins D) X.xe s
theorem thn{α:Type}{t:Sem α}{Q Q':α→Shared→Prop}{M:Model}{A:Around}{E:Value→Shared→Prop}{s:Shared}(h:wpAny M A t Q E s)(hQ:∀a s,Q a s→Q' a s):wpAny M A t Q' E s:=wpAny_mono h hQ fun _ _ x=>x
end L2
namespace L2
open PySem PySem.Spec PyProof.Rows
section
variable{X:Cx}
theorem bin{a b:Expr}{ta tb:TE}(ha:PE X a ta)(hb:PE X b tb){pins:List (Addr×Obj)}{s:Shared}{σ:St}{H:Hp}{R:V→V→Hp→Prop}(I:Inv X pins σ H s)(h:ta σ H fun x H1=>tb σ H1 fun y H2=>R x y H2)
  {α:Type}{Q:α→Shared→Prop}{f:Value→Value→Sem α}
  (hf:∀v u s2 x y H2,Inv X pins σ H2 s2→aY x v→aY y u→R x y H2→wpAny (model X.prog X.w) X.A (f v u) Q X.xe s2) :
  wpAny (model X.prog X.w) X.A (eval a X.env) (fun v s₁=>wpAny (model X.prog X.w) X.A (eval b X.env) (fun u s₂=>wpAny (model X.prog X.w) X.A (f v u) Q X.xe s₂) X.xe s₁) X.xe s:=by
 refine thn (ha pins s σ H _ I h) fun v s1 ⟨x,H1,I1,r1,q1⟩=>?_
 refine thn (hb pins s1 σ H1 _ I1 q1) fun u s2 ⟨y,H2,I2,r2,q2⟩=>?_
 exact hf v u s2 x y H2 I2 r1 r2 q2
def zx(i:Nat):TE:=fun σ H Q=>∃v,σ[i]?=some (some v)∧Q v H
def tC(v:V):TE:=fun _ H Q=>Q v H
theorem eM{i:Nat}{x:Str}{pos:Pos}(hN:X.N[i]?=some x)(hv:Vis X.env.scope x)(hd:(x ==("__debug__" : Str))=false:=by decide)(hcd:(x ==("__classdict__" : Str))=false:=by decide):PE X (.Name x pos) (zx i):=by
 intro pins s σ H Q I h
 obtain⟨v,e,h⟩:=h
 obtain⟨m,hn,hl⟩:=I.loc
 obtain⟨u,r,l⟩:=hl i x v hN e hv
 have fin:EP X pins σ Q u s:=⟨v,H,I,r,h⟩
 rcases l with⟨hk,hm⟩ |⟨hk,c,hc,hcell⟩
 ·exact wpAny_Name (wpAny_loadName_local I.ok.kind hk hn hm fin) hd
 ·rcases hk with hk | hk
  ·exact wpAny_Name (wpAny_loadName_cell I.ok.kind hk hc hcell fin) hd
  ·exact wpAny_Name (wpAny_loadName_free I.ok.kind hk hc hcell fin hcd) hd
theorem w8{i j pos}:PE X (.Constant (.int i) j pos) (tC (.int i)):=fun _ _ _ H _ I h=>wpAny_Constant_int ⟨.int i,H,I.tok _,⟨_,rfl⟩,h⟩
theorem zQ{b j pos}:PE X (.Constant (.bool b) j pos) (tC (.bl b)):=fun _ _ _ H _ I h=>Constant_bool ⟨.bl b,H,I,rfl,h⟩
theorem w5{j pos}:PE X (.Constant .none j pos) (tC .non):=fun _ _ _ H _ I h=>Constant_none ⟨.non,H,I,rfl,h⟩
theorem wZ{x j pos}:PE X (.Constant (.str x) j pos) (tC (.str x)):=fun _ _ _ H _ I h=>Calls.Constant_str ⟨.str x,H,I.tok _,⟨_,rfl⟩,h⟩
def Gl(X:Cx)(x:Str):Prop:=X.env.kindOf x=some .globalImplicit
theorem dD{E:Value→Shared→Prop}{pins:List (Addr×Obj)}{s:Shared}{σ:St}{H:Hp}{x:Str}{u:Value}{pos:Pos}{Q:Value→Shared→Prop}(I:Inv X pins σ H s)(hg:Gl X x)(hm:X.mg x=some u)(h:Q u s)
  (hd:(x ==("__debug__" : Str))=false:=by decide):wpAny (model X.prog X.w) X.A (eval (.Name x pos) X.env) Q E s :=
 Calls.Name_function_global I.ok.kind hg (Calls.loadGlobal_global (by rw[I.ok.glob];exact I.mod.glob.keeps I.bk) hm h) hd
theorem fE{E:Value→Shared→Prop}{pins:List (Addr×Obj)}{s:Shared}{σ:St}{H:Hp}{x:Str}{u:Value}{pos:Pos}{Q:Value→Shared→Prop}(I:Inv X pins σ H s)(hg:Gl X x)(hm:X.mg x=none)(hv:bootBuiltins x=some u)(h:Q u s)
  (hn:x≠"__name__" := by decide) (hd:(x ==("__debug__" : Str))=false:=by decide):wpAny (model X.prog X.w) X.A (eval (.Name x pos) X.env) Q E s:=by
 obtain⟨mb,h1,h2⟩:=I.mod.blt
 exact Calls.Name_function_global I.ok.kind hg (Calls.loadGlobal_builtin (by rw[I.ok.glob];exact I.mod.glob.keeps I.bk) hm (by rw[I.ok.blt];exact h1.keeps I.bk) ((h2 x hn).trans hv) h) hd
theorem iq{x:Str}{v:V}{u:Value}{pos:Pos}(hg:Gl X x)(hm:X.mg x=some u)(r:aY v u)(hd:(x ==("__debug__" : Str))=false:=by decide):PE X (.Name x pos) (tC v) :=
 fun _ _ _ H _ I h=>dD I hg hm ⟨v,H,I,r,h⟩ hd
theorem ut{x:Str}{v:V}{u:Value}{pos:Pos}(hg:Gl X x)(hm:X.mg x=none)(hv:bootBuiltins x=some u)(r:aY v u)(hn:x≠"__name__" := by decide)(hd:(x ==("__debug__" : Str))=false:=by decide):PE X (.Name x pos) (tC v) :=
 fun _ _ _ H _ I h=>fE I hg hm hv ⟨v,H,I,r,h⟩ hn hd
variable{a b:Expr}{ta tb:TE}{pos:Pos}
variable{tA tB':TT}{bw:List Expr}
def BS(t u:TT):TT:=fun σ H Q=>t σ H fun c H1=>if c=true then u σ H1 Q else Q false H1
def tOr(t u:TT):TT:=fun σ H Q=>t σ H fun c H1=>if c=true then Q true H1 else u σ H1 Q
def BN(t:TT):TT:=fun σ H Q=>t σ H fun c H1=>Q (!c) H1
theorem ug(ha:PT X a tA):PW X (.BoolOp .And [a] pos) tA:=by
 intro wh pins s σ H Q I h
 refine isTrue_and (thn (ha pins s σ H Q I h) fun c s1 e=>?_)
 cases c with
 | true=>exact isTrue_and_nil e
 | false=>exact e
theorem wP(ha:PT X a tA):PW X (.BoolOp .Or [a] pos) tA:=by
 intro wh pins s σ H Q I h
 refine isTrue_or (thn (ha pins s σ H Q I h) fun c s1 e=>?_)
 cases c with
 | false=>exact isTrue_or_nil e
 | true=>exact e
theorem wQ(ha:PT X a tA)(hb:PW X (.BoolOp .And (b::bw) pos) tB'):PW X (.BoolOp .And (a::b::bw) pos) (BS tA tB'):=by
 intro wh pins s σ H Q I h
 refine isTrue_and (thn (ha pins s σ H _ I h) fun c s1 ⟨H1,I1,q1⟩=>?_)
 cases c with
 | true=>exact hb wh pins s1 σ H1 Q I1 q1
 | false=>exact⟨H1,I1,q1⟩
theorem zL(ha:PT X a tA)(hb:PW X (.BoolOp .Or (b::bw) pos) tB'):PW X (.BoolOp .Or (a::b::bw) pos) (tOr tA tB'):=by
 intro wh pins s σ H Q I h
 refine isTrue_or (thn (ha pins s σ H _ I h) fun c s1 ⟨H1,I1,q1⟩=>?_)
 cases c with
 | true=>exact⟨H1,I1,q1⟩
 | false=>exact hb wh pins s1 σ H1 Q I1 q1
theorem wR(ha:PT X a tA):PT X (.UnaryOp .Not a pos) (BN tA):=by
 intro pins s σ H Q I h
 exact isTrue_not (ha pins s σ H (fun c H1=>Q (!c) H1) I h)
def zH(ta tb:TE):TE:=fun σ H Q=>ta σ H fun x H1=>∃c,x=.bl c∧if c=true then tb σ H1 Q else Q (.bl false) H1
theorem w4{op}{t:TE}(h:PE X a t):PE X (.BoolOp op [a] pos) t:=fun pins s σ H Q I hw=>BoolOp_one (h pins s σ H Q I hw)
theorem xb(ha:PE X a ta)(hb:PE X (.BoolOp .And (b::bw) pos) tb):PE X (.BoolOp .And (a::b::bw) pos) (zH ta tb):=by
 intro pins s σ H Q I h
 refine BoolOp_and (thn (ha pins s σ H _ I h) fun v s1 ⟨x,H1,I1,r1,q1⟩=>?_)
 obtain⟨c,rfl,q1⟩:=q1
 cases r1
 refine wpAny_truthy_bool ?_
 cases c with
 | true=>exact hb pins s1 σ H1 Q I1 q1
 | false=>exact⟨.bl false,H1,I1,rfl,q1⟩
def tIf(t:TT)(ta tb:TE):TE:=fun σ H Q=>t σ H fun c H1=>if c=true then ta σ H1 Q else tb σ H1 Q
theorem qN{c:Expr}(hc:PT X c tA)(ha:PE X a ta)(hb:PE X b tb):PE X (.IfExp c a b pos) (tIf tA ta tb):=by
 intro pins s σ H Q I h
 refine wpAny_IfExp (thn (hc pins s σ H _ I h) fun d s1 ⟨H1,I1,q1⟩=>?_)
 cases d with
 | true=>exact ha pins s1 σ H1 Q I1 q1
 | false=>exact hb pins s1 σ H1 Q I1 q1
end
end L2
namespace L2
open PySem PySem.Spec PyProof.Rows
def SqL(K:PySem.W.Frag)(H:Hp)(a:Addr)(xs:List V):Prop :=
 Rd H a (.lst xs)∨
  ∃(o:Obj) (its:Array Value) (n:Nat),K.lookup a=some o∧o.cls=.type "list" ∧ o.dict=none∧o.data=.seq its n∧its.size≤sizeLine∧aC xs its.toList
def SqT(K:PySem.W.Frag)(H:Hp)(a:Addr)(xs:List V):Prop :=
 Rd H a (.tup xs)∨
  ∃(o:Obj) (its:Array Value) (n:Nat),K.lookup a=some o∧o.cls=.type "tuple" ∧ o.data=.seq its n∧its.size≤sizeLine∧aC xs its.toList
def Cv:Value→Option V
 | .none=>some .non
 | .bool b=>some (.bl b)
 | .int i _=>some (.int i)
 | .str x _=>some (.str x)
 | .bytes b _=>some (.byt b)
 | .float b _=>some (.flt b)
 | .ref a=>some (.ref a)
 | .type n=>some (.ty n)
 | _=>none
theorem aY.abs{x:V}{u:Value}(r:aY x u):Cv u=some x:=by
 cases x with
 | non=>cases r;rfl
 | bl _=>cases r;rfl
 | int _=>obtain⟨t,rfl⟩:=r;rfl
 | str _=>obtain⟨t,rfl⟩:=r;rfl
 | byt _=>obtain⟨t,rfl⟩:=r;rfl
 | flt _=>obtain⟨t,rfl⟩:=r;rfl
 | ref _=>cases r;rfl
 | ty _=>cases r;rfl
theorem aY.inj{x y:V}{u:Value}(r:aY x u)(q:aY y u):x=y:=Option.some.inj (r.abs.symm.trans q.abs)
theorem aC.inj:∀{xs ys:List V}{us:List Value},aC xs us→aC ys us→xs=ys
 | _,_,_,.nil,.nil=>rfl
 | _,_,_,.cons r t,.cons r' t'=>by rw[r.inj r',aC.inj t t']
section
variable{X:Cx}{pins:List (Addr×Obj)}{σ:St}{H:Hp}{s:Shared}{a:Addr}{xs ys:List V}
theorem SqL.of{K:PySem.W.Frag}(h:H a=some (.lst xs)):SqL K H a xs:=.inl (.inl h)
theorem SqT.of{K:PySem.W.Frag}(h:H a=some (.tup xs)):SqT K H a xs:=.inl (.inl h)
theorem Inv.list(I:Inv X pins σ H s)(h:SqL X.K H a xs):∃its:List Value,aC xs its∧PlainL s.heap a its.toArray∧xs.length≤sizeLine:=by
 rcases h with h |⟨o,its,n,hk,hc,hd,hs,hz,r⟩
 ·obtain⟨z,its,n,r,e⟩:=h.ok I.hok
  exact⟨its,r,⟨_,n,e,rfl,rfl,rfl⟩,z⟩
 ·refine⟨its.toList,r,⟨o,n,I.kIn a o hk,hc,hd,by simpa using hs⟩,?_⟩
  have e:=r.length
  simp only[Array.length_toList]at e
  omega
theorem Inv.tuple(I:Inv X pins σ H s)(h:SqT X.K H a xs):∃its:List Value,aC xs its∧IsTup s.heap a its.toArray∧xs.length≤sizeLine:=by
 rcases h with h |⟨o,its,n,hk,hc,hs,hz,r⟩
 ·obtain⟨z,its,r,p⟩:=h.ok I.hok
  exact⟨its,r,p,z⟩
 ·refine⟨its.toList,r,⟨o,I.kIn a o hk,hc,n,by simpa using hs⟩,?_⟩
  have e:=r.length
  simp only[Array.length_toList]at e
  omega
theorem Inv.list_inj(I:Inv X pins σ H s)(h:SqL X.K H a xs)(h':SqL X.K H a ys):xs=ys:=by
 obtain⟨its,r,⟨o,n,e,_,_,d⟩,_⟩:=I.list h
 obtain⟨its',r',⟨o',n',e',_,_,d'⟩,_⟩:=I.list h'
 rw[e]at e';cases e'
 rw[d]at d'
 injection d' with d1 _
 have:its=its':=by simpa using congrArg Array.toList d1
 subst this
 exact r.inj r'
theorem Inv.tuple_inj(I:Inv X pins σ H s)(h:SqT X.K H a xs)(h':SqT X.K H a ys):xs=ys:=by
 obtain⟨its,r,⟨o,e,_,n,d⟩,_⟩:=I.tuple h
 obtain⟨its',r',⟨o',e',_,n',d'⟩,_⟩:=I.tuple h'
 rw[e]at e';cases e'
 rw[d]at d'
 injection d' with d1 _
 have:its=its':=by simpa using congrArg Array.toList d1
 subst this
 exact r.inj r'
end
abbrev Cx.wish(X:Cx)(E:Value→Shared→Prop):Cx:={ X with xe:=E }
abbrev Cx.nox(X:Cx):Cx:=X.wish fun _ _=>False
theorem Cx.Ok.wish{X:Cx}(ok:X.Ok)(E:Value→Shared→Prop):(X.wish E).Ok :=
 ⟨ok.mod,ok.kind,ok.glob,ok.blt,ok.above,ok.inj,ok.has,ok.cab,ok.hd,ok.frames,ok.stk,ok.exf,ok.bs,ok.bsz,ok.noex,ok.exfs,ok.funs,ok.frf⟩
theorem Cx.Ok.unwish{X:Cx}{E:Value→Shared→Prop}(ok:(X.wish E).Ok):X.Ok :=
 ⟨ok.mod,ok.kind,ok.glob,ok.blt,ok.above,ok.inj,ok.has,ok.cab,ok.hd,ok.frames,ok.stk,ok.exf,ok.bs,ok.bsz,ok.noex,ok.exfs,ok.funs,ok.frf⟩
section
variable{X:Cx}{pins:List (Addr×Obj)}{σ:St}{H:Hp}{s:Shared}{E:Value→Shared→Prop}
theorem Inv.wish(I:Inv X pins σ H s)(E:Value→Shared→Prop):Inv (X.wish E) pins σ H s:=⟨I.ok.wish E,I.os,I.bare,I.base,I.loc,I.cell,I.free,I.freeC,I.pin,I.hok,I.len⟩
theorem Inv.unwish(I:Inv (X.wish E) pins σ H s):Inv X pins σ H s:=⟨I.ok.unwish,I.os,I.bare,I.base,I.loc,I.cell,I.free,I.freeC,I.pin,I.hok,I.len⟩
theorem SP.unwish{D:Ends}{f:Flow}{s':Shared}(h:SP (X.wish E) pins D f s'):SP X pins D f s':=by
 cases f with
 | next=>obtain⟨σ',H',I,q⟩:=h;exact⟨σ',H',I.unwish,q⟩
 | brk=>obtain⟨σ',H',I,q⟩:=h;exact⟨σ',H',I.unwish,q⟩
 | cont=>obtain⟨σ',H',I,q⟩:=h;exact⟨σ',H',I.unwish,q⟩
 | ret u=>obtain⟨v,σ',H',I,r,q⟩:=h;exact⟨v,σ',H',I.unwish,r,q⟩
theorem PE.nox{e:Expr}{t:TE}(h:PE X.nox e t):PE X e t:=fun pins s σ H Q I hw =>
 wpAny_mono (h pins s σ H Q (I.wish _) hw) (fun _ _ ⟨v,H',I',r,q⟩=>⟨v,H',I'.unwish,r,q⟩) fun _ _ z=>False.elim z
theorem PT.nox{e:Expr}{t:TT}(h:PT X.nox e t):PT X e t:=fun pins s σ H Q I hw =>
 wpAny_mono (h pins s σ H Q (I.wish _) hw) (fun _ _ ⟨H',I',q⟩=>⟨H',I'.unwish,q⟩) fun _ _ z=>False.elim z
theorem PSs.nox{st:List Stmt}{t:TS}(h:PSs X.nox st t):PSs X st t:=fun pins s σ H D I hw =>
 wpAny_mono (h pins s σ H D (I.wish _) hw) (fun _ _ q=>q.unwish) fun _ _ z=>False.elim z
end
section
variable{X:Cx}{st:Stmt}{bw:List Stmt}{t u:TS}{e:Expr}{te:TE}{pos:Pos}
def zD:TS:=fun D σ H=>D.nx σ H
def BL(t u:TS):TS:=fun D σ H=>t { D with nx:=u D } σ H
theorem ui:PSs X [] zD:=fun _ _ σ H _ I h=>wpAny_execs_nil ⟨σ,H,I,h⟩
theorem qB(h1:PS X st t)(h2:PSs X bw u):PSs X (st::bw) (BL t u):=by
 intro pins s σ H D I h
 refine wpAny_execs_cons (thn (h1 pins s σ H { D with nx:=u D } I h) fun f s1 q=>?_)
 cases f with
 | next =>
  obtain⟨σ',H',I',q⟩:=q
  exact h2 pins s1 σ' H' D I' q
 | ret v=>exact q
 | brk=>exact q
 | cont=>exact q
theorem uh(h1:PS X st t):PSs X [st] t:=by
 intro pins s σ H D I h
 refine wpAny_execs_cons (thn (h1 pins s σ H D I h) fun f s1 q=>?_)
 cases f with
 | next=>exact wpAny_execs_nil q
 | ret v=>exact q
 | brk=>exact q
 | cont=>exact q
def we:TS:=fun D σ H=>D.bk σ H
theorem qE:PS X (.Break pos) we:=fun _ _ σ H _ I h=>wpAny_Break ⟨σ,H,I,h⟩
theorem Inv.quiet{pins:List (Addr×Obj)}{σ:St}{H:Hp}{s:Shared}(I:Inv X pins σ H s):interactive X.env=false:=by simp[interactive,I.ok.kind]
def zF(te:TE):TS:=fun D σ H=>te σ H fun _ H1=>D.nx σ H1
theorem ip(he:PE X e te)(hs:swapsWith e none pos.line X.env=pure false:=by rfl):PS X (.Expr e pos) (zF te):=by
 intro pins s σ H D I h
 exact wpAny_Expr_any (thn (he pins s σ H _ I h) fun v s1 ⟨x,H1,I1,r1,q1⟩=>⟨σ,H1,I1,q1⟩) I.quiet hs
def BM(te:TE):TS:=fun D σ H=>te σ H D.rt
theorem qD(he:PE X e te):PS X (.Return (some e) pos) (BM te):=by
 intro pins s σ H D I h
 exact wpAny_Return_some (thn (he pins s σ H _ I h) fun v s1 ⟨x,H1,I1,r1,q1⟩=>⟨x,σ,H1,I1,r1,q1⟩)
def zA:TS:=fun D _ H=>D.rt .non H
theorem uj:PS X (.Return none pos) zA:=fun _ _ σ H _ I h=>wpAny_Return_none ⟨.non,σ,H,I,rfl,h⟩
def BP(c:TT)(t u:TS):TS:=fun D σ H=>c σ H fun b H1=>if b=true then t D σ H1 else u D σ H1
theorem zM{c:Expr}{a b:List Stmt}{tc:TT}(hc:PT X c tc)(ha:PSs X a t)(hb:PSs X b u):PS X (.If c a b pos) (BP tc t u):=by
 intro pins s σ H D I h
 refine wpAny_If (thn (hc pins s σ H _ I h) fun d s1 ⟨H1,I1,q1⟩=>?_)
 cases d with
 | true=>exact ha pins s1 σ H1 D I1 q1
 | false=>exact hb pins s1 σ H1 D I1 q1
end
abbrev TG:=V→St→Hp→(St→Hp→Prop)→Prop
abbrev TGs:=List V→St→Hp→(St→Hp→Prop)→Prop
def PG(X:Cx)(target:Expr)(t:TG):Prop :=
 ∀(pins:List (Addr×Obj)) (s:Shared) (σ:St) (H:Hp) (v:V) (u:Value) (Q:St→Hp→Prop),Inv X pins σ H s→aY v u→t v σ H Q →
  wpAny (model X.prog X.w) X.A (assign target X.env u) (fun _ s'=>∃σ' H',Inv X pins σ' H' s'∧Q σ' H') X.xe s
def PGs(X:Cx)(ts:List Expr)(t:TGs):Prop :=
 ∀(pins:List (Addr×Obj)) (s:Shared) (σ:St) (H:Hp) (vs:List V) (us:List Value) (Q:St→Hp→Prop),Inv X pins σ H s→aC vs us→t vs σ H Q →
  wpAny (model X.prog X.w) X.A (assignInOrder ((assignEach ts X.env).map (·.2)) us) (fun _ s'=>∃σ' H',Inv X pins σ' H' s'∧Q σ' H') X.xe s
abbrev yZ:=V→V→V→Hp→(Hp→Prop)→Prop
def A5(X:Cx)(t:yZ):Prop :=
 ∀(pins:List (Addr×Obj)) (s:Shared) (σ:St) (H:Hp) (o i v:V) (ov iv u:Value) (Q:Hp→Prop),Inv X pins σ H s→aY o ov→aY i iv→aY v u→t o i v H Q →
  wpAny (model X.prog X.w) X.A (setItem ov iv u) (fun _ s'=>∃H',Inv X pins σ H' s'∧Q H') X.xe s
section
variable{X:Cx}{pos:Pos}
def vY(i:Nat):TG:=fun v σ H Q=>Q (σ.set i (some v)) H
theorem n4{i:Nat}{x:Str}(hN:X.N.Nodup)(hi:X.N[i]?=some x)(hx:Loc X.env.scope x)(hf:X.fn x=true∨X.env.scope.names.lookup x=some .local:=by first | exact .inl rfl | exact .inr rfl | assumption):PG X (.Name x pos) (vY i):=by
 intro pins s σ H v u Q I r h
 exact wpAny_assign_Name (iz I hN hi hx r (fun s' I'=>⟨_,H,I',h⟩) hf)
def B_:TGs:=fun vs σ H Q=>vs=[]∧Q σ H
def AN(t:TG)(u:TGs):TGs:=fun vs σ H Q=>∃v r,vs=v::r∧t v σ H fun σ' H'=>u r σ' H' Q
theorem uq:PGs X [] B_:=by
 intro pins s σ H vs us Q I r h
 obtain⟨e,h⟩:=h
 subst e
 cases r
 exact assignInOrder_nil ⟨σ,H,I,h⟩
theorem qL{e:Expr}{es:List Expr}{t:TG}{u:TGs}(h1:PG X e t)(h2:PGs X es u)
  (hs:(assignEach (e::es) X.env).map (·.2)=assign e X.env::(assignEach es X.env).map (·.2):=by rfl):PGs X (e::es) (AN t u):=by
 intro pins s σ H vs us Q I r h
 obtain⟨v,vr,e1,h⟩:=h
 subst e1
 cases r with
 | cons r rr =>
  rw[hs]
  refine assignInOrder_cons (thn (h1 pins s σ H _ _ _ I r h) fun _ s1 ⟨σ1,H1,I1,q1⟩=>?_)
  exact h2 pins s1 σ1 H1 _ _ Q I1 rr q1
def B8(K:PySem.W.Frag)(n:Nat)(t:TGs):TG:=fun v σ H Q=>∃a xs,v=.ref a∧SqT K H a xs∧xs.length=n∧t xs σ H Q
theorem wW{es:List Expr}{k:Nat}{t:TGs}{n:Nat}(hc:X.calm=true)(h:PGs X es t)
  (hn:(assignEach es X.env).length=n:=by rfl) (hst:(assignEach es X.env).findIdx? (·.1)=none:=by rfl):PG X (.Tuple es k pos) (B8 X.K n t):=by
 intro pins s σ H v u Q I r hw
 obtain⟨a,xs,e1,hq,hl,hw⟩:=hw
 subst e1
 cases r
 obtain⟨its,rv,ht,hz⟩:=I.tuple hq
 refine assign_Tuple_tuple (I.ok.hd hc) ht (by simp[hn,← hl,rv.length]) hst fun h' hx=>?_
 have I1:Inv X pins σ H { s with heap:=h' }:=I.kept (t':=s.toks) fun b o e=>hx b o (Nat.ne_of_lt (Heap.lt_size e)) e
 exact h pins _ σ H xs _ Q I1 (by simpa using rv) hw
def B9(to ti:TE)(t:yZ):TG:=fun v σ H Q=>to σ H fun o H1=>ti σ H1 fun i H2=>t o i v H2 fun H3=>Q σ H3
theorem wX{o i:Expr}{to ti:TE}{t:yZ}(ho:PE X o to)(hi:PE X i ti)(hs:A5 X t)
  (ha:∀ v,assign (.Subscript o i pos) X.env v=(do
   let ov ← holding [v] (eval o X.env)
   let iv ← holding [v,ov] (eval i X.env)
   standAt pos
   holding [v,ov,iv] (setItem ov iv v)
   release [v,ov,iv] []):=by intro _;rfl):PG X (.Subscript o i pos) (B9 to ti t):=by
 intro pins s σ H v u Q I r h
 rw[ha]
 refine wpAny_bind (wpAny_holding (thn (ho pins s σ H _ I h) fun ov s1 ⟨x,H1,I1,r1,q1⟩=>?_))
 refine wpAny_bind (wpAny_holding (thn (hi pins s1 σ H1 _ I1 q1) fun iv s2 ⟨y,H2,I2,r2,q2⟩=>?_))
 refine wpAny_bind (wpAny_standAt (wpAny_bind (wpAny_holding (thn (hs pins s2 σ H2 x y v ov iv u _ I2 r1 r2 r q2) fun _ s3 ⟨H3,I3,q3⟩=>?_))))
 exact wpAny_release ⟨σ,H3,I3,q3⟩
def zG(te:TE)(g:TG):TS:=fun D σ H=>te σ H fun x H1=>g x σ H1 D.nx
theorem qF{tg e:Expr}{te:TE}{g:TG}(he:PE X e te)(hg:PG X tg g)(hs:swapsWithSole [tg] e pos.line X.env=pure false:=by rfl)(hw:swappedStores [tg] e X.env=pure none:=by rfl)
  (h1:(assignEach [tg] X.env).map (·.2)=[assign tg X.env]:=by rfl):PS X (.Assign [tg] e pos) (zG te g):=by
 intro pins s σ H D I h
 refine wpAny_Assign_stores (thn (he pins s σ H _ I h) fun v s1 ⟨x,H1,I1,r1,q1⟩=>?_) hs hw
 rw[h1]
 exact thn (hg pins s1 σ H1 x v _ I1 r1 q1) fun _ s2 q=>q
theorem wS{i:Nat}{x:Str}{e:Expr}{te:TE}{pos':Pos}(hN:X.N.Nodup)(hi:X.N[i]?=some x)(hx:Loc X.env.scope x)(he:PE X e te)(hs:swapsWith e (some (.Name x pos')) pos.line X.env=pure false:=by rfl)(hf:X.fn x=true∨X.env.scope.names.lookup x=some .local:=by first | exact .inl rfl | exact .inr rfl | assumption) :
  PS X (.Assign [.Name x pos'] e pos) (zG te (vY i)):=by
 intro pins s σ H D I h
 refine wpAny_Assign_Name (thn (he pins s σ H _ I h) fun v s1 ⟨y,H1,I1,r1,q1⟩=>?_) hs
 exact iz I1 hN hi hx r1 (fun s2 I2=>⟨_,H1,I2,q1⟩) hf
end
section
variable{X:Cx}{pos:Pos}
def wb(c:TT)(tb:TS):TS:=fun D σ H=>∃W:Nat→St→Hp→Prop,(∃m,W m σ H)∧∀m σ H,W m σ H →
 c σ H fun b H1=>if b=true then ∃N:St→Hp→Prop,(∀σ' H',N σ' H'→∃m',m' < m∧W m' σ' H')∧tb { D with nx:=N,ct:=N,bk:=D.nx } σ H1 else D.nx σ H1
theorem qC{c:Expr}{body:List Stmt}{tc:TT}{tb:TS}(hp:PassesOwn (model X.prog X.w) X.A X.env X.xe)(hc:PT X c tc)(hb:PSs X body tb):PS X (.While c body [] pos) (wb tc tb):=by
 intro pins s σ H D I h
 obtain⟨W,⟨m0,w0⟩,turn⟩:=h
 refine wpAny_While (codeAny_whileLoop (fun n s'=>∃σ' H',Inv X pins σ' H' s'∧W n σ' H') ?_ m0 ⟨σ,H,I,w0⟩)
 rintro n s1 ⟨σ1,H1,I1,w1⟩
 refine wpAny_passesOwn hp (thn (hc pins s1 σ1 H1 _ I1 (turn n σ1 H1 w1)) fun b s2 ⟨H2,I2,q2⟩=>?_)
 cases b with
 | true =>
  obtain⟨N,hN,q2⟩:=q2
  rw[if_pos rfl]
  refine wpAny_passesOwn hp (thn (hb pins s2 σ1 H2 _ I2 q2) fun f s3 q3=>?_)
  cases f with
  | next =>
   obtain⟨σ3,H3,I3,n3⟩:=q3
   obtain⟨m',hm,w3⟩:=hN σ3 H3 n3
   exact⟨m',hm,σ3,H3,I3,w3⟩
  | cont =>
   obtain⟨σ3,H3,I3,n3⟩:=q3
   obtain⟨m',hm,w3⟩:=hN σ3 H3 n3
   exact⟨m',hm,σ3,H3,I3,w3⟩
  | brk=>exact q3
  | ret v=>exact q3
 | false =>
  rw[if_neg Bool.false_ne_true]
  exact wpAny_execs_nil ⟨σ1,H2,I2,q2⟩
end
structure It where
 go:Nat→Hp→Prop
 yld:Nat→Hp→V→Hp→Prop
 stop:Nat→Hp→Prop
def jz(X:Cx)(pins:List (Addr×Obj))(H:Hp)(b:Addr):Prop :=
 H b=none∧b≠X.env.locals∧b∉X.fs∧(b∈X.ex∨X.s₀.heap.objs.size≤b)∧(∀x c,X.env.cells.lookup x=some c→c≠b)∧∀p∈X.pn++pins,p.1≠b
theorem Inv.fpOk{X:Cx}{pins:List (Addr×Obj)}{σ:St}{H H':Hp}{s:Shared}{b:Addr}(I:Inv X pins σ H s)(hb:s.heap.objs.size≤b)(hn:H' b=none):jz X pins H' b:=by
 refine⟨hn,Nat.ne_of_gt (Nat.lt_of_lt_of_le I.lt hb),I.nofs hb,.inr (Nat.le_trans I.sz hb),fun x c e z=>?_,fun p hp z=>?_⟩
 ·obtain⟨v,q⟩:=I.cell x c e
  exact absurd (Nat.lt_of_lt_of_le q.lt (by rw[z];exact hb)) (Nat.lt_irrefl _)
 ·exact absurd (Nat.lt_of_lt_of_le (Heap.lt_size (I.pin p hp).1) (by rw[z];exact hb)) (Nat.lt_irrefl _)
structure sX(P:Program)(w:World)(K:PySem.W.Frag)(tg:Expr)(J:It)(fp:List Addr)(it:Addr)(tn:Nat→Heap→Prop):Prop where
 mem:it∈fp
 obj:∀i h,tn i h→∀b∈fp,∃o,h.get? b=some o∧∀v,o.data≠.cell v
 keep:∀i h h',tn i h→(∀b∈fp,∀o,h.get? b=some o→h'.get? b=some o)→tn i h'
 item:∀(X:Cx),X.prog=P→X.w=w→X.K=K→X.calm=true→∀(i:Nat) (pins:List (Addr×Obj)) (s:Shared) (σ:St) (H:Hp) (E:Value→Shared→Prop),Inv X pins σ H s→(∀b∈fp,jz X pins H b)→tn i s.heap→J.go i H →
  wpAny (model P w) X.A (pyNext (.ref it)) (fun r s1=>∃ u,r=some u ∧
   wpAny (model P w) X.A (letOwnedTupleGo tg (.ref it) u) (fun _ s2=>∃x H',Inv X pins σ H' s2∧aY x u∧J.yld i H x H'∧tn (i+1) s2.heap∧∀b∈fp,H' b=none) E s1) E s
 done:∀(X:Cx),X.prog=P→X.w=w→X.K=K→X.calm=true→∀(i:Nat) (pins:List (Addr×Obj)) (s:Shared) (σ:St) (H:Hp) (E:Value→Shared→Prop),Inv X pins σ H s→(∀b∈fp,jz X pins H b)→tn i s.heap→J.stop i H →
  wpAny (model P w) X.A (pyNext (.ref it)) (fun r s1=>r=none∧Inv X pins σ H s1) E s
 self:∀(A:Around) (i:Nat) (s:Shared) (Q:Value→Shared→Prop) (E:Value→Shared→Prop),tn i s.heap→Q (.ref it) s→wpAny (model P w) A (pyIter (.ref it)) Q E s
abbrev TI:=St→Hp→(It→Hp→Prop)→Prop
def PIE(X:Cx)(pins:List (Addr×Obj))(σ:St)(tg:Expr)(R:It→Hp→Prop)(itv:Value)(s2:Shared):Prop :=
 ∃(it:Addr) (fp:List Addr) (tn:Nat→Heap→Prop) (J:It) (H':Hp),itv=.ref it∧Inv X pins σ H' s2∧sX X.prog X.w X.K tg J fp it tn∧tn 0 s2.heap∧(∀b∈fp,jz X pins H' b)∧R J H'
def PI(X:Cx)(tg iter:Expr)(wi:TI):Prop :=
 ∀(pins:List (Addr×Obj)) (s:Shared) (σ:St) (H:Hp) (R:It→Hp→Prop),Inv X pins σ H s→wi σ H R →
  wpAny (model X.prog X.w) X.A (eval iter X.env) (fun v s1=>wpAny (model X.prog X.w) X.A (pyIter v) (PIE X pins σ tg R) X.xe s1) X.xe s
theorem rS{M:Model}{A:Around}{E:Value→Shared→Prop}{s:Shared}{tg:Expr}{it:Addr}{u:Value}{o:Obj}{n:String}{vs:Array Value}{Q:Unit→Shared→Prop}(ho:s.heap.get? it=some o)(hc:o.cls=.type n)(hd:o.data=.fields vs)
    (hn:["enumerate", "zip", "dict_itemiterator", "dict_reverseitemiterator", "odict_iterator", "itertools.zip_longest", "itertools.pairwise"].contains n=false) (hQ:Q () s):wpAny M A (letOwnedTupleGo tg (.ref it) u) Q E s:=by
  unfold letOwnedTupleGo
  cases tg<;>first
    | exact wpAny_pure hQ
    | (cases u <;> first
        | exact wpAny_pure hQ
        | (refine wpAny_bind (wpAny_load ho ?_)
           rw[hc,hd]
           show wpAny M A (if(["enumerate", "zip", "dict_itemiterator", "dict_reverseitemiterator", "odict_iterator", "itertools.zip_longest", "itertools.pairwise"].contains n&&vs[0]?==some (rawInt _))=true then _ else _) Q E s
           rw[if_neg (by intro h;rw[hn,Bool.false_and]at h;cases h)]
           exact wpAny_pure hQ))
def Itl(K:PySem.W.Frag)(a:Addr):It :=
 ⟨fun i H=>∃xs x,SqL K H a xs∧xs[i]?=some x,fun i H x H'=>H'=H∧∀xs,SqL K H a xs→xs[i]?=some x,fun i H=>∃xs,SqL K H a xs∧xs.length≤i⟩
def Itt(K:PySem.W.Frag)(a:Addr):It :=
 ⟨fun i H=>∃xs x,SqT K H a xs∧xs[i]?=some x,fun i H x H'=>H'=H∧∀xs,SqT K H a xs→xs[i]?=some x,fun i H=>∃xs,SqT K H a xs∧xs.length≤i⟩
def Itr(lo:Int)(n:Nat):It:=⟨fun i _=>i < n,fun i H x H'=>H'=H∧x=.int (lo+i),fun i _=>n≤i⟩
theorem oU{P:Program}{w:World}{K:PySem.W.Frag}{tg:Expr}(a it:Addr):sX P w K tg (Itl K a) [it] it (fun i h=>h.IsListIter it a i) where
 mem:=by simp
 obj:=fun i h st b hb=>by
  have e:b=it:=by simpa using hb
  subst e
  obtain⟨o,e,c,d⟩:=st
  exact⟨o,e,fun v z=>by rw[d]at z;cases z⟩
 keep:=fun i h h' st k=>st.at fun o e=>k it (by simp) o e
 item:=by
  intro X hP hw hK hc i pins s σ H E I hf st hg
  subst hP hw hK
  obtain⟨xs,x,hq,hx⟩:=hg
  obtain⟨its,rv,p,hz⟩:=I.list hq
  obtain⟨u,hu,ru⟩:=rv.get hx
  obtain⟨f0,f1,f2,f3,f4,f5⟩:=hf it (by simp)
  refine wpAny_pyNext_list_item st p.isList (x:=u) (by simpa using hu) fun h' st' sb=>?_
  have I1:Inv X pins σ H { s with heap:=h' }:=I.turned (t':=s.toks) (fun b o hb e=>(sb.2 b hb).trans e) f0 f1 f3 f4 f5
  obtain⟨o,e,c,d⟩:=id st'
  exact⟨u,rfl,rS (s:={ s with heap:=h' }) e c d (by decide) ⟨x,H,I1,ru,⟨rfl,fun ys hy=>by rw[I.list_inj hy hq];exact hx⟩,st',fun b hb=>(hf b hb).1⟩⟩
 done:=by
  intro X hP hw hK hc i pins s σ H E I hf st hg
  subst hP hw hK
  obtain⟨xs,hq,hx⟩:=hg
  obtain⟨its,rv,p,hz⟩:=I.list hq
  obtain⟨f0,f1,f2,f3,f4,f5⟩:=hf it (by simp)
  have hl:=rv.length
  exact wpAny_pyNext_list_end (I.ok.hd hc) st p.isList (by simp;omega) fun h' eb=>⟨rfl,I.turned (t':=s.toks) (fun b o hb e=>eb b o hb e) f0 f1 f3 f4 f5⟩
 self:=fun _ _ _ _ _ st h=>wpAny_pyIter_listiter st h
theorem l_{P:Program}{w:World}{K:PySem.W.Frag}{tg:Expr}(a it:Addr):sX P w K tg (Itt K a) [it] it (fun i h=>h.IsTupleIter it a i) where
 mem:=by simp
 obj:=fun i h st b hb=>by
  have e:b=it:=by simpa using hb
  subst e
  obtain⟨o,e,c,d⟩:=st
  exact⟨o,e,fun v z=>by rw[d]at z;cases z⟩
 keep:=fun i h h' st k=>st.at fun o e=>k it (by simp) o e
 item:=by
  intro X hP hw hK hc i pins s σ H E I hf st hg
  subst hP hw hK
  obtain⟨xs,x,hq,hx⟩:=hg
  obtain⟨its,rv,p,hz⟩:=I.tuple hq
  obtain⟨u,hu,ru⟩:=rv.get hx
  obtain⟨f0,f1,f2,f3,f4,f5⟩:=hf it (by simp)
  refine wpAny_pyNext_tuple_item st (show s.heap.IsTuple a its.toArray from p) (x:=u) (by simpa using hu) fun h' st' sb=>?_
  have I1:Inv X pins σ H { s with heap:=h' }:=I.turned (t':=s.toks) (fun b o hb e=>(sb.2 b hb).trans e) f0 f1 f3 f4 f5
  obtain⟨o,e,c,d⟩:=id st'
  exact⟨u,rfl,rS (s:={ s with heap:=h' }) e c d (by decide) ⟨x,H,I1,ru,⟨rfl,fun ys hy=>by rw[I.tuple_inj hy hq];exact hx⟩,st',fun b hb=>(hf b hb).1⟩⟩
 done:=by
  intro X hP hw hK hc i pins s σ H E I hf st hg
  subst hP hw hK
  obtain⟨xs,hq,hx⟩:=hg
  obtain⟨its,rv,p,hz⟩:=I.tuple hq
  obtain⟨f0,f1,f2,f3,f4,f5⟩:=hf it (by simp)
  have hl:=rv.length
  exact wpAny_pyNext_tuple_end (I.ok.hd hc) st (show s.heap.IsTuple a its.toArray from p) (by simp;omega) fun h' eb=>⟨rfl,I.turned (t':=s.toks) (fun b o hb e=>eb b o hb e) f0 f1 f3 f4 f5⟩
 self:=fun _ _ _ _ _ st h=>wpAny_pyIter_tupleiter st h
theorem mf{P:Program}{w:World}{K:PySem.W.Frag}{tg:Expr}(it:Addr)(lo:Int)(n:Nat):sX P w K tg (Itr lo n) [it] it (fun i h=>IsRangeIter h it (lo+(i:Nat) * 1) ((n:Int) - (i:Nat)) 1) where
 mem:=by simp
 obj:=fun i h st b hb=>by
  have e:b=it:=by simpa using hb
  subst e
  exact ⟨_,st,fun v z=>by
   have z':Data.fields _=Data.cell v:=z
   cases z'⟩
 keep:=fun i h h' st k=>k it (by simp) _ st
 item:=by
  intro X hP hw hK hc i pins s σ H E I hf st hg
  subst hP hw hK
  obtain⟨f0,f1,f2,f3,f4,f5⟩:=hf it (by simp)
  have W:=Walks.range (prog:=X.prog) (w:=X.w) (I.ok.hd hc) it lo 1 n
  refine W.item i s _ _ hg st fun v h' tk hv st' kk=>?_
  obtain⟨t,rfl⟩:=hv
  have I1:Inv X pins σ H { s with heap:=h',toks:=tk }:=I.turned (fun b o hb e=>kk b o (by simpa using hb) e) f0 f1 f3 f4 f5
  refine⟨_,rfl,rS (s:={ s with heap:=h',toks:=tk }) (n := "range_iterator") st' rfl rfl (by decide) ⟨.int (lo+i),H,I1,⟨t,?_⟩,⟨rfl,rfl⟩,st',fun b hb=>(hf b hb).1⟩⟩
  rw[Int.mul_one]
 done:=by
  intro X hP hw hK hc i pins s σ H E I hf st hg
  subst hP hw hK
  obtain⟨f0,f1,f2,f3,f4,f5⟩:=hf it (by simp)
  exact wpAny_pyNext_range_end (I.ok.hd hc) st (by have:n≤i:=hg;omega) fun h' eb=>⟨rfl,I.turned (t':=s.toks) (fun b o hb e=>eb b o hb e) f0 f1 f3 f4 f5⟩
 self:=fun _ _ _ _ _ st h=>wpAny_pyIter_rangeiter st h
end L2
namespace L2
open PySem PySem.Spec PyProof.Rows
section
variable{X:Cx}{tg:Expr}
theorem qw{pins:List (Addr×Obj)}{σ:St}{H:Hp}{s:Shared}{R:It→Hp→Prop}{E:Value→Shared→Prop}{lo hi:Int}{t u v:Tok}{tk:Nat}(I:Inv X pins σ H s)(h1:-(2 ^ 62)≤ lo)(h2:lo < 2 ^ 62)(h3:-(2 ^ 62)≤ hi)(h4:hi < 2 ^ 62)
  (q:R (Itr lo (hi - lo).toNat) H):wpAny (model X.prog X.w) X.A (pyIter (.ref s.heap.objs.size)) (PIE X pins σ tg R) E { s with heap:=s.heap.push { cls:=.type "range", data:=.fields #[.int lo t,.int hi u,.int 1 v] },toks:=tk }:=by
 refine wpAny_pyIter_range (IsRange.new ..) (small_one h1 h2 h3 h4) ?_
 have I1:Inv X pins σ H { s with heap:=s.heap.push { cls:=.type "range", data:=.fields #[.int lo t,.int hi u,.int 1 v] },toks:=tk }:=I.kept fun b o e=>Heap.get?_push_of_some _ e
 refine ⟨(s.heap.push { cls:=.type "range", data:=.fields #[.int lo t,.int hi u,.int 1 v] }).objs.size,[(s.heap.push { cls:=.type "range", data:=.fields #[.int lo t,.int hi u,.int 1 v] }).objs.size],_,_,H,rfl,
  I1.kept (t':=tk) fun b o e=>Heap.get?_push_of_some _ e,mf _ lo (hi - lo).toNat,?_,fun b hb=>?_,q⟩
 ·have e1:lo+((0:Nat):Int) * 1=lo:=by simp
  have e2:(((hi - lo).toNat:Nat):Int) - ((0:Nat):Int)=Builtin.Range.rangeSize lo hi 1:=by rw[rangeSize_one];split<;>omega
  show IsRangeIter _ _ (lo+((0:Nat):Int) * 1) ((((hi - lo).toNat:Nat):Int) - ((0:Nat):Int)) 1
  rw[e1,e2]
  exact Heap.get?_push_size _ rfl
 ·have e:b=(s.heap.push { cls:=.type "range", data:=.fields #[.int lo t,.int hi u,.int 1 v] }).objs.size:=by simpa using hb
  subst e
  exact I1.fpOk (Nat.le_refl _) (I1.hok.fresh (Nat.le_refl _))
def AJ(ta:TA):TI:=fun σ H R=>ta σ H fun vs H1=>∃j:Int,vs=[.int j]∧-(2 ^ 62)≤ j∧j < 2 ^ 62∧R (Itr 0 j.toNat) H1
theorem jJ{a:Expr}{ta:TA}{p pos:Pos}(hg:Gl X "range")(hm:X.mg "range" = none)(ha:PA X [a] ta)(hs:starEach [a] X.env=[(false,eval a X.env)]:=by rfl):PI X tg (.Call (.Name "range" p) [a] [] pos) (AJ ta):=by
 intro pins s σ H R I h
 refine Call_ (fE I hg hm boot_range (PyProof.Rows.callWith_type1 (thn (ha pos pins s σ H _ I h) fun us s1 ⟨vs,H1,I1,r1,q1⟩=>?_) hs rfl))
 obtain⟨j,e,q1,q2,q⟩:=q1
 subst e
 cases r1 with
 | cons r rr =>
  cases rr
  obtain⟨t,rfl⟩:=r
  exact call_range_1 (qw I1 (by omega) (by omega) q1 q2 (by simpa using q))
def BQ(wi:TI)(g:TG)(tb:TS):TS:=fun D σ H=>wi σ H fun J H1=>∃W:Nat→Nat→St→Hp→Prop,(∃m,W 0 m σ H1)∧∀i m σ H,W i m σ H →
 (J.stop i H∧D.nx σ H)∨(J.go i H∧∃N:St→Hp→Prop,(∀σ' H',N σ' H'→∃m',m' < m∧W (i+1) m' σ' H')∧∀x H',J.yld i H x H'→g x σ H' fun σ2 H2=>tb { D with nx:=N,ct:=N,bk:=D.nx } σ2 H2)
def iP(fp:List Addr)(h:Heap):List (Addr×Obj):=fp.filterMap fun b=>(h.get? b).map fun o=>(b,o)
theorem d7{fp:List Addr}{h:Heap}{b:Addr}{o:Obj}(hb:b∈fp)(e:h.get? b=some o):(b,o)∈ iP fp h:=List.mem_filterMap.mpr ⟨b,hb,by rw[e];rfl⟩
theorem pz{fp:List Addr}{h:Heap}{p:Addr×Obj}(hp:p∈iP fp h):p.1∈fp∧h.get? p.1=some p.2:=by
 obtain⟨b,hb,e⟩:=List.mem_filterMap.mp hp
 cases q:h.get? b with
 | none=>rw[q]at e;cases e
 | some o =>
  rw[q]at e
  have e':(b,o)=p:=Option.some.inj e
  subst e'
  exact⟨hb,q⟩
theorem Inv.pinned{pins:List (Addr×Obj)}{σ:St}{H:Hp}{s:Shared}{fp:List Addr}(I:Inv X pins σ H s)(hf:∀b∈fp,jz X pins H b)(ho:∀b∈fp,∃o,s.heap.get? b=some o∧∀v,o.data≠.cell v):Inv X (pins++iP fp s.heap) σ H s :=
 I.pins_of fun p hp=>(List.mem_append.mp hp).elim (fun z=>I.pin p (List.mem_append_right _ z)) fun z=>by
  obtain⟨hb,e⟩:=pz z
  obtain⟨f0,f1,f2,_⟩:=hf p.1 hb
  obtain⟨o,e',d⟩:=ho p.1 hb
  rw[e]at e';cases e'
  exact⟨e,f0,f1,f2,d⟩
theorem Inv.unpinned{pins pl:List (Addr×Obj)}{σ:St}{H:Hp}{s:Shared}(I:Inv X (pins++pl) σ H s):Inv X pins σ H s:=I.pins_of fun p hp=>I.pin p (List.mem_append_right _ (List.mem_append_left _ hp))
theorem wT{iter:Expr}{body:List Stmt}{wi:TI}{g:TG}{tb:TS}{pos:Pos}(hp:PassesOwn (model X.prog X.w) X.A X.env X.xe)(hc:X.calm=true)(hi:PI X tg iter wi)(hg:PG X tg g)(hb:PSs X body tb)
  (hs:∀x,foldedSetIterable iter X.env x=pure x:=by intro _;rfl):PS X (.For tg iter body [] pos) (BQ wi g tb):=by
 intro pins s σ H D I h
 refine wpAny_For (thn (hi pins s σ H _ I h) fun v s1 h1=>thn h1 fun itv s2 h2=>?_) hs
 obtain⟨it,fp,tn,J,H2,e,I2,T,st2,f2,W,⟨m0,w0⟩,turn⟩:=h2
 subst e
 have stat:∀{H':Hp},(∀b∈fp,H' b=none)→∀b∈fp,jz X pins H' b:=fun hn b hb=>⟨hn b hb,(f2 b hb).2⟩
 refine codeAny_forLoop_any (fun n s'=>∃i σ' H',Inv X pins σ' H' s'∧tn i s'.heap∧(∀b∈fp,H' b=none)∧W i n σ' H') ?_ m0 ⟨0,σ,H2,I2,st2,fun b hb=>(f2 b hb).1,w0⟩
 rintro n s3 ⟨i,σ3,H3,I3,st3,fr3,w3⟩
 rcases turn i n σ3 H3 w3 with⟨stop,qn⟩ |⟨go,N,hN,step⟩
 ·refine wpAny_passesOwn hp (thn (T.done X rfl rfl rfl hc i pins s3 σ3 H3 X.xe I3 (stat fr3) st3 stop) fun r s4 ⟨hr,I4⟩=>?_)
  subst hr
  exact wpAny_execs_nil ⟨σ3,H3,I4,qn⟩
 ·refine wpAny_passesOwn hp (thn (T.item X rfl rfl rfl hc i pins s3 σ3 H3 X.xe I3 (stat fr3) st3 go) fun r s4 ⟨u,hr,h4⟩=>?_)
  subst hr
  refine wpAny_passesOwn hp (thn h4 fun _ s5 ⟨x,H5,I5,r5,y5,st5,fr5⟩=>?_)
  have I5':=I5.pinned (stat fr5) (T.obj _ _ st5)
  refine wpAny_passesOwn hp (thn (hg _ s5 σ3 H5 x u _ I5' r5 (step x H5 y5)) fun _ s6 ⟨σ6,H6,I6,q6⟩=>?_)
  refine wpAny_passesOwn hp (thn (hb _ s6 σ6 H6 _ I6 q6) fun f s7 q7=>?_)
  have again:∀{σ7:St}{H7:Hp},Inv X (pins++iP fp s5.heap) σ7 H7 s7→N σ7 H7→∃m,m < n∧∃i σ' H',Inv X pins σ' H' s7∧tn i s7.heap∧(∀b∈fp,H' b=none)∧W i m σ' H':=fun {σ7 H7} I7 n7=>by
   obtain⟨m',hm,w7⟩:=hN σ7 H7 n7
   refine⟨m',hm,i+1,σ7,H7,I7.unpinned,T.keep _ _ _ st5 fun b hb o e=>(I7.pin (b,o) (List.mem_append_right _ (List.mem_append_right _ (d7 hb e)))).1,fun b hb=>?_,w7⟩
   obtain⟨o,e,d⟩:=T.obj _ _ st5 b hb
   exact(I7.pin (b,o) (List.mem_append_right _ (List.mem_append_right _ (d7 hb e)))).2.1
  cases f with
  | next=>obtain⟨σ7,H7,I7,n7⟩:=q7;exact again I7 n7
  | cont=>obtain⟨σ7,H7,I7,n7⟩:=q7;exact again I7 n7
  | brk=>obtain⟨σ7,H7,I7,q7⟩:=q7;exact⟨σ7,H7,I7.unpinned,q7⟩
  | ret v=>obtain⟨x7,σ7,H7,I7,r7,q7⟩:=q7;exact⟨x7,σ7,H7,I7.unpinned,r7,q7⟩
end
end L2
namespace L2
open PySem PySem.Spec PyProof.Rows
abbrev R2:=V→V→Hp→VK→Prop
def OpR(X:Cx)(f:Value→Value→Sem Value)(r:R2):Prop :=
 ∀(pins:List (Addr×Obj)) (s:Shared) (σ:St) (H:Hp) (x y:V) (v u:Value) (Q:VK),Inv X pins σ H s→aY x v→aY y u→r x y H Q →
  wpAny (model X.prog X.w) X.A (f v u) (EP X pins σ Q) X.xe s
def cP(X:Cx)(f:Value)(r:List V→Hp→VK→Prop):Prop :=
 ∀(pins:List (Addr×Obj)) (s:Shared) (σ:St) (H:Hp) (xs:List V) (us:List Value) (Q:VK),Inv X pins σ H s→aC xs us→r xs H Q →
  wpAny (model X.prog X.w) X.A (call f us) (EP X pins σ Q) X.xe s
def Cw(X:Cx)(r:V→Hp→(Bool→Hp→Prop)→Prop):Prop :=
 ∀(pins:List (Addr×Obj)) (s:Shared) (σ:St) (H:Hp) (x:V) (v:Value) (Q:Bool→Hp→Prop),Inv X pins σ H s→aY x v→r x H Q →
  wpAny (model X.prog X.w) X.A (truthy v) (TP X pins σ Q) X.xe s
def tOp(r:R2)(ta tb:TE):TE:=fun σ H Q=>ta σ H fun x H1=>tb σ H1 fun y H2=>r x y H2 Q
def tUn(r:V→Hp→VK→Prop)(ta:TE):TE:=fun σ H Q=>ta σ H fun x H1=>r x H1 Q
def rI(C:Int→Int→Prop)(g:Int→Int→V):R2:=fun x y H Q=>∃i j,x=.int i∧y=.int j∧C i j∧Q (g i j) H
def rI0(g:Int→Int→V):R2:=fun x y H Q=>∃i j,x=.int i∧y=.int j∧Q (g i j) H
section
variable{X:Cx}{a b c:Expr}{ta tb tc:TE}{pos:Pos}
theorem yI(ha:PE X a ta)(hb:PE X b tb){pins:List (Addr×Obj)}{s:Shared}{σ:St}{H:Hp}{R:V→V→Hp→Prop}(I:Inv X pins σ H s)
  (h:ta σ H fun x H1=>tb σ H1 fun y H2=>R x y H2) {Q:Value→Shared→Prop}{f:Value→Value→Sem Value}
  (hf:∀v u s2 x y H2,Inv X pins σ H2 s2→aY x v→aY y u→R x y H2→wpAny (model X.prog X.w) X.A (f v u) Q X.xe s2) :
  wpAny (model X.prog X.w) X.A (eval a X.env) (fun v s₁=>wpAny (model X.prog X.w) X.A (eval b X.env) (fun u s₂=>wpAny (model X.prog X.w) X.A (f v u) Q X.xe s₂) X.xe s₁) X.xe s:=by
 refine thn (ha pins s σ H _ I h) fun v s1 ⟨x,H1,I1,r1,q1⟩=>?_
 refine thn (hb pins s1 σ H1 _ I1 q1) fun u s2 ⟨y,H2,I2,r2,q2⟩=>?_
 exact hf v u s2 x y H2 I2 r1 r2 q2
theorem zO{op:Operator}{r:R2}(ho:OpR X (binaryOp op) r)(ha:PE X a ta)(hb:PE X b tb):PE X (.BinOp a op b pos) (tOp r ta tb):=by
 intro pins s σ H Q I h
 exact wpAny_BinOp (yI ha hb I h fun v u s2 x y H2 I2 rx ry q=>ho pins s2 σ H2 x y v u Q I2 rx ry q)
theorem opI{f:Value→Value→Sem Value}{C:Int→Int→Prop}{g:Int→Int→Int}
  (rule:∀(i j:Int) (t u:Tok) (s:Shared) (Q:Value→Shared→Prop) (E:Value→Shared→Prop),C i j→Q (.int (g i j) s.toks) { s with toks:=s.toks+1 }→wpAny (model X.prog X.w) X.A (f (.int i t) (.int j u)) Q E s) :
  OpR X f (rI C fun i j=>.int (g i j)):=by
 intro pins s σ H x y v u Q I rx ry h
 obtain⟨i,j,rfl,rfl,hc,q⟩:=h
 obtain⟨t,rfl⟩:=rx
 obtain⟨t',rfl⟩:=ry
 exact rule i j t t' s _ _ hc ⟨.int (g i j),H,I.tok _,⟨_,rfl⟩,q⟩
theorem z0{f:Value→Value→Sem Value}{g:Int→Int→Int}
  (rule:∀(i j:Int) (t u:Tok) (s:Shared) (Q:Value→Shared→Prop) (E:Value→Shared→Prop),Q (.int (g i j) s.toks) { s with toks:=s.toks+1 }→wpAny (model X.prog X.w) X.A (f (.int i t) (.int j u)) Q E s) :
  OpR X f (rI0 fun i j=>.int (g i j)):=by
 intro pins s σ H x y v u Q I rx ry h
 obtain⟨i,j,rfl,rfl,q⟩:=h
 obtain⟨t,rfl⟩:=rx
 obtain⟨t',rfl⟩:=ry
 exact rule i j t t' s _ _ ⟨.int (g i j),H,I.tok _,⟨_,rfl⟩,q⟩
theorem xu{f:Value→Value→Sem Value}{g:Int→Int→Bool}
  (rule:∀(i j:Int) (t u:Tok) (s:Shared) (Q:Value→Shared→Prop) (E:Value→Shared→Prop),Q (.bool (g i j)) s→wpAny (model X.prog X.w) X.A (f (.int i t) (.int j u)) Q E s) :
  OpR X f (rI0 fun i j=>.bl (g i j)):=by
 intro pins s σ H x y v u Q I rx ry h
 obtain⟨i,j,rfl,rfl,q⟩:=h
 obtain⟨t,rfl⟩:=rx
 obtain⟨t',rfl⟩:=ry
 exact rule i j t t' s _ _ ⟨.bl (g i j),H,I,rfl,q⟩
def CF(i j:Int):Prop:=0 < j∧j < 1073741824
def CD(i j:Int):Prop:=0≤j∧j≤1000000∧i.natAbs < 2 ^ 64
def y3(i j:Int):Prop:=(-(2 ^ 64) < i∧i < 2 ^ 64)∨(-(2 ^ 64) < j∧j < 2 ^ 64)
theorem y3.ok{i j:Int}(h:y3 i j):IntMulOk i j:=by
 rcases h with⟨h1,h2⟩ |⟨h1,h2⟩
 ·exact .of_left (intBits_le_64 h1 h2)
 ·exact .of_right (intBits_le_64 h1 h2)
theorem xt:OpR X (binaryOp .Add) (rI0 fun i j=>.int (i+j)):=z0 fun _ _ _ _ _ _ _ q=>add_int q
theorem xk:OpR X (binaryOp .Sub) (rI0 fun i j=>.int (i - j)):=z0 fun _ _ _ _ _ _ _ q=>sub_int q
theorem xo:OpR X (binaryOp .Mult) (rI y3 fun i j=>.int (i * j)):=opI fun _ _ _ _ _ _ _ hc q=>mul_int q hc.ok
theorem uw:OpR X (binaryOp .FloorDiv) (rI CF fun i j=>.int (i / j)):=opI fun i j _ _ _ _ _ hc q=>by
 have h1:(0:Int) < j:=hc.1
 have h2:j < 1073741824:=hc.2
 exact floordiv_int (by omega) (by rw[Int.fdiv_eq_ediv_of_nonneg i (by omega)];exact q) (.inl (PyProof.noPylong_small (by omega)))
theorem xp:OpR X (binaryOp .Mod) (rI (fun _ j=>0 < j) fun i j=>.int (i % j)):=opI fun i j _ _ _ _ _ hc q=>by
 have h1:(0:Int) < j:=hc
 exact mod_int' (by omega) (by rw[Int.fmod_eq_emod_of_nonneg i (by omega)];exact q)
theorem xl:OpR X (binaryOp .Pow) (rI CD fun i j=>.int (i ^ j.toNat)):=opI fun _ _ _ _ _ _ _ hc q=>pow_int_small hc.1 hc.2.1 hc.2.2 q
end
def scal:V→V→Bool
 | .non,.non=>true | .non,.int _=>true | .int _,.non=>true | .non,.bl _=>true | .bl _,.non=>true | .non,.str _=>true | .str _,.non=>true
 | .int _,.int _=>true | .bl _,.bl _=>true | .str _,.str _=>true | .byt _,.byt _=>true
 | .int _,.str _=>true | .str _,.int _=>true | .bl _,.str _=>true | .str _,.bl _=>true
 | _,_=>false
section
variable{X:Cx}{a b c:Expr}{ta tb tc:TE}{pos:Pos}
theorem rU{pins:List (Addr×Obj)}{σ:St}{H:Hp}{s:Shared}{Q:VK}{k k':Bool}(I:Inv X pins σ H s)(q:Q (.bl k) H)(e:k=k'):EP X pins σ Q (.bool k') s:=by
 subst e
 exact⟨.bl k,H,I,rfl,q⟩
theorem zX:OpR X (compareOp .Lt) (rI0 fun i j=>.bl (decide (i < j))):=xu fun _ _ _ _ _ _ _ q=>lt_int q
theorem zY:OpR X (compareOp .Gt) (rI0 fun i j=>.bl (decide (j < i))):=xu fun _ _ _ _ _ _ _ q=>gt_int q
theorem zZ:OpR X (compareOp .GtE) (rI0 fun i j=>.bl (decide (j≤i))):=xu fun _ _ _ _ _ _ _ q=>ge_int q
theorem xq:OpR X (compareOp .Is) (fun x y H Q=>y=.non∧Q (.bl (decide (x=.non))) H):=by
 intro pins s σ H x y v u Q I rx ry h
 obtain⟨rfl,q⟩:=h
 cases ry
 refine is_none_gen (rU I q ?_)
 cases x<;>first
  |(cases rx;rfl)
  |(obtain⟨t,rfl⟩:=rx;rfl)
theorem uv:OpR X (compareOp .IsNot) (fun x y H Q=>y=.non∧Q (.bl (!decide (x=.non))) H):=by
 intro pins s σ H x y v u Q I rx ry h
 obtain⟨rfl,q⟩:=h
 cases ry
 refine isnot_none_gen (rU I q ?_)
 cases x<;>first
  |(cases rx;rfl)
  |(obtain⟨t,rfl⟩:=rx;rfl)
theorem OpR.or{f:Value→Value→Sem Value}{r r':R2}(h:OpR X f r)(h':OpR X f r'):OpR X f (fun x y H Q=>r x y H Q∨r' x y H Q):=by
 intro pins s σ H x y v u Q I rx ry q
 rcases q with q | q
 ·exact h pins s σ H x y v u Q I rx ry q
 ·exact h' pins s σ H x y v u Q I rx ry q
theorem d6(b:Expr){op:CmpOp}(h:op≠.In:=by decide)(h2:op≠.NotIn:=by decide):behindInMarks op b=false:=by
 have e1:(op==CmpOp.In)=false:=by cases op<;>first | rfl | exact absurd rfl h
 have e2:(op==CmpOp.NotIn)=false:=by cases op<;>first | rfl | exact absurd rfl h2
 cases b<;>simp[behindInMarks,e1,e2]
theorem ur{op:CmpOp}{r:R2}(ho:OpR X (compareOp op) r)(ha:PE X a ta)(hb:PE X b tb)(hm:behindInMarks op b=false):PE X (.Compare a [op] [b] pos) (tOp r ta tb):=by
 intro pins s σ H Q I h
 exact wpAny_Compare1 (yI ha hb I h fun v u s2 x y H2 I2 rx ry q=>ho pins s2 σ H2 x y v u Q I2 rx ry q) hm
def zy(t:TE):TT:=fun σ H Q=>t σ H fun x H'=>∃k,x=.bl k∧Q k H'
theorem n0{op:CmpOp}{r:R2}(ho:OpR X (compareOp op) r)(ha:PE X a ta)(hb:PE X b tb)(hm:behindInMarks op b=false):PT X (.Compare a [op] [b] pos) (zy (tOp r ta tb)):=by
 intro pins s σ H Q I h
 refine wpAny_isTrue_Compare1 (thn (ha pins s σ H _ I h) fun v s1 ⟨x,H1,I1,r1,q1⟩=>thn (hb pins s1 σ H1 _ I1 q1) fun u s2 ⟨y,H2,I2,r2,q2⟩ =>
  thn (ho pins s2 σ H2 x y v u _ I2 r1 r2 q2) fun c s3 ⟨z,H3,I3,r3,k,e,q3⟩=>?_) hm
 subst e
 cases r3
 exact wpAny_truthy_bool ⟨H3,I3,q3⟩
def A4(K:PySem.W.Frag)(x:V)(H:Hp)(k:Bool):Prop :=
 match x with
 | .non=>k=false
 | .bl b=>k=b
 | .int i=>k=(i != 0)
 | .str y=>y.length≤sizeLine∧k=((y.length:Int) != 0)
 | .byt y=>y.size≤sizeLine∧k=((y.size:Int) != 0)
 | .ref p=>(∃xs,SqL K H p xs∧k=!xs.isEmpty)∨(∃xs,SqT K H p xs∧k=!xs.isEmpty)∨ ∃kvs,H p=some (.dK kvs)∧k=!kvs.isEmpty
 | _=>False
theorem mZ{κ:Type}{kvs:List (κ×V)}{vs:List (κ×Value)}(r:KV kvs vs):(!vs.isEmpty)=!kvs.isEmpty:=by
 cases r<;>rfl
theorem i3{xs:List V}{its:List Value}(r:aC xs its):(!its.toArray.isEmpty)=!xs.isEmpty:=by
 cases r<;>simp
theorem gM:(sizeLine:Nat) < 2 ^ 63:=by rw[sizeLine_eq];decide
theorem v_:Cw X (fun x H Q=>∃k,A4 X.K x H k∧Q k H):=by
 intro pins s σ H x v Q I rx h
 obtain⟨k,e,q⟩:=h
 have hl:=gM
 have hs:sizeLine=16777216:=sizeLine_eq
 cases x with
 | non =>
  cases rx
  have e':k=false:=e
  subst e'
  exact truthy_none ⟨H,I,q⟩
 | bl b =>
  cases rx
  have e':k=b:=e
  subst e'
  exact wpAny_truthy_bool ⟨H,I,q⟩
 | int i =>
  obtain⟨t,rfl⟩:=rx
  have e':k=(i != 0):=e
  subst e'
  exact PySem.P.truthy_int ⟨H,I,q⟩
 | str y =>
  obtain⟨t,rfl⟩:=rx
  obtain⟨hy,e'⟩:y.length≤sizeLine∧k=((y.length:Int) != 0):=e
  subst e'
  exact PySem.P.truthy_str (by omega) ⟨H,I.tok _,q⟩
 | byt y =>
  obtain⟨t,rfl⟩:=rx
  obtain⟨hy,e'⟩:y.size≤sizeLine∧k=((y.size:Int) != 0):=e
  subst e'
  exact PySem.W.truthy_bytes (by omega) ⟨H,I.tok _,q⟩
 | ref p =>
  cases rx
  have e':(∃xs,SqL X.K H p xs∧k=!xs.isEmpty)∨(∃xs,SqT X.K H p xs∧k=!xs.isEmpty)∨ ∃kvs,H p=some (.dK kvs)∧k=!kvs.isEmpty:=e
  rcases e' with⟨xs,hx,e'⟩ |⟨xs,hx,e'⟩ |⟨kvs,hx,e'⟩
  ·subst e'
   obtain⟨its,r,pl,hz⟩:=I.list hx
   have hlen:=r.length
   exact wpAny_truthy_list pl.isList (by simp only[List.size_toArray];omega) ⟨H,I.tok _,by rw[i3 r];exact q⟩
  ·subst e'
   obtain⟨its,r,pl,hz⟩:=I.tuple hx
   have hlen:=r.length
   exact truthy_tuple pl (by simp only[List.size_toArray];omega) ⟨H,I.tok _,by rw[i3 r];exact q⟩
  ·subst e'
   obtain⟨hz,hS,vs,r,m⟩:kvs.length≤sizeLine∧(p==sysModules)=false∧∃vs,KV kvs vs∧s.heap.DictOf (km X.prog X.w) p vs:=I.hok p _ hx
   have hlen:kvs.length=vs.length:=Paired.length r
   exact wpAny_truthy_dict hS m (by omega) ⟨H,I.tok _,by rw[mZ r];exact q⟩
 | _=>exact(show False from e).elim
theorem qA(ha:PE X a ta)(he:∀whole,isTrue a X.env whole=(do let v ← whole;standAt a.pos;holding [v] (truthy v))) :
  PT X a (fun σ H Q=>ta σ H fun x H'=>∃k,A4 X.K x H' k∧Q k H'):=by
 intro pins s σ H Q I h
 exact isTrue_plain (thn (ha pins s σ H _ I h) fun v s1 ⟨x,H1,I1,r1,q1⟩=>v_ pins s1 σ H1 x v Q I1 r1 q1) (he _)
theorem eE{x:V}{us:List Value}(r:aC [x] us):∃u,us=[u]∧aY x u:=by
 cases r with
 | cons r1 r2=>cases r2;exact⟨_,rfl,r1⟩
theorem vB{x y:V}{us:List Value}(r:aC [x,y] us):∃u w',us=[u,w']∧aY x u∧aY y w':=by
 cases r with
 | cons r1 r2 =>
  cases r2 with
  | cons r3 r4=>cases r4;exact⟨_,_,rfl,r1,r3⟩
theorem pV(hc:X.calm=true):cP X (.builtin "max") (fun xs H Q=>∃i j,xs=[.int i,.int j]∧Q (.int (if j > i then j else i)) H):=by
 intro pins s σ H xs us Q I r h
 obtain⟨i,j,rfl,q⟩:=h
 obtain⟨u,w',rfl,⟨t,rfl⟩,⟨t',rfl⟩⟩:=vB r
 refine max_two_ints (I.ok.hd hc) fun h' tk k=>⟨_,H,I.kept k,?_,q⟩
 by_cases hj:j > i
 ·rw[if_pos hj,if_pos hj];exact⟨_,rfl⟩
 ·rw[if_neg hj,if_neg hj];exact⟨_,rfl⟩
theorem pU(hc:X.calm=true):cP X (.builtin "min") (fun xs H Q=>∃i j,xs=[.int i,.int j]∧Q (.int (if j < i then j else i)) H):=by
 intro pins s σ H xs us Q I r h
 obtain⟨i,j,rfl,q⟩:=h
 obtain⟨u,w',rfl,⟨t,rfl⟩,⟨t',rfl⟩⟩:=vB r
 refine min_two_ints (I.ok.hd hc) fun h' tk k=>⟨_,H,I.kept k,?_,q⟩
 by_cases hj:j < i
 ·rw[if_pos hj,if_pos hj];exact⟨_,rfl⟩
 ·rw[if_neg hj,if_neg hj];exact⟨_,rfl⟩
end
end L2
namespace L2
open PySem PySem.Spec PyProof.Rows
structure nE(h:Heap)(x dx C:Addr)(mA:Str→Option Value):Prop where
 obj:h.get? x=some (PySem.W.instObj C dx)
 ns:h.Ns1 dx mA
 ne:dx≠x
theorem pE{h:Heap}{dx:Addr}{mA:Str→Option Value}(n:h.Ns1 dx mA):∃od,h.get? dx=some od∧∀name,PySem.W.lookIn name od=some (mA name):=by
 obtain⟨o,es,ep,ho,hd,hk,_,hm⟩:=n
 refine⟨o,ho,fun name=>?_⟩
 have e:=hm name
 unfold nsFind findBy at e
 rw[← Array.find?_toList]at e
 unfold PySem.W.lookIn
 rw[hd]
 dsimp only
 split
 ·rename_i y q
  rw[q]at e
  exact congrArg some e
 ·rename_i q
  rw[q]at e
  have a:es.toList.any (·.refKey)=false:=by
   rw[List.any_eq_false]
   intro y hy
   obtain⟨z,t,hkey⟩:=hk y (Array.mem_toList_iff.mp hy)
   simp[DictEntry.refKey,hkey]
  have a':¬es.toList.any (·.refKey)=true:=by rw[a];exact Bool.false_ne_true
  rw[if_neg a']
  exact congrArg some e
theorem nE.look{h:Heap}{x dx C:Addr}{mA:Str→Option Value}(I:nE h x dx C mA):∃od,PySem.W.InstAt h x (PySem.W.instObj C dx) C (some od)∧∀name,PySem.W.lookIn name od=some (mA name) :=
 let⟨od,ho,hl⟩:=pE I.ns
 ⟨od,⟨I.obj,rfl,rfl,ho⟩,hl⟩
section
variable{prog:Program}{w:World}{A:Around}{E:Value→Shared→Prop}{s:Shared}{K:PySem.W.Frag}{x dx C f:Addr}{mA:Str→Option Value}{name:Str}{v:Value}
theorem uX{expr:Bool}{Q:Value→Shared→Prop}(X:K.In s.heap)(I:nE s.heap x dx C mA)(hg:PySem.W.plainGet K C name=true)(hh:PySem.W.hasDictIn K C=true)
  (ha:PySem.W.findIn K (.ref C) name=some none) (hv:mA name=some v) (hv':PySem.W.handedIn v=true) (h:Q v { s with toks:=s.toks+1 }) :
  wpAny (model prog w) A (getAttr (.ref x) name expr) Q E s:=by
 obtain⟨od,J,hl⟩:=I.look
 exact PySem.W.get_value X J (PySem.W.plainGet_of hg).1 (PySem.W.findObj_own hh ha rfl (by rw[hl,hv])) hv' h
theorem rT{pl:Sem Bool}{Q:Value×List Value→Shared→Prop}(X:K.In s.heap)(I:nE s.heap x dx C mA)(hg:PySem.W.plainGet K C name=true)
  (hf:PySem.W.findIn K (.ref C) name=some (some (.ref f))) (ht:PySem.W.isFn K (.ref f)=true) (hv:mA name=none) (h:Q (.ref f,[.ref x]) s) :
  wpAny (model prog w) A (getMethod (.ref x) name pl) Q E s:=by
 obtain⟨od,J,hl⟩:=I.look
 exact PySem.W.method_fn X J (PySem.W.plainGet_of hg).1 (PySem.W.plainGet_of hg).2 hf (beq_iff_eq.mp ht) (by show(PySem.W.lookIn name od).map (·.isSome)=some false;rw[hl,hv];rfl) h
theorem tU{ns:List Str}{Q:Unit→Shared→Prop}(X:K.In s.heap)(I:nE s.heap x dx C mA)
  (hs:PySem.W.findIn K (.ref C) "__setattr__" = some (some (.builtin "object.__setattr__"))) (hp:PySem.W.plainOver K C=true) (ht:PySem.W.takerIn K C name=some none) (hh:PySem.W.hasDictIn K C=true)
  (hw:PySem.Within mA ns) (hsz:ns.length≤sizeLine)
  (h:∀h',nE h' x dx C (fun y=>if y=name then some v else mA y)→Heap.SameBut dx s.heap h'→Q () { s with heap:=h',toks:=s.toks+2 }) :
  wpAny (model prog w) A (setAttr (.ref x) name v) Q E s:=by
 obtain⟨od,J,hl⟩:=I.look
 refine PySem.W.set_plain X J hs (PySem.W.osa_open (s:={ s with toks:=s.toks+1 }) (r:=none) X J hp ht fun b=>?_)
 obtain⟨cd,hc,hd'⟩:=PySem.W.any_some hh
 have hx:s.heap.get? x=some ⟨.ref C,some dx,.plain,#[]⟩:=I.obj
 refine wpAny_bind (wpAny_pure (wpAny_bind (wpAny_bind (wpAny_loadPart hx (wpAny_bind (PySem.W.Looks.here (s:={ s with toks:=s.toks+1 }) (PySem.W.looks_clsIn X hc) ?_))))))
 rw[hd']
 refine wpAny_pure (a:=some dx) (wpAny_bind (wpAny_pure (wpAny_bind ?_)))
 refine wpAny_nsSet1 (s:={ s with toks:=s.toks+1 }) I.ns fun h' hn2 hs2=>?_
 obtain⟨oD,esD,epD,hoD,hdD,hcD⟩:=hn2.count (PySem.Within.cons name v hw)
 refine wpAny_bind (wpAny_lookBehind hoD (by rw[hdD];exact pastItsLine_dict (Nat.le_trans hcD (by rw[List.length_cons];omega))) ?_)
 exact wpAny_pure (h _ ⟨(hs2.2 _ (Ne.symm I.ne)).trans I.obj,hn2,I.ne⟩ hs2)
theorem rn{R:Result→Shared→Prop}{vs:List Value}{kw:List (Str×Value)}(X:K.In s.heap)(hm:PySem.W.makesIn K C=true)
  (hi:PySem.W.findIn K (.ref C) "__init__" = some (some (.ref f))) (hf:PySem.W.typeIn K (.ref f)=some (.type "function"))
  (h:codeAny (model prog w) (A.under (.builtin "type.__call__" ⟨.ref C::vs,kw⟩)) (.call (.ref f) ⟨.ref (s.heap.objs.size+1)::vs,kw⟩) (PySem.W.InitBack (s.heap.objs.size+1) R)
   { s with heap:=(s.heap.push PySem.W.emptyDict).push (PySem.W.instObj C s.heap.objs.size) }) :
  codeAny (model prog w) A (.call (.ref C) ⟨vs,kw⟩) R s:=by
 obtain⟨hh,g,d,t,os⟩:=s
 exact PySem.W.make_core (PySem.W.makes_of X hm) (PySem.W.looks_findIn X hi) (fun self=>PySem.W.bind_fn X self hf) (.inl rfl) h
end
def d3(f:Str)(v:V):List (Str×V)→List (Str×V)
 | []=>[(f,v)]
 |(g,x)::r=>if g=f then(g,v)::r else(g,x)::d3 f v r
theorem g8(f g:Str)(v:V):∀fs:List (Str×V),(d3 f v fs).lookup g=if g=f then some v else fs.lookup g
 | []=>by
  show List.lookup g [(f,v)]=_
  by_cases h:g=f
  ·have hb:(g==f)=true:=beq_iff_eq.mpr h
   simp only[List.lookup,hb,if_pos h]
  ·have hb:(g==f)=false:=beq_eq_false_iff_ne.mpr h
   simp only[List.lookup,hb,if_neg h]
 |(k,x)::r=>by
  have ih:=g8 f g v r
  rw[show d3 f v ((k,x)::r)=(if k=f then(k,v)::r else(k,x)::d3 f v r)from rfl]
  by_cases hk:k=f
  ·rw[if_pos hk]
   by_cases h:g=k
   ·have hb:(g==k)=true:=beq_iff_eq.mpr h
    simp only[List.lookup,hb,if_pos (h.trans hk)]
   ·have hb:(g==k)=false:=beq_eq_false_iff_ne.mpr h
    simp only[List.lookup,hb,if_neg (fun e:g=f=>h (e.trans hk.symm))]
  ·rw[if_neg hk]
   by_cases h:g=k
   ·have hb:(g==k)=true:=beq_iff_eq.mpr h
    simp only[List.lookup,hb,if_neg (fun e:g=f=>hk (h.symm.trans e))]
   ·have hb:(g==k)=false:=beq_eq_false_iff_ne.mpr h
    simp only[List.lookup,hb]
    exact ih
theorem gN(f:Str)(v:V):∀fs:List (Str×V),f ∈(d3 f v fs).map (·.1)∧∀g,g∈fs.map (·.1)→g ∈(d3 f v fs).map (·.1)
 | []=>⟨by simp[d3],fun g h=>by simp at h⟩
 |(k,x)::r=>by
  obtain⟨i1,i2⟩:=gN f v r
  rw[show d3 f v ((k,x)::r)=(if k=f then(k,v)::r else(k,x)::d3 f v r)from rfl]
  by_cases hk:k=f
  ·rw[if_pos hk]
   subst hk
   exact⟨by simp,fun g h=>by simpa using h⟩
  ·rw[if_neg hk]
   refine⟨?_,fun g h=>?_⟩
   ·rw[List.map_cons]
    exact List.mem_cons_of_mem _ i1
   ·rw[List.map_cons]at h ⊢
    rcases List.mem_cons.mp h with e | e
    ·exact List.mem_cons.mpr (.inl e)
    ·exact List.mem_cons_of_mem _ (i2 g e)
theorem hG(f:Str)(v:V):∀fs:List (Str×V),(d3 f v fs).length≤fs.length+1
 | []=>by simp[d3]
 |(k,x)::r=>by
  have ih:=hG f v r
  rw[show d3 f v ((k,x)::r)=(if k=f then(k,v)::r else(k,x)::d3 f v r)from rfl]
  by_cases hk:k=f
  ·rw[if_pos hk,List.length_cons,List.length_cons];omega
  ·rw[if_neg hk,List.length_cons,List.length_cons];omega
theorem jy.some_of{v:V}{o:Option Value}(r:jy (some v) o):∃u,o=some u∧aY v u:=by
 cases o with
 | none=>exact(show False from r).elim
 | some u=>exact⟨u,rfl,r⟩
theorem jy.none_of{o:Option Value}(r:jy none o):o=none:=by
 cases o with
 | none=>rfl
 | some u=>exact(show False from r).elim
theorem pM{v:V}{u:Value}(r:aY v u):PySem.W.handedIn u=true:=by
 cases v with
 | non=>cases(show u=Value.none from r);rfl
 | bl b=>cases(show u=Value.bool b from r);rfl
 | int i=>obtain⟨t,e⟩:=(show ∃t,u=Value.int i t from r);cases e;rfl
 | str x=>obtain⟨t,e⟩:=(show ∃t,u=Value.str x t from r);cases e;rfl
 | byt b=>obtain⟨t,e⟩:=(show ∃t,u=Value.bytes b t from r);cases e;rfl
 | flt b=>obtain⟨t,e⟩:=(show ∃t,u=Value.float b t from r);cases e;rfl
 | ref a=>cases(show u=Value.ref a from r);rfl
 | ty n=>cases(show u=Value.type n from r);rfl
section
variable{P:Program}{w:World}{H H':Hp}{h h':Heap}{a C dx:Addr}{fs fs':List (Str×V)}
theorem ku(hok:HOk P w H h)(e:H a=some (.ins C dx fs)):∃mA,nE h a dx C mA∧(∀f,jy (fs.lookup f) (mA f))∧PySem.Within mA (fs.map (·.1))∧fs.length≤1000∧H dx=some (.own a):=by
 obtain⟨d,z,ne,ob,mA,n,r,q⟩:=(show b5 P w H h a (.ins C dx fs)from hok a _ e)
 exact⟨mA,⟨ob,n,ne⟩,r,q,z,d⟩
end
structure Cls(K:PySem.W.Frag)(C:Addr):Prop where
 pg:PySem.W.plainGet K C Str.empty=true
 hd:PySem.W.hasDictIn K C=true
 po:PySem.W.plainOver K C=true
 sa:PySem.W.findIn K (.ref C) "__setattr__" = some (some (.builtin "object.__setattr__"))
theorem Cls.get{K:PySem.W.Frag}{C:Addr}(c:Cls K C)(f:Str):PySem.W.plainGet K C f=true:=c.pg
def cM(K:PySem.W.Frag)(C:Addr)(f:Str):Prop:=PySem.W.findIn K (.ref C) f=some none
theorem cM.taker{K:PySem.W.Frag}{C:Addr}{f:Str}(n:cM K C f):PySem.W.takerIn K C f=some none:=by
 unfold PySem.W.takerIn
 rw[show PySem.W.findIn K (.ref C) f=some none from n]
 rfl
structure Con(K:PySem.W.Frag)(C:Addr)(f:Str)(v:V)(u:Value):Prop where
 at_:PySem.W.findIn K (.ref C) f=some (some u)
 rel:aY v u
 get:PySem.W.specialIn K u "__get__" = some none
 cp:PySem.W.copiedNames.contains f=false
structure vp(K:PySem.W.Frag)(C:Addr)(m:Str)(f:Addr):Prop where
 at_:PySem.W.findIn K (.ref C) m=some (some (.ref f))
 fn:PySem.W.isFn K (.ref f)=true
 kp:PySem.W.keepIn K (.ref f)=true
section
variable{X:Cx}{pins:List (Addr×Obj)}{σ:St}{H:Hp}{s:Shared}{a C dx:Addr}{fs:List (Str×V)}{f:Str}{v:V}{A:Around}{E:Value→Shared→Prop}
theorem ng{b:Bool}{Q:Value→Shared→Prop}(I:Inv X pins σ H s)(e:H a=some (.ins C dx fs))(c:Cls X.K C)(n:cM X.K C f)(l:fs.lookup f=some v)
  (h:∀u s',Inv X pins σ H s'→aY v u→Q u s'):wpAny (model X.prog X.w) A (getAttr (.ref a) f b) Q E s:=by
 obtain⟨mA,O,r,_,_,_⟩:=ku I.hok e
 obtain⟨u,hu,ru⟩:=jy.some_of (v:=v) (o:=mA f) (by rw[← l];exact r f)
 exact uX I.kIn O (c.get f) c.hd n hu (pM ru) (h u _ (I.tok _) ru)
theorem m_{m:Str}{g:Addr}{pl:Sem Bool}{Q:Value×List Value→Shared→Prop}(I:Inv X pins σ H s)(e:H a=some (.ins C dx fs))(c:Cls X.K C)(k:vp X.K C m g)(l:fs.lookup m=none)
  (h:Q (.ref g,[.ref a]) s):wpAny (model X.prog X.w) A (getMethod (.ref a) m pl) Q E s:=by
 obtain⟨mA,O,r,_,_,_⟩:=ku I.hok e
 have hn:mA m=none:=jy.none_of (by rw[← l];exact r m)
 exact rT I.kIn O (c.get m) k.at_ k.fn hn h
theorem mD{y:V}{u:Value}{Q:Unit→Shared→Prop}(I:Inv X pins σ H s)(e:H a=some (.ins C dx fs))(c:Cls X.K C)(n:cM X.K C f)(hl:fs.length < 1000)(ry:aY y u)
  (h:∀s',Inv X pins σ (upd H a (.ins C dx (d3 f y fs))) s'→Q () s'):wpAny (model X.prog X.w) A (setAttr (.ref a) f u) Q E s:=by
 obtain⟨mA,O,r,wi,_,ho⟩:=ku I.hok e
 have hz:(fs.map (·.1)).length≤sizeLine:=by rw[List.length_map,sizeLine_eq];omega
 refine tU I.kIn O c.sa c.po n.taker c.hd wi hz fun h' O' sb=>h _ ?_
 have hd:∃o,h'.get? dx=some o:=let⟨o,_,_,e',_⟩:=O'.ns;⟨o,e'⟩
 refine I.write (x:=a) (e:=dx) (by rw[e];exact True.intro) (.inr ho) (fun b q hb z=>(sb.2 b hb).trans z) hd ?_
 refine⟨by rw[ay O.ne];exact ho,?_,O.ne,O'.obj,_,O'.ns,fun g=>?_,fun g hg=>?_⟩
 ·have:=hG f y fs;omega
 ·show jy ((d3 f y fs).lookup g) (if g=f then some u else mA g)
  rw[g8]
  by_cases q:g=f
  ·rw[if_pos q,if_pos q];exact ry
  ·rw[if_neg q,if_neg q];exact r g
 ·by_cases q:g=f
  ·rw[q];exact(gN f y fs).1
  ·refine(gN f y fs).2 g (wi g fun z=>hg ?_)
   show(if g=f then some u else mA g)=none
   rw[if_neg q];exact z
theorem Inv.made(I:Inv X pins σ H s):Inv X pins σ (upd (upd H s.heap.objs.size (.own (s.heap.objs.size+1))) (s.heap.objs.size+1) (.ins C s.heap.objs.size []))
  { s with heap:=(s.heap.push PySem.W.emptyDict).push (PySem.W.instObj C s.heap.objs.size) }:=by
 have e1:(s.heap.push PySem.W.emptyDict).get? s.heap.objs.size=some PySem.W.emptyDict:=Heap.get?_push_size s.heap rfl
 have e2:((s.heap.push PySem.W.emptyDict).push (PySem.W.instObj C s.heap.objs.size)).get? (s.heap.objs.size+1)=some (PySem.W.instObj C s.heap.objs.size):=by
  have:=Heap.get?_push_size (s.heap.push PySem.W.emptyDict) (o:=PySem.W.instObj C s.heap.objs.size) rfl
  rwa [Heap.size_push]at this
 have e3:(s.heap.push PySem.W.emptyDict).Ns s.heap.objs.size (fun _=>none):=⟨PySem.W.emptyDict,#[],_,e1,rfl,(fun e he=>absurd he (by simp)),fun _=>rfl⟩
 have I1:=I.laid (a:=s.heap.objs.size) (o:=.own (s.heap.objs.size+1)) (h':=s.heap.push PySem.W.emptyDict) (t':=s.toks) (fun b u q=>Heap.get?_push_of_some _ q) (Nat.le_refl _) ⟨_,e1⟩
 refine I1.laid (a:=s.heap.objs.size+1) (o:=.ins C s.heap.objs.size []) (t':=s.toks) (fun b u q=>Heap.get?_push_of_some _ q) (Nat.le_of_eq (Heap.size_push _ _)) ?_
 have ne:s.heap.objs.size≠s.heap.objs.size+1:=Nat.ne_of_lt (Nat.lt_succ_self _)
 refine⟨by rw[ay ne,bg],Nat.zero_le _,ne,e2,fun _=>none,(Heap.Ns1.of_empty e3).at fun o q=>Heap.get?_push_of_some _ q,fun _=>True.intro,fun y hy=>absurd rfl hy⟩
theorem vk{prog:Program}{w:World}{env:Env}{e:Expr}{f:Str}{pos:Pos}{s:Shared}{Q:Value→Shared→Prop}(hb:attributeBase e f env (eval e env)=eval e env)
  (h:wpAny (model prog w) A (eval e env) (fun o s₁=>wpAny (model prog w) A (getAttr o f true) Q E s₁) E s):wpAny (model prog w) A (eval (.Attribute e f pos) env) Q E s :=
 Attribute_any_ h (by rw[arm_eval_Attribute,hb])
end
def zE(K:PySem.W.Frag)(ta:TE)(f:Str):TE:=fun σ H Q=>ta σ H fun x H1=>∃a C dx fs v,x=.ref a∧H1 a=some (.ins C dx fs)∧Cls K C∧cM K C f∧fs.lookup f=some v∧Q v H1
def sFld(K:PySem.W.Frag)(ta tv:TE)(f:Str):TS:=fun D σ H=>tv σ H fun y H1=>ta σ H1 fun x H2=>∃a C dx fs,x=.ref a∧H2 a=some (.ins C dx fs)∧Cls K C∧cM K C f∧fs.length < 1000 ∧
 D.nx σ (upd H2 a (.ins C dx (d3 f y fs)))
section
variable{X:Cx}{o e value:Expr}{f:Str}{pos pos' tpos:Pos}{ta tv:TE}
theorem w9(he:PE X e ta)(hb:attributeBase e f X.env (eval e X.env)=eval e X.env):PE X (.Attribute e f pos) (zE X.K ta f):=by
 intro pins s σ H Q I h
 refine vk hb (thn (he pins s σ H _ I h) fun u s1 ⟨x,H1,I1,rx,a,C,dx,fs,v,ex,ea,c,n,l,q⟩=>?_)
 subst ex
 obtain rfl:u=Value.ref a:=rx
 exact ng I1 ea c n l fun u' s2 I2 ru=>⟨v,H1,I2,ru,q⟩
theorem wU(ha:PE X o ta)(hv:PE X value tv)(hs:swapsWith value (some (.Attribute o f pos')) pos.line X.env=pure false):PS X (.Assign [.Attribute o f pos'] value pos) (sFld X.K ta tv f):=by
 intro pins s σ H D I h
 refine plainObj_wpAny_Assign_Attribute (thn (hv pins s σ H _ I h) fun u s1 ⟨y,H1,I1,ry,q⟩=>thn (ha pins s1 σ H1 _ I1 q) fun ov s2 ⟨x,H2,I2,rx,a,C,dx,fs,ex,ea,c,n,l,q2⟩=>?_) hs
 subst ex
 obtain rfl:ov=Value.ref a:=rx
 exact mD I2 ea c n l ry fun s3 I3=>⟨σ,_,I3,q2⟩
end
section
variable{X:Cx}{pins:List (Addr×Obj)}{σ:St}{H:Hp}{s:Shared}{A:Around}{E:Value→Shared→Prop}{Q:Value→Shared→Prop}{c:Value}{b:Bool}
inductive jk(K:PySem.W.Frag)(H:Hp):V→Value→Prop where
 | non:jk K H .non (.type "NoneType")
 | bl (x:Bool):jk K H (.bl x) (.type "bool")
 | int (i:Int):jk K H (.int i) (.type "int")
 | str (x:Str):jk K H (.str x) (.type "str")
 | flt (x:UInt64):jk K H (.flt x) (.type "float")
 | lst {a:Addr}{xs:List V} (e:H a=some (.lst xs)):jk K H (.ref a) (.type "list")
 | frz {a:Addr}{o:Obj}{xs:List V} (e:H a=some (.frz o (.lst xs))):jk K H (.ref a) (.type "list")
 | tup {a:Addr}{xs:List V} (e:H a=some (.tup xs)):jk K H (.ref a) (.type "tuple")
 | dK {a:Addr}{kvs:List (Key×V)} (e:H a=some (.dK kvs)):jk K H (.ref a) (.type "dict")
 | dT {a:Addr}{kvs:List (List Key×V)} (e:H a=some (.dT kvs)):jk K H (.ref a) (.type "dict")
 | ins {a C dx:Addr}{fs:List (Str×V)} (e:H a=some (.ins C dx fs)) (cl:Cls K C) (ha:PySem.W.findIn K (.ref C) "__class__" = some (some (.builtin "object.__class__")))
   (hn:PySem.W.specialIn K (.builtin "object.__class__") "__get__" = some (some (.builtin "getset_descriptor.__get__"))) (htk:PySem.W.takesIn K (.builtin "object.__class__")=some true)
   (hm:PySem.W.mroIn K C (.type "object")=some true):jk K H (.ref a) (.ref C)
end
end L2
namespace L2
open PySem PySem.Spec PyProof.Rows
structure ck(k:Nat)(A:Around):Prop where
 hd:A.handled=none
 dp:A.depth+3 * k+5 < recursionLimit
 un:A.units+16 * k+200 < cLine
theorem ck.mono{j k:Nat}{A:Around}(r:ck k A)(h:j≤k):ck j A:=⟨r.hd,by have:=r.dp;omega,by have:=r.un;omega⟩
theorem ck.deeper{k:Nat}{A:Around}(r:ck (k+1) A)(env:Env):ck k (A.deeper env) :=
 ⟨r.hd,by have:=r.dp;show A.depth+1+3 * k+5 < _;omega,by have:=r.un;show A.units+3+16 * k+200 < _;omega⟩
theorem mU{A:Around}{C:Addr}{us:List Value}{kw:List (Str×Value)}:(A.under (.builtin "type.__call__" ⟨.ref C::us,kw⟩)).depth=A.depth+1:=by
 first | rfl | simp[Around.under,Code.weight,Code.isCreation,Code.isGuard,Code.isCaller,Code.frames,Code.isFrame,guardIds]
theorem mT{A:Around}{C:Addr}{us:List Value}{kw:List (Str×Value)}:(A.under (.builtin "type.__call__" ⟨.ref C::us,kw⟩)).units=A.units+1:=by
 first | rfl | simp[Around.under,Code.cUnits,Code.frames,Code.isFrame]
theorem ck.make{k:Nat}{A:Around}(r:ck (k+1) A)(C:Addr)(us:List Value)(kw:List (Str×Value)):ck k (A.under (.builtin "type.__call__" ⟨.ref C::us,kw⟩)) :=
 ⟨r.hd,by have:=r.dp;rw[mU];omega,by have:=r.un;rw[mT];omega⟩
theorem ck.depth{k:Nat}{A:Around}(r:ck k A):A.depth < recursionLimit:=by have:=r.dp;omega
theorem ck.units{k:Nat}{A:Around}(r:ck k A):A.units+64 < cLine:=by have:=r.un;omega
def wc:TA:=fun _ H Q=>Q [] H
def kU(ta:TE)(tr:TA):TA:=fun σ H Q=>ta σ H fun x H1=>tr σ H1 fun xs H2=>Q (x::xs) H2
section
variable{X:Cx}{e:Expr}{es:List Expr}{te:TE}{t:TA}{pos:Pos}
theorem fv:PA X [] wc:=fun _ _ _ _ H Q I h=>Calls.spliced_nil ⟨[],H,I,.nil,h⟩
theorem cC(ha:PE X e te)(hr:PA X es t)(hs:starEach (e::es) X.env=(false,eval e X.env)::starEach es X.env:=by rfl):PA X (e::es) (kU te t):=by
 intro pos pins s σ H Q I h
 rw[hs]
 show wpAny _ _ (spliced ((false,eval e X.env)::backTo pos (starEach es X.env))) _ _ s
 refine Calls.spliced_cons (thn (ha pins s σ H _ I h) fun u s1 ⟨x,H1,I1,r1,q1⟩=>?_)
 exact thn (hr pos pins s1 σ H1 _ I1 q1) fun us s2 ⟨xs,H2,I2,r2,q2⟩=>⟨x::xs,H2,I2,.cons r1 r2,q2⟩
def BK(t:TA):TE:=fun σ H Q=>t σ H fun xs H1=>xs.length≤sizeLine∧∀p,H1 p=none→Q (.ref p) (upd H1 p (.tup xs))
def BO(t:TA):TE:=fun σ H Q=>t σ H fun xs H1=>xs.length≤sizeLine∧∀p,H1 p=none→Q (.ref p) (upd H1 p (.lst xs))
theorem wY{x1}(h:PA X es t):PE X (.Tuple es x1 pos) (BK t):=by
 intro pins s σ H Q I hq
 refine wpAny_Tuple_spliced (thn (h pos pins s σ H _ I hq) fun us s1 ⟨xs,H1,I1,r,z,q⟩=>⟨by rw[← r.length];exact z,?_⟩)
 have hf:H1 s1.heap.objs.size=none:=I1.hok.fresh (Nat.le_refl _)
 refine⟨.ref s1.heap.objs.size,upd H1 s1.heap.objs.size (.tup xs),I1.laid (t':=s1.toks) (fun b u e=>Heap.get?_push_of_some _ e) (Nat.le_refl _) ?_,rfl,q _ hf⟩
 exact⟨z,us,r,⟨_,Heap.get?_push_size _ rfl,rfl,_,rfl⟩⟩
theorem w6(h:PA X es t):PE X (.List es pos) (BO t):=by
 intro pins s σ H Q I hq
 refine wpAny_List_spliced (thn (h pos pins s σ H _ I hq) fun us s1 ⟨xs,H1,I1,r,z,q⟩=>⟨by rw[← r.length];exact z,?_⟩)
 have hf:H1 s1.heap.objs.size=none:=I1.hok.fresh (Nat.le_refl _)
 refine⟨.ref s1.heap.objs.size,upd H1 s1.heap.objs.size (.lst xs),I1.laid (t':=s1.toks) (fun b u e=>Heap.get?_push_of_some _ e) (Nat.le_refl _) ?_,rfl,q _ hf⟩
 exact⟨z,us,0,r,Heap.get?_push_size _ rfl⟩
end
abbrev Sp:=List V→Hp→VK→XK→Prop
abbrev CXT:=List Env→Hp→Shared→XK→Value→Shared→Prop
structure nG(P:Program)(w:World)(K:PySem.W.Frag)(mg:Str→Option Value)(base:Heap)(A:Around)(outer:List Env)(s:Shared)(H:Hp):Prop where
 frames:A.frames=some outer
 mod:Mod K mg base
 bs:∀b o,base.get? b=some o→s.heap.get? b=some o∧H b=none
 bsz:base.objs.size≤s.heap.objs.size
 funs:s.heap.FunFrames base outer
 frf:∀b∈frs outer,H b=none
 hok:HOk P w H s.heap
 bare:AllBare s.gens
def CE(outer:List Env)(P:Program)(w:World)(H:Hp)(s:Shared)(Q:VK)(u:Value)(s':Shared):Prop :=
 ∃v H',s'.os=s.os∧AllBare s'.gens∧Un (frs outer) [] H H' s.heap s'.heap∧HOk P w H' s'.heap∧aY v u∧Q v H'
def CR(CX:CXT)(outer:List Env)(P:Program)(w:World)(H:Hp)(s:Shared)(Q:VK)(E:XK)(r:Result)(s':Shared):Prop :=
 match r with
 | .ok (.ret u)=>CE outer P w H s Q u s'
 | .ok _=>False
 | .error e=>CX outer H s E e s'
structure bR(P:Program)(w:World)(K:PySem.W.Frag)(mg:Str→Option Value)(base:Heap)(CX:CXT)(k:Nat)(f:Addr)(fd:FuncData)(ps:List Str)(sp:Sp):Prop where
 len:∀vs H Q E,sp vs H Q E→vs.length=ps.length
 run:∀(A:Around) (outer:List Env) (s:Shared) (H:Hp) (args:Args) (us:List Value) (vs:List V) (Q:VK) (E:XK),ck k A→nG P w K mg base A outer s H→BindsTo s fd args (ps.zip us)→aC vs us→sp vs H Q E →
  codeAny (model P w) A (.call (.ref f) args) (CR CX outer P w H s Q E) s
theorem bR.mono{P:Program}{w:World}{K:PySem.W.Frag}{mg:Str→Option Value}{base:Heap}{CX:CXT}{j k:Nat}{f:Addr}{fd:FuncData}{ps:List Str}{sp:Sp}(F:bR P w K mg base CX j f fd ps sp)(h:j≤k) :
  bR P w K mg base CX k f fd ps sp:=⟨F.len,fun A outer s H args us vs Q E hr=>F.run A outer s H args us vs Q E (hr.mono h)⟩
theorem bR.imp{P:Program}{w:World}{K:PySem.W.Frag}{mg:Str→Option Value}{base:Heap}{CX:CXT}{k:Nat}{f:Addr}{fd:FuncData}{ps:List Str}{sp sp':Sp}(F:bR P w K mg base CX k f fd ps sp)
  (h:∀vs H Q E,sp' vs H Q E→sp vs H Q E):bR P w K mg base CX k f fd ps sp' :=
 ⟨fun vs H Q E q=>F.len vs H Q E (h _ _ _ _ q),fun A outer s H args us vs Q E hr he hb hv hs=>F.run A outer s H args us vs Q E hr he hb hv (h _ _ _ _ hs)⟩
theorem nG.make{P:Program}{w:World}{K:PySem.W.Frag}{mg:Str→Option Value}{base:Heap}{A:Around}{outer:List Env}{s:Shared}{H:Hp}(e:nG P w K mg base A outer s H)(C:Addr)(us:List Value)(kw:List (Str×Value)) :
  nG P w K mg base (A.under (.builtin "type.__call__" ⟨.ref C::us,kw⟩)) outer s H:=⟨by first | exact e.frames |(simpa[Around.under,Code.envs,Code.isFrame,pushEnvs]using e.frames),e.mod,e.bs,e.bsz,e.funs,e.frf,e.hok,e.bare⟩
section
variable{X:Cx}{pins:List (Addr×Obj)}{σ:St}{H:Hp}{s s':Shared}
theorem Inv.env0(I:Inv X pins σ H s):nG X.prog X.w X.K X.mg X.base X.A X.stack s H :=
 ⟨I.ok.frames,I.ok.mod,I.bs,Nat.le_trans I.ok.bsz I.sz,I.stack,I.stkFree,I.hok,I.bare⟩
theorem Inv.after{Q:VK}{u:Value}(I:Inv X pins σ H s)(h:CE X.stack X.prog X.w H s Q u s'):EP X pins σ Q u s':=by
 obtain⟨v,H',os,bare,un,hok,r,q⟩:=h
 obtain⟨hh,g,d,t,os'⟩:=s'
 obtain rfl:os'=s.os:=os
 exact⟨v,H',I.call (h':=hh) (g':=g) (d':=d) (t':=t) (ch:=[]) un hok bare (fun b z=>absurd z (by simp)),r,q⟩
end
def cH(K:PySem.W.Frag)(fd:FuncData)(ps:List Str)(ds:List Value):Prop :=
 ∀(s:Shared) (us:List Value),K.In s.heap→(us++ds).length=ps.length→BindsTo s fd ⟨us,[]⟩ (ps.zip (us++ds))
theorem cH.all{K:PySem.W.Frag}{fd:FuncData}{ps:List Str}(h:∀us:List Value,us.length=ps.length→bindArgs fd ⟨us,[]⟩=pure (ps.zip us)):cH K fd ps []:=fun s us _ hl=>by
 rw[List.append_nil]at hl ⊢
 exact .of_eq (h us hl)
section
variable{X:Cx}{CX:CXT}{k:Nat}{f C:Addr}{fd:FuncData}{ps:List Str}{sp:Sp}{dvs:List V}{ds:List Value}{E:XK}{x m:Str}{p pos apos:Pos}{e o:Expr}{es:List Expr}{ta:TE}{t:TA}
structure Mk(K:PySem.W.Frag)(C f:Addr):Prop where
 makes:PySem.W.makesIn K C=true
 init:PySem.W.findIn K (.ref C) "__init__" = some (some (.ref f))
 fn:PySem.W.isFn K (.ref f)=true
 kp:PySem.W.keepIn K (.ref C)=true
end
section
variable{X:Cx}{CX:CXT}{k:Nat}{f C:Addr}{fd:FuncData}{ps ks:List Str}{sp:Sp}{E:XK}{x m:Str}{p pos apos kpos:Pos}{e o:Expr}{es:List Expr}{kws:List Keyword}{te ta:TE}{t tk:TA}{nm:Option Str}
structure CA(K:PySem.W.Frag)(fd:FuncData)(ps ks:List Str)(g:List Value→List Value→List Value)(gV:List V→List V→List V):Prop where
 to:∀(s:Shared) (us ws:List Value),K.In s.heap→(g us ws).length=ps.length→BindsTo s fd ⟨us,ks.zip ws⟩ (ps.zip (g us ws))
 rel:∀{vs:List V}{us:List Value}{zs:List V}{ws:List Value},aC vs us→aC zs ws→aC (gV vs zs) (g us ws)
variable{g:List Value→List Value→List Value}{gV:List V→List V→List V}
end
structure bV(N P:List Str)(sc:Scope):Prop where
 kind:sc.kind=.function
 co:sc.isCoroutine=false
 gen:sc.isGenerator=false
 nd:N.Nodup
 pre:N.take P.length=P
 par:∀x∈P,sc.names.lookup x=some .local∨sc.names.lookup x=some .cell
 nofree:∀y∈sc.names,y.2≠.free
theorem j1{kindOf:Str→Option NameKind}{x:Str}:∀{binds:List (Str×Value)}{m:Str→Option Value},(∀v,(x,v)∉ binds)→bindL kindOf binds m x=m x
 | [],_,_=>rfl
 |(n,v)::r,m,h=>by
  unfold bindL
  rw[j1 fun w hw=>h w (List.mem_cons_of_mem _ hw)]
  split
  ·have:x≠n:=by rintro rfl;exact h v List.mem_cons_self
   simp[this]
  ·rfl
theorem j3{kindOf:Str→Option NameKind}{x:Str}:∀{binds:List (Str×Value)}{m:Str→Option Value},(∀v,(x,v)∉ binds)→bindC kindOf binds m x=m x
 | [],_,_=>rfl
 |(n,v)::r,m,h=>by
  unfold bindC
  rw[j3 fun w hw=>h w (List.mem_cons_of_mem _ hw)]
  split
  ·rfl
  ·have:x≠n:=by rintro rfl;exact h v List.mem_cons_self
   simp[this]
theorem j2{kindOf:Str→Option NameKind}{x:Str}{v:Value}:∀{P:List Str}{vs:List Value}{i:Nat}{m:Str→Option Value},P.Nodup→P[i]?=some x→vs[i]?=some v→kindOf x=some .local →
  bindL kindOf (P.zip vs) m x=some v
 | [],_,_,_,_,h,_,_=>by simp at h
 | _::_,[],_,_,_,_,h,_=>by simp at h
 | p::P,w::vs,0,m,nd,h1,h2,hk=>by
  simp at h1 h2;subst h1;subst h2
  show bindL kindOf ((p,w)::P.zip vs) m p=_
  unfold bindL
  rw[j1 fun v hv=>(List.nodup_cons.mp nd).1 (List.of_mem_zip hv).1,if_pos hk]
  simp
 | p::P,w::vs,i+1,m,nd,h1,h2,hk=>by
  show bindL kindOf ((p,w)::P.zip vs) m x=_
  unfold bindL
  exact j2 (i:=i) (List.nodup_cons.mp nd).2 (by simpa using h1) (by simpa using h2) hk
theorem j4{kindOf:Str→Option NameKind}{x:Str}{v:Value}:∀{P:List Str}{vs:List Value}{i:Nat}{m:Str→Option Value},P.Nodup→P[i]?=some x→vs[i]?=some v→kindOf x≠some .local →
  bindC kindOf (P.zip vs) m x=some v
 | [],_,_,_,_,h,_,_=>by simp at h
 | _::_,[],_,_,_,_,h,_=>by simp at h
 | p::P,w::vs,0,m,nd,h1,h2,hk=>by
  simp at h1 h2;subst h1;subst h2
  show bindC kindOf ((p,w)::P.zip vs) m p=_
  unfold bindC
  rw[j3 fun v hv=>(List.nodup_cons.mp nd).1 (List.of_mem_zip hv).1,if_neg hk]
  simp
 | p::P,w::vs,i+1,m,nd,h1,h2,hk=>by
  show bindC kindOf ((p,w)::P.zip vs) m x=_
  unfold bindC
  exact j4 (i:=i) (List.nodup_cons.mp nd).2 (by simpa using h1) (by simpa using h2) hk
def ef(N:List Str)(vs:List V):St:=vs.map some++List.replicate (N.length - vs.length) none
def cj(CX:CXT)(P:Program)(w:World)(K:PySem.W.Frag)(mg:Str→Option Value)(base:Heap)(N:List Str)(qual:Str)(scope:Scope)(f:Addr)(cd:Value)(A:Around)(outer:List Env)(s:Shared)(H:Hp)(E:XK):Cx where
 prog:=P
 w:=w
 K:=K
 mg:=mg
 base:=base
 A:=A.deeper (envOfC qual scope s.heap.objs.size f cd)
 N:=N
 s₀:=s
 H₀:=H
 env:=envOfC qual scope s.heap.objs.size f cd
 outer:=outer
 stack:=envOfC qual scope s.heap.objs.size f cd::outer
 ex:=[]
 calm:=true
 fn:=fun _=>true
 pn:=[]
 xe:=fun e s'=>wpAny (model P w) (A.deeper (envOfC qual scope s.heap.objs.size f cd)) (leaving (envOfC qual scope s.heap.objs.size f cd) e) (fun _ s''=>CX outer H s E e s'') (fun e' s''=>CX outer H s E e' s'') s'
theorem lX{sc:Scope}{n:Nat}{x:Str}(h:sc.names.lookup x=some .cell):∃c,(cellsFrom n sc.names []).lookup x=some c:=by
 have q:=PySem.W.cellsFrom_some sc.names n [] (.inl h)
 exact Option.isSome_iff_exists.mp q
theorem pI{CX:CXT}{P:Program}{w:World}{K:PySem.W.Frag}{mg:Str→Option Value}{base:Heap}{N ps:List Str}{qual:Str}{scope:Scope}{f:Addr}{cd:Value}{A:Around}{outer:List Env}{s s1:Shared}{H:Hp}{E:XK}{us:List Value}{vs:List V}
  (S:bV N ps scope) (hd:A.handled=none) (e0:nG P w K mg base A outer s H) (hl:vs.length=ps.length) (r:aC vs us)
  (x:InCallC s s.heap.objs.size (bindL (envOfC qual scope s.heap.objs.size f cd).kindOf (ps.zip us) fun _=>none) (cellsFrom (s.heap.objs.size+1) scope.names []) (bindC (envOfC qual scope s.heap.objs.size f cd).kindOf (ps.zip us) fun _=>none) s1) :
  Inv (cj CX P w K mg base N qual scope f cd A outer s H E) [] (ef N vs) H s1:=by
 have hpl:ps.length≤N.length:=by have:=congrArg List.length S.pre;rw[List.length_take]at this;omega
 obtain⟨h1,tk,rfl,hk⟩:=x.done
 have noA:∀b:Addr,b ∉(cj CX P w K mg base N qual scope f cd A outer s H E).ex:=fun b z=>absurd (show b ∈([]:List Addr)from z) (by simp)
 refine ⟨⟨e0.mod,S.kind,rfl,rfl,Nat.le_refl _,fun y z c h1 h2=>?_,fun y hy=>?_,fun y c _ h=>?_,fun _=>hd,Around.frames_deeper e0.frames,.inr ⟨rfl,rfl⟩,fun b z=>absurd z (noA b),e0.bs,e0.bsz,fun b _ _=>noA b,fun b z=>absurd z (noA b),e0.funs,e0.frf⟩,
  rfl,e0.bare,Un.kept hk,⟨_,x.toInCall.ns,fun i y v h1 h2 h3=>?_⟩,fun y c h=>⟨_,x.cell y c h⟩,e0.hok.fresh (Nat.le_refl _),fun y c h=>?_,fun p hp=>absurd (show p ∈([]:List (Addr×Obj))from hp) (by simp),e0.hok.kept hk,?_⟩
 ·exact name_of_addr x.apart (PySem.mem_of_lookup h1) (PySem.mem_of_lookup h2)
 ·have hy:scope.names.lookup y=some .cell∨scope.names.lookup y=some .free:=hy
  rcases hy with hy | hy
  ·exact lX hy
  ·exact absurd rfl (S.nofree _ (PySem.mem_of_lookup hy))
 ·exact Nat.le_of_lt (x.above y c (PySem.mem_of_lookup h))
 ·have hi:i < vs.length:=by
   unfold ef at h2
   by_cases hi:i < vs.length
   ·exact hi
   ·rw[List.getElem?_append_right (by simpa using hi)]at h2
    rw[List.getElem?_replicate]at h2
    split at h2<;>cases h2
  have ha:vs[i]?=some v:=by
   unfold ef at h2
   rw[List.getElem?_append_left (by simpa using hi),List.getElem?_map]at h2
   cases e:vs[i]? with
   | none=>rw[e]at h2;cases h2
   | some a=>rw[e]at h2;cases h2;rfl
  obtain⟨u,hu,rv⟩:=r.get ha
  have hp:ps[i]?=some y:=by
   rw[← S.pre,List.getElem?_take_of_lt (by omega)];exact h1
  have ndP:ps.Nodup:=by rw[← S.pre];exact S.nd.sublist (List.take_sublist _ _)
  refine⟨u,rv,?_⟩
  rcases S.par y (List.mem_of_getElem? hp)with k | k
  ·exact .inl ⟨k,j2 ndP hp hu k⟩
  ·obtain⟨c,e⟩:=lX (n:=s.heap.objs.size+1) k
   refine .inr ⟨.inl k,c,e,?_⟩
   have q:=x.cell y c e
   rw[j4 ndP hp hu (by show scope.names.lookup y≠_;rw[k];decide)]at q
   exact q
 ·exact e0.hok.fresh (Nat.le_of_lt (x.above y c (PySem.mem_of_lookup h)))
 ·unfold ef
  show _=N.length
  rw[List.length_append,List.length_map,List.length_replicate]
  omega
theorem oz{CX:CXT}{P:Program}{w:World}{K:PySem.W.Frag}{mg:Str→Option Value}{base:Heap}{k:Nat}{f:Addr}{name qual:Str}{params:Arguments}{body:List Stmt}{scope:Scope}{dV kV doc pm cdv ct oc:Value}{an od:Option Addr}
  {osl:Array (Option Value)}{N ps:List Str}{sp:Sp} (lk:K.lookup f=some ⟨oc,od,.func (PySem.W.fnOf name qual params body scope dV kV doc pm an cdv ct),osl⟩) (hcd:PySem.W.codeIn K cdv qual=true) (S:bV N ps scope)
  (len:∀vs H Q E,sp vs H Q E→vs.length=ps.length)
  (hbody:∀ (A:Around) (outer:List Env) (s:Shared) (H:Hp) (vs:List V) (Q:VK) (E:XK),ck k (A.deeper (envOfC qual scope s.heap.objs.size f cdv))→sp vs H Q E →
   ∃t,PSs (cj CX P w K mg base N qual scope f cdv A outer s H E) body t∧t { nx:=fun _ H'=>Q .non H',rt:=Q } (ef N vs) H) :
  bR P w K mg base CX (k+1) f (PySem.W.fnOf name qual params body scope dV kV doc pm an cdv ct) ps sp:=by
 refine⟨len,fun A outer s H args us vs Q E hr e0 hb r hsp=>?_⟩
 have hl:=len _ _ _ _ hsp
 have KX:K.In s.heap:=e0.mod.kin.keeps fun b o e=>(e0.bs b o e).1
 have lim:s.heap.NoLimit:=e0.mod.nolimit.keeps fun b o e=>(e0.bs b o e).1
 have hkind:∀y∈ps.zip us,scope.names.lookup y.1=some .local ∨(scope.names.lookup y.1=some .cell∧((cellsFrom (s.heap.objs.size+1) scope.names []).lookup y.1).isSome=true):=fun⟨n,v⟩ hy=>by
  rcases S.par n (List.of_mem_zip hy).1 with q | q
  ·exact .inl q
  ·exact .inr ⟨q,PySem.W.cellsFrom_some _ _ _ (.inl q)⟩
 refine codeAny_call_function hr.depth (KX _ _ lk) rfl S.co S.gen rfl (PySem.W.codeRec_of KX hcd) (hb _ _ _ _ ?_)
 refine wpAny_newFunctionEnv_cells S.kind hkind fun env he s1 x=>?_
 subst he
 refine⟨lim.keeps x.toInCall.keep,codeAny_func ?_⟩
 obtain⟨t,ht,hq⟩:=hbody A outer s H vs Q E (hr.deeper _) hsp
 have I:Inv (cj CX P w K mg base N qual scope f cdv A outer s H E) [] (ef N vs) H s1:=pI S hr.hd e0 hl r x
 refine wpAny_mono (ht [] s1 (ef N vs) H _ I hq) (fun fl s' hs=>?_) fun e s' hs=>hs
 have fin:∀{σ':St}{H':Hp}{v:V}{u:Value},Inv (cj CX P w K mg base N qual scope f cdv A outer s H E) [] σ' H' s'→aY v u→Q v H'→CE outer P w H s Q u s' :=
  fun {σ' H' v u} J rv q=>⟨v,H',J.os,J.bare,J.base,J.hok,rv,q⟩
 cases fl with
 | ret u =>
  obtain⟨v,σ',H',J,rv,q⟩:=hs
  exact fin J rv q
 | next =>
  obtain⟨σ',H',J,q⟩:=hs
  exact fin (v:=V.non) (u:=Value.none) J rfl q
 | brk =>
  obtain⟨_,_,_,q⟩:=hs
  exact False.elim q
 | cont =>
  obtain⟨_,_,_,q⟩:=hs
  exact False.elim q
end L2
namespace L2
open PySem PySem.Spec PyProof.Rows
section
variable{X:Cx}{x:Str}{p pos:Pos}{e:Expr}{es:List Expr}{t:TA}{id T:String}{r:List V→Hp→VK→Prop}
def tCB(r:List V→Hp→VK→Prop)(t:TA):TE:=fun σ H Q=>t σ H fun vs H1=>r vs H1 Q
theorem fT(hc:cP X (.builtin id) r)(hg:Gl X x)(hm:X.mg x=none)(hv:bootBuiltins x=some (.builtin id))(ha:PA X (e::es) t)(hn:x≠"__name__" := by decide)(hdb:(x ==("__debug__" : Str))=false:=by decide)
  (he:starEach (e::es) X.env=(false,eval e X.env)::starEach es X.env:=by rfl) (hpl:(backTo pos (starEach es X.env)).any (·.1)=false:=by rfl):PE X (.Call (.Name x p) (e::es) [] pos) (tCB r t):=by
 intro pins s σ H Q I h
 refine wpAny_Call_Name_kw (fE I hg hm hv ?_ hn hdb)
 exact PyProof.Rows.callWith_builtin1 (thn (ha pos pins s σ H _ I h) fun us s1 ⟨vs,H1,I1,r1,q1⟩=>hc pins s1 σ H1 vs us Q I1 r1 q1) he hpl
theorem jK(hc:cP X (.type T) r)(hg:Gl X x)(hm:X.mg x=none)(hv:bootBuiltins x=some (.type T))(ha:PA X (e::es) t)(hn:x≠"__name__" := by decide)(hdb:(x ==("__debug__" : Str))=false:=by decide)
  (he:starEach (e::es) X.env=(false,eval e X.env)::starEach es X.env:=by rfl) (hpl:(backTo pos (starEach es X.env)).any (·.1)=false:=by rfl):PE X (.Call (.Name x p) (e::es) [] pos) (tCB r t):=by
 intro pins s σ H Q I h
 refine wpAny_Call_Name_kw (fE I hg hm hv ?_ hn hdb)
 exact PyProof.Rows.callWith_type1 (thn (ha pos pins s σ H _ I h) fun us s1 ⟨vs,H1,I1,r1,q1⟩=>hc pins s1 σ H1 vs us Q I1 r1 q1) he hpl
end
end L2
namespace HT
open PySem PyProof.Rows
section
open PySem.SeqAt
open PySem.AutoSeq1 (wpAny_loadPart')
open PySem.MeetsSeq PySem.MeetsSeq2 PySem.MeetsSeq3
end
section
variable{prog:Program}{w:World}{A:Around}{E:Value→Shared→Prop}{s:Shared}
def sIx(n d:Nat):Option Int→Nat
 | none=>d
 | some v=>if v < 0 then(v+(n:Int)).toNat else min v.toNat n
theorem sIx_none(n d:Nat):sIx n d none=d:=rfl
theorem sIx_nat(n d k:Nat):sIx n d (some (k:Int))=min k n:=by
 show(if(k:Int) < 0 then((k:Int)+(n:Int)).toNat else min (k:Int).toNat n)=min k n
 rw[if_neg (by omega),Int.toNat_natCast]
end
end HT
namespace L2
open PySem PySem.Spec PyProof.Rows
abbrev TO:=St→Hp→(Option Int→Hp→Prop)→Prop
def PO(X:Cx)(e:Option Expr)(t:TO):Prop :=
 ∀(pins:List (Addr×Obj)) (s:Shared) (σ:St) (H:Hp) (Q:Option Int→Hp→Prop),Inv X pins σ H s→t σ H Q →
  wpAny (model X.prog X.w) X.A (evalPart e X.env) (fun u s'=>∃o H',Inv X pins σ H' s'∧IsPart u o∧Q o H') X.xe s
def tB:TO:=fun _ H Q=>Q none H
def zB(t:TE):TO:=fun σ H Q=>t σ H fun x H1=>∃i,x=.int i∧Q (some i) H1
section
variable{X:Cx}{e:Expr}{te:TE}{lo hi:Option Expr}{tl th:TO}{pos p2:Pos}
theorem ul:PO X none tB:=by
 intro pins s σ H Q I h
 rw[evalPart_none]
 exact wpAny_pure ⟨none,H,I,.none,h⟩
theorem uk(h:PE X e te):PO X (some e) (zB te):=by
 intro pins s σ H Q I hw
 rw[evalPart_some]
 refine thn (h pins s σ H _ I hw) fun u s1 ⟨x,H1,I1,r1,q1⟩=>?_
 obtain⟨i,rfl,q⟩:=q1
 obtain⟨t,rfl⟩:=r1
 exact⟨some i,H1,I1,.int i t,q⟩
def SlR(X:Cx)(r:V→Option Int→Option Int→Hp→VK→Prop):Prop :=
 ∀(pins:List (Addr×Obj)) (s:Shared) (σ:St) (H:Hp) (x:V) (v vl vu:Value) (lo hi:Option Int) (sl:Addr) (Q:VK),Inv X pins σ H s→aY x v→s.heap.IsSliceOf sl vl vu .none→IsPart vl lo→IsPart vu hi→r x lo hi H Q →
  ∃T id,typeLookup (.type T) "__getitem__" = pure (some (.builtin id))∧s.TypeIs v T∧wpAny (model X.prog X.w) X.A (getItem v (.ref sl)) (EP X pins σ Q) X.xe s
def tSl(r:V→Option Int→Option Int→Hp→VK→Prop)(te:TE)(tl th:TO):TE:=fun σ H Q=>te σ H fun x H1=>tl σ H1 fun l H2=>th σ H2 fun u H3=>r x l u H3 Q
theorem qM{r:V→Option Int→Option Int→Hp→VK→Prop}(hr:SlR X r)(he:PE X e te)(hl:PO X lo tl)(hu:PO X hi th):PE X (.Subscript e (.Slice lo hi none p2) pos) (tSl r te tl th):=by
 intro pins s σ H Q I h
 refine Subscript_ (thn (he pins s σ H _ I h) fun v s1 ⟨x,H1,I1,r1,q1⟩=>?_)
 refine wpAny_Slice (thn (hl pins s1 σ H1 _ I1 q1) fun vl s2 ⟨l,H2,I2,pl,q2⟩=>thn (hu pins s2 σ H2 _ I2 q2) fun vu s3 ⟨u,H3,I3,pu,q3⟩=>?_)
 rw[evalPart_none]
 refine wpAny_pure ?_
 have I4:Inv X pins σ H3 { s3 with heap:=s3.heap.push { cls:=.type "slice", data:=.fields #[vl,vu,.none] } }:=I3.kept (t':=s3.toks) fun b ob q=>Heap.get?_push_of_some _ q
 obtain⟨T,id,hT,ht,hg⟩:=hr pins { s3 with heap:=s3.heap.push { cls:=.type "slice", data:=.fields #[vl,vu,.none] } } σ H3 x v vl vu l u s3.heap.objs.size Q I4 r1 (Heap.IsSliceOf.new ..) pl pu q3
 show wpAny (model X.prog X.w) X.A (subscriptTail e (.Slice lo hi none p2) v (.ref s3.heap.objs.size)) (EP X pins σ Q) X.xe { s3 with heap:=s3.heap.push { cls:=.type "slice", data:=.fields #[vl,vu,.none] } }
 exact tail_any (ops:=[.ref s3.heap.objs.size,v]) ht hT hg (by with_unfolding_all rfl)
def ss(xs:List V)(lo hi:Option Int):List V:=(xs.drop (HT.sIx xs.length 0 lo)).take (HT.sIx xs.length xs.length hi - HT.sIx xs.length 0 lo)
theorem lW(xs:List V)(lo hi:Option Int):(ss xs lo hi).length≤xs.length:=by
 unfold ss
 rw[List.length_take,List.length_drop]
 omega
end
end L2
namespace L2
open PySem PySem.Spec PyProof.Rows
def ixN(n:Nat)(i:Int):Option Nat:=if 0≤i then(if i < n then some i.toNat else none)else if -(n:Int)≤ i then some (i+n).toNat else none
def atI{α:Type}(xs:List α)(i:Int):Option α:=(ixN xs.length i).bind fun j=>xs[j]?
theorem ou{n:Nat}{i:Int}{j:Nat}(h:ixN n i=some j):seqIndex? i n=some j∧j < n∧-(n:Int)≤ i∧i < n:=by
 unfold ixN at h
 by_cases h0:0≤i
 ·rw[if_pos h0]at h
  by_cases h1:i < n
  ·rw[if_pos h1]at h
   have e:i.toNat=j:=Option.some.inj h
   exact⟨by rw[seqIndex_of h0 h1,e],by omega,by omega,h1⟩
  ·rw[if_neg h1]at h;cases h
 ·rw[if_neg h0]at h
  by_cases h1:-(n:Int)≤ i
  ·rw[if_pos h1]at h
   have e:(i+n).toNat=j:=Option.some.inj h
   exact⟨by rw[seqIndex_neg (by omega) h1,e],by omega,h1,by omega⟩
  ·rw[if_neg h1]at h;cases h
theorem kQ{α:Type}{xs:List α}{i:Int}{v:α}(h:atI xs i=some v):∃j,seqIndex? i xs.length=some j∧xs[j]?=some v∧j < xs.length∧-(xs.length:Int)≤ i∧i < xs.length:=by
 unfold atI at h
 cases e:ixN xs.length i with
 | none=>rw[e]at h;cases h
 | some j =>
  rw[e]at h
  obtain⟨h1,h2,h3,h4⟩:=ou e
  exact⟨j,h1,h,h2,h3,h4⟩
def fb(b:Expr):Prop:=∀o i,subscripted b false o i=operate [o,i] (getItem o i)
def IxR(X:Cx)(r:R2):Prop :=
 ∀(value slice:Expr) (pins:List (Addr×Obj)) (s:Shared) (σ:St) (H:Hp) (x y:V) (v u:Value) (Q:VK),Inv X pins σ H s→aY x v→aY y u→r x y H Q →
  subscripted slice false v u=operate [v,u] (getItem v u)→wpAny (model X.prog X.w) X.A (subscriptTail value slice v u) (EP X pins σ Q) X.xe s
def MtR(X:Cx)(id:String)(r:V→List V→Hp→VK→Prop):Prop :=
 ∀(pins:List (Addr×Obj)) (s:Shared) (σ:St) (H:Hp) (x:V) (xs:List V) (v:Value) (us:List Value) (Q:VK),Inv X pins σ H s→aY x v→aC xs us→r x xs H Q →
  wpAny (model X.prog X.w) X.A (call (.builtin id) (v::us)) (EP X pins σ Q) X.xe s
section
variable{X:Cx}{a b:Expr}{ta tb:TE}{pos:Pos}
theorem IxR.or{r r':R2}(h:IxR X r)(h':IxR X r'):IxR X (fun x y H Q=>r x y H Q∨r' x y H Q):=by
 intro value slice pins s σ H x y v u Q I rx ry q hs
 rcases q with q | q
 ·exact h value slice pins s σ H x y v u Q I rx ry q hs
 ·exact h' value slice pins s σ H x y v u Q I rx ry q hs
theorem vM{r:R2}(hr:IxR X r)(ha:PE X a ta)(hb:PE X b tb)(hs:fb b):PE X (.Subscript a b pos) (tOp r ta tb):=by
 intro pins s σ H Q I h
 exact Subscript_ (yI ha hb I h fun v u s2 x y H2 I2 rx ry q=>hr a b pins s2 σ H2 x y v u Q I2 rx ry q (hs _ _))
def ue(K:PySem.W.Frag):R2:=fun x y H Q=>∃p xs i v,x=.ref p∧y=.int i∧SqL K H p xs∧atI xs i=some v∧Q v H
def ub(K:PySem.W.Frag):R2:=fun x y H Q=>∃p xs i v,x=.ref p∧y=.int i∧SqT K H p xs∧atI xs i=some v∧Q v H
def ud:R2:=fun x y H Q=>∃z i c,x=.str z∧y=.int i∧z.length≤sizeLine∧atI z.cps.toList i=some c∧Q (.str ⟨#[c]⟩) H
theorem uQ:IxR X (ue X.K):=by
 intro value slice pins s σ H x y v u Q I rx ry h hs
 obtain⟨p,xs,i,z,rfl,rfl,hq,he,q⟩:=h
 cases rx
 obtain⟨t,rfl⟩:=ry
 obtain⟨its,r,pl,hz⟩:=I.list hq
 obtain⟨j,h1,h2,h3,h4,h5⟩:=kQ he
 obtain⟨w,ew,rw'⟩:=r.get h2
 have hl:=r.length
 have hn:=gM
 have fin:EP X pins σ Q w s:=⟨z,H,I,rw',q⟩
 by_cases h0:0≤i
 ·have hj:i.toNat=j:=by
   rw[seqIndex_of h0 h5]at h1
   exact Option.some.inj h1
  exact item_listR pl.isList h0 (by omega) (by rw[hj];simpa using ew) fin hs
 ·have hj:(i+(its.toArray.size:Int)).toNat=j:=by
   rw[seqIndex_neg (by omega) h4]at h1
   rw[List.size_toArray,← hl]
   exact Option.some.inj h1
  exact subscriptTail_builtinR (x:=w) pl.isList.typeIs slot_list_getitem.lookup
   (wpAny_getItem_list_neg (Q:=fun r s'=>r=w∧EP X pins σ Q r s') pl.isList (by omega) (by rw[List.size_toArray]<;>omega) (by omega) (by rw[hj];simpa using ew) ⟨rfl,fin⟩) hs
theorem xU:IxR X (ub X.K):=by
 intro value slice pins s σ H x y v u Q I rx ry h hs
 obtain⟨p,xs,i,z,rfl,rfl,hq,he,q⟩:=h
 cases rx
 obtain⟨t,rfl⟩:=ry
 obtain⟨its,r,pl,hz⟩:=I.tuple hq
 obtain⟨j,h1,h2,h3,h4,h5⟩:=kQ he
 obtain⟨w,ew,rw'⟩:=r.get h2
 have hl:=r.length
 have hn:=gM
 have fin:EP X pins σ Q w s:=⟨z,H,I,rw',q⟩
 exact subscriptTail_builtinR (x:=w) pl.typeIs slot_tuple_getitem.lookup
  (getItem_tuple (j:=j) (Q:=fun r s'=>r=w∧EP X pins σ Q r s') pl (by omega) (by omega) (by rw[List.size_toArray,← hl];exact h1) (by simpa using ew) ⟨rfl,fin⟩) hs
theorem xV:IxR X ud:=by
 intro value slice pins s σ H x y v u Q I rx ry h hs
 obtain⟨z,i,c,rfl,rfl,hz,he,q⟩:=h
 obtain⟨t,rfl⟩:=rx
 obtain⟨t',rfl⟩:=ry
 obtain⟨j,h1,h2,h3,h4,h5⟩:=kQ he
 have hl:z.cps.toList.length=z.length:=by simp[Str.length]
 rw[hl]at h1 h4 h5
 have hn:=gM
 exact tail_any (typeIs_str s z t) slot_str_getitem.lookup (getItem_str (c:=c) (by
  have e1:decide (i < -(2 ^ 63:Int))=false:=decide_eq_false (by omega)
  have e2:decide (i ≥ 2 ^ 63)=false:=decide_eq_false (by omega)
  rw[e1,e2,Bool.or_false]) (by rw[h1];simpa using h2) ⟨.str ⟨#[c]⟩,H,I.tok _,⟨_,rfl⟩,q⟩) hs
def rIx(K:PySem.W.Frag):R2:=fun x y H Q=>ue K x y H Q∨ub K x y H Q∨ud x y H Q
theorem rG:IxR X (rIx X.K):=uQ.or (xU.or xV)
theorem mS(its:List Value)(n j:Nat)(u:Value):Obj.mapSeq (·.setIfInBounds j u) { cls:=.type "list", data:=.seq its.toArray n }={ cls:=.type "list", data:=.seq (its.set j u).toArray n }:=by
 simp[Obj.mapSeq]
theorem Inv.lst{pins:List (Addr×Obj)}{σ:St}{H:Hp}{s:Shared}{p:Addr}{xs:List V}(I:Inv X pins σ H s)(h:H p=some (.lst xs)) :
  ∃(its:List Value) (n:Nat),aC xs its∧s.heap.get? p=some { cls:=.type "list", data:=.seq its.toArray n }∧xs.length≤sizeLine:=by
 obtain⟨z,its,n,r,e⟩:=I.hok p _ h
 exact⟨its,n,r,e,z⟩
theorem Inv.lstUpd{pins:List (Addr×Obj)}{σ:St}{H:Hp}{s:Shared}{p:Addr}{xs ys:List V}{its its':List Value}{n n':Nat}{f:Obj→Obj}(I:Inv X pins σ H s)(h:H p=some (.lst xs))
  (ho:s.heap.get? p=some { cls:=.type "list", data:=.seq its.toArray n }) (hf:f { cls:=.type "list", data:=.seq its.toArray n }={ cls:=.type "list", data:=.seq its'.toArray n' }) (r:aC ys its') (hz:ys.length≤sizeLine) (t:Nat) :
  Inv X pins σ (upd H p (.lst ys)) { s with heap:=s.heap.update p f,toks:=t }:=by
 have e:(s.heap.update p f).get? p=some { cls:=.type "list", data:=.seq its'.toArray n' }:=by
  rw[Heap.get?_update_self f ho (by rw[hf]<;>rfl),hf]
 refine I.write (x:=p) (e:=p) (by rw[h];trivial) (.inl rfl) (fun b u hb q=>(Heap.get?_update_other _ _ (Ne.symm hb)).trans q) ⟨_,e⟩ ?_
 exact⟨hz,its',n',r,e⟩
def zK:V→V→V→Hp→(Hp→Prop)→Prop:=fun o i v H Q=>∃p xs k j,o=.ref p∧i=.int k∧H p=some (.lst xs)∧ixN xs.length k=some j∧Q (upd H p (.lst (xs.set j v)))
theorem qj:A5 X zK:=by
 intro pins s σ H o i v ov iv u Q I ro ri rv h
 obtain⟨p,xs,k,j,rfl,rfl,hp,hj,q⟩:=h
 cases ro
 obtain⟨t,rfl⟩:=ri
 obtain⟨its,n,r,ho,hz⟩:=I.lst hp
 obtain⟨h1,h2,h3,h4⟩:=ou hj
 have hl:=r.length
 have hn:=gM
 have I':Inv X pins σ (upd H p (.lst (xs.set j v))) { s with heap:=s.heap.update p (Obj.mapSeq (·.setIfInBounds j u)) } :=
  I.lstUpd hp ho (mS its n j u) (r.set rv j) (by rw[List.length_set];exact hz) s.toks
 by_cases h0:0≤k
 ·have hk:k.toNat=j:=by
   rw[seqIndex_of h0 h4]at h1
   exact Option.some.inj h1
  exact PySem.W.ki_setAt ho h0 (by omega) (by rw[List.size_toArray,← hl];exact h4) (by rw[hk];exact⟨_,I',q⟩)
 ·have hk:(k+(its.toArray.size:Int)).toNat=j:=by
   rw[seqIndex_neg (by omega) h3]at h1
   rw[List.size_toArray,← hl]
   exact Option.some.inj h1
  exact PySem.W.ki_setBack ho (by omega) (by rw[List.size_toArray,← hl];exact h3) (by omega) (by rw[hk];exact⟨_,I',q⟩)
theorem j_(lo hi:Option Int)(n:Nat):(sliceBounds lo hi none n).1=((HT.sIx n 0 lo:Nat):Int)∧(sliceBounds lo hi none n).2.1=((HT.sIx n n hi:Nat):Int)∧(sliceBounds lo hi none n).2.2=1:=by
 refine⟨?_,?_,rfl⟩
 ·cases lo with
  | none=>simp[sliceBounds,HT.sIx]
  | some i =>
   simp only[sliceBounds,HT.sIx,Option.getD_none,show(1:Int) > 0 by decide,if_true]
   by_cases h:i < 0
   ·simp only[h,if_true]<;>omega
   ·simp only[h,if_false]<;>omega
 ·cases hi with
  | none=>simp[sliceBounds,HT.sIx]
  | some i =>
   simp only[sliceBounds,HT.sIx,Option.getD_none,show(1:Int) > 0 by decide,if_true]
   by_cases h:i < 0
   ·simp only[h,if_true]<;>omega
   ·simp only[h,if_false]<;>omega
theorem jo(its:List Value)(lo hi:Option Int):slicePick its.toArray lo hi none=((its.drop (HT.sIx its.length 0 lo)).take (HT.sIx its.length its.length hi - HT.sIx its.length 0 lo)).toArray:=by
 obtain⟨h1,h2,h3⟩:=j_ lo hi its.toArray.size
 unfold slicePick
 rw[h1,h2,h3]
 simp only[sliceRange_one,pick_run,List.size_toArray]<;>rfl
def BU(K:PySem.W.Frag):V→Option Int→Option Int→Hp→VK→Prop:=fun x lo hi H Q=>∃a xs,x=.ref a∧SqL K H a xs∧∀p,H p=none→Q (.ref p) (upd H p (.lst (ss xs lo hi)))
theorem tQ:SlR X (BU X.K):=by
 intro pins s σ H x v vl vu lo hi sl Q I rx hs pl pu h
 obtain⟨a,xs,rfl,hx,q⟩:=h
 cases rx
 obtain⟨its,r,ht,hz⟩:=I.list hx
 have hlen:=r.length
 refine⟨"list", _,slot_list_getitem.lookup,ht.isList.typeIs,?_⟩
 refine wpAny_getItem_list_slice ht.isList hs pl pu .none (by simp) ?_ (by rw[List.size_toArray]<;>omega)
 rw[jo,← hlen]
 refine⟨.ref s.heap.objs.size,_,I.laid (t':=s.toks) (o:=.lst (ss xs lo hi)) (fun b ob q=>Heap.get?_push_of_some _ q) (Nat.le_refl _) ?_,rfl,q _ (I.hok.fresh (Nat.le_refl _))⟩
 exact⟨Nat.le_trans (lW xs lo hi) hz,_,0,(r.drop (HT.sIx xs.length 0 lo)).take (HT.sIx xs.length xs.length hi - HT.sIx xs.length 0 lo),Heap.get?_push_size _ rfl⟩
theorem kM:cP X (.builtin "len") (fun xs H Q=>∃p ys,xs=[.ref p]∧(SqL X.K H p ys∨SqT X.K H p ys)∧Q (.int ys.length) H):=by
 intro pins s σ H xs us Q I r h
 obtain⟨p,ys,rfl,hq,q⟩:=h
 obtain⟨u,rfl,rx⟩:=eE r
 cases rx
 have hn:=gM
 rcases hq with hq | hq
 ·obtain⟨its,r',pl,hz⟩:=I.list hq
  have hlen:=r'.length
  exact Calls.call_len_list pl.isList (by simp only[List.size_toArray]<;>omega) ⟨.int ys.length,H,I.tok _,⟨s.toks+1,by rw[List.size_toArray,hlen]⟩,q⟩
 ·obtain⟨its,r',pl,hz⟩:=I.tuple hq
  have hlen:=r'.length
  exact len_tuple pl (by simp only[List.size_toArray]<;>omega) ⟨.int ys.length,H,I.tok _,⟨s.toks+1,by rw[List.size_toArray,hlen]⟩,q⟩
theorem kL:cP X (.type "list") (fun xs H Q=>∃p ys,xs=[.ref p]∧(SqL X.K H p ys∨SqT X.K H p ys)∧∀l,H l=none→Q (.ref l) (upd H l (.lst ys))):=by
 intro pins s σ H xs us Q I r h
 obtain⟨p,ys,rfl,hq,q⟩:=h
 obtain⟨u,rfl,rx⟩:=eE r
 cases rx
 have fin:∀(its:List Value),aC ys its→ys.length≤sizeLine→∀(h':Heap) (c':Nat),(∀b o',s.heap.get? b=some o'→h'.get? b=some o')→
   h'.get? s.heap.objs.size=some { cls:=.type "list", dict:=none,data:=.seq its.toArray c',slots:=#[] }→EP X pins σ Q (.ref s.heap.objs.size) { s with heap:=h' }:=fun its r' hz h' c' kp e =>
  ⟨.ref s.heap.objs.size,_,I.laid (t':=s.toks) kp (Nat.le_refl _) (show b5 X.prog X.w _ h' _ (.lst ys)from⟨hz,its,c',r',e⟩),rfl,q _ (I.hok.fresh (Nat.le_refl _))⟩
 rcases hq with hq | hq
 ·obtain⟨its,r',pl,hz⟩:=I.list hq
  have hlen:=r'.length
  obtain⟨o,ho,hc,n,hd⟩:=pl.isList
  exact call_list_seq p (.inl rfl) ho hc hd (fun h' c' kp e=>fin its r' hz h' c' kp e) (by simp only[List.size_toArray]<;>omega)
 ·obtain⟨its,r',pl,hz⟩:=I.tuple hq
  have hlen:=r'.length
  obtain⟨o,ho,hc,n,hd⟩:=pl
  exact call_list_seq p (.inr rfl) ho hc hd (fun h' c' kp e=>fin its r' hz h' c' kp e) (by simp only[List.size_toArray]<;>omega)
theorem jv:cP X (.type "tuple") (fun xs H Q=>∃p ys,xs=[.ref p]∧((SqL X.K H p ys∧∀l,H l=none→Q (.ref l) (upd H l (.tup ys)))∨(SqT X.K H p ys∧Q (.ref p) H))):=by
 intro pins s σ H xs us Q I r h
 obtain⟨p,ys,rfl,h⟩:=h
 obtain⟨u,rfl,rx⟩:=eE r
 cases rx
 rcases h with⟨hq,q⟩ |⟨hq,q⟩
 ·obtain⟨its,r',pl,hz⟩:=I.list hq
  have hlen:=r'.length
  refine call_tuple_list pl.isList (fun h' kp=>?_) (by simp only[List.size_toArray]<;>omega)
  have I1:Inv X pins σ H { s with heap:=h' }:=I.kept (t':=s.toks) kp
  have I2:Inv X pins σ (upd H h'.objs.size (.tup ys)) { s with heap:=h'.push { cls:=.type "tuple", data:=.seq its.toArray } } :=
   I1.laid (t':=s.toks) (fun b o e=>Heap.get?_push_of_some _ e) (Nat.le_refl _) (show b5 X.prog X.w _ _ _ (.tup ys)from⟨hz,its,r',IsTup.new _ _⟩)
  exact⟨.ref h'.objs.size,_,I2,rfl,q _ (I1.hok.fresh (Nat.le_refl _))⟩
 ·obtain⟨its,r',pl,hz⟩:=I.tuple hq
  exact call_tuple_same pl ⟨.ref p,H,I,rfl,q⟩
def tyV(K:PySem.W.Frag)(T:String)(x:V)(H:Hp):Prop:=match x with
 | .str _=>T = "str"
 | .int _=>T = "int"
 | .ref p=>(T = "list" ∧ ∃xs,SqL K H p xs)∨(T = "tuple" ∧ ∃o,K.lookup p=some o∧o.cls=.type "tuple" ∧ o.dict=none)∨
   (T = "dict" ∧((∃kvs,H p=some (.dK kvs))∨ ∃kvs,H p=some (.dT kvs)))∨(T = "set" ∧ ∃S n,H p=some (.set S n))
 | _=>False
theorem qa{pins:List (Addr×Obj)}{σ:St}{H:Hp}{s:Shared}{T:String}{x:V}{v:Value}(I:Inv X pins σ H s)(r:aY x v)(ty:tyV X.K T x H) :
  s.TypeIs v T∧∀a,v=.ref a→∃ob,s.heap.get? a=some ob∧ob.dict=none:=by
 cases x with
 | str z =>
  obtain⟨t,rfl⟩:=r
  cases(show T = "str" from ty)
  exact⟨typeIs_str s z t,fun _ e=>nomatch e⟩
 | int i =>
  obtain⟨t,rfl⟩:=r
  cases(show T = "int" from ty)
  exact⟨typeIs_int s i t,fun _ e=>nomatch e⟩
 | ref p =>
  cases r
  rcases ty with⟨rfl,xs,hq⟩ |⟨rfl,o,hk,hc,hd⟩ |⟨rfl,hk⟩ |⟨rfl,S,n,hk⟩
  ·obtain⟨its,_,pl,_⟩:=I.list hq
   refine⟨pl.isList.typeIs,fun a e=>?_⟩
   cases e
   obtain⟨o,n,e,c,hd,_⟩:=pl
   exact⟨o,e,hd⟩
  ·refine⟨⟨o,I.kIn p o hk,hc⟩,fun a e=>?_⟩
   cases e
   exact⟨o,I.kIn _ o hk,hd⟩
  ·have z:∃o,s.heap.get? p=some o∧o.ExactDict:=by
    rcases hk with⟨kvs,hk⟩ |⟨kvs,hk⟩
    ·obtain⟨_,_,_,_,o,_,_,e,ex,_⟩:=I.hok p _ hk
     exact⟨o,e,ex⟩
    ·obtain⟨_,_,_,_,o,_,_,e,ex,_⟩:=I.hok p _ hk
     exact⟨o,e,ex⟩
   obtain⟨o,e,ex⟩:=z
   refine⟨⟨o,e,ex.1⟩,fun a e2=>?_⟩
   cases e2
   exact⟨o,e,ex.2.1⟩
  ·obtain⟨o,_,_,_,e,ex,_⟩:=I.hok p _ hk
   refine⟨⟨o,e,ex.1⟩,fun a e2=>?_⟩
   cases e2
   exact⟨o,e,ex.2.1⟩
 | _=>exact False.elim ty
def BR(K:PySem.W.Frag)(T:String)(r:V→List V→Hp→VK→Prop)(to:TE):TE:=fun σ H Q=>to σ H fun x H1=>tyV K T x H1∧r x [] H1 Q
def tBM(K:PySem.W.Frag)(T:String)(r:V→List V→Hp→VK→Prop)(to:TE)(t:TA):TE:=fun σ H Q=>to σ H fun x H1=>tyV K T x H1∧t σ H1 fun xs H2=>r x xs H2 Q
variable{o e:Expr}{es:List Expr}{to:TE}{t:TA}{name:Str}{apos cpos:Pos}{T id:String}{r:V→List V→Hp→VK→Prop}
theorem w_(pa:PlainAttrs T)(slot:Slot T name id)(hty:typeOf (.builtin id)=pure (.type "method_descriptor"))(hm:MtR X id r)(ho:PE X o to)
  (hbase:attributeBase o name X.env (eval o X.env)=eval o X.env:=by rfl) (hline:(apos.endLine==cpos.line)=true:=by rfl):PE X (.Call (.Attribute o name apos) [] [] cpos) (BR X.K T r to):=by
 intro pins s σ H Q I h
 refine wpAny_Call_method0_late hbase hline (thn (ho pins s σ H _ I h) fun v s1 ⟨x,H1,I1,r1,ty,q1⟩=>?_)
 obtain⟨h1,h2⟩:=qa I1 r1 ty
 exact⟨T,id,pa,slot,hty,h1,h2,Calls.callWith_builtin rfl (PySem.evalArgs_none (hm pins s1 σ H1 x [] v [] Q I1 r1 .nil q1))⟩
theorem zP(pa:PlainAttrs T)(slot:Slot T name id)(hty:typeOf (.builtin id)=pure (.type "method_descriptor"))(hm:MtR X id r)(ho:PE X o to)(ha:PA X (e::es) t)
  (hbase:attributeBase o name X.env (eval o X.env)=eval o X.env:=by rfl)
  (hfew:((backTo cpos (starEach (e::es) X.env)).all (fun x=>!x.1) && (backToKw cpos (keywordEach [] X.env)).all (fun x=>x.1.isSome)
   && decide ((e::es).length+([]:List Keyword).length+(if([]:List Keyword).isEmpty then 0 else 1) < 30))=true:=by rfl)
  (hline:(apos.endLine==cpos.line)=true:=by rfl) (hs:starEach (e::es) X.env=(false,eval e X.env)::starEach es X.env:=by rfl) (hplain:(backTo cpos (starEach es X.env)).any (·.1)=false:=by rfl) :
  PE X (.Call (.Attribute o name apos) (e::es) [] cpos) (tBM X.K T r to t):=by
 intro pins s σ H Q I h
 refine wpAny_Call_method_late hbase hfew hline rfl (thn (ho pins s σ H _ I h) fun v s1 ⟨x,H1,I1,r1,ty,q1⟩=>?_)
 obtain⟨h1,h2⟩:=qa I1 r1 ty
 refine⟨T,id,pa,slot,hty,h1,h2,?_⟩
 have hA:=ha cpos pins s1 σ H1 _ I1 q1
 rw[hs]at hA ⊢
 refine Calls.callWith_builtin (by show(false ||(backTo cpos (starEach es X.env)).any (·.1))=false;rw[hplain]<;>rfl) (Calls.evalArgs_plain ?_)
 exact thn hA fun us s2 ⟨vs,H2,I2,r2,q2⟩=>hm pins s2 σ H2 x vs v us Q I2 r1 r2 q2
end
end L2
namespace L2
open PySem PySem.Spec PyProof.Rows
def MtM(X:Cx)(id:String)(r:V→List V→Hp→VK→Prop):Prop :=
 ∀(pins:List (Addr×Obj)) (s:Shared) (σ:St) (H:Hp) (x:V) (xs:List V) (v:Value) (us:List Value) (Q:VK),Inv X pins σ H s→aY x v→aC xs us→r x xs H Q →
  wpAny (model X.prog X.w) X.A (call (.builtin id) (v::us)) (EP X pins σ Q) X.xe s
theorem aC.one:∀{x:V}{us:List Value},aC [x] us→∃u,us=[u]∧aY x u
 | _,_,.cons r .nil=>⟨_,rfl,r⟩
theorem aC.zero:∀{us:List Value},aC [] us→us=[]
 | _,.nil=>rfl
section
variable{X:Cx}{pins:List (Addr×Obj)}{σ:St}{H:Hp}{s:Shared}{l b:Addr}{xs ys zs:List V}
theorem Inv.lset{its its':List Value}{n:Nat}{f:Array Value→Array Value}{t':Nat}(I:Inv X pins σ H s)(hH:H l=some (.lst xs))
  (e:s.heap.get? l=some { cls:=.type "list", data:=.seq its.toArray n }) (hf:f its.toArray=its'.toArray) (hv:aC ys its') (hz:ys.length≤sizeLine) :
  Inv X pins σ (upd H l (.lst ys)) { s with heap:=s.heap.update l (Obj.mapSeq f),toks:=t' }:=by
 have q:=PySem.IsL.update e f
 rw[hf]at q
 refine I.write (x:=l) (e:=l) (by rw[hH];exact trivial) (.inl rfl) (fun b' u hb hu=>(Heap.get?_update_other s.heap (Obj.mapSeq f) (Ne.symm hb)).trans hu) ⟨_,q⟩ ?_
 exact⟨hz,its',_,hv,q⟩
theorem Inv.lnew{its:List Value}{t':Nat}(I:Inv X pins σ H s)(hv:aC ys its)(hz:ys.length≤sizeLine) :
  Inv X pins σ (upd H s.heap.objs.size (.lst ys)) { s with heap:=s.heap.push { cls:=.type "list", data:=.seq its.toArray },toks:=t' } :=
 I.laid (fun _ _ q=>Heap.get?_push_of_some _ q) (Nat.le_refl _) ⟨hz,its,0,hv,Heap.get?_push_size _ rfl⟩
theorem Inv.fresh(I:Inv X pins σ H s):H s.heap.objs.size=none:=I.hok.fresh (Nat.le_refl _)
theorem Inv.lstM(I:Inv X pins σ H s)(hH:H l=some (.lst xs)):xs.length≤sizeLine∧∃(its:List Value) (n:Nat),aC xs its∧xs.length=its.length∧s.heap.get? l=some { cls:=.type "list", data:=.seq its.toArray n }:=by
 obtain⟨z,its,n,r,e⟩:=I.hok l _ hH
 exact⟨z,its,n,r,r.length,e⟩
end
section
variable{X:Cx}
def uf:V→List V→Hp→VK→Prop:=fun x vs H Q=>∃l xs y,x=.ref l∧vs=[y]∧H l=some (.lst xs)∧xs.length < sizeLine∧Q .non (upd H l (.lst (xs++[y])))
theorem jN:MtM X "list.append" uf:=by
 intro pins s σ H x vs v us Q I rx rv h
 obtain⟨l,xs,y,rfl,rfl,hH,hz,q⟩:=h
 cases rx
 obtain⟨u,rfl,ru⟩:=rv.one
 obtain⟨z,its,n,r,hl,e⟩:=I.lstM hH
 refine call_meets F.slot_list_append ⟨_,e,rfl⟩ F.entry_list_append (F.args_list_append_2 _ _) (PySem.list_append l its.toArray n u (by rw[List.size_toArray];omega)) ⟨e,?_⟩
 refine⟨.non,_,I.lset (its':=its++[u]) hH e (by simp) (r.append (.cons ru .nil)) ?_,rfl,q⟩
 rw[List.length_append,List.length_singleton]
 omega
def wN:V→List V→Hp→VK→Prop:=fun x vs H Q=>∃l xs,x=.ref l∧vs=[]∧H l=some (.lst xs)∧Q .non (upd H l (.lst []))
theorem qZ:MtM X "list.clear" wN:=by
 intro pins s σ H x vs v us Q I rx rv h
 obtain⟨l,xs,rfl,rfl,hH,q⟩:=h
 cases rx
 have hus:=rv.zero
 subst hus
 obtain⟨z,its,n,r,hl,e⟩:=I.lstM hH
 refine call_meets F.slot_list_clear ⟨_,e,rfl⟩ F.entry_list_clear (F.args_list_clear_1 _) (AutoSeq1.list_clear_list_0 l its.toArray n (by rw[List.size_toArray];omega)) ⟨e,?_⟩
 exact⟨.non,_,I.lset (its':=[]) (ys:=[]) hH e rfl .nil (Nat.zero_le _),rfl,q⟩
end
section
variable{prog:Program}{w:World}{A:Around}{E:Value→Shared→Prop}{s:Shared}
end
section
variable{X:Cx}
end
end L2
namespace Att
open PySem PySem.W PySem.Calls PyProof.Rows
theorem ik{P:Params}{h:Heap}:∀(ns:List Int) (vs:List Value),WellAll P h vs (ns.map WData.int)→IntsAre vs ns:=by
 intro ns
 induction ns with
 | nil =>
  intro vs w
  rw[List.map_nil]at w
  cases w
  exact .nil
 | cons n ns ih =>
  intro vs w
  rw[List.map_cons]at w
  cases w with
  | cons a b =>
   cases a
   exact .cons _ _ (ih _ b)
theorem o7{l:OpenLaw}{n:Nat}(hn:l.most=some n){P:Params}{h:Heap}{args:List WData}{vals:List Value}
  (hpre:l.row.toRowW.claim.pre args=true) (hwl:WellAll P h vals args) :
  ∃a vs ns,vals=[Value.ref a]∧args=[WData.list (ns.map WData.int)]∧h.get? a=some { cls:=.type "list", data:=.seq vs.toArray }∧IntsAre vs ns∧ns.length≤n:=by
 have hsh:WShape.hasAll [] args [.list .int]=true:=(pre_splitW hpre).1
 have hc:l.pre.holds [] { args:=args }=true:=(pre_splitW hpre).2
 obtain⟨d,r,rfl,h1,h2⟩:=hasAllW_cons hsh
 obtain rfl:=hasAllW_nil h2
 obtain⟨xs,rfl,h3⟩:=hasW_list h1
 obtain⟨ns,rfl⟩:=items_int h3
 have hlen:ns.length≤n:=by
  unfold OpenLaw.pre at hc
  have h4:(WTm.not (.lt (.lit (.int (n:Int))) (.len (.arg 0)))).holds [] { args:=[.list (ns.map .int)] }=true:=by
   have h4:=(holds_andW hc).1
   rw[hn]at h4
   exact h4
  have h5:=condW_of h4 (w_not (w_lt w_lit (w_len_list (w_arg rfl))))
  rw[List.length_map]at h5
  refine Nat.le_of_not_lt fun q=>?_
  have q':(n:Int) <((ns.length:Nat):Int):=by omega
  first
   |(rw[decide_eq_true q']at h5;exact absurd h5 (by decide))
   |(simp at h5;omega)
 cases hwl with
 | cons w1 w2 =>
  cases w2
  cases w1 with
  | list ho hall=>exact⟨_,_,ns,rfl,rfl,ho,ik ns _ hall,hlen⟩
theorem o_(l:OpenLaw)(args:List WData):l.row.toRowW.claim.post args (.bool true) args=true :=
 postW_of (r:=l.row.toRowW) (X:=(true==true))
  (show WShape.has [] (.bool true) .bool=true by first | rfl | decide | simp[WShape.has,WShape.arms,WShape.armsAll])
  (show(WTm.eq .res (.lit (.bool true))).value [] { args:=args,res:=some (.bool true),after:=args }=some (.bool (true==true))from w_eq_bool (w_res rfl) w_lit) rfl
theorem attach_call{l:OpenLaw}{n:Nat}{q:Program}{loose:List Str}{XP:(Str→Option Value)→Heap→Prop}{YP:World→Heap→Prop}{d:DefRec}
  (hn:l.most=some n) (hdf:d.params.defaults=[])
  (call:∀ (w:World) (s₀ s₁:Shared) (mg mb:Str→Option Value) (fa:Addr) (o:Obj) (pm cd doc:Value) (a:Addr) (vs:List Value) (ns:List Int),
   Ground q loose [] XP w s₀ mg mb s₁.heap→YP w s₁.heap →
   s₁.heap.get? fa=some o→o.data=.func (docDef d.name d.params d.body d.scope pm cd doc)→s₁.heap.CodeRec cd d.name→mg d.name=some (.ref fa)→
   s₁.heap.get? a=some { cls:=.type "list", data:=.seq vs.toArray }→IntsAre vs ns→ns.length≤n→s₁.gens=#[]→
   codeAny (model l.prog w) callerA (.call (.ref fa) ⟨[.ref a],[]⟩) (fun r s'=>r=.ok (.ret (.bool true))∧OldK s₁.heap s'.heap∧s'.os=s₁.os∧AllBare s'.gens) s₁) :
  WalkO q loose XP YP l.row.toRowW d [] (fun f vs=>PySem.call f vs):=by
 intro w s₀ s₁ mg mb G Y fa o pm cd doc dV kV ho hd hcd hD hmg hg args vals as hpre hlay hrd hwl hlo
 obtain rfl:dV=.none:=Dflts.none hD hdf
 obtain rfl:kV=.none:=Dflts.noKw hD
 obtain⟨a,vs,ns,rfl,rfl,hobj,hints,hlen⟩:=o7 hn hpre hwl
 refine enter_call (codeAny_mono (call w s₀ s₁ mg mb fa o pm cd doc a vs ns G Y ho (fd_plain hd) hcd hmg hobj hints hlen hg) fun r s' hq=>?_)
 obtain⟨rfl,h2,h3,h4⟩:=hq
 exact⟨.inl ⟨.bool true,.bool true,[],rfl,fun _=>rfl,.bool true,o_ l _,fun _=>⟨List.Pairwise.nil,fun _ hm=>(nomatch hm)⟩⟩,h2,h3,h4⟩
section
variable{prog:Program}{w:World}{A:Around}{E:Value→Shared→Prop}{s:Shared}{K:Frag}
end
end Att
namespace L2
open PySem PySem.Spec PyProof.Rows
theorem jB:∀{vs:List Value}{ns:List Int},IntsAre vs ns→aC (ns.map V.int) vs
 | _,_,.nil=>.nil
 | _,_,.cons n t h=>.cons ⟨t,rfl⟩ (jB h)
def y2(H:Hp):Prop:=∀b,H b=none∨∃o xs,H b=some (.frz o (.lst xs))
theorem rE{P:Program}{w:World}{K:PySem.W.Frag}{mg mb:Str→Option Value}{CX:CXT}{k:Nat}{fa a:Addr}{fd:FuncData}{x:Str}{sp:Sp}{s₁:Shared}{vs:List Value}{ns:List Int}
  (KX:K.In s₁.heap) (hns:s₁.heap.Ns mainGlobals mg) (hb:s₁.heap.Ns builtinsNs mb) (hbb:∀x:Str,x≠"__name__" → mb x=bootBuiltins x) (hlim:s₁.heap.NoLimit) (hg:s₁.gens=#[])
  (ha:s₁.heap.get? a=some { cls:=.type "list", data:=.seq vs.toArray }) (hi:IntsAre vs ns) (hl:ns.length≤sizeLine) (hr:ck k callerA)
  (F:∀base:Heap,K.In base→base.Ns mainGlobals mg→bR P w K mg base CX k fa fd [x] sp) (hbind:∀(s:Shared) (u:Value),BindsTo s fd ⟨[u],[]⟩ [(x,u)])
  (hsp:∀H:Hp,y2 H→SqL K H a (ns.map V.int)→sp [.ref a] H (fun v _=>v=.bl true) fun _ _ _=>False)
  (hCX:∀H e s',CX [] H s₁ (fun _ _ _=>False) e s'→False) :
  codeAny (model P w) callerA (.call (.ref fa) ⟨[.ref a],[]⟩) (fun r s'=>r=.ok (.ret (.bool true))∧OldK s₁.heap s'.heap∧s'.os=s₁.os∧AllBare s'.gens) s₁:=by
 have rv:=jB hi
 have lenV:=hi.length
 have core:∀H:Hp,y2 H→SqL K H a (ns.map V.int)→HOk P w H s₁.heap→(∀b,H b≠none→b=a)→(H a≠none→K.lookup a=none)→
   codeAny (model P w) callerA (.call (.ref fa) ⟨[.ref a],[]⟩) (fun r s'=>r=.ok (.ret (.bool true))∧OldK s₁.heap s'.heap∧s'.os=s₁.os∧AllBare s'.gens) s₁:=by
  intro H hO hS hok hA hK
  have base_of:∀{b:Addr}{o:Obj},s₁.heap.get? b=some o→H b=none→(ky s₁.heap H).get? b=some o:=fun e n=>rQ e n
  have noA:∀{b:Addr}{o:Obj}{es:Array DictEntry}{ep:Nat},s₁.heap.get? b=some o→o.data=.dict es ep→H b=none:=fun {b o es ep} e d=>by
   cases q:H b with
   | none=>rfl
   | some u =>
    have e':b=a:=hA b (by rw[q];simp)
    subst e'
    rw[ha]at e;cases e
    have d':Data.seq vs.toArray _=Data.dict es ep:=d
    cases d'
  have nsK:∀{b:Addr}{m:Str→Option Value},s₁.heap.Ns b m→(ky s₁.heap H).Ns b m:=fun {b m} ⟨o,es,ep,e,d,r⟩=>⟨o,es,ep,base_of e (noA e d),d,r⟩
  have hKb:K.In (ky s₁.heap H):=fun b o e=>base_of (KX b o e) (by
   cases q:H b with
   | none=>rfl
   | some u =>
    have e':b=a:=hA b (by rw[q];simp)
    subst e'
    rw[hK (by rw[q];simp)]at e;cases e)
  have hM:Mod K mg (ky s₁.heap H):=⟨hKb,nsK hns,⟨mb,nsK hb,hbb⟩,let⟨mc,h1,h2⟩:=hlim;⟨mc,nsK h1,h2⟩⟩
  have e0:nG P w K mg (ky s₁.heap H) callerA [] s₁ H:=⟨rfl,hM,fun b o e=>uA e,Nat.le_of_eq (pL _ _),trivial,fun b hb=>absurd (show b ∈([]:List Addr)from hb) (by simp),hok,.of_eq hg⟩
  refine codeAny_mono ((F _ hKb (nsK hns)).run callerA [] s₁ H ⟨[.ref a],[]⟩ [.ref a] [.ref a] _ _ hr e0 (hbind s₁ (.ref a)) (.cons rfl .nil) (hsp H hO hS)) fun r s' h=>?_
  cases r with
  | error e=>exact(hCX H e s' h).elim
  | ok fl =>
   cases fl with
   | next=>exact False.elim h
   | brk=>exact False.elim h
   | cont=>exact False.elim h
   | ret u =>
    obtain⟨v,H',os,bare,un,hok',r',q⟩:=h
    have q':v=.bl true:=q
    subst q'
    obtain rfl:u=Value.bool true:=r'
    refine⟨rfl,OldK.of_keep fun b o e=>?_,os,bare⟩
    cases q:H b with
    | none=>exact un.keep b o e q (by intro z;exact absurd (show b ∈([]:List Addr)from z) (by simp)) (by simp)
    | some u =>
     rcases hO b with z |⟨ob,xs,z⟩
     ·rw[q]at z;cases z
     ·have z2:=un.frzs b ob _ z
      obtain⟨e1,_⟩:=hok b _ z
      obtain⟨e2,_⟩:=hok' b _ z2
      rw[e]at e1;cases e1
      exact e2
 cases hk:K.lookup a with
 | some o =>
  have e:=KX a o hk
  rw[ha]at e
  cases e
  refine core (fun _=>none) (fun _=>.inl rfl) (.inr ⟨_,vs.toArray,_,hk,rfl,rfl,rfl,by rw[List.size_toArray,lenV];exact hl,by simpa using rv⟩) (fun b u z=>by have z':(none:Option HO)=some u:=z;cases z') (fun b z=>absurd rfl z) fun z=>absurd rfl z
 | none =>
  refine core (fun b=>if b=a then some (.frz { cls:=.type "list", data:=.seq vs.toArray } (.lst (ns.map V.int)))else none) (fun b=>?_) (.inl (.inr ⟨{ cls:=.type "list", data:=.seq vs.toArray },if_pos rfl⟩)) (fun b u z=>?_) (fun b z=>?_) fun _=>hk
  ·by_cases hb:b=a
   ·exact .inr ⟨_,_,if_pos hb⟩
   ·exact .inl (if_neg hb)
  ·by_cases hb:b=a
   ·have z':=(if_pos hb).symm.trans z
    cases z'
    subst hb
    exact⟨ha,by rw[List.length_map];exact hl,vs,_,rv,ha⟩
   ·have z':=(if_neg hb).symm.trans z
    cases z'
  ·by_cases hb:b=a
   ·exact hb
   ·exact absurd (if_neg hb) z
end L2
namespace L2
open PySem PySem.Spec PyProof.Rows
theorem tm{l:PySem.W.OpenLaw}{n k:Nat}{q:Program}{loose:List Str}{XP:(Str→Option Value)→Heap→Prop}{YP:World→Heap→Prop}{d:DefRec}{K:Params→PySem.W.Frag}{CX:World→CXT}{sp:World→Sp}{x:Str}
  (hn:l.most=some n) (hn2:n≤sizeLine) (hdf:d.params.defaults=[]) (hr:ck k callerA)
  (hY:∀(w:World) (h:Heap),YP w h→(K w.params).In h)
  (F:∀ (w:World) (mg:Str→Option Value) (fa:Addr) (h:Heap),(K w.params).In h→h.Ns mainGlobals mg→mg d.name=some (.ref fa) →
   ∃fd:FuncData,(∀(s:Shared) (u:Value),BindsTo s fd ⟨[u],[]⟩ [(x,u)])∧
    ∀base:Heap,(K w.params).In base→base.Ns mainGlobals mg→bR l.prog w (K w.params) mg base (CX w) k fa fd [x] (sp w))
  (hsp:∀(w:World) (H:Hp) (a:Addr) (ns:List Int),ns.length≤n→y2 H→SqL (K w.params) H a (ns.map V.int)→sp w [.ref a] H (fun v _=>v=.bl true) fun _ _ _=>False)
  (hCX:∀(w:World) (H:Hp) (s:Shared) (e:Value) (s':Shared),CX w [] H s (fun _ _ _=>False) e s'→False) :
  PySem.W.WalkO q loose XP YP l.row.toRowW d [] (fun f vs=>PySem.call f vs):=by
 refine Att.attach_call hn hdf fun w s₀ s₁ mg mb fa o pm cd doc a vs ns G Y ho hd hcd hmg hobj hints hlen hg=>?_
 have KX:=hY w _ Y
 obtain⟨fd,hb,hF⟩:=F w mg fa _ KX G.T.g hmg
 exact rE KX G.T.g G.T.b G.T.builtins G.T.nolimit hg hobj hints (Nat.le_trans hlen hn2) hr hF hb (fun H hO hS=>hsp w H a ns hlen hO hS) fun H e s'=>hCX w H s₁ e s'
end L2
namespace L2
open PySem PySem.Spec PyProof.Rows
def uV(s:Stmt)(j:Nat):Stmt:=match s with
 | .ClassDef _ _ _ body _ _ _ _ _ _ _=>body.getD j (.Pass ⟨0,0,0,0⟩)
 | _=>.Pass ⟨0,0,0,0⟩
def bD(s:Stmt):Arguments:=match s with
 | .FunctionDef _ a _ _ _ _ _ _ _ _=>a
 | _=>{ posonlyargs:=[],args:=[],vararg:=none,kwonlyargs:=[],kw_defaults:=[],kwarg:=none,defaults:=[] }
def aQ(s:Stmt):List Stmt:=match s with
 | .FunctionDef _ _ b _ _ _ _ _ _ _=>b
 | _=>[]
def am(s:Stmt):Scope:=match s with
 | .FunctionDef _ _ _ _ _ _ sc _ _ _=>sc
 | _=>{ kind:=.function,names:=[],isGenerator:=false,isCoroutine:=false }
abbrev CX0:CXT:=fun _ _ _ _ _ _=>False
structure Fun(K:PySem.W.Frag)(x qual:Str)(st:Stmt)(f:Addr)(fd:FuncData):Prop where
 ex:∃(oc:Value) (od:Option Addr) (kV doc pm:Value) (an:Option Addr) (cdv ct:Value) (osl:Array (Option Value)),
  fd=PySem.W.fnOf x qual (bD st) (aQ st) (am st) .none kV doc pm an cdv ct∧K.lookup f=some ⟨oc,od,.func fd,osl⟩∧PySem.W.codeIn K cdv qual=true
 kp:PySem.W.keepIn K (.ref f)=true
section
variable{P:Program}{w:World}{K:PySem.W.Frag}{mg:Str→Option Value}{base:Heap}
theorem Fun.ok{x qual:Str}{st:Stmt}{f:Addr}{fd:FuncData}{N ps:List Str}{k:Nat}{sp:Sp}(F:Fun K x qual st f fd)(S:bV N ps (am st))(len:∀vs H Q E,sp vs H Q E→vs.length=ps.length)
  (hbody:∀ (cdv:Value) (A:Around) (outer:List Env) (s:Shared) (H:Hp) (vs:List V) (Q:VK) (E:XK),ck k (A.deeper (envOfC qual (am st) s.heap.objs.size f cdv))→sp vs H Q E →
   ∃t,PSs (cj CX0 P w K mg base N qual (am st) f cdv A outer s H E).nox (aQ st) t∧t { nx:=fun _ H'=>Q .non H',rt:=Q } (ef N vs) H):bR P w K mg base CX0 (k+1) f fd ps sp:=by
 obtain⟨oc,od,kV,doc,pm,an,cdv,ct,osl,rfl,lk,hcd⟩:=F.ex
 refine oz lk hcd S len fun A outer s H vs Q E hr hsp=>?_
 obtain⟨t,h,q⟩:=hbody cdv A outer s H vs Q E hr hsp
 exact⟨t,h.nox,q⟩
theorem Fun.binds{x qual:Str}{st:Stmt}{f:Addr}{fd:FuncData}{ps:List Str}(F:Fun K x qual st f fd)
  (h:∀(kV doc pm:Value) (an:Option Addr) (cdv ct:Value) (us:List Value),us.length=ps.length→bindArgs (PySem.W.fnOf x qual (bD st) (aQ st) (am st) .none kV doc pm an cdv ct) ⟨us,[]⟩=pure (ps.zip us)):cH K fd ps []:=by
 obtain⟨oc,od,kV,doc,pm,an,cdv,ct,osl,rfl,lk,hcd⟩:=F.ex
 exact .all (h kV doc pm an cdv ct)
end
section
variable{X:Cx}
theorem pv(i:Nat){x:Str}{pos:Pos}(hN:X.N[i]?=some x:=by rfl)(hv:Vis X.env.scope x:=by first | exact Or.inl rfl | exact Or.inr (Or.inl rfl) | exact Or.inr (Or.inr rfl))(hd:(x ==("__debug__" : Str))=false:=by decide)
  (hcd:(x ==("__classdict__" : Str))=false:=by decide):PE X (.Name x pos) (zx i):=eM hN hv hd hcd
end
def l7(H H':Hp):Prop:=∀b o,H b=some o→H' b=some o
theorem l7.trans{H H1 H2:Hp}(a:l7 H H1)(b:l7 H1 H2):l7 H H2:=fun c o h=>b c o (a c o h)
theorem l7.free{H H':Hp}(e:l7 H H'){l:Addr}(h:H' l=Option.none):H l=Option.none:=by
 cases q:H l with
 | none=>rfl
 | some o =>
  rw[e l o q]at h
  cases h
theorem l7.seq{K:PySem.W.Frag}{H H':Hp}{a:Addr}{xs:List V}(e:l7 H H')(h:SqL K H a xs):SqL K H' a xs:=by
 rcases h with(h |⟨o,h⟩) | h
 ·exact .inl (.inl (e _ _ h))
 ·exact .inl (.inr ⟨o,e _ _ h⟩)
 ·exact .inr h
end L2
set_option maxHeartbeats 4000000
namespace PR
open PySem
inductive Fl where
 | own | frz | bor | lnt | mod
 deriving DecidableEq
inductive PV where
 | non
 | bl (b:Bool)
 | int (i:Int)
 | str (x:Str)
 | lst (f:Fl) (xs:List PV)
 | tup (xs:List PV)
 | obj (f:Fl) (c:Nat) (ks:List Nat) (vs:List PV)
 | exc (c:Nat)
mutual
def PV.mapF(g:Fl→Fl):PV→PV
 | .non=>.non
 | .bl b=>.bl b
 | .int i=>.int i
 | .str x=>.str x
 | .lst f xs=>.lst (g f) (mapL g xs)
 | .tup xs=>.tup (mapL g xs)
 | .obj f c ks vs=>.obj (g f) c ks (mapL g vs)
 | .exc c=>.exc c
def mapL(g:Fl→Fl):List PV→List PV
 | []=>[]
 | x::xs=>x.mapF g::mapL g xs
end
mutual
def PV.has(p:Fl→Bool):PV→Bool
 | .non=>false
 | .bl _=>false
 | .int _=>false
 | .str _=>false
 | .lst f xs=>p f||hasL p xs
 | .tup xs=>hasL p xs
 | .obj f _ _ vs=>p f||hasL p vs
 | .exc _=>false
def hasL(p:Fl→Bool):List PV→Bool
 | []=>false
 | x::xs=>x.has p||hasL p xs
end
def Fl.isLnt:Fl→Bool
 | .lnt=>true
 | _=>false
def Fl.isBor:Fl→Bool
 | .bor=>true
 | _=>false
def Fl.lend:Fl→Fl
 | .own=>.lnt
 | f=>f
def Fl.freeze:Fl→Fl
 | .own=>.frz
 | f=>f
def Fl.toBor:Fl→Fl
 | .lnt=>.bor
 | f=>f
inductive Res(α:Type) where
 | ok (a:α)
 | exc (c:Nat)
 | stuck
def Res.bind{α β:Type}:Res α→(α→Res β)→Res β
 | .ok a,k=>k a
 | .exc c,_=>.exc c
 | .stuck,_=>.stuck
@[simp] theorem Res.ok_bind{α β:Type}(a:α)(k:α→Res β):(Res.ok a).bind k=k a:=by simp only[Res.bind]
@[simp] theorem Res.exc_bind{α β:Type}(c:Nat)(k:α→Res β):(Res.exc c:Res α).bind k=.exc c:=rfl
@[simp] theorem Res.stuck_bind{α β:Type}(k:α→Res β):(Res.stuck:Res α).bind k=.stuck:=rfl
abbrev En:=List (Option PV)
abbrev ME:=En→Res PV
abbrev MT:=En→Res Bool
abbrev MA:=En→Res (List PV)
inductive Out where
 | next (e:En)
 | ret (v:PV)
 | brk (e:En)
 | cont (e:En)
 | exc (c:Nat) (e:En)
 | stuck
abbrev MS:=En→Out
def mC(v:PV):ME:=fun _=>.ok v
def ac(i:Nat):ME:=fun env=>match env[i]? with
 | some (some v)=>.ok (v.mapF Fl.lend)
 | _=>.stuck
def ai:MA:=fun _=>.ok []
def ad(a:ME)(r:MA):MA:=fun env=>(a env).bind fun x=>(r env).bind fun xs=>.ok (x::xs)
def mUn(f:PV→Res PV)(a:ME):ME:=fun env=>(a env).bind f
def mOp(f:PV→PV→Res PV)(a b:ME):ME:=fun env=>(a env).bind fun x=>(b env).bind fun y=>f x y
def iS(g:Int→Int→PV):PV→PV→Res PV
 | .int i,.int j=>.ok (g i j)
 | _,_=>.stuck
def dG(C:Int→Int→Bool)(g:Int→Int→PV):PV→PV→Res PV
 | .int i,.int j=>if C i j then .ok (g i j)else .stuck
 | _,_=>.stuck
def kf:PV→Res Bool
 | .non=>.ok false
 | .bl b=>.ok b
 | .int i=>.ok (i != 0)
 | .lst _ xs=>.ok (!xs.isEmpty)
 | .tup xs=>.ok (!xs.isEmpty)
 | _=>.stuck
def aq(a:ME):MT:=fun env=>(a env).bind fun
 | .bl b=>.ok b
 | _=>.stuck
def aV(a:ME):MT:=fun env=>(a env).bind kf
def f_(a:MT):MT:=fun env=>(a env).bind fun b=>.ok (!b)
def dC(a b:MT):MT:=fun env=>(a env).bind fun x=>if x then b env else .ok false
def dh(a b:MT):MT:=fun env=>(a env).bind fun x=>if x then .ok true else b env
def jq(c:MT)(a b:ME):ME:=fun env=>(c env).bind fun x=>if x then a env else b env
def aB:MS:=.next
def ak(a b:MS):MS:=fun env=>match a env with
 | .next e=>b e
 | o=>o
def mBr(c:MT)(a b:MS):MS:=fun env=>match c env with
 | .ok true=>a env
 | .ok false=>b env
 | .exc k=>.exc k env
 | .stuck=>.stuck
def PV.noLnt(v:PV):Bool:=!v.has Fl.isLnt
def b9(env:List (Option PV)):Bool:=match env[0]? with
 | some (some (PV.obj _ _ _ _))=>true
 | _=>false
def bq(i:Nat)(env:En):Bool:=if i=0 then !b9 env else true
def aE(i:Nat)(e:ME):MS:=fun env=>match e env with
 | .ok v=>if v.noLnt&&bq i env then .next (env.set i (some v))else .stuck
 | .exc k=>.exc k env
 | .stuck=>.stuck
def bG(e:ME):MS:=fun env=>match e env with
 | .ok v=>if v.noLnt then .ret v else .stuck
 | .exc k=>.exc k env
 | .stuck=>.stuck
def dA(i:Nat):MS:=fun env=>match env[i]? with
 | some (some v)=>.ret v
 | _=>.stuck
def cq(e:ME):MS:=fun env=>match e env with
 | .ok _=>.next env
 | .exc k=>.exc k env
 | .stuck=>.stuck
def fD(i:Nat):MS:=fun env=>match env[i]? with
 | some (some v)=>.next (env.set i (some (v.mapF Fl.freeze)))
 | _=>.stuck
def jt(body:PV→MS):List PV→En→Out
 | [],env=>.next env
 | x::xs,env=>match body x env with
  | .next e=>jt body xs e
  | .cont e=>jt body xs e
  | .brk e=>.next e
  | o=>o
end PR
namespace PR
open PySem PySem.Spec L2
structure Tb where
 K:PySem.W.Frag
 nc:Nat
 cls:Nat→Addr
 att:Nat→Str
 inj:∀i j,att i=att j→i=j
 xcl:Nat→Addr
def s_(C a:Addr):HO:=.ext fun h=>∃o,h.get? a=some o∧o.cls=.ref C
def KL(K:PySem.W.Frag)(a:Addr)(xs:List V):Prop:=∃(o:Obj) (its:Array Value) (n:Nat),K.lookup a=some o∧o.cls=.type "list" ∧ o.dict=none∧o.data=.seq its n∧its.size≤sizeLine∧aC xs its.toList
def vw:Fl→Addr→List Addr→List Addr→Prop
 | .own,a,fp',fp=>fp=a::fp'
 | _,_,fp',fp=>fp'=[]∧fp=[]
def CB(F B L:Addr→Prop):Fl→Addr→Prop
 | .own,_=>True
 | .frz,a=>F a
 | .bor,a=>B a
 | .lnt,a=>L a
 | .mod,_=>False
def l8(T:Tb)(F B L:Addr→Prop)(H:Hp):Fl→Addr→List V→Prop
 | .own,a,vs=>H a=some (.lst vs)
 | .lnt,a,vs=>L a∧H a=some (.lst vs)
 | .frz,a,vs=>F a∧Rd H a (.lst vs)
 | .bor,a,vs=>B a∧Rd H a (.lst vs)
 | .mod,a,vs=>KL T.K a vs
theorem l8.sq{T:Tb}{F B L:Addr→Prop}{H:Hp}{f:Fl}{a:Addr}{vs:List V}(h:l8 T F B L H f a vs):SqL T.K H a vs:=by
 cases f with
 | own=>exact SqL.of h
 | lnt=>exact SqL.of h.2
 | frz=>exact .inl h.2
 | bor=>exact .inl h.2
 | mod=>exact .inr h
mutual
def Rel(T:Tb)(F B L:Addr→Prop)(H:Hp):PV→V→List Addr→Prop
 | .non,v,fp=>v=.non∧fp=[]
 | .bl b,v,fp=>v=.bl b∧fp=[]
 | .int i,v,fp=>v=.int i∧fp=[]
 | .str x,v,fp=>v=.str x∧fp=[]
 | .lst f xs,v,fp=>∃a vs fp',v=.ref a∧l8 T F B L H f a vs∧RelL T F B L H xs vs fp'∧vw f a fp' fp
 | .tup xs,v,fp=>∃a vs,v=.ref a∧SqT T.K H a vs∧RelL T F B L H xs vs fp
 | .obj f c ks xs,v,fp=>∃a dx vs fp',v=.ref a∧H a=some (.ins (T.cls c) dx ((ks.map T.att).zip vs))∧(ks.length=xs.length∧c < T.nc)∧RelL T F B L H xs vs fp'∧vw f a fp' fp∧CB F B L f a
 | .exc c,v,fp=>∃a,v=.ref a∧H a=some (s_ (T.xcl c) a)∧fp=[]
def RelL(T:Tb)(F B L:Addr→Prop)(H:Hp):List PV→List V→List Addr→Prop
 | [],vs,fp=>vs=[]∧fp=[]
 | x::xs,vs,fp=>∃v ws f1 f2,vs=v::ws∧Rel T F B L H x v f1∧RelL T F B L H xs ws f2∧fp=f1++f2
end
def hZ:HO→Prop
 | .tup _=>True
 | .frz _ (.tup _)=>True
 | .ext _=>True
 | _=>False
section
variable{T:Tb}{F F' B B' L L':Addr→Prop}{H H':Hp}
theorem Rd.tr{a:Addr}{u:HO}(h:∀o,H a=some o→H' a=some o)(q:Rd H a u):Rd H' a u:=by
 rcases q with q |⟨o,q⟩
 ·exact .inl (h _ q)
 ·exact .inr ⟨o,h _ q⟩
theorem SqT.tr{K:PySem.W.Frag}{a:Addr}{vs:List V}(h:∀o,H a=some o→hZ o→H' a=some o)(q:SqT K H a vs):SqT K H' a vs:=by
 rcases q with(q |⟨o,q⟩) | q
 ·exact .inl (.inl (h _ q True.intro))
 ·exact .inl (.inr ⟨o,h _ q True.intro⟩)
 ·exact .inr q
mutual
theorem Rel.tr(hF:∀a,F a→F' a)(hB:∀a,B a→B' a)(hL:∀a,L a→L' a)(hx:∀a o,H a=some o→(F a∨B a∨L a∨hZ o)→H' a=some o) :
  ∀{x:PV}{v:V}{fp:List Addr},(∀a∈fp,∀o,H a=some o→H' a=some o)→Rel T F B L H x v fp→Rel T F' B' L' H' x v fp
 | .non,_,_,_,h=>by unfold Rel at h ⊢;exact h
 | .bl _,_,_,_,h=>by unfold Rel at h ⊢;exact h
 | .int _,_,_,_,h=>by unfold Rel at h ⊢;exact h
 | .str _,_,_,_,h=>by unfold Rel at h ⊢;exact h
 | .lst f xs,_,fp,hp,h=>by
  unfold Rel at h ⊢
  obtain⟨a,vs,fp',e,hl,hr,hf⟩:=h
  cases f with
  | own =>
   obtain rfl:fp=a::fp':=hf
   exact⟨a,vs,fp',e,hp a List.mem_cons_self _ hl,RelL.tr hF hB hL hx (fun b hb=>hp b (List.mem_cons_of_mem _ hb)) hr,rfl⟩
  | frz =>
   obtain⟨rfl,rfl⟩:=hf
   exact⟨a,vs,[],e,⟨hF a hl.1,Rd.tr (fun o q=>hx a o q (.inl hl.1)) hl.2⟩,RelL.tr hF hB hL hx hp hr,rfl,rfl⟩
  | bor =>
   obtain⟨rfl,rfl⟩:=hf
   exact⟨a,vs,[],e,⟨hB a hl.1,Rd.tr (fun o q=>hx a o q (.inr (.inl hl.1))) hl.2⟩,RelL.tr hF hB hL hx hp hr,rfl,rfl⟩
  | lnt =>
   obtain⟨rfl,rfl⟩:=hf
   exact⟨a,vs,[],e,⟨hL a hl.1,hx a _ hl.2 (.inr (.inr (.inl hl.1)))⟩,RelL.tr hF hB hL hx hp hr,rfl,rfl⟩
  | mod =>
   obtain⟨rfl,rfl⟩:=hf
   exact⟨a,vs,[],e,hl,RelL.tr hF hB hL hx hp hr,rfl,rfl⟩
 | .tup xs,_,fp,hp,h=>by
  unfold Rel at h ⊢
  obtain⟨a,vs,e,hl,hr⟩:=h
  exact⟨a,vs,e,SqT.tr (fun o q z=>hx a o q (.inr (.inr (.inr z)))) hl,RelL.tr hF hB hL hx hp hr⟩
 | .obj f c ks xs,_,fp,hp,h=>by
  unfold Rel at h ⊢
  obtain⟨a,dx,vs,fp',e,hl,hk,hr,hf,ha⟩:=h
  cases f with
  | own =>
   obtain rfl:fp=a::fp':=hf
   exact⟨a,dx,vs,fp',e,hp a List.mem_cons_self _ hl,hk,RelL.tr hF hB hL hx (fun b hb=>hp b (List.mem_cons_of_mem _ hb)) hr,rfl,True.intro⟩
  | frz =>
   obtain⟨rfl,rfl⟩:=hf
   exact⟨a,dx,vs,[],e,hx a _ hl (.inl ha),hk,RelL.tr hF hB hL hx hp hr,⟨rfl,rfl⟩,hF a ha⟩
  | bor =>
   obtain⟨rfl,rfl⟩:=hf
   exact⟨a,dx,vs,[],e,hx a _ hl (.inr (.inl ha)),hk,RelL.tr hF hB hL hx hp hr,⟨rfl,rfl⟩,hB a ha⟩
  | lnt =>
   obtain⟨rfl,rfl⟩:=hf
   exact⟨a,dx,vs,[],e,hx a _ hl (.inr (.inr (.inl ha))),hk,RelL.tr hF hB hL hx hp hr,⟨rfl,rfl⟩,hL a ha⟩
  | mod=>exact ha.elim
 | .exc c,_,fp,hp,h=>by
  unfold Rel at h ⊢
  obtain⟨a,e,hl,hf⟩:=h
  exact⟨a,e,hx a _ hl (.inr (.inr (.inr True.intro))),hf⟩
theorem RelL.tr(hF:∀a,F a→F' a)(hB:∀a,B a→B' a)(hL:∀a,L a→L' a)(hx:∀a o,H a=some o→(F a∨B a∨L a∨hZ o)→H' a=some o) :
  ∀{xs:List PV}{vs:List V}{fp:List Addr},(∀a∈fp,∀o,H a=some o→H' a=some o)→RelL T F B L H xs vs fp→RelL T F' B' L' H' xs vs fp
 | [],_,_,_,h=>by unfold RelL at h ⊢;exact h
 | x::xs,_,fp,hp,h=>by
  unfold RelL at h ⊢
  obtain⟨v,ws,f1,f2,e,h1,h2,rfl⟩:=h
  exact⟨v,ws,f1,f2,e,Rel.tr hF hB hL hx (fun b hb=>hp b (List.mem_append_left _ hb)) h1,RelL.tr hF hB hL hx (fun b hb=>hp b (List.mem_append_right _ hb)) h2,rfl⟩
end
def Ext(H H':Hp):Prop:=∀a o,H a=some o→H' a=some o
theorem Ext.refl{H:Hp}:Ext H H:=fun _ _ h=>h
theorem Ext.trans{H H1 H2:Hp}(a:Ext H H1)(b:Ext H1 H2):Ext H H2:=fun c o h=>b c o (a c o h)
theorem Ext.upd{H:Hp}{a:Addr}{o:HO}(h:H a=none):Ext H (L2.upd H a o):=fun b u e=>by rw[ay (bh e h)];exact e
theorem Ext.free{H H':Hp}(x:Ext H H'){a:Addr}(h:H' a=none):H a=none:=by
 cases e:H a with
 | none=>rfl
 | some o=>rw[x a o e]at h;cases h
theorem Rel.ext{x:PV}{v:V}{fp:List Addr}(e:Ext H H')(hF:∀a,F a→F' a)(h:Rel T F B L H x v fp):Rel T F' B L H' x v fp :=
 Rel.tr hF (fun _ h=>h) (fun _ h=>h) (fun a o q _=>e a o q) (fun a _ o q=>e a o q) h
theorem RelL.ext{xs:List PV}{vs:List V}{fp:List Addr}(e:Ext H H')(hF:∀a,F a→F' a)(h:RelL T F B L H xs vs fp):RelL T F' B L H' xs vs fp :=
 RelL.tr hF (fun _ h=>h) (fun _ h=>h) (fun a o q _=>e a o q) (fun a _ o q=>e a o q) h
theorem RelL.length:∀{xs:List PV}{vs:List V}{fp:List Addr},RelL T F B L H xs vs fp→xs.length=vs.length
 | [],_,_,h=>by unfold RelL at h;rw[h.1];rfl
 | x::xs,_,_,h=>by
  unfold RelL at h
  obtain⟨v,ws,f1,f2,rfl,_,h2,_⟩:=h
  simp[RelL.length h2]
mutual
theorem Rel.there:∀{x:PV}{v:V}{fp:List Addr},Rel T F B L H x v fp→∀a∈fp,∃o,H a=some o
 | .non,_,_,h=>by unfold Rel at h;rw[h.2];exact fun _ z=>nomatch z
 | .bl _,_,_,h=>by unfold Rel at h;rw[h.2];exact fun _ z=>nomatch z
 | .int _,_,_,h=>by unfold Rel at h;rw[h.2];exact fun _ z=>nomatch z
 | .str _,_,_,h=>by unfold Rel at h;rw[h.2];exact fun _ z=>nomatch z
 | .lst f xs,_,fp,h=>by
  unfold Rel at h
  obtain⟨a,vs,fp',e,hl,hr,hf⟩:=h
  cases f with
  | own =>
   obtain rfl:fp=a::fp':=hf
   intro b hb
   rcases List.mem_cons.mp hb with rfl | hb
   ·exact⟨_,hl⟩
   ·exact RelL.there hr b hb
  | frz=>obtain⟨rfl,rfl⟩:=hf;exact fun _ z=>nomatch z
  | bor=>obtain⟨rfl,rfl⟩:=hf;exact fun _ z=>nomatch z
  | lnt=>obtain⟨rfl,rfl⟩:=hf;exact fun _ z=>nomatch z
  | mod=>obtain⟨rfl,rfl⟩:=hf;exact fun _ z=>nomatch z
 | .tup xs,_,fp,h=>by
  unfold Rel at h
  obtain⟨a,vs,e,hl,hr⟩:=h
  exact RelL.there hr
 | .obj f c ks xs,_,fp,h=>by
  unfold Rel at h
  obtain⟨a,dx,vs,fp',e,hl,hk,hr,hf,ha⟩:=h
  cases f with
  | own =>
   obtain rfl:fp=a::fp':=hf
   intro b hb
   rcases List.mem_cons.mp hb with rfl | hb
   ·exact⟨_,hl⟩
   ·exact RelL.there hr b hb
  | frz=>obtain⟨rfl,rfl⟩:=hf;exact fun _ z=>nomatch z
  | bor=>obtain⟨rfl,rfl⟩:=hf;exact fun _ z=>nomatch z
  | lnt=>obtain⟨rfl,rfl⟩:=hf;exact fun _ z=>nomatch z
  | mod=>obtain⟨rfl,rfl⟩:=hf;exact fun _ z=>nomatch z
 | .exc c,_,fp,h=>by
  unfold Rel at h
  obtain⟨a,e,hl,rfl⟩:=h
  exact fun _ z=>nomatch z
theorem RelL.there:∀{xs:List PV}{vs:List V}{fp:List Addr},RelL T F B L H xs vs fp→∀a∈fp,∃o,H a=some o
 | [],_,_,h=>by unfold RelL at h;rw[h.2];exact fun _ z=>nomatch z
 | x::xs,_,_,h=>by
  unfold RelL at h
  obtain⟨v,ws,f1,f2,_,h1,h2,rfl⟩:=h
  intro b hb
  rcases List.mem_append.mp hb with hb | hb
  ·exact Rel.there h1 b hb
  ·exact RelL.there h2 b hb
end
def Chg:HO→Prop
 | .lst _=>True
 | .ins _ _ _=>True
 | _=>False
mutual
theorem Rel.chg:∀{x:PV}{v:V}{fp:List Addr},Rel T F B L H x v fp→∀a∈fp,∃o,H a=some o∧Chg o
 | .non,_,_,h=>by unfold Rel at h;rw[h.2];exact fun _ z=>nomatch z
 | .bl _,_,_,h=>by unfold Rel at h;rw[h.2];exact fun _ z=>nomatch z
 | .int _,_,_,h=>by unfold Rel at h;rw[h.2];exact fun _ z=>nomatch z
 | .str _,_,_,h=>by unfold Rel at h;rw[h.2];exact fun _ z=>nomatch z
 | .lst f xs,_,fp,h=>by
  unfold Rel at h
  obtain⟨a,vs,fp',e,hl,hr,hf⟩:=h
  cases f with
  | own =>
   obtain rfl:fp=a::fp':=hf
   intro b hb
   rcases List.mem_cons.mp hb with rfl | hb
   ·exact⟨_,hl,True.intro⟩
   ·exact RelL.chg hr b hb
  | frz=>obtain⟨rfl,rfl⟩:=hf;exact fun _ z=>nomatch z
  | bor=>obtain⟨rfl,rfl⟩:=hf;exact fun _ z=>nomatch z
  | lnt=>obtain⟨rfl,rfl⟩:=hf;exact fun _ z=>nomatch z
  | mod=>obtain⟨rfl,rfl⟩:=hf;exact fun _ z=>nomatch z
 | .tup xs,_,fp,h=>by
  unfold Rel at h
  obtain⟨a,vs,e,hl,hr⟩:=h
  exact RelL.chg hr
 | .obj f c ks xs,_,fp,h=>by
  unfold Rel at h
  obtain⟨a,dx,vs,fp',e,hl,hk,hr,hf,ha⟩:=h
  cases f with
  | own =>
   obtain rfl:fp=a::fp':=hf
   intro b hb
   rcases List.mem_cons.mp hb with rfl | hb
   ·exact⟨_,hl,True.intro⟩
   ·exact RelL.chg hr b hb
  | frz=>obtain⟨rfl,rfl⟩:=hf;exact fun _ z=>nomatch z
  | bor=>obtain⟨rfl,rfl⟩:=hf;exact fun _ z=>nomatch z
  | lnt=>obtain⟨rfl,rfl⟩:=hf;exact fun _ z=>nomatch z
  | mod=>obtain⟨rfl,rfl⟩:=hf;exact fun _ z=>nomatch z
 | .exc c,_,fp,h=>by
  unfold Rel at h
  obtain⟨a,e,hl,rfl⟩:=h
  exact fun _ z=>nomatch z
theorem RelL.chg:∀{xs:List PV}{vs:List V}{fp:List Addr},RelL T F B L H xs vs fp→∀a∈fp,∃o,H a=some o∧Chg o
 | [],_,_,h=>by unfold RelL at h;rw[h.2];exact fun _ z=>nomatch z
 | x::xs,_,_,h=>by
  unfold RelL at h
  obtain⟨v,ws,f1,f2,_,h1,h2,rfl⟩:=h
  intro b hb
  rcases List.mem_append.mp hb with hb | hb
  ·exact Rel.chg h1 b hb
  ·exact RelL.chg h2 b hb
end
mutual
theorem Rel.lend:∀{x:PV}{v:V}{fp:List Addr},(∀a∈fp,L a)→Rel T F B L H x v fp→Rel T F B L H (x.mapF Fl.lend) v []
 | .non,_,_,_,h=>by unfold Rel at h;simp only[PV.mapF];unfold Rel;exact⟨h.1,rfl⟩
 | .bl _,_,_,_,h=>by unfold Rel at h;simp only[PV.mapF];unfold Rel;exact⟨h.1,rfl⟩
 | .int _,_,_,_,h=>by unfold Rel at h;simp only[PV.mapF];unfold Rel;exact⟨h.1,rfl⟩
 | .str _,_,_,_,h=>by unfold Rel at h;simp only[PV.mapF];unfold Rel;exact⟨h.1,rfl⟩
 | .lst f xs,_,fp,hp,h=>by
  unfold Rel at h
  obtain⟨a,vs,fp',e,hl,hr,hf⟩:=h
  simp only[PV.mapF]
  unfold Rel
  cases f with
  | own =>
   obtain rfl:fp=a::fp':=hf
   exact⟨a,vs,[],e,⟨hp a List.mem_cons_self,hl⟩,RelL.lend (fun b hb=>hp b (List.mem_cons_of_mem _ hb)) hr,rfl,rfl⟩
  | frz=>obtain⟨rfl,rfl⟩:=hf;exact⟨a,vs,[],e,hl,RelL.lend hp hr,rfl,rfl⟩
  | bor=>obtain⟨rfl,rfl⟩:=hf;exact⟨a,vs,[],e,hl,RelL.lend hp hr,rfl,rfl⟩
  | lnt=>obtain⟨rfl,rfl⟩:=hf;exact⟨a,vs,[],e,hl,RelL.lend hp hr,rfl,rfl⟩
  | mod=>obtain⟨rfl,rfl⟩:=hf;exact⟨a,vs,[],e,hl,RelL.lend hp hr,rfl,rfl⟩
 | .tup xs,_,fp,hp,h=>by
  unfold Rel at h
  obtain⟨a,vs,e,hl,hr⟩:=h
  simp only[PV.mapF]
  unfold Rel
  exact⟨a,vs,e,hl,RelL.lend hp hr⟩
 | .obj f c ks xs,_,fp,hp,h=>by
  unfold Rel at h
  obtain⟨a,dx,vs,fp',e,hl,hk,hr,hf,ha⟩:=h
  simp only[PV.mapF]
  unfold Rel
  cases f with
  | own =>
   obtain rfl:fp=a::fp':=hf
   have r:=RelL.lend (fun b hb=>hp b (List.mem_cons_of_mem _ hb)) hr
   exact⟨a,dx,vs,[],e,hl,⟨by rw[r.length,hk.1,hr.length],hk.2⟩,r,⟨rfl,rfl⟩,hp a List.mem_cons_self⟩
  | frz=>obtain⟨rfl,rfl⟩:=hf;have r:=RelL.lend hp hr;exact⟨a,dx,vs,[],e,hl,⟨by rw[r.length,hk.1,hr.length],hk.2⟩,r,⟨rfl,rfl⟩,ha⟩
  | bor=>obtain⟨rfl,rfl⟩:=hf;have r:=RelL.lend hp hr;exact⟨a,dx,vs,[],e,hl,⟨by rw[r.length,hk.1,hr.length],hk.2⟩,r,⟨rfl,rfl⟩,ha⟩
  | lnt=>obtain⟨rfl,rfl⟩:=hf;have r:=RelL.lend hp hr;exact⟨a,dx,vs,[],e,hl,⟨by rw[r.length,hk.1,hr.length],hk.2⟩,r,⟨rfl,rfl⟩,ha⟩
  | mod=>exact ha.elim
 | .exc c,_,fp,hp,h=>by
  unfold Rel at h
  obtain⟨a,e,hl,rfl⟩:=h
  simp only[PV.mapF]
  unfold Rel
  exact⟨a,e,hl,rfl⟩
theorem RelL.lend:∀{xs:List PV}{vs:List V}{fp:List Addr},(∀a∈fp,L a)→RelL T F B L H xs vs fp→RelL T F B L H (mapL Fl.lend xs) vs []
 | [],_,_,_,h=>by unfold RelL at h;simp only[mapL];unfold RelL;exact⟨h.1,rfl⟩
 | x::xs,_,fp,hp,h=>by
  unfold RelL at h
  obtain⟨v,ws,f1,f2,e,h1,h2,rfl⟩:=h
  simp only[mapL]
  unfold RelL
  exact⟨v,ws,[],[],e,Rel.lend (fun b hb=>hp b (List.mem_append_left _ hb)) h1,RelL.lend (fun b hb=>hp b (List.mem_append_right _ hb)) h2,rfl⟩
end
end
end PR
namespace L2
open PySem PySem.Spec
theorem PE.wk{X:Cx}{e:Expr}{t t':TE}(h:PE X e t)(w:∀σ H Q,t' σ H Q→t σ H Q):PE X e t':=fun pins s σ H Q I q=>h pins s σ H Q I (w σ H Q q)
theorem PA.wk{X:Cx}{e:List Expr}{t t':TA}(h:PA X e t)(w:∀σ H Q,t' σ H Q→t σ H Q):PA X e t':=fun pos pins s σ H Q I q=>h pos pins s σ H Q I (w σ H Q q)
theorem PT.wk{X:Cx}{e:Expr}{t t':TT}(h:PT X e t)(w:∀σ H Q,t' σ H Q→t σ H Q):PT X e t':=fun pins s σ H Q I q=>h pins s σ H Q I (w σ H Q q)
theorem PW.wk{X:Cx}{e:Expr}{t t':TT}(h:PW X e t)(w:∀σ H Q,t' σ H Q→t σ H Q):PW X e t':=fun wh pins s σ H Q I q=>h wh pins s σ H Q I (w σ H Q q)
theorem PS.wk{X:Cx}{e:Stmt}{t t':TS}(h:PS X e t)(w:∀D σ H,t' D σ H→t D σ H):PS X e t':=fun pins s σ H D I q=>h pins s σ H D I (w D σ H q)
theorem PSs.wk{X:Cx}{e:List Stmt}{t t':TS}(h:PSs X e t)(w:∀D σ H,t' D σ H→t D σ H):PSs X e t':=fun pins s σ H D I q=>h pins s σ H D I (w D σ H q)
end L2
namespace PR
open PySem PySem.Spec L2
structure Zn where
 H0:Hp
 F0:Addr→Prop
 fp0:Addr→Prop
 B:Addr→Prop
 pin:Option V:=none
abbrev NoL:Addr→Prop:=fun _=>False
structure dg(T:Tb)(Z:Zn)(F:Addr→Prop)(H:Hp):Prop where
 bo:∀a,Z.B a→(∃o,Z.H0 a=some o)∧¬Z.fp0 a
 keep:∀a o,Z.H0 a=some o→¬Z.fp0 a→H a=some o
 f0:∀a,Z.F0 a→F a
 fn:∀a,F a→Z.F0 a∨Z.H0 a=none∨Z.fp0 a
 ft:∀a,F a→∃o,H a=some o
structure ap(T:Tb)(Z:Zn)(F:Addr→Prop)(H:Hp)(σ:St)(env:En)(fp:Nat→List Addr):Prop where
 hp:dg T Z F H
 len:σ.length=env.length
 rel:∀(i:Nat) (pv:PV),env[i]?=some (some pv)→∃v,σ[i]?=some (some v)∧Rel T F Z.B NoL H pv v (fp i)
 nd:∀i,(fp i).Nodup
 dj:∀i j,i≠j→∀a∈fp i,a∉fp j
 dis:∀i,∀a∈fp i,¬F a∧∃o,H a=some o
 new:∀i,∀a∈fp i,Z.H0 a=none∨Z.fp0 a
 ch:∀i,∀a∈fp i,∃o,H a=some o∧Chg o
 pn:∀v,Z.pin=some v→σ[0]?=some (some v)∧b9 env=true
def Own(fp:Nat→List Addr):Addr→Prop:=fun a=>∃i,a∈fp i
structure Gr(F:Addr→Prop)(H:Hp)(F':Addr→Prop)(H':Hp):Prop where
 ext:Ext H H'
 mono:∀a,F a→F' a
 only:∀a,F' a→F a∨H a=none
 dom:∀a,F' a→∃o,H' a=some o
theorem Gr.refl{F:Addr→Prop}{H:Hp}(h:∀a,F a→∃o,H a=some o):Gr F H F H:=⟨Ext.refl,fun _ h=>h,fun _ h=>.inl h,h⟩
theorem Gr.trans{F F1 F2:Addr→Prop}{H H1 H2:Hp}(a:Gr F H F1 H1)(b:Gr F1 H1 F2 H2):Gr F H F2 H2 :=
 ⟨a.ext.trans b.ext,fun c h=>b.mono c (a.mono c h),fun c h=>(b.only c h).elim (a.only c) fun z=>.inr (a.ext.free z),b.dom⟩
theorem Gr.same{F:Addr→Prop}{H H':Hp}(h:∀a,F a→∃o,H a=some o)(e:Ext H H'):Gr F H F H':=⟨e,fun _ h=>h,fun _ h=>.inl h,fun a q=>let⟨o,z⟩:=h a q;⟨o,e a o z⟩⟩
section
variable{T:Tb}{Z:Zn}{F F':Addr→Prop}{H H':Hp}{σ:St}{env:En}{fp:Nat→List Addr}
theorem dg.grow(S:dg T Z F H)(g:Gr F H F' H'):dg T Z F' H' :=
 ⟨S.bo,fun a o h n=>g.ext a o (S.keep a o h n),fun a h=>g.mono a (S.f0 a h),fun a h=>by
  rcases g.only a h with z | z
  ·exact S.fn a z
  ·refine .inr ?_
   by_cases q:Z.fp0 a
   ·exact .inr q
   ·refine .inl ?_
    cases w:Z.H0 a with
    | none=>rfl
    | some o=>rw[S.keep a o w q]at z;exact(nomatch z),g.dom⟩
theorem ap.grow(S:ap T Z F H σ env fp)(g:Gr F H F' H'):ap T Z F' H' σ env fp :=
 ⟨S.hp.grow g,S.len,fun i pv h=>let ⟨v,q1,q2⟩:=S.rel i pv h;⟨v,q1,q2.ext g.ext g.mono⟩,S.nd,S.dj,fun i a h=>by
  obtain⟨n,o,q⟩:=S.dis i a h
  refine⟨fun z=>?_,o,g.ext a o q⟩
  rcases g.only a z with z | z
  ·exact n z
  ·rw[q]at z;exact(nomatch z),S.new,fun i a h=>let⟨o,q,c⟩:=S.ch i a h;⟨o,g.ext a o q,c⟩,S.pn⟩
end
def GE(T:Tb)(W:Nat→St→Hp→Prop)(B F L:Addr→Prop)(σ:St)(H:Hp)(Q:VK):Res PV→Prop
 | .ok pv=>∀v H' F' f,Gr F H F' H'→Rel T F' B L H' pv v f→(∀a∈f,¬F' a)→f.Nodup→(∀a∈f,H a=none)→Q v H'
 | .exc c=>∀H',Ext H H'→W c σ H'
 | .stuck=>False
def GA(T:Tb)(W:Nat→St→Hp→Prop)(B F L:Addr→Prop)(σ:St)(H:Hp)(Q:List V→Hp→Prop):Res (List PV)→Prop
 | .ok pvs=>∀vs H' F' f,Gr F H F' H'→RelL T F' B L H' pvs vs f→(∀a∈f,¬F' a)→f.Nodup→(∀a∈f,H a=none)→Q vs H'
 | .exc c=>∀H',Ext H H'→W c σ H'
 | .stuck=>False
def GT(W:Nat→St→Hp→Prop)(F:Addr→Prop)(σ:St)(H:Hp)(Q:Bool→Hp→Prop):Res Bool→Prop
 | .ok b=>∀H' F',Gr F H F' H'→Q b H'
 | .exc c=>∀H',Ext H H'→W c σ H'
 | .stuck=>False
def tE(T:Tb)(W:Nat→St→Hp→Prop)(m:ME):TE:=fun σ H Q=>∃Z F env fp,ap T Z F H σ env fp∧GE T W Z.B F (Own fp) σ H Q (m env)
def tA(T:Tb)(W:Nat→St→Hp→Prop)(m:MA):TA:=fun σ H Q=>∃Z F env fp,ap T Z F H σ env fp∧GA T W Z.B F (Own fp) σ H Q (m env)
def tT(T:Tb)(W:Nat→St→Hp→Prop)(m:MT):TT:=fun σ H Q=>∃Z F env fp,ap T Z F H σ env fp∧GT W F σ H Q (m env)
abbrev SE(X:Cx)(T:Tb)(W:Nat→St→Hp→Prop)(e:Expr)(m:ME):Prop:=PE X e (tE T W m)
abbrev SA(X:Cx)(T:Tb)(W:Nat→St→Hp→Prop)(es:List Expr)(m:MA):Prop:=PA X es (tA T W m)
abbrev ST(X:Cx)(T:Tb)(W:Nat→St→Hp→Prop)(e:Expr)(m:MT):Prop:=PT X e (tT T W m)
section
variable{X:Cx}{T:Tb}{W:Nat→St→Hp→Prop}{Z:Zn}{F F' B L:Addr→Prop}{H H':Hp}{σ:St}{env:En}{fp:Nat→List Addr}
theorem GE.scal{Q:VK}{pv:PV}{v:V}(q:GE T W B F L σ H Q (.ok pv))(g:Gr F H F' H')(r:Rel T F' B L H' pv v []):Q v H' :=
 q v H' F' [] g r (fun _ z=>(nomatch z)) List.nodup_nil (fun _ z=>(nomatch z))
theorem iD{e:Expr}{v:V}{pv:PV}(h:PE X e (tC v))(r:∀F B L H,Rel T F B L H pv v []):SE X T W e (mC pv):=PE.wk h fun σ H Q ⟨Z,F,env,fp,S,q⟩=>q.scal (Gr.refl S.hp.ft) (r _ _ _ _)
theorem af{i j pos}:SE X T W (.Constant (.int i) j pos) (mC (.int i)):=iD w8 fun _ _ _ _=>by unfold Rel;exact⟨rfl,rfl⟩
theorem dr{b j pos}:SE X T W (.Constant (.bool b) j pos) (mC (.bl b)):=iD zQ fun _ _ _ _=>by unfold Rel;exact⟨rfl,rfl⟩
theorem cI{j pos}:SE X T W (.Constant .none j pos) (mC .non):=iD w5 fun _ _ _ _=>by unfold Rel;exact⟨rfl,rfl⟩
theorem aD{x j pos}:SE X T W (.Constant (.str x) j pos) (mC (.str x)):=iD wZ fun _ _ _ _=>by unfold Rel;exact⟨rfl,rfl⟩
theorem wv{i:Nat}{x:Str}{pos:Pos}(hN:X.N[i]?=some x)(hv:Vis X.env.scope x)(hd:(x ==("__debug__" : Str))=false:=by decide)(hcd:(x ==("__classdict__" : Str))=false:=by decide):SE X T W (.Name x pos) (ac i) :=
 PE.wk (eM hN hv hd hcd) fun σ H Q ⟨Z,F,env,fp,S,q⟩=>by
  unfold ac at q
  split at q
  ·rename_i pv e
   obtain⟨v,e1,r⟩:=S.rel i pv e
   refine⟨v,e1,q.scal (Gr.refl S.hp.ft) ?_⟩
   exact Rel.lend (fun a h=>⟨i,h⟩) (Rel.tr (fun _ h=>h) (fun _ h=>h) (fun _ h=>h.elim) (fun a o q _=>q) (fun a _ o q=>q) r)
  ·exact q.elim
theorem tE.bind{m:ME}{Q:VK}(S:ap T Z F H σ env fp)(hx:∀c,m env=.exc c→∀H',Ext H H'→W c σ H')(hs:m env≠.stuck)
  (k:∀pv v H' F' f,m env=.ok pv→Gr F H F' H'→Rel T F' Z.B (Own fp) H' pv v f→(∀a∈f,¬F' a)→f.Nodup→(∀a∈f,H a=none)→Q v H'):tE T W m σ H Q:=by
 refine⟨Z,F,env,fp,S,?_⟩
 cases e:m env with
 | ok pv=>exact fun v H' F' f g r h1 h2 h3=>k pv v H' F' f e g r h1 h2 h3
 | exc c=>exact hx c e
 | stuck=>exact hs e
theorem tA.bind{m:MA}{Q:List V→Hp→Prop}(S:ap T Z F H σ env fp)(hx:∀c,m env=.exc c→∀H',Ext H H'→W c σ H')(hs:m env≠.stuck)
  (k:∀pvs vs H' F' f,m env=.ok pvs→Gr F H F' H'→RelL T F' Z.B (Own fp) H' pvs vs f→(∀a∈f,¬F' a)→f.Nodup→(∀a∈f,H a=none)→Q vs H'):tA T W m σ H Q:=by
 refine⟨Z,F,env,fp,S,?_⟩
 cases e:m env with
 | ok pv=>exact fun v H' F' f g r h1 h2 h3=>k pv v H' F' f e g r h1 h2 h3
 | exc c=>exact hx c e
 | stuck=>exact hs e
theorem tT.bind{m:MT}{Q:Bool→Hp→Prop}(S:ap T Z F H σ env fp)(hx:∀c,m env=.exc c→∀H',Ext H H'→W c σ H')(hs:m env≠.stuck)
  (k:∀b H' F',m env=.ok b→Gr F H F' H'→Q b H'):tT T W m σ H Q:=by
 refine⟨Z,F,env,fp,S,?_⟩
 cases e:m env with
 | ok pv=>exact fun H' F' g=>k pv H' F' e g
 | exc c=>exact hx c e
 | stuck=>exact hs e
theorem ag:SA X T W [] ai:=PA.wk fv fun σ H Q ⟨Z,F,env,fp,S,q⟩=>q [] H F [] (Gr.refl S.hp.ft) (by unfold RelL;exact⟨rfl,rfl⟩) (fun _ z=>(nomatch z)) List.nodup_nil (fun _ z=>(nomatch z))
theorem aa{e:Expr}{es:List Expr}{m:ME}{ms:MA}(ha:SE X T W e m)(hr:SA X T W es ms)(hs:starEach (e::es) X.env=(false,eval e X.env)::starEach es X.env:=by rfl):SA X T W (e::es) (ad m ms) :=
 PA.wk (cC ha hr hs) fun σ H Q ⟨Z,F,env,fp,S,q⟩=>by
  unfold ad at q
  refine tE.bind S (fun c e=>by rw[e]at q;exact q) (fun e=>by rw[e]at q;exact q) fun x v H1 F1 f1 e1 g1 r1 n1 d1 w1=>?_
  rw[e1]at q
  simp only[Res.ok_bind]at q
  refine tA.bind (S.grow g1) (fun c e=>by rw[e]at q;exact fun H' x=>q H' (g1.ext.trans x)) (fun e=>by rw[e]at q;exact q) fun xs vs H2 F2 f2 e2 g2 r2 n2 d2 w2=>?_
  rw[e2]at q
  simp only[Res.ok_bind]at q
  have new1:∀a∈f1,¬F2 a:=fun a ha z=>by
   rcases g2.only a z with z | z
   ·exact n1 a ha z
   ·obtain⟨o,ho⟩:=r1.there a ha
    rw[ho]at z;cases z
  refine q (v::vs) H2 F2 (f1++f2) (g1.trans g2) (by unfold RelL;exact⟨v,vs,f1,f2,rfl,r1.ext g2.ext g2.mono,r2,rfl⟩) (fun a ha=>?_) ?_ (fun a ha=>?_)
  ·rcases List.mem_append.mp ha with ha | ha
   ·exact new1 a ha
   ·exact n2 a ha
  ·refine List.nodup_append.mpr ⟨d1,d2,fun a ha b hb z=>?_⟩
   subst z
   obtain⟨o,ho⟩:=r1.there a ha
   rw[w2 a hb]at ho;cases ho
  ·rcases List.mem_append.mp ha with ha | ha
   ·exact w1 a ha
   ·exact g1.ext.free (w2 a ha)
def ao(f:List PV→Res PV)(ms:MA):ME:=fun env=>(ms env).bind f
def Mir(T:Tb)(W:Nat→St→Hp→Prop)(f:List PV→Res PV)(r:List V→Hp→VK→Prop):Prop :=
 ∀(B F L:Addr→Prop) (σ:St) (H:Hp) (Q:VK) (F':Addr→Prop) (H':Hp) (xs:List PV) (vs:List V) (fx:List Addr),Gr F H F' H'→RelL T F' B L H' xs vs fx→(∀a∈fx,¬F' a)→fx.Nodup→(∀a∈fx,H a=none)→
  GE T W B F L σ H Q (f xs)→r vs H' Q
theorem tA.mir{f:List PV→Res PV}{r:List V→Hp→VK→Prop}{ms:MA}{Q:VK}(hm:Mir T W f r)(h:tE T W (ao f ms) σ H Q):tA T W ms σ H fun vs H1=>r vs H1 Q:=by
 obtain⟨Z,F,env,fp,S,q⟩:=h
 unfold ao at q
 refine tA.bind S (fun c e=>by rw[e]at q;exact q) (fun e=>by rw[e]at q;exact q) fun xs vs H1 F1 f1 e1 g1 r1 n1 d1 w1=>?_
 rw[e1]at q
 exact hm Z.B F (Own fp) σ H Q F1 H1 xs vs f1 g1 r1 n1 d1 w1 q
theorem dL{id:String}{x:Str}{p pos:Pos}{e:Expr}{es:List Expr}{f:List PV→Res PV}{r:List V→Hp→VK→Prop}{ms:MA}(hc:cP X (.builtin id) r)(hmir:Mir T W f r)(hg:Gl X x)(hm:X.mg x=none)(hv:bootBuiltins x=some (.builtin id))(ha:SA X T W (e::es) ms)
  (hn:x≠"__name__" := by decide) (hdb:(x ==("__debug__" : Str))=false:=by decide)
  (he:starEach (e::es) X.env=(false,eval e X.env)::starEach es X.env:=by rfl) (hpl:(backTo pos (starEach es X.env)).any (·.1)=false:=by rfl):SE X T W (.Call (.Name x p) (e::es) [] pos) (ao f ms) :=
 PE.wk (fT hc hg hm hv ha hn hdb he hpl) fun σ H Q h=>tA.mir hmir h
theorem jH{id:String}{x:Str}{p pos:Pos}{e:Expr}{es:List Expr}{f:List PV→Res PV}{r:List V→Hp→VK→Prop}{ms:MA}(hc:cP X (.type id) r)(hmir:Mir T W f r)(hg:Gl X x)(hm:X.mg x=none)(hv:bootBuiltins x=some (.type id))(ha:SA X T W (e::es) ms)
  (hn:x≠"__name__" := by decide) (hdb:(x ==("__debug__" : Str))=false:=by decide)
  (he:starEach (e::es) X.env=(false,eval e X.env)::starEach es X.env:=by rfl) (hpl:(backTo pos (starEach es X.env)).any (·.1)=false:=by rfl):SE X T W (.Call (.Name x p) (e::es) [] pos) (ao f ms) :=
 PE.wk (jK hc hg hm hv ha hn hdb he hpl) fun σ H Q h=>tA.mir hmir h
def fK(T:Tb)(W:Nat→St→Hp→Prop)(f:PV→PV→Res PV)(r:R2):Prop :=
 ∀(B F L:Addr→Prop) (σ:St) (H:Hp) (Q:VK) (F':Addr→Prop) (H':Hp) (x y:PV) (v u:V) (fx fy:List Addr),Gr F H F' H'→Rel T F' B L H' x v fx→Rel T F' B L H' y u fy→(∀a∈fx++fy,¬F' a)→(fx++fy).Nodup→(∀a∈fx++fy,H a=none)→
  GE T W B F L σ H Q (f x y)→r v u H' Q
theorem tE.mir2{f:PV→PV→Res PV}{r:R2}{ma mb:ME}{Q:VK}(hm:fK T W f r)(h:tE T W (mOp f ma mb) σ H Q):tOp r (tE T W ma) (tE T W mb) σ H Q:=by
 obtain⟨Z,F,env,fp,S,q⟩:=h
 unfold mOp at q
 refine tE.bind S (fun c e=>by rw[e]at q;exact q) (fun e=>by rw[e]at q;exact q) fun x v H1 F1 f1 e1 g1 r1 n1 d1 w1=>?_
 rw[e1]at q
 simp only[Res.ok_bind]at q
 refine tE.bind (S.grow g1) (fun c e=>by rw[e]at q;exact fun H' x=>q H' (g1.ext.trans x)) (fun e=>by rw[e]at q;exact q) fun y u H2 F2 f2 e2 g2 r2 n2 d2 w2=>?_
 rw[e2]at q
 simp only[Res.ok_bind]at q
 have new1:∀a∈f1,¬F2 a:=fun a ha z=>by
  rcases g2.only a z with z | z
  ·exact n1 a ha z
  ·obtain⟨o,ho⟩:=r1.there a ha
   rw[ho]at z;cases z
 refine hm Z.B F (Own fp) σ H Q F2 H2 x y v u f1 f2 (g1.trans g2) (r1.ext g2.ext g2.mono) r2 (fun a ha=>?_) ?_ (fun a ha=>?_) q
 ·rcases List.mem_append.mp ha with ha | ha
  ·exact new1 a ha
  ·exact n2 a ha
 ·refine List.nodup_append.mpr ⟨d1,d2,fun a ha b hb z=>?_⟩
  subst z
  obtain⟨o,ho⟩:=r1.there a ha
  rw[w2 a hb]at ho;cases ho
 ·rcases List.mem_append.mp ha with ha | ha
  ·exact w1 a ha
  ·exact g1.ext.free (w2 a ha)
theorem iE{a b:Expr}{ma mb:ME}{op:Operator}{r:R2}{f:PV→PV→Res PV}{pos:Pos}(ho:OpR X (binaryOp op) r)(hm:fK T W f r)(ha:SE X T W a ma)(hb:SE X T W b mb):SE X T W (.BinOp a op b pos) (mOp f ma mb) :=
 PE.wk (zO (pos:=pos) ho ha hb) fun σ H Q h=>tE.mir2 hm h
theorem qo{a b:Expr}{ma mb:ME}{op:CmpOp}{r:R2}{f:PV→PV→Res PV}{pos:Pos}(ho:OpR X (compareOp op) r)(hm:fK T W f r)(ha:SE X T W a ma)(hb:SE X T W b mb)(hk:behindInMarks op b=false):SE X T W (.Compare a [op] [b] pos) (mOp f ma mb) :=
 PE.wk (ur (pos:=pos) ho ha hb hk) fun σ H Q h=>tE.mir2 hm h
theorem vF{a b:Expr}{ma mb:ME}{r:R2}{f:PV→PV→Res PV}{pos:Pos}(hr:IxR X r)(hm:fK T W f r)(ha:SE X T W a ma)(hb:SE X T W b mb)(hs:fb b):SE X T W (.Subscript a b pos) (mOp f ma mb) :=
 PE.wk (vM (pos:=pos) hr ha hb hs) fun σ H Q h=>tE.mir2 hm h
theorem kn{g:Int→Int→V}{g':Int→Int→PV}(hg:∀i j F B L H,Rel T F B L H (g' i j) (g i j) []):fK T W (iS g') (rI0 g):=by
  intro B F L σ H Q F' H' x y v u fx fy gr rx ry _ _ _ q
  cases x<;>cases y<;>first
    | exact q.elim
    | (unfold Rel at rx ry
       exact⟨_,_,rx.1,ry.1,q.scal gr (hg _ _ _ _ _ _)⟩)
theorem oi{C:Int→Int→Prop}{C':Int→Int→Bool}{g:Int→Int→V}{g':Int→Int→PV}(hc:∀i j,C' i j=true→C i j)(hg:∀i j F B L H,Rel T F B L H (g' i j) (g i j) []):fK T W (dG C' g') (rI C g):=by
  intro B F L σ H Q F' H' x y v u fx fy gr rx ry _ _ _ q
  cases x<;>cases y<;>first
    | exact q.elim
    | (unfold Rel at rx ry
       simp only[dG]at q
       split at q
       · rename_i hh
         exact⟨_,_,rx.1,ry.1,hc _ _ hh,q.scal gr (hg _ _ _ _ _ _)⟩
       · exact q.elim)
theorem d0{i:Int}:Rel T F B L H (.int i) (.int i) []:=by unfold Rel;exact⟨rfl,rfl⟩
theorem iK{i:Bool}:Rel T F B L H (.bl i) (.bl i) []:=by unfold Rel;exact⟨rfl,rfl⟩
theorem wJ:Rel T F B L H .non .non []:=by unfold Rel;exact⟨rfl,rfl⟩
def ll:PV→PV→Res PV:=iS fun i j=>.int (i - j)
def cf:PV→PV→Res PV:=dG (fun i j=>decide ((-(2 ^ 64) < i∧i < 2 ^ 64)∨(-(2 ^ 64) < j∧j < 2 ^ 64))) fun i j=>.int (i * j)
def bL:PV→PV→Res PV:=dG (fun _ j=>decide (0 < j)) fun i j=>.int (i % j)
def cE:PV→PV→Res PV:=dG (fun _ j=>decide (0 < j∧j < 1073741824)) fun i j=>.int (i / j)
def lm:PV→PV→Res PV:=dG (fun i j=>decide (0≤j∧j≤1000000∧i.natAbs < 2 ^ 64)) fun i j=>.int (i ^ j.toNat)
def pLt:PV→PV→Res PV:=iS fun i j=>.bl (decide (i < j))
def pLe:PV→PV→Res PV:=iS fun i j=>.bl (decide (i≤j))
def pGt:PV→PV→Res PV:=iS fun i j=>.bl (decide (j < i))
def pGe:PV→PV→Res PV:=iS fun i j=>.bl (decide (j≤i))
variable{a b:Expr}{ma mb:ME}{pos:Pos}
theorem gB(ha:SE X T W a ma)(hb:SE X T W b mb):SE X T W (.BinOp a .Sub b pos) (mOp ll ma mb):=iE xk (kn fun _ _ _ _ _ _=>d0) ha hb
theorem b7(ha:SE X T W a ma)(hb:SE X T W b mb):SE X T W (.BinOp a .Mult b pos) (mOp cf ma mb):=iE xo (oi (fun i j h=>(by simpa using h:(-(2 ^ 64) < i∧i < 2 ^ 64)∨(-(2 ^ 64) < j∧j < 2 ^ 64))) fun _ _ _ _ _ _=>d0) ha hb
theorem aN(ha:SE X T W a ma)(hb:SE X T W b mb):SE X T W (.BinOp a .Mod b pos) (mOp bL ma mb):=iE xp (oi (fun _ _ h=>of_decide_eq_true h) fun _ _ _ _ _ _=>d0) ha hb
theorem bF(ha:SE X T W a ma)(hb:SE X T W b mb):SE X T W (.BinOp a .FloorDiv b pos) (mOp cE ma mb):=iE uw (oi (fun i j h=>(by simpa using h:0 < j∧j < 1073741824)) fun _ _ _ _ _ _=>d0) ha hb
theorem ql(ha:SE X T W a ma)(hb:SE X T W b mb):SE X T W (.BinOp a .Pow b pos) (mOp lm ma mb):=iE xl (oi (fun i j h=>(by simpa using h:0≤j∧j≤1000000∧i.natAbs < 2 ^ 64)) fun _ _ _ _ _ _=>d0) ha hb
end
end PR
namespace PR
open PySem PySem.Spec L2
def GS(T:Tb)(W:Nat→St→Hp→Prop)(Z:Zn)(D:Ends):Out→Prop
 | .next e=>∀F H σ fp,ap T Z F H σ e fp→D.nx σ H
 | .ret pv=>∀F H v f,dg T Z F H→Rel T F Z.B NoL H pv v f→f.Nodup→(∀a∈f,¬F a)→(∀a∈f,Z.H0 a=none∨Z.fp0 a)→D.rt v H
 | .brk e=>∀F H σ fp,ap T Z F H σ e fp→D.bk σ H
 | .cont e=>∀F H σ fp,ap T Z F H σ e fp→D.ct σ H
 | .exc c e=>∀F H σ fp,ap T Z F H σ e fp→W c σ H
 | .stuck=>False
def tS(T:Tb)(W:Nat→St→Hp→Prop)(m:MS):TS:=fun D σ H=>∃Z F env fp,ap T Z F H σ env fp∧GS T W Z D (m env)
abbrev SS(X:Cx)(T:Tb)(W:Nat→St→Hp→Prop)(st:Stmt)(m:MS):Prop:=PS X st (tS T W m)
abbrev SSs(X:Cx)(T:Tb)(W:Nat→St→Hp→Prop)(sts:List Stmt)(m:MS):Prop:=PSs X sts (tS T W m)
mutual
theorem Rel.noL{T:Tb}{F B L L':Addr→Prop}{H:Hp}:∀{x:PV}{v:V}{fp:List Addr},x.has Fl.isLnt=false→Rel T F B L H x v fp→Rel T F B L' H x v fp
 | .non,_,_,_,h=>by unfold Rel at h ⊢;exact h
 | .bl _,_,_,_,h=>by unfold Rel at h ⊢;exact h
 | .int _,_,_,_,h=>by unfold Rel at h ⊢;exact h
 | .str _,_,_,_,h=>by unfold Rel at h ⊢;exact h
 | .lst f xs,_,fp,hp,h=>by
  unfold Rel at h ⊢
  simp only[PV.has,Bool.or_eq_false_iff]at hp
  obtain⟨a,vs,fp',e,hl,hr,hf⟩:=h
  refine⟨a,vs,fp',e,?_,RelL.noL hp.2 hr,hf⟩
  cases f with
  | lnt=>exact absurd hp.1 (by decide)
  | own=>exact hl
  | frz=>exact hl
  | bor=>exact hl
  | mod=>exact hl
 | .tup xs,_,fp,hp,h=>by
  unfold Rel at h ⊢
  simp only[PV.has]at hp
  obtain⟨a,vs,e,hl,hr⟩:=h
  exact⟨a,vs,e,hl,RelL.noL hp hr⟩
 | .obj f c ks xs,_,fp,hp,h=>by
  unfold Rel at h ⊢
  simp only[PV.has,Bool.or_eq_false_iff]at hp
  obtain⟨a,dx,vs,fp',e,hl,hk,hr,hf,ha⟩:=h
  refine⟨a,dx,vs,fp',e,hl,hk,RelL.noL hp.2 hr,hf,?_⟩
  cases f with
  | lnt=>exact absurd hp.1 (by decide)
  | own=>exact ha
  | frz=>exact ha
  | bor=>exact ha
  | mod=>exact ha
 | .exc c,_,fp,hp,h=>by
  unfold Rel at h ⊢
  exact h
theorem RelL.noL{T:Tb}{F B L L':Addr→Prop}{H:Hp}:∀{xs:List PV}{vs:List V}{fp:List Addr},hasL Fl.isLnt xs=false→RelL T F B L H xs vs fp→RelL T F B L' H xs vs fp
 | [],_,_,_,h=>by unfold RelL at h ⊢;exact h
 | x::xs,_,fp,hp,h=>by
  unfold RelL at h ⊢
  simp only[hasL,Bool.or_eq_false_iff]at hp
  obtain⟨v,ws,f1,f2,e,h1,h2,rfl⟩:=h
  exact⟨v,ws,f1,f2,e,Rel.noL hp.1 h1,RelL.noL hp.2 h2,rfl⟩
end
section
variable{X:Cx}{T:Tb}{W:Nat→St→Hp→Prop}{Z:Zn}{F F' B L:Addr→Prop}{H H':Hp}{σ:St}{env:En}{fp:Nat→List Addr}{D:Ends}
def bA(fp:Nat→List Addr)(i:Nat)(f:List Addr):Nat→List Addr:=fun j=>if j=i then f else fp j
theorem ap.put(S:ap T Z F H σ env fp){i:Nat}{pv:PV}{v:V}{f:List Addr}(r:Rel T F Z.B NoL H pv v f)(nd:f.Nodup)(nf:∀a∈f,¬F a)(new:∀a∈f,Z.H0 a=none∨Z.fp0 a)(dj:∀a∈f,∀j,j≠i→a∉fp j)(ho:bq i env=true) :
  ap T Z F H (σ.set i (some v)) (env.set i (some pv)) (bA fp i f):=by
 refine⟨S.hp,by rw[List.length_set,List.length_set,S.len],fun j pv' e=>?_,fun j=>?_,fun j k hjk a ha=>?_,fun j a ha=>?_,fun j a ha=>?_,fun j a ha=>?_,fun w hw=>?_⟩
 ·by_cases hj:j=i
  ·subst hj
   have hl:j < env.length:=by
    have:=(List.getElem?_eq_some_iff.mp e).1
    simpa using this
   rw[List.getElem?_set_self hl]at e
   cases e
   refine⟨v,List.getElem?_set_self (by rw[S.len];exact hl),?_⟩
   unfold bA
   rw[if_pos rfl]
   exact r
  ·rw[List.getElem?_set_ne (Ne.symm hj)]at e
   obtain⟨w,h1,h2⟩:=S.rel j pv' e
   refine⟨w,by rw[List.getElem?_set_ne (Ne.symm hj)];exact h1,?_⟩
   unfold bA
   rw[if_neg hj]
   exact h2
 ·unfold bA;split
  ·exact nd
  ·exact S.nd j
 ·unfold bA at ha ⊢
  by_cases h1:j=i
  ·subst h1
   rw[if_pos rfl]at ha
   rw[if_neg (Ne.symm hjk)]
   exact dj a ha k (Ne.symm hjk)
  ·rw[if_neg h1]at ha
   by_cases h2:k=i
   ·subst h2
    rw[if_pos rfl]
    exact fun z=>dj a z j h1 ha
   ·rw[if_neg h2]
    exact S.dj j k hjk a ha
 ·unfold bA at ha
  by_cases h1:j=i
  ·rw[if_pos h1]at ha;exact⟨nf a ha,r.there a ha⟩
  ·rw[if_neg h1]at ha;exact S.dis j a ha
 ·unfold bA at ha
  by_cases h1:j=i
  ·rw[if_pos h1]at ha;exact new a ha
  ·rw[if_neg h1]at ha;exact S.new j a ha
 ·unfold bA at ha
  by_cases h1:j=i
  ·rw[if_pos h1]at ha;exact r.chg a ha
  ·rw[if_neg h1]at ha;exact S.ch j a ha
 ·obtain⟨h1,h2⟩:=S.pn w hw
  have hi:i≠0:=fun z=>by
   rw[z]at ho
   simp[bq,h2]at ho
  refine⟨by rw[List.getElem?_set_ne hi];exact h1,?_⟩
  unfold b9 at h2 ⊢
  rw[List.getElem?_set_ne hi]
  exact h2
theorem ap.putN(S:ap T Z F H σ env fp)(g:Gr F H F' H'){i:Nat}{pv:PV}{v:V}{f:List Addr}(ho:bq i env=true)(r:Rel T F' Z.B L H' pv v f)(hl:pv.noLnt=true)(nf:∀a∈f,¬F' a)(nd:f.Nodup)(w:∀a∈f,H a=none) :
  ap T Z F' H' (σ.set i (some v)) (env.set i (some pv)) (bA fp i f):=by
 refine(S.grow g).put (Rel.noL (by simpa[PV.noLnt]using hl) r) nd nf (fun a ha=>?_) (fun a ha j _ hj=>?_) ho
 ·by_cases q:Z.fp0 a
  ·exact .inr q
  ·refine .inl ?_
   cases e:Z.H0 a with
   | none=>rfl
   | some o =>
    have:=S.hp.keep a o e q
    rw[w a ha]at this;cases this
 ·obtain⟨_,o,ho⟩:=S.dis j a hj
  rw[w a ha]at ho;cases ho
theorem az:SSs X T W [] aB:=PSs.wk ui fun D σ H ⟨Z,F,env,fp,S,q⟩=>q F H σ fp S
theorem ae{st:Stmt}{bw:List Stmt}{a b:MS}(h1:SS X T W st a)(h2:SSs X T W bw b):SSs X T W (st::bw) (ak a b) :=
 PSs.wk (qB h1 h2) fun D σ H ⟨Z,F,env,fp,S,q⟩=>by
  refine⟨Z,F,env,fp,S,?_⟩
  unfold ak at q
  cases e:a env with
  | next e'=>rw[e]at q;exact fun F' H' σ' fp' S'=>⟨Z,F',e',fp',S',q⟩
  | ret v=>rw[e]at q;exact q
  | brk e'=>rw[e]at q;exact q
  | cont e'=>rw[e]at q;exact q
  | exc c e'=>rw[e]at q;exact q
  | stuck=>rw[e]at q;exact q
theorem ah{st:Stmt}{a:MS}(h1:SS X T W st a):SSs X T W [st] a:=uh h1
def mV:MS:=.brk
theorem qi{pos:Pos}:SS X T W (.Break pos) mV:=PS.wk qE fun D σ H ⟨Z,F,env,fp,S,q⟩=>q F H σ fp S
theorem aH{c:Expr}{a b:List Stmt}{mc:MT}{ma mb:MS}{pos:Pos}(hc:ST X T W c mc)(ha:SSs X T W a ma)(hb:SSs X T W b mb):SS X T W (.If c a b pos) (mBr mc ma mb) :=
 PS.wk (zM (pos:=pos) hc ha hb) fun D σ H ⟨Z,F,env,fp,S,q⟩=>by
  unfold mBr at q
  refine tT.bind S (fun c e H' x=>?_) (fun e=>by rw[e]at q;exact q) fun b H' F' e g=>?_
  ·rw[e]at q
   exact q F H' σ fp (S.grow (Gr.same S.hp.ft x))
  ·cases b with
   | true=>rw[e]at q;exact(if_pos rfl).mpr ⟨Z,F',env,fp,S.grow g,q⟩
   | false=>rw[e]at q;exact(if_neg (by decide)).mpr ⟨Z,F',env,fp,S.grow g,q⟩
theorem wo{i:Nat}{x:Str}{e:Expr}{m:ME}{pos pos':Pos}(hN:X.N.Nodup)(hi:X.N[i]?=some x)(hx:Loc X.env.scope x)(he:SE X T W e m)(hs:swapsWith e (some (.Name x pos')) pos.line X.env=pure false:=by rfl)
  (hf:X.fn x=true∨X.env.scope.names.lookup x=some .local:=by first | exact .inl rfl | exact .inr rfl | assumption):SS X T W (.Assign [.Name x pos'] e pos) (aE i m) :=
 PS.wk (wS (pos:=pos) hN hi hx he hs hf) fun D σ H ⟨Z,F,env,fp,S,q⟩=>by
  unfold aE at q
  refine tE.bind S (fun c e H' x=>?_) (fun e=>by rw[e]at q;exact q) fun pv v H1 F1 f e g r h1 h2 h3=>?_
  ·rw[e]at q
   exact q F H' σ fp (S.grow (Gr.same S.hp.ft x))
  ·rw[e]at q
   simp only at q
   split at q
   ·rename_i hl
    rw[Bool.and_eq_true]at hl
    exact q F1 H1 _ _ (S.putN g hl.2 r hl.1 h1 h2 h3)
   ·exact q.elim
theorem dg.newE(S:dg T Z F H){f:List Addr}(w:∀a∈f,H a=none):∀a∈f,Z.H0 a=none∨Z.fp0 a:=fun a ha=>by
 by_cases q:Z.fp0 a
 ·exact .inr q
 ·refine .inl ?_
  cases e:Z.H0 a with
  | none=>rfl
  | some o =>
   have:=S.keep a o e q
   rw[w a ha]at this;cases this
theorem aI{e:Expr}{m:ME}{pos:Pos}(he:SE X T W e m):SS X T W (.Return (some e) pos) (bG m) :=
 PS.wk (qD (pos:=pos) he) fun D σ H ⟨Z,F,env,fp,S,q⟩=>by
  unfold bG at q
  refine tE.bind S (fun c e H' x=>?_) (fun e=>by rw[e]at q;exact q) fun pv v H1 F1 f e g r h1 h2 h3=>?_
  ·rw[e]at q
   exact q F H' σ fp (S.grow (Gr.same S.hp.ft x))
  ·rw[e]at q
   simp only at q
   split at q
   ·rename_i hl
    exact q F1 H1 v f (S.hp.grow g) (Rel.noL (by simpa[PV.noLnt]using hl) r) h2 h1 (S.hp.newE h3)
   ·exact q.elim
theorem cQ{i:Nat}{x:Str}{pos pos':Pos}(hN:X.N[i]?=some x)(hv:Vis X.env.scope x)(hd:(x ==("__debug__" : Str))=false:=by decide)(hcd:(x ==("__classdict__" : Str))=false:=by decide):SS X T W (.Return (some (.Name x pos')) pos) (dA i) :=
 PS.wk (qD (pos:=pos) (eM hN hv hd hcd)) fun D σ H ⟨Z,F,env,fp,S,q⟩=>by
  unfold dA at q
  split at q
  ·rename_i pv e
   obtain⟨v,e1,r⟩:=S.rel i pv e
   exact⟨v,e1,q F H v (fp i) S.hp r (S.nd i) (fun a ha=>(S.dis i a ha).1) (S.new i)⟩
  ·exact q.elim
theorem A8{pos:Pos}:SS X T W (.Return none pos) (bG (mC .non)) :=
 PS.wk (uj (pos:=pos)) fun D σ H ⟨Z,F,env,fp,S,q⟩=>q F H .non [] S.hp wJ List.nodup_nil (fun _ z=>(nomatch z)) (fun _ z=>(nomatch z))
theorem bX{e:Expr}{m:ME}{pos:Pos}(he:SE X T W e m)(hs:swapsWith e none pos.line X.env=pure false:=by rfl):SS X T W (.Expr e pos) (cq m) :=
 PS.wk (ip (pos:=pos) he hs) fun D σ H ⟨Z,F,env,fp,S,q⟩=>by
  unfold cq at q
  refine tE.bind S (fun c e H' x=>?_) (fun e=>by rw[e]at q;exact q) fun pv v H1 F1 f e g r h1 h2 h3=>?_
  ·rw[e]at q
   exact q F H' σ fp (S.grow (Gr.same S.hp.ft x))
  ·rw[e]at q
   exact q F1 H1 σ fp (S.grow g)
mutual
theorem Rel.freeze(hF:∀a,F a→F' a):∀{x:PV}{v:V}{fp:List Addr},(∀a∈fp,F' a)→Rel T F B L H x v fp→Rel T F' B L H (x.mapF Fl.freeze) v []
 | .non,_,_,_,h=>by unfold Rel at h;simp only[PV.mapF];unfold Rel;exact⟨h.1,rfl⟩
 | .bl _,_,_,_,h=>by unfold Rel at h;simp only[PV.mapF];unfold Rel;exact⟨h.1,rfl⟩
 | .int _,_,_,_,h=>by unfold Rel at h;simp only[PV.mapF];unfold Rel;exact⟨h.1,rfl⟩
 | .str _,_,_,_,h=>by unfold Rel at h;simp only[PV.mapF];unfold Rel;exact⟨h.1,rfl⟩
 | .lst f xs,_,fp,hp,h=>by
  unfold Rel at h
  obtain⟨a,vs,fp',e,hl,hr,hf⟩:=h
  simp only[PV.mapF]
  unfold Rel
  cases f with
  | own =>
   obtain rfl:fp=a::fp':=hf
   exact⟨a,vs,[],e,⟨hp a List.mem_cons_self,.inl hl⟩,RelL.freeze hF (fun b hb=>hp b (List.mem_cons_of_mem _ hb)) hr,rfl,rfl⟩
  | frz=>obtain⟨rfl,rfl⟩:=hf;exact⟨a,vs,[],e,⟨hF a hl.1,hl.2⟩,RelL.freeze hF hp hr,rfl,rfl⟩
  | bor=>obtain⟨rfl,rfl⟩:=hf;exact⟨a,vs,[],e,hl,RelL.freeze hF hp hr,rfl,rfl⟩
  | lnt=>obtain⟨rfl,rfl⟩:=hf;exact⟨a,vs,[],e,hl,RelL.freeze hF hp hr,rfl,rfl⟩
  | mod=>obtain⟨rfl,rfl⟩:=hf;exact⟨a,vs,[],e,hl,RelL.freeze hF hp hr,rfl,rfl⟩
 | .tup xs,_,fp,hp,h=>by
  unfold Rel at h
  obtain⟨a,vs,e,hl,hr⟩:=h
  simp only[PV.mapF]
  unfold Rel
  exact⟨a,vs,e,hl,RelL.freeze hF hp hr⟩
 | .obj f c ks xs,_,fp,hp,h=>by
  unfold Rel at h
  obtain⟨a,dx,vs,fp',e,hl,hk,hr,hf,ha⟩:=h
  simp only[PV.mapF]
  unfold Rel
  cases f with
  | own =>
   obtain rfl:fp=a::fp':=hf
   have r:=RelL.freeze hF (fun b hb=>hp b (List.mem_cons_of_mem _ hb)) hr
   exact⟨a,dx,vs,[],e,hl,⟨by rw[r.length,hk.1,hr.length],hk.2⟩,r,⟨rfl,rfl⟩,hp a List.mem_cons_self⟩
  | frz=>obtain⟨rfl,rfl⟩:=hf;have r:=RelL.freeze hF hp hr;exact⟨a,dx,vs,[],e,hl,⟨by rw[r.length,hk.1,hr.length],hk.2⟩,r,⟨rfl,rfl⟩,hF a ha⟩
  | bor=>obtain⟨rfl,rfl⟩:=hf;have r:=RelL.freeze hF hp hr;exact⟨a,dx,vs,[],e,hl,⟨by rw[r.length,hk.1,hr.length],hk.2⟩,r,⟨rfl,rfl⟩,ha⟩
  | lnt=>obtain⟨rfl,rfl⟩:=hf;have r:=RelL.freeze hF hp hr;exact⟨a,dx,vs,[],e,hl,⟨by rw[r.length,hk.1,hr.length],hk.2⟩,r,⟨rfl,rfl⟩,ha⟩
  | mod=>exact ha.elim
 | .exc c,_,fp,hp,h=>by
  unfold Rel at h
  obtain⟨a,e,hl,rfl⟩:=h
  simp only[PV.mapF]
  unfold Rel
  exact⟨a,e,hl,rfl⟩
theorem RelL.freeze(hF:∀a,F a→F' a):∀{xs:List PV}{vs:List V}{fp:List Addr},(∀a∈fp,F' a)→RelL T F B L H xs vs fp→RelL T F' B L H (mapL Fl.freeze xs) vs []
 | [],_,_,_,h=>by unfold RelL at h;simp only[mapL];unfold RelL;exact⟨h.1,rfl⟩
 | x::xs,_,fp,hp,h=>by
  unfold RelL at h
  obtain⟨v,ws,f1,f2,e,h1,h2,rfl⟩:=h
  simp only[mapL]
  unfold RelL
  exact⟨v,ws,[],[],e,Rel.freeze hF (fun b hb=>hp b (List.mem_append_left _ hb)) h1,RelL.freeze hF (fun b hb=>hp b (List.mem_append_right _ hb)) h2,rfl⟩
end
theorem ap.frz(S:ap T Z F H σ env fp){i:Nat}{pv:PV}(e:env[i]?=some (some pv)):ap T Z (fun a=>F a∨a∈fp i) H σ (env.set i (some (pv.mapF Fl.freeze))) (bA fp i []):=by
 have hi:i < env.length:=(List.getElem?_eq_some_iff.mp e).1
 refine⟨⟨S.hp.bo,S.hp.keep,fun a h=>.inl (S.hp.f0 a h),fun a h=>h.elim (S.hp.fn a) fun z=>.inr (S.new i a z),fun a h=>h.elim (S.hp.ft a) fun z=>(S.dis i a z).2⟩,by rw[List.length_set,S.len],fun j pv' e'=>?_,fun j=>?_,fun j k hjk a ha=>?_,fun j a ha=>?_,fun j a ha=>?_,fun j a ha=>?_,fun w hw=>?_⟩
 ·by_cases hj:j=i
  ·subst hj
   rw[List.getElem?_set_self hi]at e'
   cases e'
   obtain⟨v,h1,h2⟩:=S.rel j pv e
   refine⟨v,h1,?_⟩
   unfold bA
   rw[if_pos rfl]
   exact Rel.freeze (fun _ h=>.inl h) (fun a h=>.inr h) h2
  ·rw[List.getElem?_set_ne (Ne.symm hj)]at e'
   obtain⟨w,h1,h2⟩:=S.rel j pv' e'
   refine⟨w,h1,?_⟩
   unfold bA
   rw[if_neg hj]
   exact h2.ext Ext.refl fun _ h=>.inl h
 ·unfold bA;split
  ·exact List.nodup_nil
  ·exact S.nd j
 ·unfold bA at ha ⊢
  by_cases h1:j=i
  ·rw[if_pos h1]at ha;cases ha
  ·rw[if_neg h1]at ha
   by_cases h2:k=i
   ·rw[if_pos h2];exact fun z=>nomatch z
   ·rw[if_neg h2];exact S.dj j k hjk a ha
 ·unfold bA at ha
  by_cases h1:j=i
  ·rw[if_pos h1]at ha;cases ha
  ·rw[if_neg h1]at ha
   exact⟨fun z=>z.elim (S.dis j a ha).1 fun z=>S.dj j i h1 a ha z,(S.dis j a ha).2⟩
 ·unfold bA at ha
  by_cases h1:j=i
  ·rw[if_pos h1]at ha;cases ha
  ·rw[if_neg h1]at ha;exact S.new j a ha
 ·unfold bA at ha
  by_cases h1:j=i
  ·rw[if_pos h1]at ha;cases ha
  ·rw[if_neg h1]at ha;exact S.ch j a ha
 ·obtain⟨h1,h2⟩:=S.pn w hw
  refine⟨h1,?_⟩
  unfold b9 at h2 ⊢
  by_cases hi0:i=0
  ·subst hi0
   rw[e]at h2
   rw[List.getElem?_set_self hi]
   cases pv<;>first | exact h2 |(cases h2;done) | rfl
  ·rw[List.getElem?_set_ne hi0]
   exact h2
theorem dW{i:Nat}{sts:List Stmt}{m:MS}(h:SSs X T W sts m):SSs X T W sts (ak (fD i) m):=PSs.wk h fun D σ H ⟨Z,F,env,fp,S,q⟩=>by
 cases e:env[i]? with
 | none=>simp[ak,fD,e]at q;exact q.elim
 | some w =>
  cases w with
  | none=>simp[ak,fD,e]at q;exact q.elim
  | some pv =>
   simp only[ak,fD,e]at q
   exact⟨Z,_,_,_,S.frz e,q⟩
def Zn.re(Z:Zn)(F:Addr→Prop)(H:Hp)(fp:Nat→List Addr):Zn:=⟨H,F,Own fp,Z.B,Z.pin⟩
theorem ap.enter(S:ap T Z F H σ env fp):ap T (Z.re F H fp) F H σ env fp :=
 ⟨⟨fun a h=>by
   obtain⟨⟨o,h1⟩,h2⟩:=S.hp.bo a h
   refine⟨⟨o,S.hp.keep a o h1 h2⟩,fun⟨i,hi⟩=>?_⟩
   rcases S.new i a hi with z | z
   ·rw[h1]at z;cases z
   ·exact h2 z,fun _ _ h _=>h,fun _ h=>h,fun _ h=>.inl h,S.hp.ft⟩,S.len,S.rel,S.nd,S.dj,S.dis,fun i a ha=>.inr ⟨i,ha⟩,S.ch,S.pn⟩
theorem dg.leave(S:ap T Z F H σ env fp)(S':dg T (Z.re F H fp) F' H'):dg T Z F' H' :=
 ⟨S.hp.bo,fun a o h n=>S'.keep a o (S.hp.keep a o h n) fun ⟨i,hi⟩=>by
   rcases S.new i a hi with z | z
   ·rw[h]at z;cases z
   ·exact n z,fun a h=>S'.f0 a (S.hp.f0 a h),fun a h=>by
  rcases S'.fn a h with z | z |⟨i,hi⟩
  ·exact S.hp.fn a z
  ·refine .inr ?_
   by_cases q:Z.fp0 a
   ·exact .inr q
   ·refine .inl ?_
    cases w:Z.H0 a with
    | none=>rfl
    | some o =>
     have z':H a=none:=z
     rw[S.hp.keep a o w q]at z';cases z'
  ·exact .inr (S.new i a hi),S'.ft⟩
theorem ap.newL(S:ap T Z F H σ env fp){a:Addr}(h:(Z.re F H fp).H0 a=none ∨(Z.re F H fp).fp0 a):Z.H0 a=none∨Z.fp0 a:=by
 rcases h with z |⟨i,hi⟩
 ·by_cases q:Z.fp0 a
  ·exact .inr q
  ·refine .inl ?_
   cases w:Z.H0 a with
   | none=>rfl
   | some o =>
    have z':H a=none:=z
    rw[S.hp.keep a o w q]at z';cases z'
 ·exact S.new i a hi
theorem ap.leave{σ':St}{env':En}{fp':Nat→List Addr}(S:ap T Z F H σ env fp)(S':ap T (Z.re F H fp) F' H' σ' env' fp'):ap T Z F' H' σ' env' fp' :=
 ⟨dg.leave S S'.hp,S'.len,S'.rel,S'.nd,S'.dj,S'.dis,fun i a ha=>S.newL (S'.new i a ha),S'.ch,S'.pn⟩
end
end PR
namespace PR
open PySem PySem.Spec L2
section
variable{X:Cx}{T:Tb}{W:Nat→St→Hp→Prop}{Z:Zn}{F F' B L:Addr→Prop}{H H':Hp}{σ:St}{env:En}{fp:Nat→List Addr}{D:Ends}
abbrev SW(X:Cx)(T:Tb)(W:Nat→St→Hp→Prop)(e:Expr)(m:MT):Prop:=PW X e (tT T W m)
theorem tT.test{m:ME}{Q:Bool→Hp→Prop}(h:tT T W (aq m) σ H Q):tE T W m σ H fun x H'=>∃k,x=.bl k∧Q k H':=by
 obtain⟨Z,F,env,fp,S,q⟩:=h
 unfold aq at q
 refine tE.bind S (fun c e=>by rw[e]at q;exact q) (fun e=>by rw[e]at q;exact q) fun x v H1 F1 f1 e1 g1 r1 n1 d1 w1=>?_
 rw[e1]at q
 cases x with
 | bl b =>
  unfold Rel at r1
  exact⟨b,r1.1,q H1 F1 g1⟩
 | _=>exact q.elim
theorem dU{a b:Expr}{ma mb:ME}{op:CmpOp}{r:R2}{f:PV→PV→Res PV}{pos:Pos}(ho:OpR X (compareOp op) r)(hm:fK T W f r)(ha:SE X T W a ma)(hb:SE X T W b mb)(hk:behindInMarks op b=false):ST X T W (.Compare a [op] [b] pos) (aq (mOp f ma mb)) :=
 PT.wk (n0 (pos:=pos) ho ha hb hk) fun σ H Q h=>by
  obtain⟨Z,F,env,fp,S,q⟩:=tT.test h
  exact tE.mir2 hm ⟨Z,F,env,fp,S,q⟩
theorem gz{a:Expr}{m:MT}{pos:Pos}(h:ST X T W a m):ST X T W (.UnaryOp .Not a pos) (f_ m):=PT.wk (wR (pos:=pos) h) fun σ H Q ⟨Z,F,env,fp,S,q⟩=>by
 unfold f_ at q
 refine tT.bind S (fun c e=>by rw[e]at q;exact q) (fun e=>by rw[e]at q;exact q) fun b H1 F1 e1 g1=>?_
 rw[e1]at q
 exact q H1 F1 g1
theorem cB{a:Expr}{m:MT}{pos:Pos}(h:ST X T W a m):SW X T W (.BoolOp .And [a] pos) m:=ug h
theorem bZ{a:Expr}{m:MT}{pos:Pos}(h:ST X T W a m):SW X T W (.BoolOp .Or [a] pos) m:=wP h
theorem dF{a b:Expr}{bw:List Expr}{m n:MT}{pos:Pos}(h:ST X T W a m)(h2:SW X T W (.BoolOp .And (b::bw) pos) n):SW X T W (.BoolOp .And (a::b::bw) pos) (dC m n):=PW.wk (wQ h h2) fun σ H Q ⟨Z,F,env,fp,S,q⟩=>by
 unfold dC at q
 refine tT.bind S (fun c e=>by rw[e]at q;exact q) (fun e=>by rw[e]at q;exact q) fun b H1 F1 e1 g1=>?_
 rw[e1]at q
 cases b with
 | true =>
  refine(if_pos rfl).mpr ⟨Z,F1,env,fp,S.grow g1,?_⟩
  simp only[Res.ok_bind,if_true]at q
  cases e2:n env with
  | ok b=>rw[e2]at q;exact fun H2 F2 g2=>q H2 F2 (g1.trans g2)
  | exc c=>rw[e2]at q;exact fun H' x=>q H' (g1.ext.trans x)
  | stuck=>rw[e2]at q;exact q
 | false=>exact(if_neg (by decide)).mpr (q H1 F1 g1)
theorem b6{a b:Expr}{bw:List Expr}{m n:MT}{pos:Pos}(h:ST X T W a m)(h2:SW X T W (.BoolOp .Or (b::bw) pos) n):SW X T W (.BoolOp .Or (a::b::bw) pos) (dh m n):=PW.wk (zL h h2) fun σ H Q ⟨Z,F,env,fp,S,q⟩=>by
 unfold dh at q
 refine tT.bind S (fun c e=>by rw[e]at q;exact q) (fun e=>by rw[e]at q;exact q) fun b H1 F1 e1 g1=>?_
 rw[e1]at q
 cases b with
 | false =>
  refine(if_neg (by decide)).mpr ⟨Z,F1,env,fp,S.grow g1,?_⟩
  simp only[Res.ok_bind,Bool.false_eq_true,if_false]at q
  cases e2:n env with
  | ok b=>rw[e2]at q;exact fun H2 F2 g2=>q H2 F2 (g1.trans g2)
  | exc c=>rw[e2]at q;exact fun H' x=>q H' (g1.ext.trans x)
  | stuck=>rw[e2]at q;exact q
 | true=>exact(if_pos rfl).mpr (q H1 F1 g1)
theorem SW.st{e:Expr}{m:MT}(h:SW X T W e m):ST X T W e m:=PW.pt h
theorem aF{a:Expr}{m:ME}(hK:X.K=T.K)(h:SE X T W a m)(he:∀whole,isTrue a X.env whole=(do let v ← whole;standAt a.pos;holding [v] (truthy v)):=by intro _;rfl):ST X T W a (aV m):=PT.wk (qA h he) fun σ H Q ⟨Z,F,env,fp,S,q⟩=>by
 unfold aV at q
 refine tE.bind S (fun c e=>by rw[e]at q;exact q) (fun e=>by rw[e]at q;exact q) fun x v H1 F1 f1 e1 g1 r1 n1 d1 w1=>?_
 rw[e1]at q
 rw[hK]
 cases x with
 | non=>unfold Rel at r1;rw[r1.1];exact⟨false,rfl,q H1 F1 g1⟩
 | bl b=>unfold Rel at r1;rw[r1.1];exact⟨b,rfl,q H1 F1 g1⟩
 | int i=>unfold Rel at r1;rw[r1.1];exact⟨_,rfl,q H1 F1 g1⟩
 | str i=>exact q.elim
 | lst f xs =>
  unfold Rel at r1
  obtain⟨a,vs,fp',rfl,hl,hr,_⟩:=r1
  have hl':SqL T.K H1 a vs:=hl.sq
  have e:(!xs.isEmpty)=!vs.isEmpty:=by
   have:=hr.length
   cases xs<;>cases vs<;>simp_all
  exact⟨_,.inl ⟨vs,hl',rfl⟩,by rw[← e];exact q H1 F1 g1⟩
 | tup xs =>
  unfold Rel at r1
  obtain⟨a,vs,rfl,hl,hr⟩:=r1
  have e:(!xs.isEmpty)=!vs.isEmpty:=by
   have:=hr.length
   cases xs<;>cases vs<;>simp_all
  exact⟨_,.inr (.inl ⟨vs,hl,rfl⟩),by rw[← e];exact q H1 F1 g1⟩
 | obj f c ks xs=>exact q.elim
 | exc c=>exact q.elim
theorem eJ{c a b:Expr}{mc:MT}{ma mb:ME}{pos:Pos}(hc:ST X T W c mc)(ha:SE X T W a ma)(hb:SE X T W b mb):SE X T W (.IfExp c a b pos) (jq mc ma mb):=PE.wk (qN (pos:=pos) hc ha hb) fun σ H Q ⟨Z,F,env,fp,S,q⟩=>by
 unfold jq at q
 refine tT.bind S (fun c e=>by rw[e]at q;exact q) (fun e=>by rw[e]at q;exact q) fun b H1 F1 e1 g1=>?_
 rw[e1]at q
 have lift:∀m:ME,GE T W Z.B F (Own fp) σ H Q (m env)→tE T W m σ H1 Q:=fun m q=>by
  refine⟨Z,F1,env,fp,S.grow g1,?_⟩
  cases e2:m env with
  | ok b=>rw[e2]at q;exact fun v H2 F2 f g2 r n d w=>q v H2 F2 f (g1.trans g2) r n d fun a ha=>g1.ext.free (w a ha)
  | exc c=>rw[e2]at q;exact fun H' x=>q H' (g1.ext.trans x)
  | stuck=>rw[e2]at q;exact q
 cases b with
 | true=>exact(if_pos rfl).mpr (lift ma q)
 | false=>exact(if_neg (by decide)).mpr (lift mb q)
def As(a:ME):ME:=fun env=>(a env).bind fun
 | .bl b=>.ok (.bl (!b))
 | _=>.stuck
def lG(a b:ME):ME:=fun env=>(a env).bind fun
 | .bl true=>b env
 | .bl false=>.ok (.bl false)
 | _=>.stuck
def Ar(a b:ME):ME:=fun env=>(a env).bind fun
 | .bl false=>b env
 | .bl true=>.ok (.bl true)
 | _=>.stuck
theorem wx{a:Expr}{ma:ME}{op:BoolOp}{pos:Pos}(ha:SE X T W a ma):SE X T W (.BoolOp op [a] pos) ma:=w4 ha
theorem tE.later{m:ME}{Q:VK}(S:ap T Z F H σ env fp)(g1:Gr F H F' H')(q:GE T W Z.B F (Own fp) σ H Q (m env)):tE T W m σ H' Q:=by
 refine⟨Z,F',env,fp,S.grow g1,?_⟩
 cases e2:m env with
 | ok b=>rw[e2]at q;exact fun v H2 F2 f g2 r n d w=>q v H2 F2 f (g1.trans g2) r n d fun a ha=>g1.ext.free (w a ha)
 | exc c=>rw[e2]at q;exact fun H' x=>q H' (g1.ext.trans x)
 | stuck=>rw[e2]at q;exact q
theorem wD{a b:Expr}{bw:List Expr}{ma mb:ME}{pos:Pos}(ha:SE X T W a ma)(hb:SE X T W (.BoolOp .And (b::bw) pos) mb):SE X T W (.BoolOp .And (a::b::bw) pos) (lG ma mb):=PE.wk (xb ha hb) fun σ H Q ⟨Z,F,env,fp,S,q⟩=>by
 unfold lG at q
 refine tE.bind S (fun c e=>by rw[e]at q;exact q) (fun e=>by rw[e]at q;exact q) fun x v H1 F1 f1 e1 g1 r1 n1 d1 w1=>?_
 rw[e1]at q
 cases x with
 | bl b =>
  unfold Rel at r1
  refine⟨b,r1.1,?_⟩
  cases b with
  | true=>exact(if_pos rfl).mpr (tE.later S g1 q)
  | false=>exact(if_neg (by decide)).mpr (q.scal g1 iK)
 | _=>exact q.elim
def vn(T:Tb)(W:Nat→St→Hp→Prop)(f:PV→Res PV)(r:V→Hp→VK→Prop):Prop :=
 ∀(B F L:Addr→Prop) (σ:St) (H:Hp) (Q:VK) (F':Addr→Prop) (H':Hp) (x:PV) (v:V) (fx:List Addr),Gr F H F' H'→Rel T F' B L H' x v fx→(∀a∈fx,¬F' a)→fx.Nodup→(∀a∈fx,H a=none)→GE T W B F L σ H Q (f x)→r v H' Q
theorem tE.mir1{f:PV→Res PV}{r:V→Hp→VK→Prop}{m:ME}{Q:VK}(hm:vn T W f r)(h:tE T W (mUn f m) σ H Q):tUn r (tE T W m) σ H Q:=by
 obtain⟨Z,F,env,fp,S,q⟩:=h
 unfold mUn at q
 refine tE.bind S (fun c e=>by rw[e]at q;exact q) (fun e=>by rw[e]at q;exact q) fun x v H1 F1 f1 e1 g1 r1 n1 d1 w1=>?_
 rw[e1]at q
 exact hm Z.B F (Own fp) σ H Q F1 H1 x v f1 g1 r1 n1 d1 w1 q
def BW:PV→Res PV
 | .int i=>.ok (.int (-i))
 | _=>.stuck
def bU(k:Nat):List Nat→List PV→Option PV
 | j::ks,v::vs=>if j=k then some v else bU k ks vs
 | _,_=>none
def Fl.isOwn:Fl→Bool
 | .own=>true
 | _=>false
def ar(k:Nat):PV→Res PV
 | .obj f _ ks vs=>match bU k ks vs with
  | some v=>if f.isOwn&&v.has Fl.isOwn then .stuck else .ok v
  | none=>.stuck
 | _=>.stuck
mutual
theorem Rel.noOwn:∀{x:PV}{v:V}{fp:List Addr},x.has Fl.isOwn=false→Rel T F B L H x v fp→fp=[]
 | .non,_,_,_,h=>by unfold Rel at h;exact h.2
 | .bl _,_,_,_,h=>by unfold Rel at h;exact h.2
 | .int _,_,_,_,h=>by unfold Rel at h;exact h.2
 | .str _,_,_,_,h=>by unfold Rel at h;exact h.2
 | .lst f xs,_,fp,hp,h=>by
  unfold Rel at h
  simp only[PV.has,Bool.or_eq_false_iff]at hp
  obtain⟨a,vs,fp',e,hl,hr,hf⟩:=h
  cases f with
  | own=>exact absurd hp.1 (by decide)
  | frz=>exact hf.2
  | bor=>exact hf.2
  | lnt=>exact hf.2
  | mod=>exact hf.2
 | .tup xs,_,fp,hp,h=>by
  unfold Rel at h
  simp only[PV.has]at hp
  obtain⟨a,vs,e,hl,hr⟩:=h
  exact RelL.noOwn hp hr
 | .obj f c ks xs,_,fp,hp,h=>by
  unfold Rel at h
  simp only[PV.has,Bool.or_eq_false_iff]at hp
  obtain⟨a,dx,vs,fp',e,hl,hk,hr,hf,ha⟩:=h
  cases f with
  | own=>exact absurd hp.1 (by decide)
  | frz=>exact hf.2
  | bor=>exact hf.2
  | lnt=>exact hf.2
  | mod=>exact hf.2
 | .exc c,_,fp,hp,h=>by
  unfold Rel at h
  obtain⟨a,_,_,e⟩:=h
  exact e
theorem RelL.noOwn:∀{xs:List PV}{vs:List V}{fp:List Addr},hasL Fl.isOwn xs=false→RelL T F B L H xs vs fp→fp=[]
 | [],_,_,_,h=>by unfold RelL at h;exact h.2
 | x::xs,_,fp,hp,h=>by
  unfold RelL at h
  simp only[hasL,Bool.or_eq_false_iff]at hp
  obtain⟨v,ws,f1,f2,e,h1,h2,rfl⟩:=h
  rw[Rel.noOwn hp.1 h1,RelL.noOwn hp.2 h2]
  rfl
end
theorem RelL.get:∀{xs:List PV}{vs:List V}{fp:List Addr}{i:Nat}{x:PV},RelL T F B L H xs vs fp→xs[i]?=some x→∃v f,vs[i]?=some v∧Rel T F B L H x v f∧f.Sublist fp
 | [],_,_,_,_,_,e=>by simp at e
 | y::xs,_,fp,0,x,h,e=>by
  unfold RelL at h
  obtain⟨v,ws,f1,f2,rfl,h1,h2,rfl⟩:=h
  simp at e
  subst e
  exact⟨v,f1,by simp,h1,List.sublist_append_left _ _⟩
 | y::xs,_,fp,i+1,x,h,e=>by
  unfold RelL at h
  obtain⟨v,ws,f1,f2,rfl,h1,h2,rfl⟩:=h
  obtain⟨w,f,e1,r,s⟩:=RelL.get (i:=i) h2 (by simpa using e)
  exact⟨w,f,by simpa using e1,r,s.trans (List.sublist_append_right _ _)⟩
theorem lO{k:Nat}:∀{ks:List Nat}{xs:List PV}{vs:List V}{fp:List Addr}{x:PV},RelL T F B L H xs vs fp→bU k ks xs=some x→∃v f,((ks.map T.att).zip vs).lookup (T.att k)=some v∧Rel T F B L H x v f∧f.Sublist fp
 | [],_,_,_,_,_,e=>by simp[bU]at e
 | j::ks,[],_,_,_,_,e=>by simp[bU]at e
 | j::ks,y::xs,_,fp,x,h,e=>by
  unfold RelL at h
  obtain⟨v,ws,f1,f2,rfl,h1,h2,rfl⟩:=h
  unfold bU at e
  by_cases hj:j=k
  ·rw[if_pos hj]at e
   cases e
   subst hj
   exact⟨v,f1,by simp,h1,List.sublist_append_left _ _⟩
  ·rw[if_neg hj]at e
   obtain⟨w,f,e1,r,s⟩:=lO (ks:=ks) h2 e
   refine⟨w,f,?_,r,s.trans (List.sublist_append_right _ _)⟩
   have:(T.att k==T.att j)=false:=by
    rw[beq_eq_false_iff_ne]
    exact fun z=>hj (T.inj _ _ z).symm
   rw[List.map_cons,List.zip_cons_cons,List.lookup_cons,this]
   exact e1
theorem tH{m:ME}{k:Nat}{f:Str}(hK:X.K=T.K)(hf:T.att k=f)(hc:∀c < T.nc,Cls T.K (T.cls c))(hn:∀c < T.nc,cM T.K (T.cls c) f){Q:VK}(h:tE T W (mUn (ar k) m) σ H Q):zE X.K (tE T W m) f σ H Q:=by
 obtain⟨Z,F,env,fp,S,q⟩:=h
 unfold mUn at q
 refine tE.bind S (fun c e=>by rw[e]at q;exact q) (fun e=>by rw[e]at q;exact q) fun x v H1 F1 f1 e1 g1 r1 n1 d1 w1=>?_
 rw[e1]at q
 cases x with
 | obj fl c ks xs =>
  simp only[Res.ok_bind,ar]at q
  cases e2:bU k ks xs with
  | none=>rw[e2]at q;exact q.elim
  | some y =>
   rw[e2]at q
   dsimp only at q
   unfold Rel at r1
   obtain⟨a,dx,vs,fp',rfl,hl,hk,hr,hfl,_⟩:=r1
   obtain⟨w,f',l1,l2,l3⟩:=lO hr e2
   have e0:f'=[]:=by
    cases fl with
    | own =>
     simp only[Fl.isOwn,Bool.true_and]at q
     by_cases ho:y.has Fl.isOwn=true
     ·rw[if_pos ho]at q;exact q.elim
     ·exact Rel.noOwn (by simpa using ho) l2
    | frz=>obtain⟨rfl,_⟩:=hfl;exact List.sublist_nil.mp l3
    | bor=>obtain⟨rfl,_⟩:=hfl;exact List.sublist_nil.mp l3
    | lnt=>obtain⟨rfl,_⟩:=hfl;exact List.sublist_nil.mp l3
    | mod=>obtain⟨rfl,_⟩:=hfl;exact List.sublist_nil.mp l3
   subst e0
   by_cases hb:(fl.isOwn&&y.has Fl.isOwn)=true
   ·rw[if_pos hb]at q;exact q.elim
   ·rw[if_neg hb]at q
    rw[hK]
    exact⟨a,_,dx,_,w,rfl,hl,hc c hk.2,hn c hk.2,by rw[← hf];exact l1,q.scal g1 l2⟩
 | _=>exact q.elim
theorem t5{e:Expr}{m:ME}{k:Nat}{f:Str}{pos:Pos}(hK:X.K=T.K)(hf:T.att k=f)(hc:∀c < T.nc,Cls T.K (T.cls c))(hn:∀c < T.nc,cM T.K (T.cls c) f)(he:SE X T W e m)(hb:attributeBase e f X.env (eval e X.env)=eval e X.env:=by rfl) :
  SE X T W (.Attribute e f pos) (mUn (ar k) m):=PE.wk (w9 (pos:=pos) he hb) fun σ H Q h=>tH hK hf hc hn h
end
end PR
namespace L2
open PySem PySem.Spec
theorem b5.there{P:Program}{w:World}{H:Hp}{h:Heap}{a:Addr}{o:HO}(x:b5 P w H h a o):∃u,h.get? a=some u:=by
 cases o with
 | lst xs=>obtain⟨_,_,_,_,e⟩:=x;exact⟨_,e⟩
 | tup xs=>obtain⟨_,_,_,o,e,_⟩:=x;exact⟨_,e⟩
 | dK kvs=>obtain⟨_,_,_,_,o,_,_,e,_⟩:=x;exact⟨_,e⟩
 | dT kvs=>obtain⟨_,_,_,_,o,_,_,e,_⟩:=x;exact⟨_,e⟩
 | set S n=>obtain⟨o,_,_,_,e,_⟩:=x;exact⟨_,e⟩
 | ins C dx fs=>obtain⟨_,_,_,e,_⟩:=x;exact⟨_,e⟩
 | own y=>exact x
 | xd fs=>obtain⟨_,⟨_,_,_,e,_⟩,_⟩:=x;exact⟨_,e⟩
 | rng lo hi=>obtain⟨_,_,_,e⟩:=x;exact⟨_,e⟩
 | frz ob u=>obtain⟨e,_⟩:=x;exact⟨_,e⟩
 | tbl ps=>exact⟨_,(show h.get? a=some _ from x)⟩
 | met f y=>exact⟨_,(show h.get? a=some _ from x)⟩
 | ext φ=>obtain⟨_,q,_⟩:=x;exact q
end L2
namespace PR
open PySem PySem.Spec L2
structure Fly(P:Program)(w:World)(outer:List Env)(H:Hp)(s:Shared)(cls:Value)(H':Hp)(e:Value)(s':Shared):Prop where
 os:s'.os=s.os
 bare:PyProof.Rows.AllBare s'.gens
 un:Un (frs outer) [] H H' s.heap s'.heap
 hok:HOk P w H' s'.heap
 fly:∃x a0 Bh,e=.ref x∧Heap.FlyingW Bh outer x cls a0 s'.heap∧(∀b o u,H' b=some u→s'.heap.get? b=some o→Bh.get? b=some o)∧
  (∀b o o',s'.heap.get? b=some o→s.heap.get? b=some o'→b∉frs outer→Bh.get? b=some o)
def CXP(P:Program)(w:World):CXT:=fun outer H s E e s'=>∃cls H',Fly P w outer H s cls H' e s'∧E cls none H'
def XF(X:Cx)(T:Tb)(W:Nat→St→Hp→Prop):Prop:=∀(pins:List (Addr×Obj)) (σ:St) (H:Hp) (s:Shared) (c:Nat) (H':Hp) (e:Value) (s':Shared),L2.Inv X pins σ H s→Fly X.prog X.w X.stack H s (.ref (T.xcl c)) H' e s'→W c σ H'→X.xe e s'
def XM(X:Cx)(T:Tb)(W:Nat→St→Hp→Prop):Prop:=∀(pins:List (Addr×Obj)) (σ:St) (H:Hp) (s:Shared) (c:Nat) (h':Heap) (e:Addr) (vs:List Value),L2.Inv X pins σ H s→Heap.MadeExcOf s.heap h' e (.ref (T.xcl c)) vs→W c σ H→X.xe (.ref e) { s with heap:=h' }
section
variable{P:Program}{w:World}{K:PySem.W.Frag}{mg:Str→Option Value}{base:Heap}{N:List Str}{qual:Str}{scope:Scope}{f:Addr}{cd:Value}{A:Around}{outer:List Env}{s:Shared}{H:Hp}{E:XK}
theorem oA{H:Hp}{h h' Bh:Heap}(ok:HOk P w H h)(k:∀b o u,H b=some u→h.get? b=some o→Bh.get? b=some o)(st:Bh.StaysIn h'):HOk P w H h':=fun a o e =>
 (ok a o e).stay (fun b u hb q=>by
  rcases hb with rfl | hb
  ·exact st _ _ (k b u _ e q)
  ·exact st _ _ (k b u _ hb q)) (fun _ q=>q) fun _ _ q=>q
theorem jT{X:Cx}{pins:List (Addr×Obj)}{σ:St}{H1:Hp}{s1:Shared}(I:L2.Inv X pins σ H1 s1)(hst:X.stack=X.env::X.outer)(hex:X.ex=[])(hfrm:X.env.frame=some X.env.locals){H2:Hp}{h2 h' Bh:Heap}{g2:Array GenState}{d2:Drawn}{t2:Nat}{os2:OsState}{cls a0:Value}{x:Addr}
  (hos:os2=s1.os) (hb:PyProof.Rows.AllBare g2) (u2:Un (frs X.stack) [] H1 H2 s1.heap h2) (ok:HOk X.prog X.w H2 h2) (tr:∀b o u,H2 b=some u→h2.get? b=some o→Bh.get? b=some o)
  (ol:∀b o o',h2.get? b=some o→s1.heap.get? b=some o'→b∉frs X.stack→Bh.get? b=some o) (fl:Heap.FlyingW Bh X.outer x cls a0 h') (up:h2.UpToSlots h') :
  Fly X.prog X.w X.outer X.H₀ X.s₀ cls H2 (.ref x) ⟨h',g2,d2,t2,os2⟩:=by
 have u1:=I.base
 rw[hex]at u1
 have hfs:frs X.stack=X.env.locals::frs X.outer:=by
  rw[hst]
  show List.filterMap _ _=_
  rw[List.filterMap_cons,hfrm]
  rfl
 have u:Un (frs X.stack) [] X.H₀ H2 X.s₀.heap h2:=(u1.mono (fun b hb=>by rw[hfs];exact List.mem_cons_of_mem _ hb) fun _ z=>z).trans u2
 have neL:∀b o,X.s₀.heap.get? b=some o→b≠X.env.locals:=fun b o e=>Nat.ne_of_lt (Nat.lt_of_lt_of_le (Heap.lt_size e) I.ok.above)
 have nst:∀b o,X.s₀.heap.get? b=some o→b∉frs X.outer→b∉frs X.stack:=fun b o e hn hb=>by
  rw[hfs]at hb
  rcases List.mem_cons.mp hb with z | z
  ·exact neL b o e z
  ·exact hn z
 have data:∀b o,X.s₀.heap.get? b=some o→b∈frs X.outer→∀vs,o.data≠.fields vs:=fun b o e hb vs z=>by
  obtain⟨_,o',ho',hd'⟩:=I.ok.funs.mem hb
  rw[e]at ho'
  cases ho'
  exact hd' vs z
 refine⟨hos.trans I.os,hb,⟨fun b o e n hf _=>?_,fun b o e n hf _=>?_,u.free,fun b o e _=>?_,u.tups,u.frzs,u.tbls⟩,oA ok tr fl.1,⟨x,a0,Bh,rfl,fl,fun b o v e q=>?_,fun b o o' e q hf=>?_⟩⟩
 ·have q:=u.keep b o e n (nst b o e hf) (by simp)
  obtain⟨o1,e1⟩:=u1.there b o e (by simp)
  exact fl.1 b o (ol b o o1 q e1 (nst b o e hf))
 ·obtain⟨sl,q⟩:=u.slot b o e n (by rw[hfs];exact List.mem_cons_of_mem _ hf) (by simp)
  obtain⟨sl',q'⟩:=up b _ q (data b o e hf)
  exact⟨sl',q'⟩
 ·by_cases hf:b∈frs X.outer
  ·obtain⟨_,o2,ho2,_⟩:=fl.2.2.1.mem hf
   exact⟨o2,ho2⟩
  ·obtain⟨o1,e1⟩:=u1.there b o e (by simp)
   obtain⟨o2,e2⟩:=u2.there b o1 e1 (by simp)
   exact⟨o2,fl.1 b o2 (ol b o2 o1 e2 e1 (nst b o e hf))⟩
 ·have hlt:=ok.lt e
  obtain⟨o2,e2⟩:∃o2,h2.get? b=some o2:=by
   have x:=ok b v e
   exact b5.there x
  have:=fl.1 b o2 (tr b o2 v e e2)
  rw[q]at this
  cases this
  exact tr b o v e e2
 ·obtain⟨o1,e1⟩:=u1.there b o' q (by simp)
  obtain⟨o2,e2⟩:=u2.there b o1 e1 (by simp)
  have hB:=ol b o2 o1 e2 e1 (nst b o' q hf)
  have:=fl.1 b o2 hB
  rw[e]at this
  cases this
  exact hB
end
end PR
namespace PR
open PySem PySem.Spec L2
section
variable{P:Program}{w:World}{K:PySem.W.Frag}{mg:Str→Option Value}{base:Heap}{N:List Str}{qual:Str}{scope:Scope}{f:Addr}{cd:Value}{A:Around}{outer:List Env}{s:Shared}{H:Hp}{E:XK}{T:Tb}
abbrev WD(T:Tb)(E:XK):Nat→St→Hp→Prop:=fun c _ H=>E (.ref (T.xcl c)) none H
theorem v7:XF (cj (CXP P w) P w K mg base N qual scope f cd A outer s H E) T (WD T E):=by
 intro pins σ H1 s1 c H2 e s2 I fl hW
 obtain⟨x,a0,Bh,rfl,fly,tr,ol⟩:=fl.fly
 refine wpAny_leaves_onW (L:=s.heap.objs.size) I.ok.frames rfl fly fun h' fly' up=>?_
 obtain⟨h2,g2,d2,t2,os2⟩:=s2
 exact⟨_,H2,jT I rfl rfl rfl fl.os fl.bare fl.un fl.hok tr ol fly' up,hW⟩
theorem bj:XM (cj (CXP P w) P w K mg base N qual scope f cd A outer s H E) T (WD T E):=by
 intro pins σ H1 s1 c h2 e vs I mx hW
 have hin:∀env ∈(cj (CXP P w) P w K mg base N qual scope f cd A outer s H E).stack,∀b,env.frame=some b→b∈frs (cj (CXP P w) P w K mg base N qual scope f cd A outer s H E).stack:=fun env he b hb=>List.mem_filterMap.mpr ⟨env,he,hb⟩
 refine wpAny_leaves_madeW (base:=PySem.W.hideAll s1.heap (frs (cj (CXP P w) P w K mg base N qual scope f cd A outer s H E).stack)) (h:=s1.heap) (L:=s.heap.objs.size) I.ok.frames rfl (fun b o q=>PySem.W.of_hideAll _ q) (PySem.W.funFrames_hide I.stack hin) mx fun h' t fly' _ _ up=>?_
 obtain⟨h1,g1,d1,t1,os1⟩:=s1
 have fresh:∀b o,h1.get? b=some o→h2.get? b=some o:=mx.keeps
 have nfr:∀b u,H1 b=some u→b∉frs (cj (CXP P w) P w K mg base N qual scope f cd A outer s H E).stack:=fun b u e hb=>by
  rw[I.stkFree b hb]at e;cases e
 refine⟨_,H1,jT I rfl rfl rfl rfl I.bare (h2:=h2) (Bh:=PySem.W.hideAll h1 (frs (cj (CXP P w) P w K mg base N qual scope f cd A outer s H E).stack)) (Un.kept fresh) (I.hok.kept fresh) (fun b o u e q=>?_) (fun b o o' e q hb=>?_) fly' up,hW⟩
 ·obtain⟨o1,e1⟩:=b5.there (I.hok b u e)
  have:=fresh b o1 e1
  rw[q]at this;cases this
  exact PySem.W.hideAll_get _ e1 (nfr b u e)
 ·have:=fresh b o' q
  rw[e]at this;cases this
  exact PySem.W.hideAll_get _ q hb
end
structure Cy(X:Cx)(x:Str)(C:Addr):Prop where
 bm:X.mg x=some (.ref C)
 obj:∃bm N nm q bs hdct sn sub ab col dd k0 k1 k2 k3 k5 mN,X.base.get? C=some (excClassObj nm q C N bs bm hdct sn sub ab col dd k0 k1 k2 k3 k5 "ValueError.__new__")∧X.base.Ns N mN∧mN "__init__" = none ∧
  OwnTail X.base [.type "ValueError", .type "Exception", .type "BaseException", .type "object"] bm
section
variable{X:Cx}{T:Tb}{W:Nat→St→Hp→Prop}
theorem qh{c:Nat}{x:Str}{e:Expr}{es:List Expr}{ms:MA}{np cpos pos:Pos}(O:Cy X x (T.xcl c))(hx:XM X T W)(hc:X.calm=true)(hg:Gl X x)(ha:SA X T W (e::es) ms)(hne:∀env pvs,ms env=.ok pvs→pvs.length≤100)(hd:(x ==("__debug__" : Str))=false:=by decide)
  (he:starEach (e::es) X.env=(false,eval e X.env)::starEach es X.env:=by rfl) (hpl:(backTo cpos (starEach es X.env)).any (·.1)=false:=by rfl) :
  SS X T W (.Raise (some (.Call (.Name x np) (e::es) [] cpos)) none pos) (fun env=>match ms env with
   | .ok _=>.exc c env
   | .exc k=>.exc k env
   | .stuck=>.stuck):=by
 intro pins s σ H D I h
 obtain⟨Z,F,env,fp,S,q⟩:=h
 dsimp only at q
 obtain⟨tl,N,nm,qn,bs,hdct,sn,sub,ab,col,dd,k0,k1,k2,k3,k5,mN,hC,hN,hni,TL⟩:=O.obj
 refine wpAny_Raise_call_subT (C:=T.xcl c) (nm:=nm) (q:=qn) (N:=N) (bs:=bs) (bm:=tl) (hdct:=hdct) (sn:=sn) (sub:=sub) (ab:=ab) (col:=col) (dd:=dd) (k0:=k0) (k1:=k1) (k2:=k2) (k3:=k3) (k5:=k5)
  PySem.F.excBase_ValueError (mN:=mN) (TL.hasType PySem.F.excBase_ValueError.hasBase) (I.ok.hd hc) (by rw[he];show(false ||(backTo cpos (starEach es X.env)).any (·.1))=false;rw[hpl];rfl) hni (dD I hg O.bm ⟨rfl,?_⟩ hd)
 have h2:=ha cpos pins s σ H (fun vs H'=>vs.length ≤ 100∧W c σ H') I (tA.bind S (fun k e H' x=>by rw [e] at q;exact q F H' σ fp (S.grow (Gr.same S.hp.ft x))) (fun e=>by rw [e] at q;exact q) fun pvs vs H' F' f e g r _ _ _=>by
  rw[e]at q
  exact⟨by rw[← r.length];exact hne env pvs e,q F' H' σ fp (S.grow g)⟩)
 rw[he]at h2 ⊢
 refine Calls.evalArgs_plain (wpAny_mono h2 (fun vs s₂ h₂=>?_) fun _ _ y=>y)
 obtain⟨vs',H',I2,rv,hl,hw⟩:=h₂
 refine⟨rfl,?_,I2.bk _ _ hC,hN.keeps I2.bk,TL.keeps I2.bk,fun h' e' mx=>hx pins σ H' s₂ c h' e' vs I2 mx hw⟩
 rw[← rv.length,sizeLine_eq]
 omega
end
end PR
namespace PR
open PySem PySem.Spec L2
def aA(m:List PV→Res PV)(xs:List PV):Res PV:=match m (mapL Fl.toBor xs)with
 | .ok v=>if v.has Fl.isBor then .stuck else .ok v
 | .exc c=>.exc c
 | .stuck=>.stuck
def a9(n:Nat)(m:MS)(args:List PV):Res PV:=match m (args.map some++List.replicate (n - args.length) none)with
 | .next _=>.ok .non
 | .ret v=>.ok v
 | .exc c _=>.exc c
 | _=>.stuck
def GF(T:Tb)(Z:Zn)(Q:VK)(E:XK):Res PV→Prop
 | .ok pv=>∀F H v f,dg T Z F H→Rel T F Z.B NoL H pv v f→f.Nodup→(∀a∈f,¬F a)→(∀a∈f,Z.H0 a=none∨Z.fp0 a)→Q v H
 | .exc c=>∀H,(∀a o,Z.H0 a=some o→¬Z.fp0 a→H a=some o)→E (.ref (T.xcl c)) none H
 | .stuck=>False
structure p7(T:Tb)(F B:Addr→Prop)(H:Hp)(pvs:List PV)(vs:List V)(f:List Addr):Prop where
 rel:RelL T F B NoL H pvs vs f
 nd:f.Nodup
 nf:∀a∈f,¬F a
 bo:∀a,B a→(∃o,H a=some o)∧a∉f
 ft:∀a,F a→∃o,H a=some o
def spM(T:Tb)(n:Nat)(m:List PV→Res PV):Sp:=fun vs H Q E=>vs.length=n∧∃pvs F B f,p7 T F B H pvs vs f∧GF T ⟨H,F,(·∈f),B,none⟩ Q E (m pvs)
theorem RelL.split{T:Tb}{F B L:Addr→Prop}{H:Hp}:∀{xs:List PV}{vs:List V}{f:List Addr},RelL T F B L H xs vs f→f.Nodup →
  ∃g:Nat→List Addr,(∀(i:Nat) x v,xs[i]?=some x→vs[i]?=some v→Rel T F B L H x v (g i))∧(∀i,(g i).Nodup)∧(∀i j,i≠j→∀a∈g i,a∉g j)∧∀i a,a∈g i→a∈f
 | [],_,_,_,_=>⟨fun _=>[],fun i x v e=>by simp at e,fun _=>List.nodup_nil,fun _ _ _ _ z=>(nomatch z),fun _ _ z=>(nomatch z)⟩
 | x::xs,_,_,h,nd=>by
  unfold RelL at h
  obtain⟨v,ws,f1,f2,rfl,h1,h2,rfl⟩:=h
  obtain⟨n1,n2,n3⟩:=List.nodup_append.mp nd
  obtain⟨g,g1,g2,g3,g4⟩:=RelL.split h2 n2
  refine⟨fun i=>match i with | 0=>f1 | j+1=>g j,fun i y u e1 e2=>?_,fun i=>?_,fun i j hij a ha=>?_,fun i a ha=>?_⟩
  ·cases i with
   | zero=>simp at e1 e2;subst e1 e2;exact h1
   | succ i=>exact g1 i y u (by simpa using e1) (by simpa using e2)
  ·cases i with
   | zero=>exact n1
   | succ i=>exact g2 i
  ·cases i with
   | zero =>
    cases j with
    | zero=>exact absurd rfl hij
    | succ j=>exact fun z=>n3 a ha a (g4 j a z) rfl
   | succ i =>
    cases j with
    | zero=>exact fun z=>n3 a z a (g4 i a ha) rfl
    | succ j=>exact g3 i j (fun z=>hij (by rw[z])) a ha
  ·cases i with
   | zero=>exact List.mem_append_left _ ha
   | succ i=>exact List.mem_append_right _ (g4 i a ha)
section
variable{P:Program}{w:World}{K:PySem.W.Frag}{mg:Str→Option Value}{base:Heap}{T:Tb}
theorem gW{F B:Addr→Prop}{H:Hp}{pvs:List PV}{vs:List V}{f:List Addr}(N:List Str)(R:p7 T F B H pvs vs f)(pin:Option V)(hpin:∀v,pin=some v→vs[0]?=some v∧∃fl c ks xs,pvs[0]?=some (.obj fl c ks xs)) :
  ∃fp,ap T ⟨H,F,(·∈f),B,pin⟩ F H (L2.ef N vs) (pvs.map some++List.replicate (N.length - pvs.length) none) fp:=by
 obtain⟨g,g1,g2,g3,g4⟩:=R.rel.split R.nd
 have hl:=R.rel.length
 refine⟨g,⟨R.bo,fun _ _ h _=>h,fun _ h=>h,fun _ h=>.inl h,R.ft⟩,?_,fun i pv e=>?_,g2,g3,fun i a ha=>⟨R.nf a (g4 i a ha),R.rel.there a (g4 i a ha)⟩,fun i a ha=>.inr (g4 i a ha),fun i a ha=>R.rel.chg a (g4 i a ha),fun v hv=>?_⟩
 ·unfold L2.ef
  simp[hl]
 ·by_cases hi:i < pvs.length
  ·rw[List.getElem?_append_left (by simpa using hi),List.getElem?_map]at e
   obtain⟨x,e1,e2⟩:=Option.map_eq_some_iff.mp e
   cases e2
   obtain⟨v,_,ev,_⟩:=R.rel.get e1
   refine⟨v,?_,g1 i pv v e1 ev⟩
   unfold L2.ef
   rw[List.getElem?_append_left (by simpa[← hl]using hi),List.getElem?_map,ev]
   rfl
  ·rw[List.getElem?_append_right (by simpa using hi),List.getElem?_replicate]at e
   split at e<;>cases e
 ·obtain⟨h1,fl,c,ks,xs,h2⟩:=hpin v hv
  have hl0:0 < vs.length:=(List.getElem?_eq_some_iff.mp h1).1
  have hp0:0 < pvs.length:=(List.getElem?_eq_some_iff.mp h2).1
  unfold L2.ef b9
  rw[List.getElem?_append_left (by simpa using hl0),List.getElem?_append_left (by simpa using hp0),List.getElem?_map,List.getElem?_map,h1,h2]
  exact⟨rfl,rfl⟩
theorem AQ{x qual:Str}{st:Stmt}{f:Addr}{fd:FuncData}{N ps:List Str}{k:Nat}{m:MS}(F:Fun K x qual st f fd)(S:bV N ps (am st))
  (body:∀ (cdv:Value) (A:Around) (outer:List Env) (s:Shared) (H:Hp) (E:XK),ck k (A.deeper (PyProof.Rows.envOfC qual (am st) s.heap.objs.size f cdv)) →
   SSs (cj (CXP P w) P w K mg base N qual (am st) f cdv A outer s H E) T (WD T E) (aQ st) m):bR P w K mg base (CXP P w) (k+1) f fd ps (spM T ps.length (a9 N.length m)):=by
 obtain⟨oc,od,kV,doc,pm,an,cdv,ct,osl,rfl,lk,hcd⟩:=F.ex
 refine oz lk hcd S (fun vs H Q E h=>h.1) fun A outer s H vs Q E hr hsp=>⟨_,body cdv A outer s H E hr,?_⟩
 obtain⟨_,pvs,F,B,fl,R,q⟩:=hsp
 obtain⟨fp,S0⟩:=gW N R none (fun _ h=>nomatch h)
 refine⟨_,F,_,fp,S0,?_⟩
 unfold a9 at q
 cases e:m (pvs.map some++List.replicate (N.length - pvs.length) none)with
 | next e'=>rw[e]at q;exact fun F' H' σ' fp' S'=>q F' H' .non [] S'.hp wJ List.nodup_nil (fun _ z=>(nomatch z)) (fun _ z=>(nomatch z))
 | ret v=>rw[e]at q;exact q
 | brk e'=>rw[e]at q;exact q.elim
 | cont e'=>rw[e]at q;exact q.elim
 | exc c e'=>rw[e]at q;exact fun F' H' σ' fp' S'=>q H' S'.hp.keep
 | stuck=>rw[e]at q;exact q.elim
end
mutual
theorem Rel.toBor{T:Tb}{F B B' L L':Addr→Prop}{H:Hp}(hB:∀a,B a→B' a)(hL:∀a,L a→B' a):∀{x:PV}{v:V}{fp:List Addr},Rel T F B L H x v fp→Rel T F B' L' H (x.mapF Fl.toBor) v fp
 | .non,_,_,h=>by unfold Rel at h;simp only[PV.mapF];unfold Rel;exact h
 | .bl _,_,_,h=>by unfold Rel at h;simp only[PV.mapF];unfold Rel;exact h
 | .int _,_,_,h=>by unfold Rel at h;simp only[PV.mapF];unfold Rel;exact h
 | .str _,_,_,h=>by unfold Rel at h;simp only[PV.mapF];unfold Rel;exact h
 | .lst f xs,_,fp,h=>by
  unfold Rel at h
  obtain⟨a,vs,fp',e,hl,hr,hf⟩:=h
  simp only[PV.mapF]
  unfold Rel
  cases f with
  | own=>exact⟨a,vs,fp',e,hl,RelL.toBor hB hL hr,hf⟩
  | frz=>exact⟨a,vs,fp',e,hl,RelL.toBor hB hL hr,hf⟩
  | bor=>exact⟨a,vs,fp',e,⟨hB a hl.1,hl.2⟩,RelL.toBor hB hL hr,hf⟩
  | lnt=>exact⟨a,vs,fp',e,⟨hL a hl.1,.inl hl.2⟩,RelL.toBor hB hL hr,hf⟩
  | mod=>exact⟨a,vs,fp',e,hl,RelL.toBor hB hL hr,hf⟩
 | .tup xs,_,fp,h=>by
  unfold Rel at h
  obtain⟨a,vs,e,hl,hr⟩:=h
  simp only[PV.mapF]
  unfold Rel
  exact⟨a,vs,e,hl,RelL.toBor hB hL hr⟩
 | .obj f c ks xs,_,fp,h=>by
  unfold Rel at h
  obtain⟨a,dx,vs,fp',e,hl,hk,hr,hf,ha⟩:=h
  simp only[PV.mapF]
  unfold Rel
  have r:=RelL.toBor hB hL (L':=L') hr
  have hk':ks.length=(mapL Fl.toBor xs).length∧c < T.nc:=⟨by rw[r.length,hk.1,hr.length],hk.2⟩
  cases f with
  | own=>exact⟨a,dx,vs,fp',e,hl,hk',r,hf,ha⟩
  | frz=>exact⟨a,dx,vs,fp',e,hl,hk',r,hf,ha⟩
  | bor=>exact⟨a,dx,vs,fp',e,hl,hk',r,hf,hB a ha⟩
  | lnt=>exact⟨a,dx,vs,fp',e,hl,hk',r,hf,hL a ha⟩
  | mod=>exact ha.elim
 | .exc c,_,fp,h=>by unfold Rel at h;simp only[PV.mapF];unfold Rel;exact h
theorem RelL.toBor{T:Tb}{F B B' L L':Addr→Prop}{H:Hp}(hB:∀a,B a→B' a)(hL:∀a,L a→B' a):∀{xs:List PV}{vs:List V}{fp:List Addr},RelL T F B L H xs vs fp→RelL T F B' L' H (mapL Fl.toBor xs) vs fp
 | [],_,_,h=>by unfold RelL at h;simp only[mapL];unfold RelL;exact h
 | x::xs,_,fp,h=>by
  unfold RelL at h
  obtain⟨v,ws,f1,f2,e,h1,h2,rfl⟩:=h
  simp only[mapL]
  unfold RelL
  exact⟨v,ws,f1,f2,e,Rel.toBor hB hL h1,RelL.toBor hB hL h2,rfl⟩
end
mutual
theorem Rel.noB{T:Tb}{F B B' L:Addr→Prop}{H:Hp}:∀{x:PV}{v:V}{fp:List Addr},x.has Fl.isBor=false→Rel T F B L H x v fp→Rel T F B' L H x v fp
 | .non,_,_,_,h=>by unfold Rel at h ⊢;exact h
 | .bl _,_,_,_,h=>by unfold Rel at h ⊢;exact h
 | .int _,_,_,_,h=>by unfold Rel at h ⊢;exact h
 | .str _,_,_,_,h=>by unfold Rel at h ⊢;exact h
 | .lst f xs,_,fp,hp,h=>by
  unfold Rel at h ⊢
  simp only[PV.has,Bool.or_eq_false_iff]at hp
  obtain⟨a,vs,fp',e,hl,hr,hf⟩:=h
  refine⟨a,vs,fp',e,?_,RelL.noB hp.2 hr,hf⟩
  cases f with
  | bor=>exact absurd hp.1 (by decide)
  | own=>exact hl
  | frz=>exact hl
  | lnt=>exact hl
  | mod=>exact hl
 | .tup xs,_,fp,hp,h=>by
  unfold Rel at h ⊢
  simp only[PV.has]at hp
  obtain⟨a,vs,e,hl,hr⟩:=h
  exact⟨a,vs,e,hl,RelL.noB hp hr⟩
 | .obj f c ks xs,_,fp,hp,h=>by
  unfold Rel at h ⊢
  simp only[PV.has,Bool.or_eq_false_iff]at hp
  obtain⟨a,dx,vs,fp',e,hl,hk,hr,hf,ha⟩:=h
  refine⟨a,dx,vs,fp',e,hl,hk,RelL.noB hp.2 hr,hf,?_⟩
  cases f with
  | bor=>exact absurd hp.1 (by decide)
  | own=>exact ha
  | frz=>exact ha
  | lnt=>exact ha
  | mod=>exact ha
 | .exc c,_,fp,hp,h=>by
  unfold Rel at h ⊢
  exact h
theorem RelL.noB{T:Tb}{F B B' L:Addr→Prop}{H:Hp}:∀{xs:List PV}{vs:List V}{fp:List Addr},hasL Fl.isBor xs=false→RelL T F B L H xs vs fp→RelL T F B' L H xs vs fp
 | [],_,_,_,h=>by unfold RelL at h ⊢;exact h
 | x::xs,_,fp,hp,h=>by
  unfold RelL at h ⊢
  simp only[hasL,Bool.or_eq_false_iff]at hp
  obtain⟨v,ws,f1,f2,e,h1,h2,rfl⟩:=h
  exact⟨v,ws,f1,f2,e,Rel.noB hp.1 h1,RelL.noB hp.2 h2,rfl⟩
end
theorem RelL.append{T:Tb}{F B L:Addr→Prop}{H:Hp}:∀{xs ys:List PV}{vs us:List V}{f g:List Addr},RelL T F B L H xs vs f→RelL T F B L H ys us g→RelL T F B L H (xs++ys) (vs++us) (f++g)
 | [],_,_,_,_,_,h,r=>by unfold RelL at h;obtain⟨rfl,rfl⟩:=h;exact r
 | x::xs,_,_,_,_,_,h,r=>by
  unfold RelL at h
  obtain⟨v,ws,f1,f2,rfl,h1,h2,rfl⟩:=h
  show RelL T F B L H (x::(xs++_)) (v::(ws++_)) _
  unfold RelL
  exact⟨v,_,f1,_,rfl,h1,RelL.append h2 r,by rw[List.append_assoc]⟩
section
variable{X:Cx}{T:Tb}{W:Nat→St→Hp→Prop}{Z:Zn}{F F1:Addr→Prop}{H H1:Hp}{σ:St}{env:En}{fp:Nat→List Addr}
theorem vG{k:Nat}{f:Addr}{fd:FuncData}{ps:List Str}{m:List PV→Res PV}{xs:List PV}{vs:List V}{us ds:List Value}{fx:List Addr}{Q:VK}{pins:List (Addr×Obj)}{s1:Shared}{dvs:List V}{dps:List PV}
  (G:bR X.prog X.w X.K X.mg X.base (CXP X.prog X.w) k f fd ps (spM T ps.length m)) (hr:ck k X.A) (hb:cH X.K fd ps ds) (hd:aC dvs ds) (hdp:∀F B L H,RelL T F B L H dps dvs []) (hx:XF X T W)
  (S:ap T Z F H σ env fp) (g:Gr F H F1 H1) (r:RelL T F1 Z.B (Own fp) H1 xs vs fx) (nf:∀a∈fx,¬F1 a) (nd:fx.Nodup) (new:∀a∈fx,H a=none) (q:GE T W Z.B F (Own fp) σ H Q (aA m (xs++dps)))
  (I1:L2.Inv X pins σ H1 s1) (rv:aC vs us) (hlen:vs.length+dvs.length=ps.length):wpAny (model X.prog X.w) X.A (call (.ref f) us) (EP X pins σ Q) X.xe s1:=by
 have r2:aC (vs++dvs) (us++ds):=rv.append hd
 have hl:(us++ds).length=ps.length:=by rw[← r2.length,List.length_append];exact hlen
 have rr:RelL T F1 Z.B (Own fp) H1 (xs++dps) (vs++dvs) fx:=by
  have:=RelL.append r (hdp F1 Z.B (Own fp) H1)
  rwa [List.append_nil]at this
 have hBo:∀a,Z.B a→(∃o,H1 a=some o)∧a∉fx:=fun a h=>by
  obtain⟨⟨o,h1⟩,h2⟩:=S.hp.bo a h
  have h3:=S.hp.keep a o h1 h2
  exact⟨⟨o,g.ext a o h3⟩,fun z=>by rw[new a z]at h3;cases h3⟩
 have hOw:∀a,Own fp a→(∃o,H1 a=some o)∧a∉fx:=fun a ⟨i,hi⟩=>by
  obtain⟨_,o,ho⟩:=S.dis i a hi
  exact⟨⟨o,g.ext a o ho⟩,fun z=>by rw[new a z]at ho;cases ho⟩
 have R:p7 T F1 (fun a=>(∃o,H1 a=some o)∧a∉fx) H1 (mapL Fl.toBor (xs++dps)) (vs++dvs) fx:=⟨RelL.toBor hBo hOw rr,nd,nf,fun a h=>h,g.dom⟩
 refine wpAny_call (codeAny_mono (G.run X.A X.stack s1 H1 ⟨us,[]⟩ (us ++ ds) (vs ++ dvs) Q (fun cls _ H'=>∃ c,cls=.ref (T.xcl c)∧W c σ H') hr I1.env0 (hb s1 us I1.kIn hl) r2
  ⟨by rw[r2.length,hl],_,F1,_,fx,R,?_⟩) fun rs s' hq=>?_)
 ·unfold aA at q
  cases e:m (mapL Fl.toBor (xs++dps))with
  | ok v =>
   rw[e]at q
   dsimp only at q
   intro F2 H2 u f2 hp2 r3 nd2 nf2 new2
   by_cases hbr:v.has Fl.isBor=true
   ·rw[if_pos hbr]at q;exact q.elim
   ·rw[if_neg hbr]at q
    have hbr':v.has Fl.isBor=false:=by simpa using hbr
    refine q u H2 F2 f2 ⟨fun a o h=>hp2.keep a o (g.ext a o h) fun z=>(by rw[new a z]at h;cases h),fun a h=>hp2.f0 a (g.mono a h),fun a h=>?_,hp2.ft⟩ ?_ nf2 nd2 fun a ha=>?_
    ·rcases hp2.fn a h with z | z | z
     ·exact g.only a z
     ·exact .inr (g.ext.free z)
     ·exact .inr (new a z)
    ·exact Rel.tr (fun _ h=>h) (fun _ h=>h) (fun _ h=>h.elim) (fun _ _ h _=>h) (fun _ _ _ h=>h) (Rel.noB (B':=Z.B) hbr' r3)
    ·rcases new2 a ha with z | z
     ·exact g.ext.free z
     ·exact new a z
  | exc c =>
   rw[e]at q
   exact fun H' h=>⟨c,rfl,q H' fun a o z=>h a o (g.ext a o z) fun z'=>by rw[new a z']at z;cases z⟩
  | stuck=>rw[e]at q;exact q.elim
 ·cases rs with
  | error e =>
   obtain⟨cls,H',fl,c,rfl,hw⟩:=hq
   exact hx pins σ H1 s1 c H' e s' I1 fl hw
  | ok fl =>
   cases fl with
   | ret u=>exact I1.after hq
   | next=>exact False.elim hq
   | brk=>exact False.elim hq
   | cont=>exact False.elim hq
theorem t3{k:Nat}{f:Addr}{fd:FuncData}{ps:List Str}{m:List PV→Res PV}{x:Str}{p pos:Pos}{e:Expr}{es:List Expr}{ms:MA}{ds:List Value}{dvs:List V}{dps:List PV}
  (G:bR X.prog X.w X.K X.mg X.base (CXP X.prog X.w) k f fd ps (spM T ps.length m)) (hr:ck k X.A) (hg:Gl X x) (hm:X.mg x=some (.ref f)) (hk:PySem.W.keepIn X.K (.ref f)=true) (hb:cH X.K fd ps ds) (hd:aC dvs ds) (hdp:∀F B L H,RelL T F B L H dps dvs []) (hx:XF X T W)
  (hn:∀env xs,ms env=.ok xs→xs.length+dvs.length=ps.length) (ha:SA X T W (e::es) ms)
  (hdb:(x ==("__debug__" : Str))=false:=by decide) (he:starEach (e::es) X.env=(false,eval e X.env)::starEach es X.env:=by rfl) (hpl:(backTo pos (starEach es X.env)).any (·.1)=false:=by rfl) :
  SE X T W (.Call (.Name x p) (e::es) [] pos) (ao (fun xs=>aA m (xs++dps)) ms):=by
 intro pins s σ H Q I h
 obtain⟨Z,F,env,fp,S,q⟩:=h
 unfold ao at q
 refine wpAny_Call_Name_kw (dD I hg hm ?_ hdb)
 refine PySem.W.callWith_K (h₀:=X.base) I.ok.mod.kin hk (thn (ha pos pins s σ H (fun vs H1=>∀ us s1,L2.Inv X pins σ H1 s1→aC vs us→wpAny (model X.prog X.w) X.A (call (.ref f) us) (EP X pins σ Q) X.xe s1) I
  (tA.bind S (fun c e=>by rw[e]at q;exact q) (fun e=>by rw[e]at q;exact q) fun xs vs H1 F1 f1 e1 g1 r1 n1 d1 w1 us s1 I1 rv=>?_)) fun us s1 ⟨vs,H1,I1,r,q1⟩=>⟨I1.kIn,q1 us s1 I1 r⟩) he hpl
 rw[e1]at q
 exact vG G hr hb hd hdp hx S g1 r1 n1 d1 w1 q I1 rv (by rw[← r1.length];exact hn env xs e1)
def jA(X:Cx)(T:Tb)(k:Nat)(mn:Str)(ps:List Str)(ds:List Value)(disp:Nat→Option (List PV→Res PV)):Prop :=
 ∀c m,c < T.nc→disp c=some m→∃f fd,vp X.K (T.cls c) mn f∧cH X.K fd ps ds∧bR X.prog X.w X.K X.mg X.base (CXP X.prog X.w) k f fd ps (spM T ps.length m)
def on(disp:Nat→Option (List PV→Res PV))(dps:List PV)(o:ME)(ms:MA):ME:=fun env=>(o env).bind fun ov=>match ov with
 | .obj _ c _ _=>match disp c with
  | some m=>(ms env).bind fun xs=>aA m ((ov::xs)++ dps)
  | none=>.stuck
 | _=>.stuck
theorem g_{mn:Str}(hm:∀k,T.att k≠mn):∀(ks:List Nat) (vs:List V),((ks.map T.att).zip vs).lookup mn=none
 | [],_=>rfl
 | j::ks,[]=>rfl
 | j::ks,v::vs=>by
  rw[List.map_cons,List.zip_cons_cons,List.lookup_cons,show(mn==T.att j)=false by rw[beq_eq_false_iff_ne];exact(hm j).symm]
  exact g_ hm ks vs
theorem uI{pins:List (Addr×Obj)}{k:Nat}{mn:Str}{ps:List Str}{ds:List Value}{disp:Nat→Option (List PV→Res PV)}{fl:Fl}{c:Nat}{ks:List Nat}{xs:List PV}{v:V}{f1:List Addr}{s1:Shared}{pl:Sem Bool}{Q:Value×List Value→Shared→Prop}{m:List PV→Res PV}{u:Value}{B L:Addr→Prop}
  (hK:X.K=T.K) (hc:∀c < T.nc,Cls T.K (T.cls c)) (hm:∀k,T.att k≠mn) (D:jA X T k mn ps ds disp) (e:disp c=some m) (r:Rel T F1 B L H1 (.obj fl c ks xs) v f1) (I1:L2.Inv X pins σ H1 s1) (ru:aY v u)
  (h:∀a f fd,u=.ref a→PySem.W.keepIn X.K (.ref f)=true→cH X.K fd ps ds→bR X.prog X.w X.K X.mg X.base (CXP X.prog X.w) k f fd ps (spM T ps.length m)→Q (.ref f,[.ref a]) s1) :
  wpAny (model X.prog X.w) X.A (getMethod u mn pl) Q X.xe s1:=by
 unfold Rel at r
 obtain⟨a,dx,vs,fp',rfl,hl,hk,hr,_,_⟩:=r
 obtain⟨f,fd,M,hb,G⟩:=D c m hk.2 e
 obtain rfl:u=Value.ref a:=ru
 refine m_ I1 hl (by rw[hK];exact hc c hk.2) M (g_ hm _ _) (h a f fd rfl M.kp hb G)
theorem tV{k:Nat}{mn:Str}{ps:List Str}{ds:List Value}{disp:Nat→Option (List PV→Res PV)}{o e:Expr}{es:List Expr}{mo:ME}{ms:MA}{apos pos:Pos}{dvs:List V}{dps:List PV}{pl:Sem Bool}
  (hK:X.K=T.K) (hc:∀c < T.nc,Cls T.K (T.cls c)) (hm:∀k,T.att k≠mn) (D:jA X T k mn ps ds disp) (hr:ck k X.A) (hd:aC dvs ds) (hdp:∀F B L H,RelL T F B L H dps dvs []) (hx:XF X T W)
  (hn:∀env xs,ms env=.ok xs→xs.length+1+dvs.length=ps.length) (ho:SE X T W o mo) (ha:SA X T W (e::es) ms)
  (hst:starEach (e::es) X.env=(false,eval e X.env)::starEach es X.env:=by rfl) (hpl:(backTo pos (starEach es X.env)).any (·.1)=false:=by rfl)
  (ht:eval (.Call (.Attribute o mn apos) (e::es) [] pos) X.env=(do
   let ov ← eval o X.env
   standAt apos.atName
   let(f,first) ← holding [ov] (getMethod ov mn pl)
   callWith pos f first (backTo pos (starEach (e::es) X.env)) (backToKw pos (keywordEach [] X.env))):=by rfl) :
  SE X T W (.Call (.Attribute o mn apos) (e::es) [] pos) (on disp dps mo ms):=by
 intro pins s σ H Q I h
 obtain⟨Z,F,env,fp,S,q⟩:=h
 unfold on at q
 refine PySem.W.methodCall_KW (pl:=pl) (thn (ho pins s σ H (fun v H1=>∃ ov F1 f1,mo env=.ok ov∧Gr F H F1 H1∧Rel T F1 Z.B (Own fp) H1 ov v f1∧(∀ a ∈ f1,¬ F1 a)∧f1.Nodup∧∀ a ∈ f1,H a=none) I
  (tE.bind S (fun c e=>by rw[e]at q;exact q) (fun e=>by rw[e]at q;exact q) fun ov v H1 F1 f1 e1 g1 r1 n1 d1 w1=>⟨ov,F1,f1,e1,g1,r1,n1,d1,w1⟩)) fun u s1 ⟨v,H1,I1,ru,ov,F1,f1,e1,g1,r1,n1,d1,w1⟩=>?_) ht
 rw[e1]at q
 simp only[Res.ok_bind]at q
 by_cases hobj:∃fl c ks xs m,ov=.obj fl c ks xs∧disp c=some m
 ·obtain⟨fl,c,ks,ys,m,rfl,em⟩:=hobj
  dsimp only at q
  rw[em]at q
  dsimp only at q
  refine uI hK hc hm D em r1 I1 ru fun a f fd eu hkp hb G=>?_
  subst eu
  refine PySem.W.callWith_K (first:=[.ref a]) (h₀:=X.base) I.ok.mod.kin hkp (thn (ha pos pins s1 σ H1 (fun vs H2=>∀ us s2,L2.Inv X pins σ H2 s2→aC vs us→wpAny (model X.prog X.w) X.A (call (.ref f) (.ref a::us)) (EP X pins σ Q) X.xe s2) I1
   (tA.bind (S.grow g1) (fun c e=>by rw[e]at q;exact fun H' x=>q H' (g1.ext.trans x)) (fun e=>by rw[e]at q;exact q) fun xs vs H2 F2 f2 e2 g2 r2 n2 d2 w2 us s2 I2 rv=>?_)) fun us s2 ⟨vs,H2,I2,r,q2⟩=>⟨I2.kIn,q2 us s2 I2 r⟩) hst hpl
  rw[e2]at q
  simp only[Res.ok_bind]at q
  have nn:∀b∈f1,¬F2 b:=fun b hb z=>by
   rcases g2.only b z with z | z
   ·exact n1 b hb z
   ·obtain⟨oo,hoo⟩:=r1.there b hb
    rw[hoo]at z;cases z
  refine vG (xs:=.obj fl c ks ys::xs) (vs:=v::vs) (us:=.ref a::us) (fx:=f1++f2) G hr hb hd hdp hx S (g1.trans g2) (by unfold RelL;exact⟨v,vs,f1,f2,rfl,r1.ext g2.ext g2.mono,r2,rfl⟩) (fun b hb=>?_) ?_ (fun b hb=>?_) q I2 (.cons ru rv) ?_
  ·rcases List.mem_append.mp hb with hb | hb
   ·exact nn b hb
   ·exact n2 b hb
  ·refine List.nodup_append.mpr ⟨d1,d2,fun b hb c hc z=>?_⟩
   subst z
   obtain⟨oo,hoo⟩:=r1.there b hb
   rw[w2 b hc]at hoo;cases hoo
  ·rcases List.mem_append.mp hb with hb | hb
   ·exact w1 b hb
   ·exact g1.ext.free (w2 b hb)
  ·have:=hn env xs e2
   rw[List.length_cons,← r2.length]
   exact this
 ·exfalso
  cases ov with
  | obj fl c ks ys =>
   cases em:disp c with
   | none=>simp only[em]at q;exact q
   | some m=>exact hobj ⟨fl,c,ks,ys,m,rfl,em⟩
  | _=>exact q
end
end PR
namespace PR
open PySem PySem.Spec L2
def ee(ms:MA)(n:Nat):Prop:=∀env xs,ms env=.ok xs→xs.length=n
theorem cG:ee ai 0:=fun _ _ h=>by cases h;rfl
theorem b0{m:ME}{ms:MA}{n:Nat}(h:ee ms n):ee (ad m ms) (n+1):=fun env xs e=>by
 unfold ad at e
 cases e1:m env with
 | ok x =>
  rw[e1]at e
  simp only[Res.ok_bind]at e
  cases e2:ms env with
  | ok ys =>
   rw[e2]at e
   simp only[Res.ok_bind]at e
   cases e
   rw[List.length_cons,h env ys e2]
  | exc c=>rw[e2]at e;cases e
  | stuck=>rw[e2]at e;cases e
 | exc c=>rw[e1]at e;cases e
 | stuck=>rw[e1]at e;cases e
def bf:PV→Option (List PV)
 | .lst _ xs=>some xs
 | .tup xs=>some xs
 | _=>none
section
variable{X:Cx}{T:Tb}{W:Nat→St→Hp→Prop}{Z:Zn}{F F1 B L:Addr→Prop}{H H1:Hp}{σ:St}{env:En}{fp:Nat→List Addr}{D:Ends}
theorem Rel.seq{x:PV}{v:V}{fx:List Addr}{xs:List PV}(r:Rel T F B L H x v fx)(e:bf x=some xs):∃a vs fx',v=.ref a∧(SqL T.K H a vs∨SqT T.K H a vs)∧RelL T F B L H xs vs fx'∧fx'.Sublist fx:=by
 cases x with
 | lst f ys =>
  cases e
  unfold Rel at r
  obtain⟨a,vs,fp',rfl,hl,hr,hf⟩:=r
  refine⟨a,vs,fp',rfl,.inl hl.sq,hr,?_⟩
  cases f with
  | own=>obtain rfl:fx=a::fp':=hf;exact List.sublist_cons_self _ _
  | frz=>obtain⟨rfl,rfl⟩:=hf;exact List.Sublist.refl _
  | bor=>obtain⟨rfl,rfl⟩:=hf;exact List.Sublist.refl _
  | lnt=>obtain⟨rfl,rfl⟩:=hf;exact List.Sublist.refl _
  | mod=>obtain⟨rfl,rfl⟩:=hf;exact List.Sublist.refl _
 | tup ys =>
  cases e
  unfold Rel at r
  obtain⟨a,vs,rfl,hl,hr⟩:=r
  exact⟨a,vs,fx,rfl,.inr hl,hr,List.Sublist.refl _⟩
 | _=>cases e
theorem GE.newL{Q:VK}{ys:List PV}{vs:List V}{fx:List Addr}(q:GE T W B F L σ H Q (.ok (.lst .own ys)))(g:Gr F H F1 H1)(r:RelL T F1 B L H1 ys vs fx)(nf:∀a∈fx,¬F1 a)(nd:fx.Nodup)(new:∀a∈fx,H a=none) :
  ∀p,H1 p=none→Q (.ref p) (upd H1 p (.lst vs)):=fun p hp=>by
 refine q (.ref p) (upd H1 p (.lst vs)) F1 (p::fx) (g.trans (Gr.same g.dom (Ext.upd hp))) ?_ (fun a ha=>?_) ?_ (fun a ha=>?_)
 ·unfold Rel
  exact⟨p,vs,fx,rfl,bg,r.ext (Ext.upd hp) fun _ h=>h,rfl⟩
 ·rcases List.mem_cons.mp ha with rfl | ha
  ·intro z
   obtain⟨o,ho⟩:=g.dom _ z
   rw[hp]at ho;cases ho
  ·exact nf a ha
 ·refine List.nodup_cons.mpr ⟨fun z=>?_,nd⟩
  obtain⟨o,ho⟩:=r.there p z
  rw[hp]at ho;cases ho
 ·rcases List.mem_cons.mp ha with rfl | ha
  ·exact g.ext.free hp
  ·exact new a ha
theorem GE.newT{Q:VK}{ys:List PV}{vs:List V}{fx:List Addr}(q:GE T W B F L σ H Q (.ok (.tup ys)))(g:Gr F H F1 H1)(r:RelL T F1 B L H1 ys vs fx)(nf:∀a∈fx,¬F1 a)(nd:fx.Nodup)(new:∀a∈fx,H a=none) :
  ∀p,H1 p=none→Q (.ref p) (upd H1 p (.tup vs)):=fun p hp=>by
 refine q (.ref p) (upd H1 p (.tup vs)) F1 fx (g.trans (Gr.same g.dom (Ext.upd hp))) ?_ nf nd new
 unfold Rel
 exact⟨p,vs,rfl,SqT.of bg,r.ext (Ext.upd hp) fun _ h=>h⟩
theorem vD{n:Nat}(h:n≤1000):n≤sizeLine:=by rw[sizeLine_eq];omega
def da(ms:MA):ME:=fun env=>(ms env).bind fun xs=>.ok (.lst .own xs)
def fg(ms:MA):ME:=fun env=>(ms env).bind fun xs=>.ok (.tup xs)
theorem wA{es:List Expr}{ms:MA}{n:Nat}{pos:Pos}(ha:SA X T W es ms)(hn:ee ms n)(hs:n≤1000:=by decide):SE X T W (.List es pos) (da ms):=PE.wk (w6 (pos:=pos) ha) fun σ H Q ⟨Z,F,env,fp,S,q⟩=>by
 unfold da at q
 refine tA.bind S (fun c e=>by rw[e]at q;exact q) (fun e=>by rw[e]at q;exact q) fun xs vs H1 F1 f1 e1 g1 r1 n1 d1 w1=>?_
 rw[e1]at q
 exact⟨vD (by rw[← r1.length,hn env xs e1];exact hs),GE.newL q g1 r1 n1 d1 w1⟩
theorem ww{es:List Expr}{ms:MA}{n:Nat}{x1}{pos:Pos}(ha:SA X T W es ms)(hn:ee ms n)(hs:n≤1000:=by decide):SE X T W (.Tuple es x1 pos) (fg ms):=PE.wk (wY (pos:=pos) ha) fun σ H Q ⟨Z,F,env,fp,S,q⟩=>by
 unfold fg at q
 refine tA.bind S (fun c e=>by rw[e]at q;exact q) (fun e=>by rw[e]at q;exact q) fun xs vs H1 F1 f1 e1 g1 r1 n1 d1 w1=>?_
 rw[e1]at q
 exact⟨vD (by rw[← r1.length,hn env xs e1];exact hs),GE.newT q g1 r1 n1 d1 w1⟩
def p1(f:PV→Res PV):List PV→Res PV
 | [x]=>f x
 | _=>.stuck
theorem RelL.one{x:PV}{vs:List V}{f:List Addr}(r:RelL T F B L H [x] vs f):∃v,vs=[v]∧Rel T F B L H x v f:=by
 unfold RelL at r
 obtain⟨v,ws,f1,f2,rfl,h1,h2,rfl⟩:=r
 unfold RelL at h2
 obtain⟨rfl,rfl⟩:=h2
 exact⟨v,rfl,by rwa [List.append_nil]⟩
def fA:PV→Res PV:=fun x=>match bf x with
 | some xs=>.ok (.int xs.length)
 | none=>.stuck
theorem uF(hK:X.K=T.K):Mir T W (p1 fA) (fun xs H Q=>∃p ys,xs=[.ref p]∧(SqL X.K H p ys∨SqT X.K H p ys)∧Q (.int ys.length) H):=by
 intro B F L σ H Q F' H' xs vs fx g r _ _ _ q
 match xs,r,q with
 | [x],r,q =>
  obtain⟨v,rfl,r1⟩:=r.one
  simp only[p1,fA]at q
  cases e:bf x with
  | none=>rw[e]at q;exact q.elim
  | some ys =>
   rw[e]at q
   obtain⟨a,ws,fx',rfl,hs,hr,_⟩:=r1.seq e
   exact⟨a,ws,rfl,by rw[hK];exact hs,q.scal g (by rw[← hr.length];exact d0)⟩
 | [],_,q=>exact q.elim
 | _::_::_,_,q=>exact q.elim
theorem dY{p pos:Pos}{e:Expr}{m:ME}(hK:X.K=T.K)(hg:Gl X "len")(hm:X.mg "len" = none)(ha:SE X T W e m)(he:starEach [e] X.env=[(false,eval e X.env)]:=by rfl):SE X T W (.Call (.Name "len" p) [e] [] pos) (ao (p1 fA) (ad m ai)) :=
 dL kM (uF hK) hg hm PySem.boot_len (aa ha ag he) (he:=he)
def lq:PV→Res PV:=fun x=>match bf x with
 | some xs=>.ok (.lst .own xs)
 | none=>.stuck
theorem rc(hK:X.K=T.K):Mir T W (p1 lq) (fun xs H Q=>∃p ys,xs=[.ref p]∧(SqL X.K H p ys∨SqT X.K H p ys)∧∀l,H l=none→Q (.ref l) (upd H l (.lst ys))):=by
 intro B F L σ H Q F' H' xs vs fx g r nf nd new q
 match xs,r,q with
 | [x],r,q =>
  obtain⟨v,rfl,r1⟩:=r.one
  simp only[p1,lq]at q
  cases e:bf x with
  | none=>rw[e]at q;exact q.elim
  | some ys =>
   rw[e]at q
   obtain⟨a,ws,fx',rfl,hs,hr,sl⟩:=r1.seq e
   exact⟨a,ws,rfl,by rw[hK];exact hs,GE.newL q g hr (fun b hb=>nf b (sl.subset hb)) (nd.sublist sl) (fun b hb=>new b (sl.subset hb))⟩
 | [],_,q=>exact q.elim
 | _::_::_,_,q=>exact q.elim
theorem tX{p pos:Pos}{e:Expr}{m:ME}(hK:X.K=T.K)(hg:Gl X "list")(hm:X.mg "list" = none)(hv:bootBuiltins "list" = some (.type "list"))(ha:SE X T W e m)(he:starEach [e] X.env=[(false,eval e X.env)]:=by rfl):SE X T W (.Call (.Name "list" p) [e] [] pos) (ao (p1 lq) (ad m ai)) :=
 jH kL (rc hK) hg hm hv (aa ha ag he) (he:=he)
def d5:PV→Res PV:=fun x=>match bf x with
 | some xs=>.ok (.tup xs)
 | none=>.stuck
theorem pB(hK:X.K=T.K):Mir T W (p1 d5) (fun xs H Q=>∃p ys,xs=[.ref p]∧((SqL X.K H p ys∧∀l,H l=none→Q (.ref l) (upd H l (.tup ys)))∨(SqT X.K H p ys∧Q (.ref p) H))):=by
 intro B F L σ H Q F' H' xs vs fx g r nf nd new q
 match xs,r,q with
 | [x],r,q =>
  obtain⟨v,rfl,r1⟩:=r.one
  simp only[p1,d5]at q
  cases x with
  | lst f ys =>
   simp only[bf]at q
   unfold Rel at r1
   obtain⟨a,ws,fp',rfl,hl,hr,hf⟩:=r1
   have sl:fp'.Sublist fx:=by
    cases f with
    | own=>obtain rfl:fx=a::fp':=hf;exact List.sublist_cons_self _ _
    | frz=>obtain⟨rfl,rfl⟩:=hf;exact List.Sublist.refl _
    | bor=>obtain⟨rfl,rfl⟩:=hf;exact List.Sublist.refl _
    | lnt=>obtain⟨rfl,rfl⟩:=hf;exact List.Sublist.refl _
    | mod=>obtain⟨rfl,rfl⟩:=hf;exact List.Sublist.refl _
   exact⟨a,ws,rfl,.inl ⟨by rw[hK];exact hl.sq,GE.newT q g hr (fun b hb=>nf b (sl.subset hb)) (nd.sublist sl) (fun b hb=>new b (sl.subset hb))⟩⟩
  | tup ys =>
   simp only[bf]at q
   have r2:=r1
   unfold Rel at r2
   obtain⟨a,ws,rfl,hs,hr⟩:=r2
   exact⟨a,ws,rfl,.inr ⟨by rw[hK];exact hs,q _ _ _ fx g r1 nf nd new⟩⟩
  | _=>exact q.elim
 | [],_,q=>exact q.elim
 | _::_::_,_,q=>exact q.elim
theorem dJ{p pos:Pos}{e:Expr}{m:ME}(hK:X.K=T.K)(hg:Gl X "tuple")(hm:X.mg "tuple" = none)(hv:bootBuiltins "tuple" = some (.type "tuple"))(ha:SE X T W e m)(he:starEach [e] X.env=[(false,eval e X.env)]:=by rfl):SE X T W (.Call (.Name "tuple" p) [e] [] pos) (ao (p1 d5) (ad m ai)) :=
 jH jv (pB hK) hg hm hv (aa ha ag he) (he:=he)
def aK:PV→PV→Res PV
 | x,.int i=>match bf x with
  | some xs=>match atI xs i with
   | some y=>if x.has Fl.isOwn&&y.has Fl.isOwn then .stuck else .ok y
   | none=>.stuck
  | none=>.stuck
 | _,_=>.stuck
theorem oQ{xs:List PV}{vs:List V}{f:List Addr}{i:Int}{y:PV}(r:RelL T F B L H xs vs f)(e:atI xs i=some y):∃v f',atI vs i=some v∧Rel T F B L H y v f'∧f'.Sublist f:=by
 unfold atI at e ⊢
 rw[← r.length]
 cases e1:ixN xs.length i with
 | none=>rw[e1]at e;cases e
 | some j =>
  rw[e1]at e
  exact r.get e
theorem uH(hK:X.K=T.K):fK T W aK (fun x y H Q=>ue X.K x y H Q ∨(ub X.K x y H Q∨ud x y H Q)):=by
 intro B F L σ H Q F' H' x y v u fx fy g rx ry nf nd new q
 cases y with
 | int i =>
  unfold Rel at ry
  obtain⟨rfl,rfl⟩:=ry
  simp only[aK]at q
  cases e:bf x with
  | none=>rw[e]at q;exact q.elim
  | some xs =>
   rw[e]at q
   dsimp only at q
   obtain⟨a,ws,fx',rfl,hs,hr,sl⟩:=rx.seq e
   cases e2:atI xs i with
   | none=>rw[e2]at q;exact q.elim
   | some z =>
    rw[e2]at q
    dsimp only at q
    obtain⟨w,f',h1,h2,h3⟩:=oQ hr e2
    have e0:f'=[]:=by
     by_cases ho:x.has Fl.isOwn=true
     ·by_cases hz:z.has Fl.isOwn=true
      ·rw[ho,hz]at q;exact q.elim
      ·exact Rel.noOwn (by simpa using hz) h2
     ·have:=Rel.noOwn (by simpa using ho) rx
      subst this
      exact List.sublist_nil.mp (h3.trans sl)
    subst e0
    by_cases hb:(x.has Fl.isOwn&&z.has Fl.isOwn)=true
    ·rw[if_pos hb]at q;exact q.elim
    ·rw[if_neg hb]at q
     rcases hs with hs | hs
     ·exact .inl ⟨a,ws,i,w,rfl,rfl,by rw[hK];exact hs,h1,q.scal g h2⟩
     ·exact .inr (.inl ⟨a,ws,i,w,rfl,rfl,by rw[hK];exact hs,h1,q.scal g h2⟩)
 | _=>exact q.elim
theorem wC{a b:Expr}{ma mb:ME}{pos:Pos}(hK:X.K=T.K)(ha:SE X T W a ma)(hb:SE X T W b mb)(hs:fb b):SE X T W (.Subscript a b pos) (mOp aK ma mb) :=
 vF rG (uH hK) ha hb hs
abbrev MO:=En→Res (Option Int)
def gc:MO:=fun _=>.ok none
def jR(m:ME):MO:=fun env=>(m env).bind fun
 | .int i=>.ok (some i)
 | _=>.stuck
def kE(xs:List PV)(lo hi:Option Int):List PV:=(xs.drop (HT.sIx xs.length 0 lo)).take (HT.sIx xs.length xs.length hi - HT.sIx xs.length 0 lo)
def gL(o:ME)(lo hi:MO):ME:=fun env=>(o env).bind fun x=>(lo env).bind fun l=>(hi env).bind fun h=>match x with
 | .lst _ xs=>.ok (.lst .own (kE xs l h))
 | _=>.stuck
theorem RelL.drop:∀{xs:List PV}{vs:List V}{f:List Addr} (n:Nat),RelL T F B L H xs vs f→∃f',RelL T F B L H (xs.drop n) (vs.drop n) f'∧f'.Sublist f
 | xs,vs,f,0,h=>⟨f,h,List.Sublist.refl _⟩
 | [],vs,f,n+1,h=>by unfold RelL at h;obtain⟨rfl,rfl⟩:=h;exact⟨[],by simp[RelL],List.Sublist.refl _⟩
 | x::xs,_,_,n+1,h=>by
  unfold RelL at h
  obtain⟨v,ws,f1,f2,rfl,h1,h2,rfl⟩:=h
  obtain⟨f',r,s⟩:=RelL.drop n h2
  exact⟨f',by simpa using r,s.trans (List.sublist_append_right _ _)⟩
theorem RelL.take:∀{xs:List PV}{vs:List V}{f:List Addr} (n:Nat),RelL T F B L H xs vs f→∃f',RelL T F B L H (xs.take n) (vs.take n) f'∧f'.Sublist f
 | xs,vs,f,0,h=>⟨[],by simp[RelL],List.nil_sublist _⟩
 | [],vs,f,n+1,h=>by unfold RelL at h;obtain⟨rfl,rfl⟩:=h;exact⟨[],by simp[RelL],List.Sublist.refl _⟩
 | x::xs,_,_,n+1,h=>by
  unfold RelL at h
  obtain⟨v,ws,f1,f2,rfl,h1,h2,rfl⟩:=h
  obtain⟨f',r,s⟩:=RelL.take n h2
  refine⟨f1++f',?_,List.Sublist.append (List.Sublist.refl _) s⟩
  rw[List.take_succ_cons,List.take_succ_cons]
  unfold RelL
  exact⟨v,_,f1,f',rfl,h1,r,rfl⟩
def tO(T:Tb)(W:Nat→St→Hp→Prop)(m:MO):TO:=fun σ H Q=>∃Z F env fp,ap T Z F H σ env fp∧match m env with
 | .ok o=>∀H' F',Gr F H F' H'→Q o H'
 | .exc c=>∀H',Ext H H'→W c σ H'
 | .stuck=>False
abbrev SO(X:Cx)(T:Tb)(W:Nat→St→Hp→Prop)(e:Option Expr)(m:MO):Prop:=PO X e (tO T W m)
theorem nQ:SO X T W none gc:=fun pins s σ H Q I ⟨Z,F,env,fp,S,q⟩=>ul pins s σ H Q I (q H F (Gr.refl S.hp.ft))
theorem nP{e:Expr}{m:ME}(h:SE X T W e m):SO X T W (some e) (jR m):=fun pins s σ H Q I ⟨Z,F,env,fp,S,q⟩=>uk h pins s σ H Q I (by
 unfold jR at q
 refine tE.bind S (fun c e=>by rw[e]at q;exact q) (fun e=>by rw[e]at q;exact q) fun x v H1 F1 f1 e1 g1 r1 n1 d1 w1=>?_
 rw[e1]at q
 cases x with
 | int i=>unfold Rel at r1;exact⟨i,r1.1,q H1 F1 g1⟩
 | _=>exact q.elim)
theorem k7{e:Expr}{lo hi:Option Expr}{m:ME}{ml mh:MO}{pos p2:Pos}(hK:X.K=T.K)(he:SE X T W e m)(hl:SO X T W lo ml)(hu:SO X T W hi mh):SE X T W (.Subscript e (.Slice lo hi none p2) pos) (gL m ml mh) :=
 PE.wk (qM (pos:=pos) (p2:=p2) tQ he hl hu) fun σ H Q ⟨Z,F,env,fp,S,q⟩=>by
  unfold gL at q
  refine tE.bind S (fun c e=>by rw[e]at q;exact q) (fun e=>by rw[e]at q;exact q) fun x v H1 F1 f1 e1 g1 r1 n1 d1 w1=>?_
  rw[e1]at q
  simp only[Res.ok_bind]at q
  refine⟨Z,F1,env,fp,S.grow g1,?_⟩
  cases e2:ml env with
  | exc c=>rw[e2]at q;exact fun H' x=>q H' (g1.ext.trans x)
  | stuck=>rw[e2]at q;exact q
  | ok l =>
   rw[e2]at q
   intro H2 F2 g2
   refine⟨Z,F2,env,fp,(S.grow g1).grow g2,?_⟩
   simp only[Res.ok_bind]at q
   cases e3:mh env with
   | exc c=>rw[e3]at q;exact fun H' x=>q H' ((g1.ext.trans g2.ext).trans x)
   | stuck=>rw[e3]at q;exact q
   | ok h =>
    rw[e3]at q
    intro H3 F3 g3
    simp only[Res.ok_bind]at q
    cases x with
    | lst f xs =>
     have g:=(g1.trans g2).trans g3
     have r3:=(r1.ext (g2.trans g3).ext (g2.trans g3).mono)
     have nf3:∀a∈f1,¬F3 a:=fun a ha z=>by
      rcases(g2.trans g3).only a z with z | z
      ·exact n1 a ha z
      ·obtain⟨o,ho⟩:=r1.there a ha
       rw[ho]at z;cases z
     unfold Rel at r3
     obtain⟨a,ws,fp',rfl,hll,hr,hf⟩:=r3
     have sl:fp'.Sublist f1:=by
      cases f with
      | own=>obtain rfl:f1=a::fp':=hf;exact List.sublist_cons_self _ _
      | frz=>obtain⟨rfl,rfl⟩:=hf;exact List.Sublist.refl _
      | bor=>obtain⟨rfl,rfl⟩:=hf;exact List.Sublist.refl _
      | lnt=>obtain⟨rfl,rfl⟩:=hf;exact List.Sublist.refl _
      | mod=>obtain⟨rfl,rfl⟩:=hf;exact List.Sublist.refl _
     obtain⟨f4,h4,s4⟩:=RelL.drop (HT.sIx xs.length 0 l) hr
     obtain⟨f5,h5,s5⟩:=RelL.take (HT.sIx xs.length xs.length h - HT.sIx xs.length 0 l) h4
     have sl2:=(s5.trans s4).trans sl
     refine⟨a,ws,rfl,by rw[hK];exact hll.sq,?_⟩
     unfold ss
     rw[← hr.length]
     exact GE.newL q g h5 (fun b hb=>nf3 b (sl2.subset hb)) (d1.sublist sl2) (fun b hb=>w1 b (sl2.subset hb))
    | _=>exact q.elim
def vI(K:PySem.W.Frag):R2:=fun x y H Q=>∃l b xs zs,x=.ref l∧y=.ref b∧Rd H l (.lst xs)∧Rd H b (.lst zs)∧xs.length+zs.length≤sizeLine∧∀p,H p=none→Q (.ref p) (upd H p (.lst (xs++zs)))
theorem ux{K:PySem.W.Frag}:OpR X (binaryOp .Add) (vI K):=by
 intro pins s σ H x y v u Q I rx ry h
 obtain⟨l,b,xs,zs,rfl,rfl,hH,hB,hz,q⟩:=h
 cases rx
 cases ry
 obtain⟨z,its,n,r,e⟩:=hH.ok I.hok
 obtain⟨z2,its2,n2,r2,e2⟩:=hB.ok I.hok
 have hl:=r.length
 have hl2:=r2.length
 refine PySem.P.add_list e e2 ?_ (by rw[List.size_toArray,List.size_toArray];omega)
 have ea:its.toArray++its2.toArray=(its++its2).toArray:=by simp
 rw[ea]
 exact⟨.ref _,_,I.lnew (t':=s.toks) (r.append r2) (by rw[List.length_append];omega),rfl,q _ I.fresh⟩
def aL:PV→PV→Res PV
 | .int i,.int j=>.ok (.int (i+j))
 | .lst f xs,.lst g ys=>if f=.mod∨g=.mod∨¬xs.length+ys.length≤10000000 then .stuck else .ok (.lst .own (xs++ys))
 | _,_=>.stuck
theorem l8.rd{f:Fl}{a:Addr}{vs:List V}(h:l8 T F B L H f a vs)(n:f≠.mod):Rd H a (.lst vs):=by
 cases f with
 | own=>exact .inl h
 | lnt=>exact .inl h.2
 | frz=>exact h.2
 | bor=>exact h.2
 | mod=>exact absurd rfl n
theorem vw.sub{f:Fl}{a:Addr}{fp' fx:List Addr}(hf:vw f a fp' fx):fp'.Sublist fx:=by
 cases f with
 | own=>obtain rfl:fx=a::fp':=hf;exact List.sublist_cons_self _ _
 | frz=>obtain⟨rfl,rfl⟩:=hf;exact List.Sublist.refl _
 | bor=>obtain⟨rfl,rfl⟩:=hf;exact List.Sublist.refl _
 | lnt=>obtain⟨rfl,rfl⟩:=hf;exact List.Sublist.refl _
 | mod=>obtain⟨rfl,rfl⟩:=hf;exact List.Sublist.refl _
theorem q9:fK T W aL (fun x y H Q=>(rI0 fun i j=>.int (i+j)) x y H Q∨vI T.K x y H Q):=by
 intro B F L σ H Q F' H' x y v u fx fy g rx ry nf nd new q
 cases x with
 | int i =>
  cases y with
  | int j=>unfold Rel at rx ry;exact .inl ⟨i,j,rx.1,ry.1,q.scal g d0⟩
  | _=>exact q.elim
 | lst f xs =>
  cases y with
  | lst f' ys =>
   simp only[aL]at q
   by_cases hc:f=.mod∨f'=.mod∨¬xs.length+ys.length≤10000000
   ·rw[if_pos hc]at q;exact q.elim
   ·rw[if_neg hc]at q
    unfold Rel at rx ry
    obtain⟨a,vs,fp1,rfl,hl1,hr1,hf1⟩:=rx
    obtain⟨b,us,fp2,rfl,hl2,hr2,hf2⟩:=ry
    have sl:=List.Sublist.append hf1.sub hf2.sub
    have h3:xs.length+ys.length≤10000000:=by
     rcases Nat.lt_or_ge 10000000 (xs.length+ys.length)with z | z
     ·exact absurd (.inr (.inr (by omega))) hc
     ·exact z
    refine .inr ⟨a,b,vs,us,rfl,rfl,hl1.rd fun z=>hc (.inl z),hl2.rd fun z=>hc (.inr (.inl z)),by rw[← hr1.length,← hr2.length,sizeLine_eq];omega,?_⟩
    exact GE.newL q g (RelL.append hr1 hr2) (fun b hb=>nf b (sl.subset hb)) (nd.sublist sl) (fun b hb=>new b (sl.subset hb))
  | _=>exact q.elim
 | _=>exact q.elim
theorem OpR.or{f:Value→Value→Sem Value}{r r':R2}(h:OpR X f r)(h':OpR X f r'):OpR X f (fun x y H Q=>r x y H Q∨r' x y H Q):=by
 intro pins s σ H x y v u Q I rx ry q
 rcases q with q | q
 ·exact h pins s σ H x y v u Q I rx ry q
 ·exact h' pins s σ H x y v u Q I rx ry q
theorem aO{a b:Expr}{ma mb:ME}{pos:Pos}(ha:SE X T W a ma)(hb:SE X T W b mb):SE X T W (.BinOp a .Add b pos) (mOp aL ma mb):=iE (OpR.or xt ux) q9 ha hb
end
end PR
namespace PR
open PySem PySem.Spec L2
mutual
def PV.data:PV→PyData
 | .non=>.none
 | .bl b=>.bool b
 | .int i=>.int i
 | .str x=>.str x
 | .lst _ xs=>.list (dataL xs)
 | .tup xs=>.tuple (dataL xs)
 | .obj _ _ _ _=>.dict []
 | .exc _=>.dict []
def dataL:List PV→List PyData
 | []=>[]
 | x::xs=>x.data::dataL xs
end
def shp(x:PV):Bool:=SeqAt.shaped x.data
section
variable{X:Cx}{T:Tb}{W:Nat→St→Hp→Prop}{Z:Zn}{F F1 B L:Addr→Prop}{H H1:Hp}{σ:St}{env:En}{fp:Nat→List Addr}{D:Ends}{pins:List (Addr×Obj)}{s:Shared}
mutual
theorem Rel.reads(hK:X.K=T.K)(I:L2.Inv X pins σ H s):∀{x:PV}{v:V}{f:List Addr}{u:Value},Rel T F B L H x v f→aY v u→x.data.canLay0=true→∃as,Reads s.heap u x.data as
 | .non,_,_,_,r,ru,_=>by unfold Rel at r;obtain⟨rfl,_⟩:=r;cases ru;exact⟨[],.none⟩
 | .bl b,_,_,_,r,ru,_=>by unfold Rel at r;obtain⟨rfl,_⟩:=r;cases ru;exact⟨[],.bool b⟩
 | .int i,_,_,_,r,ru,_=>by unfold Rel at r;obtain⟨rfl,_⟩:=r;obtain⟨t,rfl⟩:=ru;exact⟨[],.int i t⟩
 | .str x,_,_,_,r,ru,_=>by unfold Rel at r;obtain⟨rfl,_⟩:=r;obtain⟨t,rfl⟩:=ru;exact⟨[],.str x t⟩
 | .lst f xs,_,_,_,r,ru,hc=>by
  unfold Rel at r
  obtain⟨a,vs,fp',rfl,hl,hr,_⟩:=r
  cases ru
  obtain⟨its,rv,⟨o,n,ho,hcl,_,hd⟩,_⟩:=I.list (by rw[hK];exact hl.sq)
  obtain⟨as,ra⟩:=RelL.reads hK I hr rv (by simpa[PV.data,PyData.canLay0]using hc)
  exact⟨_,.list ho hcl hd (by simpa using ra)⟩
 | .tup xs,_,_,_,r,ru,hc=>by
  unfold Rel at r
  obtain⟨a,vs,rfl,hl,hr⟩:=r
  cases ru
  obtain⟨its,rv,⟨o,ho,hcl,n,hd⟩,_⟩:=I.tuple (by rw[hK];exact hl)
  obtain⟨as,ra⟩:=RelL.reads hK I hr rv (by simpa[PV.data,PyData.canLay0]using hc)
  exact⟨_,.tuple ho hcl hd (by simpa using ra)⟩
 | .obj _ _ _ _,_,_,_,_,_,hc=>by simp[PV.data,PyData.canLay0]at hc
 | .exc _,_,_,_,_,_,hc=>by simp[PV.data,PyData.canLay0]at hc
theorem RelL.reads(hK:X.K=T.K)(I:L2.Inv X pins σ H s):∀{xs:List PV}{vs:List V}{f:List Addr}{us:List Value},RelL T F B L H xs vs f→aC vs us→PyData.canLayAll0 (dataL xs)=true→∃as,ReadsAll s.heap us (dataL xs) as
 | [],_,_,_,r,ru,_=>by unfold RelL at r;obtain⟨rfl,_⟩:=r;cases ru;exact⟨[],.nil⟩
 | x::xs,_,_,_,r,ru,hc=>by
  unfold RelL at r
  obtain⟨v,ws,f1,f2,rfl,h1,h2,_⟩:=r
  cases ru with
  | cons r1 r2 =>
   simp only[dataL,PyData.canLayAll0,Bool.and_eq_true]at hc
   obtain⟨as,ra⟩:=Rel.reads hK I h1 r1 hc.1
   obtain⟨bs,rb⟩:=RelL.reads hK I h2 r2 hc.2
   exact⟨_,.cons ra rb⟩
end
def pEq:PV→PV→Res PV:=fun x y=>if shp x&&shp y then .ok (.bl (PyData.eqv x.data y.data))else .stuck
def pNe:PV→PV→Res PV:=fun x y=>if shp x&&shp y then .ok (.bl (!PyData.eqv x.data y.data))else .stuck
def qy(X:Cx)(T:Tb)(g:PyData→PyData→Bool):R2:=fun v u H Q=>∃x y F B L fx fy,Rel T F B L H x v fx∧Rel T F B L H y u fy∧shp x=true∧shp y=true∧Q (.bl (g x.data y.data)) H
theorem qQ(hK:X.K=T.K)(hu:X.A.units+64 < cLine):OpR X (compareOp .Eq) (qy X T fun a b=>PyData.eqv a b):=by
 intro pins s σ H v u v' u' Q I rv ru h
 obtain⟨x,y,F,B,L,fx,fy,rx,ry,hx,hy,q⟩:=h
 obtain⟨as,ra⟩:=rx.reads hK I rv (SeqAt.canLay_of_shaped hx)
 obtain⟨bs,rb⟩:=ry.reads hK I ru (SeqAt.canLay_of_shaped hy)
 exact PyProof.Rows.eq_dataH ra rb hx hy hu ⟨.bl _,H,I,rfl,q⟩
theorem qP(hK:X.K=T.K)(hu:X.A.units+64 < cLine):OpR X (compareOp .NotEq) (qy X T fun a b=>!PyData.eqv a b):=by
 intro pins s σ H v u v' u' Q I rv ru h
 obtain⟨x,y,F,B,L,fx,fy,rx,ry,hx,hy,q⟩:=h
 obtain⟨as,ra⟩:=rx.reads hK I rv (SeqAt.canLay_of_shaped hx)
 obtain⟨bs,rb⟩:=ry.reads hK I ru (SeqAt.canLay_of_shaped hy)
 exact PyProof.Rows.ne_dataH ra rb hx hy hu ⟨.bl _,H,I,rfl,q⟩
theorem f8{g:PyData→PyData→Bool}:fK T W (fun x y=>if shp x&&shp y then .ok (.bl (g x.data y.data))else .stuck) (qy X T g):=by
 intro B F L σ H Q F' H' x y v u fx fy gr rx ry nf nd new q
 dsimp only at q
 by_cases hc:(shp x&&shp y)=true
 ·rw[if_pos hc]at q
  rw[Bool.and_eq_true]at hc
  exact⟨x,y,F',B,L,fx,fy,rx,ry,hc.1,hc.2,q.scal gr iK⟩
 ·rw[if_neg hc]at q;exact q.elim
variable{a b:Expr}{ma mb:ME}{pos:Pos}
theorem fP(hK:X.K=T.K)(hu:X.A.units+64 < cLine)(ha:SE X T W a ma)(hb:SE X T W b mb):SE X T W (.Compare a [.Eq] [b] pos) (mOp pEq ma mb):=qo (qQ hK hu) f8 ha hb (d6 _)
theorem vE(hK:X.K=T.K)(hu:X.A.units+64 < cLine)(ha:SE X T W a ma)(hb:SE X T W b mb):SE X T W (.Compare a [.NotEq] [b] pos) (mOp pNe ma mb):=qo (qP hK hu) (f8 (g:=fun a b=>!PyData.eqv a b)) ha hb (d6 _)
theorem cN(hK:X.K=T.K)(hu:X.A.units+64 < cLine)(ha:SE X T W a ma)(hb:SE X T W b mb):ST X T W (.Compare a [.Eq] [b] pos) (aq (mOp pEq ma mb)):=dU (qQ hK hu) f8 ha hb (d6 _)
theorem iA(hK:X.K=T.K)(hu:X.A.units+64 < cLine)(ha:SE X T W a ma)(hb:SE X T W b mb):ST X T W (.Compare a [.NotEq] [b] pos) (aq (mOp pNe ma mb)):=dU (qP hK hu) (f8 (g:=fun a b=>!PyData.eqv a b)) ha hb (d6 _)
theorem di(ha:SE X T W a ma)(hb:SE X T W b mb):ST X T W (.Compare a [.Lt] [b] pos) (aq (mOp pLt ma mb)):=dU zX (kn fun _ _ _ _ _ _=>iK) ha hb (d6 _)
theorem eh(ha:SE X T W a ma)(hb:SE X T W b mb):ST X T W (.Compare a [.Gt] [b] pos) (aq (mOp pGt ma mb)):=dU zY (kn fun _ _ _ _ _ _=>iK) ha hb (d6 _)
theorem kX(ha:SE X T W a ma)(hb:SE X T W b mb):ST X T W (.Compare a [.GtE] [b] pos) (aq (mOp pGe ma mb)):=dU zZ (kn fun _ _ _ _ _ _=>iK) ha hb (d6 _)
def inL(x:PV)(ys:List PV):Bool:=ys.any fun y=>PyData.eqv y.data x.data
def pIn:PV→PV→Res PV:=fun x y=>match bf y with
 | some ys=>if shp x&&ys.all shp then .ok (.bl (inL x ys))else .stuck
 | none=>.stuck
def cK:PV→PV→Res PV:=fun x y=>match bf y with
 | some ys=>if shp x&&ys.all shp then .ok (.bl (!inL x ys))else .stuck
 | none=>.stuck
theorem lT(hK:X.K=T.K)(I:L2.Inv X pins σ H s){A:Around}{x y:PV}{v u:V}{fx fy:List Addr}{v' u':Value}(hu:A.units+64 < cLine)(rx:Rel T F B L H x v fx)(ry:Rel T F B L H y u fy)(rv:aY v v')(ru:aY u u')(hx:shp x=true)(hy:shp y=true) :
  SeqAt.EqAt A s v' u' (PyData.eqv x.data y.data):=by
 obtain⟨as,ra⟩:=rx.reads hK I rv (SeqAt.canLay_of_shaped hx)
 obtain⟨bs,rb⟩:=ry.reads hK I ru (SeqAt.canLay_of_shaped hy)
 exact SeqAt.eqAt_reads _ _ A s v' u' as bs ra rb (SeqAt.canLay_of_shaped hx) (SeqAt.canLay_of_shaped hy) (SeqAt.room_of_shaped hx hu)
theorem gh(hK:X.K=T.K)(I:L2.Inv X pins σ H s){A:Around}(hu:A.units+64 < cLine){x:PV}{v:V}{fx:List Addr}{v':Value}(rx:Rel T F B L H x v fx)(rv:aY v v')(hx:shp x=true) :
  ∀{ys:List PV}{us:List V}{fy:List Addr}{us':List Value},RelL T F B L H ys us fy→aC us us'→ys.all shp=true→∃e:Value→Bool,(∀w∈us',SeqAt.EqAt A s w v' (e w))∧us'.any e=inL x ys:=by
 intro ys us fy us' r rv' hs
 have one:∀(ys:List PV) (us:List V) (fy:List Addr) (us':List Value),RelL T F B L H ys us fy→aC us us'→ys.all shp=true→∀w∈us',∃b,SeqAt.EqAt A s w v' b∧(b=true→inL x ys=true):=by
  intro ys
  induction ys with
  | nil =>
   intro us fy us' r rv' _ w hw
   unfold RelL at r
   obtain⟨rfl,_⟩:=r
   cases rv'
   cases hw
  | cons y ys ih =>
   intro us fy us' r rv' hs w hw
   unfold RelL at r
   obtain⟨u,ws,f1,f2,rfl,h1,h2,_⟩:=r
   cases rv' with
   | cons r1 r2 =>
    rw[List.all_cons,Bool.and_eq_true]at hs
    rcases List.mem_cons.mp hw with rfl | hw
    ·exact⟨_,lT hK I hu h1 rx r1 rv hs.1 hx,fun z=>by simp[inL,z]⟩
    ·obtain⟨b,h3,h4⟩:=ih ws f2 _ h2 r2 hs.2 w hw
     exact⟨b,h3,fun z=>by have:=h4 z;unfold inL at this ⊢;simp[this]⟩
 have some_:∀(ys:List PV) (us:List V) (fy:List Addr) (us':List Value),RelL T F B L H ys us fy→aC us us'→ys.all shp=true→inL x ys=true→∃w∈us',SeqAt.EqAt A s w v' true:=by
  intro ys
  induction ys with
  | nil=>intro us fy us' r rv' _ h;simp[inL]at h
  | cons y ys ih =>
   intro us fy us' r rv' hs h
   unfold RelL at r
   obtain⟨u,ws,f1,f2,rfl,h1,h2,_⟩:=r
   cases rv' with
   | cons r1 r2 =>
    rw[List.all_cons,Bool.and_eq_true]at hs
    by_cases hy:PyData.eqv y.data x.data=true
    ·refine⟨_,List.mem_cons_self,?_⟩
     have:=lT hK I hu h1 rx r1 rv hs.1 hx
     rwa [hy]at this
    ·have h':inL x ys=true:=by
      unfold inL at h ⊢
      rw[List.any_cons]at h
      simpa[hy]using h
     obtain⟨w,hw,q⟩:=ih ws f2 _ h2 r2 hs.2 h'
     exact⟨w,List.mem_cons_of_mem _ hw,q⟩
 by_cases hin:inL x ys=true
 ·obtain⟨w0,hw0,q0⟩:=some_ ys us fy us' r rv' hs hin
  refine⟨fun w=>@decide (SeqAt.EqAt A s w v' true) (Classical.propDecidable _),fun w hw=>?_,?_⟩
  ·obtain⟨b,h1,_⟩:=one ys us fy us' r rv' hs w hw
   by_cases ht:SeqAt.EqAt A s w v' true
   ·simp only[ht,decide_true]
   ·simp only[ht,decide_false]
    cases b with
    | true=>exact absurd h1 ht
    | false=>exact h1
  ·rw[hin,List.any_eq_true]
   exact⟨w0,hw0,by simp[q0]⟩
 ·have hin':inL x ys=false:=by simpa using hin
  refine⟨fun _=>false,fun w hw=>?_,by rw[hin'];simp⟩
  obtain⟨b,h1,h2⟩:=one ys us fy us' r rv' hs w hw
  cases b with
  | true=>exact absurd (h2 rfl) hin
  | false=>exact h1
def wM(X:Cx)(T:Tb)(neg:Bool):R2:=fun v u H Q=>∃x ys a vs F B L fx fy,u=.ref a∧(SqL T.K H a vs∨SqT T.K H a vs)∧Rel T F B L H x v fx∧RelL T F B L H ys vs fy∧shp x=true∧ys.all shp=true∧Q (.bl (if neg then !inL x ys else inL x ys)) H
theorem xr(hK:X.K=T.K)(hu:X.A.units+66 < cLine):OpR X (compareOp .In) (wM X T false):=by
 intro pins s σ H v u v' u' Q I rv ru h
 obtain⟨x,ys,a,vs,F,B,L,fx,fy,rfl,hs,rx,ry,hx,hy,q⟩:=h
 cases ru
 have hu1:X.A.in1.units+64 < cLine:=by show X.A.units+1+64 < cLine;omega
 rcases hs with hs | hs
 ·obtain⟨its,r,pl,_⟩:=I.list (by rw[hK];exact hs)
  obtain⟨e,h1,h2⟩:=gh hK I hu1 rx rv hx ry r hy
  refine SeqAt.in_listAt e pl.isList (fun w hw=>h1 w (by simpa using hw)) ⟨.bl _,H,I,rfl,?_⟩
  rw[show its.toArray.any e=its.any e by simp,h2]
  exact q
 ·obtain⟨its,r,pl,_⟩:=I.tuple (by rw[hK];exact hs)
  obtain⟨e,h1,h2⟩:=gh hK I hu1 rx rv hx ry r hy
  refine SeqAt.in_tupleAt e pl (fun w hw=>h1 w (by simpa using hw)) ⟨.bl _,H,I,rfl,?_⟩
  rw[show its.toArray.any e=its.any e by simp,h2]
  exact q
theorem pw(hK:X.K=T.K)(hu:X.A.units+66 < cLine):OpR X (compareOp .NotIn) (wM X T true):=by
 intro pins s σ H v u v' u' Q I rv ru h
 obtain⟨x,ys,a,vs,F,B,L,fx,fy,rfl,hs,rx,ry,hx,hy,q⟩:=h
 cases ru
 have hu1:X.A.in1.units+64 < cLine:=by show X.A.units+1+64 < cLine;omega
 rcases hs with hs | hs
 ·obtain⟨its,r,pl,_⟩:=I.list (by rw[hK];exact hs)
  obtain⟨e,h1,h2⟩:=gh hK I hu1 rx rv hx ry r hy
  refine SeqAt.notIn_listAt e pl.isList (fun w hw=>h1 w (by simpa using hw)) ⟨.bl _,H,I,rfl,?_⟩
  rw[show its.toArray.any e=its.any e by simp,h2]
  exact q
 ·obtain⟨its,r,pl,_⟩:=I.tuple (by rw[hK];exact hs)
  obtain⟨e,h1,h2⟩:=gh hK I hu1 rx rv hx ry r hy
  refine SeqAt.notIn_tupleAt e pl (fun w hw=>h1 w (by simpa using hw)) ⟨.bl _,H,I,rfl,?_⟩
  rw[show its.toArray.any e=its.any e by simp,h2]
  exact q
theorem rh{neg:Bool}:fK T W (fun x y=>match bf y with
 | some ys=>if shp x&&ys.all shp then .ok (.bl (if neg then !inL x ys else inL x ys))else .stuck
 | none=>.stuck) (wM X T neg):=by
 intro B F L σ H Q F' H' x y v u fx fy gr rx ry nf nd new q
 dsimp only at q
 cases e:bf y with
 | none=>rw[e]at q;exact q.elim
 | some ys =>
  rw[e]at q
  dsimp only at q
  by_cases hc:(shp x&&ys.all shp)=true
  ·rw[if_pos hc]at q
   rw[Bool.and_eq_true]at hc
   obtain⟨a,ws,f',rfl,hs,hr,_⟩:=ry.seq e
   exact⟨x,ys,a,ws,F',B,L,fx,f',rfl,hs,rx,hr,hc.1,hc.2,q.scal gr iK⟩
  ·rw[if_neg hc]at q;exact q.elim
theorem qg(hK:X.K=T.K)(hu:X.A.units+66 < cLine)(ha:SE X T W a ma)(hb:SE X T W b mb)(hk:behindInMarks .In b=false:=by with_unfolding_all rfl):ST X T W (.Compare a [.In] [b] pos) (aq (mOp pIn ma mb)):=dU (xr hK hu) (rh (neg:=false)) ha hb hk
theorem kW(hK:X.K=T.K)(hu:X.A.units+66 < cLine)(ha:SE X T W a ma)(hb:SE X T W b mb)(hk:behindInMarks .NotIn b=false:=by with_unfolding_all rfl):ST X T W (.Compare a [.NotIn] [b] pos) (aq (mOp cK ma mb)):=dU (pw hK hu) (rh (neg:=true)) ha hb hk
def PV.isNon:PV→Bool
 | .non=>true
 | _=>false
def fe:PV→PV→Res PV
 | x,.non=>.ok (.bl x.isNon)
 | _,_=>.stuck
def jL:PV→PV→Res PV
 | x,.non=>.ok (.bl (!x.isNon))
 | _,_=>.stuck
theorem Rel.isNon{x:PV}{v:V}{f:List Addr}(r:Rel T F B L H x v f):decide (v=.non)=x.isNon:=by
 cases x with
 | non=>unfold Rel at r;rw[r.1];rfl
 | bl b=>unfold Rel at r;rw[r.1];rfl
 | int i=>unfold Rel at r;rw[r.1];rfl
 | str i=>unfold Rel at r;rw[r.1];rfl
 | lst f xs=>unfold Rel at r;obtain⟨a,_,_,rfl,_⟩:=r;rfl
 | tup xs=>unfold Rel at r;obtain⟨a,_,rfl,_⟩:=r;rfl
 | obj f c ks xs=>unfold Rel at r;obtain⟨a,_,_,_,rfl,_⟩:=r;rfl
 | exc c=>unfold Rel at r;obtain⟨a,rfl,_⟩:=r;rfl
theorem uG:fK T W fe (fun x y H Q=>y=.non∧Q (.bl (decide (x=.non))) H):=by
 intro B F L σ H Q F' H' x y v u fx fy gr rx ry nf nd new q
 cases y with
 | non=>unfold Rel at ry;refine⟨ry.1,?_⟩;rw[rx.isNon];exact GE.scal (pv:=.bl x.isNon) (by simpa[fe]using q) gr iK
 | _=>simp only[fe]at q;exact q.elim
theorem q_:fK T W jL (fun x y H Q=>y=.non∧Q (.bl (!decide (x=.non))) H):=by
 intro B F L σ H Q F' H' x y v u fx fy gr rx ry nf nd new q
 cases y with
 | non=>unfold Rel at ry;refine⟨ry.1,?_⟩;rw[rx.isNon];exact GE.scal (pv:=.bl (!x.isNon)) (by simpa[jL]using q) gr iK
 | _=>simp only[jL]at q;exact q.elim
theorem mr(ha:SE X T W a ma)(hb:SE X T W b mb):ST X T W (.Compare a [.Is] [b] pos) (aq (mOp fe ma mb)):=dU xq uG ha hb (d6 _)
theorem nM(ha:SE X T W a ma)(hb:SE X T W b mb):ST X T W (.Compare a [.IsNot] [b] pos) (aq (mOp jL ma mb)):=dU uv q_ ha hb (d6 _)
end
end PR
namespace PR
open PySem PySem.Spec L2
abbrev TgM:=PV→En→Option En
abbrev kR:=List PV→En→Option En
def tgN(i:Nat):TgM:=fun v env=>if bq i env then some (env.set i (some v))else none
def gX:kR:=fun vs env=>match vs with
 | []=>some env
 | _=>none
def bI(t:TgM)(u:kR):kR:=fun vs env=>match vs with
 | v::r=>match t v env with
  | some e=>u r e
  | none=>none
 | []=>none
def tgT(n:Nat)(u:kR):TgM:=fun v env=>match v with
 | .tup xs=>if xs.length=n then u xs env else none
 | _=>none
structure p6(Z:Zn)(F:Addr→Prop)(fp:Nat→List Addr)(f:List Addr):Prop where
 nd:f.Nodup
 nf:∀a∈f,¬F a
 new:∀a∈f,Z.H0 a=none∨Z.fp0 a
 dj:∀a∈f,∀j,a∉fp j
theorem p6.nil{Z:Zn}{F:Addr→Prop}{fp:Nat→List Addr}:p6 Z F fp []:=⟨List.nodup_nil,fun _ z=>(nomatch z),fun _ z=>(nomatch z),fun _ z=>(nomatch z)⟩
def GG(T:Tb)(Z:Zn)(F:Addr→Prop)(H:Hp)(Q:St→Hp→Prop):Option En→Prop
 | some e=>∀σ fp,ap T Z F H σ e fp→Q σ H
 | none=>False
def tG(T:Tb)(m:TgM):TG:=fun v σ H Q=>∃Z F env fp pv f,ap T Z F H σ env fp∧Rel T F Z.B NoL H pv v f∧p6 Z F fp f∧GG T Z F H Q (m pv env)
def tGs(T:Tb)(m:kR):TGs:=fun vs σ H Q=>∃Z F env fp pvs f,ap T Z F H σ env fp∧RelL T F Z.B NoL H pvs vs f∧p6 Z F fp f∧GG T Z F H Q (m pvs env)
abbrev SG(X:Cx)(T:Tb)(tg:Expr)(m:TgM):Prop:=PG X tg (tG T m)
abbrev SGs(X:Cx)(T:Tb)(ts:List Expr)(m:kR):Prop:=PGs X ts (tGs T m)
section
variable{X:Cx}{T:Tb}{W:Nat→St→Hp→Prop}{Z:Zn}{F F1 B L:Addr→Prop}{H H1:Hp}{σ:St}{env:En}{fp:Nat→List Addr}{D:Ends}
theorem PG.wk{tg:Expr}{t t':TG}(h:PG X tg t)(w:∀v σ H Q,t' v σ H Q→t v σ H Q):PG X tg t':=fun pins s σ H v u Q I r q=>h pins s σ H v u Q I r (w v σ H Q q)
theorem PGs.wk{ts:List Expr}{t t':TGs}(h:PGs X ts t)(w:∀v σ H Q,t' v σ H Q→t v σ H Q):PGs X ts t':=fun pins s σ H v u Q I r q=>h pins s σ H v u Q I r (w v σ H Q q)
theorem tR{i:Nat}{x:Str}{pos:Pos}(hN:X.N.Nodup)(hi:X.N[i]?=some x)(hx:Loc X.env.scope x)(hf:X.fn x=true∨X.env.scope.names.lookup x=some .local:=by first | exact .inl rfl | exact .inr rfl | assumption):SG X T (.Name x pos) (tgN i) :=
 PG.wk (n4 (pos:=pos) hN hi hx hf) fun v σ H Q ⟨Z,F,env,fp,pv,f,S,r,fr,q⟩=>by
  unfold tgN at q
  by_cases ho:bq i env=true
  ·rw[if_pos ho]at q
   exact q _ _ (S.put r fr.nd fr.nf fr.new (fun a ha j _=>fr.dj a ha j) ho)
  ·rw[if_neg ho]at q;exact q.elim
theorem eV:SGs X T [] gX:=PGs.wk uq fun vs σ H Q ⟨Z,F,env,fp,pvs,f,S,r,fr,q⟩=>by
 cases pvs with
 | nil=>unfold RelL at r;exact⟨r.1,q σ fp S⟩
 | cons x xs=>exact q.elim
theorem bv{i:Nat}{x:Str}{pos:Pos}{es:List Expr}{u:kR}(hN:X.N.Nodup)(hi:X.N[i]?=some x)(hx:Loc X.env.scope x)(h2:SGs X T es u)
  (hs:(assignEach (.Name x pos::es) X.env).map (·.2)=assign (.Name x pos) X.env::(assignEach es X.env).map (·.2):=by rfl)
  (hf:X.fn x=true∨X.env.scope.names.lookup x=some .local:=by first | exact .inl rfl | exact .inr rfl | assumption):SGs X T (.Name x pos::es) (bI (tgN i) u) :=
 PGs.wk (qL (n4 (pos:=pos) hN hi hx hf) h2 hs) fun vs σ H Q ⟨Z,F,env,fp,pvs,f,S,r,fr,q⟩=>by
  cases pvs with
  | nil=>exact q.elim
  | cons y ys =>
   unfold RelL at r
   obtain⟨v,ws,f1,f2,rfl,r1,r2,rfl⟩:=r
   obtain⟨n1,n2,n3⟩:=List.nodup_append.mp fr.nd
   by_cases ho:bq i env=true
   case neg=>simp only[bI,tgN,if_neg ho]at q;exact q.elim
   simp only[bI,tgN,if_pos ho]at q
   refine⟨v,ws,rfl,Z,F,env.set i (some y),bA fp i f1,ys,f2,S.put r1 n1 (fun a ha=>fr.nf a (List.mem_append_left _ ha)) (fun a ha=>fr.new a (List.mem_append_left _ ha)) (fun a ha j _=>fr.dj a (List.mem_append_left _ ha) j) ho,r2,⟨n2,fun a ha=>fr.nf a (List.mem_append_right _ ha),fun a ha=>fr.new a (List.mem_append_right _ ha),fun a ha j=>?_⟩,q⟩
   unfold bA
   split
   ·exact fun z=>n3 a z a ha rfl
   ·exact fr.dj a (List.mem_append_right _ ha) j
theorem gA{es:List Expr}{k n:Nat}{u:kR}{pos:Pos}(hK:X.K=T.K)(hc:X.calm=true)(h:SGs X T es u)(hn:(assignEach es X.env).length=n:=by rfl)(hst:(assignEach es X.env).findIdx? (·.1)=none:=by rfl):SG X T (.Tuple es k pos) (tgT n u) :=
 PG.wk (wW (pos:=pos) (k:=k) hc h hn hst) fun v σ H Q ⟨Z,F,env,fp,pv,f,S,r,fr,q⟩=>by
  cases pv with
  | tup xs =>
   unfold Rel at r
   obtain⟨a,vs,rfl,hl,hr⟩:=r
   simp only[tgT]at q
   by_cases hx:xs.length=n
   ·rw[if_pos hx]at q
    exact⟨a,vs,rfl,by rw[hK];exact hl,by rw[← hr.length];exact hx,Z,F,env,fp,xs,f,S,hr,fr,q⟩
   ·rw[if_neg hx]at q;exact q.elim
  | _=>exact q.elim
def rA(tg:TgM)(e:ME):MS:=fun env=>match e env with
 | .ok v=>if v.noLnt then (match tg v env with
  | some e'=>.next e'
  | none=>.stuck)else .stuck
 | .exc k=>.exc k env
 | .stuck=>.stuck
theorem wq{tg e:Expr}{m:ME}{g:TgM}{pos:Pos}(he:SE X T W e m)(hg:SG X T tg g)(hs:swapsWithSole [tg] e pos.line X.env=pure false:=by rfl)(hw:swappedStores [tg] e X.env=pure none:=by rfl)
  (h1:(assignEach [tg] X.env).map (·.2)=[assign tg X.env]:=by rfl):SS X T W (.Assign [tg] e pos) (rA g m):=PS.wk (qF (pos:=pos) he hg hs hw h1) fun D σ H ⟨Z,F,env,fp,S,q⟩=>by
 unfold rA at q
 refine tE.bind S (fun c e H' x=>?_) (fun e=>by rw[e]at q;exact q) fun pv v H1 F1 f e g r h1 h2 h3=>?_
 ·rw[e]at q
  exact q F H' σ fp (S.grow (Gr.same S.hp.ft x))
 ·rw[e]at q
  dsimp only at q
  split at q
  ·rename_i hl
   refine⟨Z,F1,env,fp,pv,f,S.grow g,Rel.noL (by simpa[PV.noLnt]using hl) r,⟨h2,h1,S.hp.newE h3,fun a ha j hj=>?_⟩,?_⟩
   ·obtain⟨_,o,ho⟩:=S.dis j a hj
    rw[h3 a ha]at ho;cases ho
   ·split at q
    ·rename_i e' he'
     rw[he']
     exact fun σ' fp' S'=>q F1 H1 σ' fp' S'
    ·exact q.elim
  ·exact q.elim
abbrev MI:=En→Res (List PV)
def ItR(T:Tb)(F B:Addr→Prop)(Ow:Addr→Prop)(H1:Hp)(J:It)(xs:List PV):Prop :=
 ∀H2,(∀a o,H1 a=some o→¬Ow a→H2 a=some o)→(∀(i:Nat) x,xs[i]?=some x→J.go i H2∧∀v H3,J.yld i H2 v H3→Ext H2 H3∧Rel T F B NoL H3 x v [])∧J.stop xs.length H2
theorem ItR.of0{T:Tb}{F B:Addr→Prop}{Ow:Addr→Prop}{H1:Hp}{J:It}{xs:List PV}(h:∀H2,(∀a o,H1 a=some o→¬Ow a→H2 a=some o)→(∀(i:Nat) x,xs[i]?=some x→J.go i H2∧∀v H3,J.yld i H2 v H3→H3=H2∧Rel T F B NoL H2 x v [])∧J.stop xs.length H2):ItR T F B Ow H1 J xs:=fun H2 hk=>by
 obtain⟨a,b⟩:=h H2 hk
 refine⟨fun i x e=>⟨(a i x e).1,fun v H3 hy=>?_⟩,b⟩
 obtain⟨rfl,r⟩:=(a i x e).2 v H3 hy
 exact⟨Ext.refl,r⟩
def GI(T:Tb)(W:Nat→St→Hp→Prop)(B F Ow:Addr→Prop)(σ:St)(H:Hp)(R:It→Hp→Prop):Res (List PV)→Prop
 | .ok xs=>∀J H1 F1,Gr F H F1 H1→ItR T F1 B Ow H1 J xs→R J H1
 | .exc c=>∀H',Ext H H'→W c σ H'
 | .stuck=>False
def tI(T:Tb)(W:Nat→St→Hp→Prop)(m:MI):TI:=fun σ H R=>∃Z F env fp,ap T Z F H σ env fp∧GI T W Z.B F (Own fp) σ H R (m env)
abbrev SI(X:Cx)(T:Tb)(W:Nat→St→Hp→Prop)(tg iter:Expr)(m:MI):Prop:=PI X tg iter (tI T W m)
theorem qJ{tg l:Expr}{tl:TE}(hl:PE X l tl):PI X tg l (fun σ H R=>tl σ H fun x H1=>∃a,x=.ref a∧((∃xs,SqL X.K H1 a xs∧R (Itl X.K a) H1)∨ ∃xs,SqT X.K H1 a xs∧R (Itt X.K a) H1)):=by
 intro pins s σ H R I h
 refine thn (hl pins s σ H _ I h) fun v s1 ⟨x,H1,I1,r1,q1⟩=>?_
 obtain⟨a,e,q⟩:=q1
 subst e
 cases r1
 rcases q with⟨xs,hq,q⟩ |⟨xs,hq,q⟩
 ·obtain⟨its,rv,p,hz⟩:=I1.list hq
  refine wpAny_pyIter_list p.isList ?_
  refine⟨s1.heap.objs.size,[s1.heap.objs.size],_,_,H1,rfl,I1.kept (t':=s1.toks) fun b o e=>Heap.get?_push_of_some _ e,oU a _,⟨_,Heap.get?_push_size _ rfl,rfl,rfl⟩,fun b hb=>?_,q⟩
  have e:b=s1.heap.objs.size:=by simpa using hb
  subst e
  exact I1.fpOk (Nat.le_refl _) (I1.hok.fresh (Nat.le_refl _))
 ·obtain⟨its,rv,p,hz⟩:=I1.tuple hq
  refine wpAny_pyIter_tuple (show s1.heap.IsTuple a its.toArray from p) ?_
  refine⟨s1.heap.objs.size,[s1.heap.objs.size],_,_,H1,rfl,I1.kept (t':=s1.toks) fun b o e=>Heap.get?_push_of_some _ e,l_ a _,⟨_,Heap.get?_push_size _ rfl,rfl,rfl⟩,fun b hb=>?_,q⟩
  have e:b=s1.heap.objs.size:=by simpa using hb
  subst e
  exact I1.fpOk (Nat.le_refl _) (I1.hok.fresh (Nat.le_refl _))
def ff(xs:List PV):Bool:=!hasL Fl.isOwn xs&&!hasL Fl.isLnt xs
def dz(m:ME):MI:=fun env=>(m env).bind fun x=>match x with
 | .lst f xs=>if !f.isLnt&&ff xs then .ok xs else .stuck
 | .tup xs=>if ff xs then .ok xs else .stuck
 | _=>.stuck
theorem fF{H2:Hp}{Ow:Addr→Prop}(hF:∀a,F1 a→¬Ow a)(hB:∀a,B a→¬Ow a)(hO:∀a o,Ow a→H1 a=some o→Chg o)(hk:∀a o,H1 a=some o→¬Ow a→H2 a=some o){xs:List PV}{vs:List V}(r:RelL T F1 B NoL H1 xs vs []){i:Nat}{x:PV}{v:V}(e:xs[i]?=some x)(ev:vs[i]?=some v):Rel T F1 B NoL H2 x v []:=by
 obtain⟨w,f,e1,r1,sl⟩:=r.get e
 rw[ev]at e1
 cases e1
 obtain rfl:=List.sublist_nil.mp sl
 refine Rel.tr (fun _ h=>h) (fun _ h=>h) (fun _ h=>h) (fun a o q h=>hk a o q ?_) (fun _ z=>(nomatch z)) r1
 rcases h with h | h | h | h
 ·exact hF a h
 ·exact hB a h
 ·exact h.elim
 ·intro z
  have:=hO a o z q
  cases o with
  | lst _=>exact h
  | ins _ _ _=>exact h
  | _=>exact this
theorem ap.bow(S:ap T Z F H σ env fp):∀a,Z.B a→¬Own fp a:=fun a h ⟨i,hi⟩=>by
 obtain⟨⟨o,h1⟩,h2⟩:=S.hp.bo a h
 rcases S.new i a hi with z | z
 ·rw[h1]at z;cases z
 ·exact h2 z
theorem ap.fow(S:ap T Z F H σ env fp):∀a,F a→¬Own fp a:=fun a h ⟨i,hi⟩=>(S.dis i a hi).1 h
theorem ap.oow(S:ap T Z F H σ env fp):∀a o,Own fp a→H a=some o→Chg o:=fun a o ⟨i,hi⟩ e=>by
 obtain⟨o',h1,h2⟩:=S.ch i a hi
 rw[e]at h1;cases h1;exact h2
theorem fZ{xs:List PV}{vs:List V}{f:List Addr}(h:ff xs=true)(r:RelL T F B L H xs vs f):f=[]∧RelL T F B NoL H xs vs f:=by
 simp only[ff,Bool.and_eq_true,Bool.not_eq_true']at h
 exact⟨RelL.noOwn h.1 r,RelL.noL h.2 r⟩
theorem dX{tg e:Expr}{m:ME}(hK:X.K=T.K)(he:SE X T W e m):SI X T W tg e (dz m):=fun pins s σ H R I h=>qJ he pins s σ H R I (by
 obtain⟨Z,F,env,fp,S,q⟩:=h
 unfold dz at q
 refine tE.bind S (fun c e=>by rw[e]at q;exact q) (fun e=>by rw[e]at q;exact q) fun x v H1 F1 f1 e1 g1 r1 n1 d1 w1=>?_
 rw[e1]at q
 simp only[Res.ok_bind]at q
 have S1:=S.grow g1
 rw[hK]
 cases x with
 | lst f xs =>
  dsimp only at q
  by_cases hc:(!f.isLnt&&ff xs)=true
  ·rw[if_pos hc]at q
   rw[Bool.and_eq_true]at hc
   unfold Rel at r1
   obtain⟨a,vs,fp',rfl,hl,hr,hf⟩:=r1
   obtain⟨rfl,hr'⟩:=fZ hc.2 hr
   refine⟨a,rfl,.inl ⟨vs,hl.sq,q _ H1 F1 g1 (ItR.of0 fun H2 hk=>?_)⟩⟩
   have na:f≠.mod→∀o,H1 a=some o→H2 a=some o:=fun hn o ho=>by
    refine hk a o ho ?_
    cases f with
    | own =>
     rintro⟨i,hi⟩
     obtain⟨_,o',ho'⟩:=S.dis i a hi
     obtain rfl:f1=[a]:=hf
     rw[w1 a List.mem_cons_self]at ho';cases ho'
    | frz=>exact S1.fow a hl.1
    | bor=>exact S1.bow a hl.1
    | lnt=>exact absurd hc.1 (by decide)
    | mod=>exact absurd rfl hn
   have hl2:SqL T.K H2 a vs:=by
    by_cases hn:f=.mod
    ·subst hn;exact .inr hl
    ·exact .inl (Rd.tr (na hn) (hl.rd hn))
   refine⟨fun i x ex=>?_,⟨vs,hl2,by rw[hr.length];exact Nat.le_refl _⟩⟩
   obtain⟨v,_,ev,_,_⟩:=hr.get ex
   refine⟨⟨vs,v,hl2,ev⟩,fun w H3 hy=>⟨hy.1,?_⟩⟩
   have e3:=hy.2 vs hl2
   exact fF S1.fow S1.bow S1.oow hk hr' ex e3
  ·rw[if_neg hc]at q;exact q.elim
 | tup xs =>
  dsimp only at q
  by_cases hc:ff xs=true
  ·rw[if_pos hc]at q
   unfold Rel at r1
   obtain⟨a,vs,rfl,hl,hr⟩:=r1
   obtain⟨rfl,hr'⟩:=fZ hc hr
   refine⟨a,rfl,.inr ⟨vs,hl,q _ H1 F1 g1 (ItR.of0 fun H2 hk=>?_)⟩⟩
   have hl2:SqT T.K H2 a vs:=SqT.tr (fun o ho hfx=>hk a o ho fun z=>by
    have:=S1.oow a o z ho
    cases o with
    | lst _=>exact hfx
    | ins _ _ _=>exact hfx
    | _=>exact this) hl
   refine⟨fun i x ex=>?_,⟨vs,hl2,by rw[hr.length];exact Nat.le_refl _⟩⟩
   obtain⟨v,_,ev,_,_⟩:=hr.get ex
   refine⟨⟨vs,v,hl2,ev⟩,fun w H3 hy=>⟨hy.1,?_⟩⟩
   exact fF S1.fow S1.bow S1.oow hk hr' ex (hy.2 vs hl2)
  ·rw[if_neg hc]at q;exact q.elim
 | _=>exact q.elim)
def cJ(lo:Int)(n:Nat):List PV:=(List.range n).map fun k=>.int (lo+(k:Nat))
def inR(i:Int):Bool:=decide (-(2 ^ 62)≤ i∧i < 2 ^ 62)
def bO(ms:MA):MI:=fun env=>(ms env).bind fun xs=>match xs with
 | [.int n]=>if inR n then .ok (cJ 0 n.toNat)else .stuck
 | _=>.stuck
theorem uS{lo:Int}{n:Nat}{Ow:Addr→Prop}:ItR T F1 B Ow H1 (Itr lo n) (cJ lo n):=by
 apply ItR.of0
 intro H2 _
 refine⟨fun i x ex=>?_,by simp[cJ,Itr]⟩
 have hi:i < n:=by
  have:=(List.getElem?_eq_some_iff.mp ex).1
  simpa[cJ]using this
 refine⟨hi,fun v H3 hy=>⟨hy.1,?_⟩⟩
 obtain⟨_,rfl⟩:=hy
 have:x=.int (lo+(i:Nat)):=by
  simp[cJ,hi]at ex
  exact ex.symm
 subst this
 exact d0
theorem cU{tg a:Expr}{ms:MA}{p pos:Pos}(hg:Gl X "range")(hm:X.mg "range" = none)(ha:SA X T W [a] ms)(hs:starEach [a] X.env=[(false,eval a X.env)]:=by rfl):SI X T W tg (.Call (.Name "range" p) [a] [] pos) (bO ms):=fun pins s σ H R I h=>jJ hg hm ha hs pins s σ H R I (by
 obtain⟨Z,F,env,fp,S,q⟩:=h
 unfold bO at q
 refine tA.bind S (fun c e=>by rw[e]at q;exact q) (fun e=>by rw[e]at q;exact q) fun xs vs H1 F1 f1 e1 g1 r1 n1 d1 w1=>?_
 rw[e1]at q
 simp only[Res.ok_bind]at q
 split at q
 ·rename_i n
  split at q
  ·rename_i hc
   obtain⟨v,rfl,r2⟩:=r1.one
   unfold Rel at r2
   obtain⟨rfl,_⟩:=r2
   have hc':-(2 ^ 62)≤ n∧n < 2 ^ 62:=by simpa[inR]using hc
   exact⟨n,rfl,hc'.1,hc'.2,q _ H1 F1 g1 uS⟩
  ·exact q.elim
 ·exact q.elim)
def bW(it:MI)(tg:TgM)(body:MS):MS:=fun env=>match it env with
 | .ok xs=>jt (fun x e=>match tg x e with
  | some e'=>body e'
  | none=>.stuck) xs env
 | .exc c=>.exc c env
 | .stuck=>.stuck
theorem bJ{tg iter:Expr}{body:List Stmt}{mi:MI}{g:TgM}{mb:MS}{pos:Pos}(hp:PassesOwn (model X.prog X.w) X.A X.env X.xe)(hc:X.calm=true)(hi:SI X T W tg iter mi)(hg:SG X T tg g)(hb:SSs X T W body mb)
  (hs:∀x,foldedSetIterable iter X.env x=pure x:=by intro _;rfl):SS X T W (.For tg iter body [] pos) (bW mi g mb):=PS.wk (wT (pos:=pos) hp hc hi hg hb hs) fun D σ H ⟨Z,F,env,fp,S,q⟩=>by
 unfold bW at q
 refine⟨Z,F,env,fp,S,?_⟩
 cases em:mi env with
 | exc c=>rw[em]at q;exact fun H' x=>q F H' σ fp (S.grow (Gr.same S.hp.ft x))
 | stuck=>rw[em]at q;exact q
 | ok xs =>
  rw[em]at q
  dsimp only at q
  intro J H1 F1 g1 it
  have S1:=S.grow g1
  generalize hbd:(fun (x:PV) (e:En)=>match g x e with
   | some e'=>mb e'
   | none=>Out.stuck)=bd at q
  refine⟨fun i m σ2 H2=>m=xs.length - i∧i≤xs.length∧∃F2 env2 fp2,ap T (Z.re F1 H1 fp) F2 H2 σ2 env2 fp2∧GS T W Z D (jt bd (xs.drop i) env2),⟨xs.length,by simp,Nat.zero_le _,F1,env,fp,S1.enter,q⟩,?_⟩
  rintro i m σ2 H2 ⟨rfl,hi,F2,env2,fp2,S2,q2⟩
  obtain⟨go,stop⟩:=it H2 S2.hp.keep
  by_cases hlt:i < xs.length
  ·have hx:xs[i]?=some xs[i]:=by simp[hlt]
   obtain⟨g1',yl⟩:=go i _ hx
   refine .inr ⟨g1',fun σ3 H3=>∃F3 env3 fp3,ap T (Z.re F1 H1 fp) F3 H3 σ3 env3 fp3∧GS T W Z D (jt bd (xs.drop (i+1)) env3),fun σ3 H3 h3=>⟨xs.length - (i+1),by omega,rfl,hlt,h3⟩,fun v H3 hy=>?_⟩
   obtain⟨ex3,r⟩:=yl v H3 hy
   rw[List.drop_eq_getElem_cons hlt]at q2
   unfold jt at q2
   rw[← hbd]at q2
   dsimp only at q2
   refine⟨Z.re F1 H1 fp,F2,env2,fp2,xs[i],[],S2.grow (Gr.same S2.hp.ft ex3),r.ext Ext.refl S2.hp.f0,p6.nil,?_⟩
   cases eg:g xs[i] env2 with
   | none=>rw[eg]at q2;exact q2
   | some e' =>
    rw[eg]at q2
    dsimp only at q2
    intro σ' fp' S'
    refine⟨Z.re F1 H1 fp,F2,e',fp',S',?_⟩
    cases eb:mb e' with
    | next e2=>rw[eb]at q2;exact fun F3 H3 σ3 fp3 S3=>⟨F3,e2,fp3,S3,by rw[← hbd];exact q2⟩
    | cont e2=>rw[eb]at q2;exact fun F3 H3 σ3 fp3 S3=>⟨F3,e2,fp3,S3,by rw[← hbd];exact q2⟩
    | brk e2=>rw[eb]at q2;exact fun F3 H3 σ3 fp3 S3=>q2 F3 H3 σ3 fp3 (S1.leave S3)
    | ret v=>rw[eb]at q2;exact fun F3 H3 v f hp r nd nf new=>q2 F3 H3 v f (dg.leave S1 hp) r nd nf fun a ha=>S1.newL (new a ha)
    | exc c e2=>rw[eb]at q2;exact fun F3 H3 σ3 fp3 S3=>q2 F3 H3 σ3 fp3 (S1.leave S3)
    | stuck=>rw[eb]at q2;exact q2
  ·have e:i=xs.length:=by omega
   subst e
   rw[List.drop_length]at q2
   exact .inl ⟨stop,q2 F2 H2 σ2 fp2 (S1.leave S2)⟩
end
end PR
namespace L2
open PySem PySem.Spec
def cz(cells:List (Str×Addr)):List (Str×NameKind)→List (Str×Addr)→List (Str×Addr)
 | [],acc=>acc
 | (n,k)::r,acc=>if (k == .free)=true then (match cells.lookup n with
  | some c=>cz cells r ((n,c)::acc)
  | none=>cz cells r acc)else cz cells r acc
theorem fH{env:Env}:∀(names:List (Str×NameKind)) (acc:List (Str×Addr)),(∀y∈names,y.2=.free→∃c,env.cells.lookup y.1=some c)→
  (forIn names acc fun (x:Str × NameKind) (cs:List (Str × Addr))=>match x with
   |(name,kind)=>if(kind==.free)=true then do let c ← cellOf env name;pure (ForInStep.yield ((name,c)::cs))else pure (ForInStep.yield cs):Sem (List (Str×Addr)))=pure (cz env.cells names acc)
 | [],acc,_=>by simp[cz]
 |(n,k)::r,acc,h=>by
  rw[List.forIn_cons]
  by_cases hk:(k==NameKind.free)=true
  ·obtain⟨c,hc⟩:=h (n,k) List.mem_cons_self (by simpa using hk)
   dsimp only at hc
   simp only[hk,if_true,cellOf,hc,pure_bind]
   rw[cz,if_pos hk,hc]
   exact fH r _ fun y hy=>h y (List.mem_cons_of_mem _ hy)
  ·simp only[hk,Bool.false_eq_true,if_false,pure_bind]
   rw[cz,if_neg hk]
   exact fH r _ fun y hy=>h y (List.mem_cons_of_mem _ hy)
theorem ju{scope:Scope}{env:Env}(h:∀y∈scope.names,y.2=.free→∃c,env.cells.lookup y.1=some c):closureFor scope env=pure (cz env.cells scope.names []):=by
 unfold closureFor
 simp only[]
 rw[← fH scope.names [] h]
 simp
theorem dQ{cells:List (Str×Addr)}:∀{names:List (Str×NameKind)}{acc:List (Str×Addr)},(∀p∈acc,cells.lookup p.1=some p.2)→∀p∈cz cells names acc,cells.lookup p.1=some p.2
 | [],_,h=>h
 |(n,k)::r,acc,h=>by
  unfold cz
  split
  ·split
   ·rename_i c hc
    exact dQ fun p hp=>by
     rcases List.mem_cons.mp hp with rfl | hp
     ·exact hc
     ·exact h p hp
   ·exact dQ h
  ·exact dQ h
theorem gv{cells:List (Str×Addr)}:∀{names:List (Str×NameKind)}{acc:List (Str×Addr)}{p:Str×Addr},p∈acc→p∈cz cells names acc
 | [],_,_,h=>h
 |(n,k)::r,acc,p,h=>by
  unfold cz
  split
  ·split
   ·exact gv (List.mem_cons_of_mem _ h)
   ·exact gv h
  ·exact gv h
theorem eS{cells:List (Str×Addr)}{x:Str}{c:Addr}(hc:cells.lookup x=some c):∀{names:List (Str×NameKind)}{acc:List (Str×Addr)},(x,NameKind.free)∈ names→(x,c)∈ cz cells names acc
 | [],_,h=>nomatch h
 |(n,k)::r,acc,h=>by
  unfold cz
  rcases List.mem_cons.mp h with e | h
  ·cases e
   rw[if_pos (by rfl),hc]
   exact gv List.mem_cons_self
  ·split
   ·split
    ·exact eS hc h
    ·exact eS hc h
   ·exact eS hc h
theorem fi{cells l:List (Str×Addr)}(h:∀p∈l,cells.lookup p.1=some p.2){x:Str}{c:Addr}(m:(x,c)∈ l):l.lookup x=some c:=by
 induction l with
 | nil=>cases m
 | cons p r ih =>
  obtain⟨n,d⟩:=p
  rw[List.lookup_cons]
  by_cases e:x=n
  ·subst e
   simp only[beq_self_eq_true]
   have h1:=h (x,d) List.mem_cons_self
   have h2:=h (x,c) m
   dsimp only at h1 h2
   rw[h1]at h2
   exact h2
  ·rw[show(x==n)=false by simpa using e]
   refine ih (fun p hp=>h p (List.mem_cons_of_mem _ hp)) ?_
   rcases List.mem_cons.mp m with z | z
   ·cases z;exact absurd rfl e
   ·exact z
theorem dP{cells:List (Str×Addr)}{names:List (Str×NameKind)}{x:Str}{c:Addr}(h:(cz cells names []).lookup x=some c):cells.lookup x=some c :=
 dQ (names:=names) (acc:=[]) (fun _ z=>nomatch z) (x,c) (PySem.mem_of_lookup h)
theorem jd:∀(names:List (Str×NameKind)) (a:Nat) (l acc:List (Str×Addr)),cellsFrom a names (l++acc)=cellsFrom a names l++acc
 | [],_,_,_=>rfl
 |(n,k)::r,a,l,acc=>by
  unfold cellsFrom
  split
  ·exact jd r (a+1) ((n,a)::l) acc
  ·exact jd r a l acc
theorem jc:∀{names:List (Str×NameKind)}{a:Nat}{l:List (Str×Addr)}{p:Str×Addr},p∈cellsFrom a names l→p∈l ∨(a≤p.2∧(p.1,NameKind.cell)∈ names)
 | [],_,_,_,h=>.inl h
 |(n,k)::r,a,l,p,h=>by
  unfold cellsFrom at h
  split at h
  ·rename_i hk
   have hk:k=.cell:=by simpa using hk
   subst hk
   rcases jc h with h | h
   ·rcases List.mem_cons.mp h with rfl | h
    ·exact .inr ⟨Nat.le_refl _,List.mem_cons_self⟩
    ·exact .inl h
   ·exact .inr ⟨by omega,List.mem_cons_of_mem _ h.2⟩
  ·rcases jc h with h | h
   ·exact .inl h
   ·exact .inr ⟨h.1,List.mem_cons_of_mem _ h.2⟩
theorem kH:∀{names:List (Str×NameKind)}{a:Nat}{l:List (Str×Addr)}{x:Str},((x,NameKind.cell)∈ names ∨(l.lookup x).isSome=true)→((cellsFrom a names l).lookup x).isSome=true
 | [],_,_,_,h=>h.resolve_left (fun z=>nomatch z)
 |(n,k)::r,a,l,x,h=>by
  unfold cellsFrom
  split
  ·rename_i hk
   have hk:k=.cell:=by simpa using hk
   subst hk
   refine kH ?_
   by_cases e:x=n
   ·subst e;exact .inr (by simp)
   ·rcases h with h | h
    ·rcases List.mem_cons.mp h with z | h
     ·cases z;exact absurd rfl e
     ·exact .inl h
    ·exact .inr (by rw[List.lookup_cons,show(x==n)=false by simpa using e];exact h)
  ·rename_i hk
   refine kH ?_
   rcases h with h | h
   ·rcases List.mem_cons.mp h with z | h
    ·cases z;exact absurd rfl hk
    ·exact .inl h
   ·exact .inr h
theorem je:∀{names:List (Str×NameKind)}{a:Nat}{l:List (Str×Addr)},(∀p∈l,p.2 < a)→(l.Pairwise fun x y=>x.2≠y.2)→(cellsFrom a names l).Pairwise fun x y=>x.2≠y.2
 | [],_,_,_,h=>h
 |(n,k)::r,a,l,hl,h=>by
  unfold cellsFrom
  split
  ·refine je (fun p hp=>?_) (List.pairwise_cons.mpr ⟨fun y hy e=>?_,h⟩)
   ·rcases List.mem_cons.mp hp with rfl | hp
    ·exact Nat.lt_succ_self _
    ·exact Nat.lt_succ_of_lt (hl p hp)
   ·have e':a=y.2:=e
    exact Nat.lt_irrefl _ (Nat.lt_of_lt_of_eq (hl y hy) e')
  ·exact je hl h
theorem ge{α:Type}{x:Str}:∀{l m:List (Str×α)},(l++m).lookup x=(l.lookup x).or (m.lookup x)
 | [],m=>by simp
 |(n,c)::l,m=>by
  rw[List.cons_append,List.lookup_cons,List.lookup_cons,ge (l:=l)]
  cases x==n<;>simp
abbrev lY(X:Cx)(scope:Scope)(C:Addr):List (Str×Addr):=cellsFrom (C+1) scope.names (cz X.env.cells scope.names [])
theorem jf{X:Cx}{scope:Scope}{C:Addr}{x:Str}{c:Addr}(h:(lY X scope C).lookup x=some c):(C+1≤c∧(x,NameKind.cell)∈ scope.names∧(x,c)∈ cellsFrom (C+1) scope.names [])∨(cz X.env.cells scope.names []).lookup x=some c:=by
 unfold lY at h
 rw[show cz X.env.cells scope.names []=[]++ cz X.env.cells scope.names []from rfl,jd,ge]at h
 cases e:(cellsFrom (C+1) scope.names []).lookup x with
 | some d =>
  rw[e]at h
  cases h
  have m:=PySem.mem_of_lookup e
  rcases jc m with z | z
  ·cases z
  ·exact .inl ⟨z.1,z.2,m⟩
 | none =>
  rw[e]at h
  exact .inr (by simpa using h)
theorem yE{X:Cx}{scope:Scope}{C:Addr}{x:Str}{c:Addr}(hx:(x,NameKind.cell)∉ scope.names)(h:(cz X.env.cells scope.names []).lookup x=some c):(lY X scope C).lookup x=some c:=by
 unfold lY
 rw[show cz X.env.cells scope.names []=[]++ cz X.env.cells scope.names []from rfl,jd,ge]
 cases e:(cellsFrom (C+1) scope.names []).lookup x with
 | some d =>
  rcases jc (PySem.mem_of_lookup e)with z | z
  ·cases z
  ·exact absurd z.2 hx
 | none=>simpa using h
theorem ly{M:Model}{A:Around}{E:Value→Shared→Prop}{s:Shared}{scope:Scope}{globals:Addr}{closure:List (Str×Addr)}{qual:Str}{func:Option Addr}{code:Value}{outer:Env}{builtins:Addr}{Q:Env→Shared→Prop}
  (hQ:∀ h',h'.Ns s.heap.objs.size (fun _=>none)→(∀ b o,s.heap.get? b=some o→h'.get? b=some o)→(∀ n c,(n,c) ∈ cellsFrom (s.heap.objs.size+1) scope.names []→h'.IsCell c none) →
   Q (newEnv scope s.heap.objs.size globals (cellsFrom (s.heap.objs.size+1) scope.names closure) qual func code (some outer) builtins) { s with heap:=h' }) :
  wpAny M A (newFunctionEnv scope globals closure [] qual func code (some outer) builtins) Q E s:=by
 simp only[newFunctionEnv,Option.isSome_some,if_true]
 refine wpAny_bind (wpAny_alloc ?_)
 refine wpAny_bind (wpAny_layCells _ (fun name kind cells=>by cases hkc:kind==NameKind.cell<;>simp[hkc]) _ _ _ _ ?_)
 have ok:=cellsFrom_ok scope.names (s.heap.push { cls:=.type "dict", data:=.dict #[] }) (s.heap.objs.size+1) [] ⟨fun _ _ hm=>(nomatch hm),List.Pairwise.nil⟩ (by rw[Heap.size_push];exact Nat.le_refl _)
 rw[Heap.size_push]at ok
 rw[show({ s with heap:=s.heap.push { cls:=.type "dict", data:=.dict #[] } }:Shared).heap.objs.size=s.heap.objs.size+1 from Heap.size_push ..]
 refine wpAny_bind ?_
 rw[List.forIn_nil]
 exact wpAny_pure (wpAny_pure (hQ _ ((Heap.Ns.new s.heap (.type "dict")).keeps (pushCells_keeps _ _)) (fun b o e=>pushCells_keeps _ _ b o (Heap.get?_push_of_some _ e)) fun n c hm=>(ok.empty n c hm).1))
def cxC(X:Cx)(scope:Scope)(C:Addr)(N:List Str)(s:Shared)(H:Hp)(ex:List Addr):Cx :=
 { X with env:=compEnvC scope (lY X scope C) C X.env,N:=N,s₀:=s,H₀:=H,outer:=X.stack,stack:=X.stack,ex:=ex,fn:=fun x=>scope.names.lookup x==some .cell,pn:=[],xe:=fun _ _=>False }
structure cA(X:Cx)(scope:Scope)(caps:List Nat)(N tn:List Str):Prop where
 kind:scope.kind=.function
 cel:∀y∈scope.names,y.2=.cell→scope.names.lookup y.1=some .cell
 names:∀y∈scope.names,y.2=.local→scope.names.lookup y.1=some .local
 free:∀y∈scope.names,y.2=.free→X.env.kindOf y.1=some .cell∨X.env.kindOf y.1=some .free
 eN:N=caps.map (fun i=>X.N.getD i "")++ tn
 capN:∀i∈caps,i < X.N.length
 capF:∀i∈caps,∀x,X.N[i]?=some x→(x,NameKind.free)∈ scope.names∧scope.names.lookup x=some .free
 nd:N.Nodup
theorem fR{scope:Scope}{env:Env}{x:Str}{k:NameKind}(h:(relabel scope env).names.lookup x=some k)(hc:k=.cell∨k=.free):(x,NameKind.free)∈ scope.names ∨(x,NameKind.cell)∈ scope.names:=by
 have m:=PySem.mem_of_lookup h
 obtain⟨⟨n,k0⟩,hm,e⟩:=List.mem_map.mp m
 dsimp only at e
 split at e
 ·rename_i hh
  cases e
  have:k0=.free:=by
   simp only[Bool.and_eq_true,beq_iff_eq]at hh
   exact hh.1.1
  subst this
  exact .inl hm
 ·cases e
  rcases hc with rfl | rfl
  ·exact .inr hm
  ·exact .inl hm
theorem fS{scope:Scope}{env:Env}{x:Str}:∀{names:List (Str×NameKind)},names.lookup x=some .free →
  (names.map fun(n,k)=>if(k==NameKind.free&&env.scope.kind==.function&&env.kindOf n==some .cell)then(n,NameKind.cell)else(n,k)).lookup x=some .cell ∨
  (names.map fun(n,k)=>if(k==NameKind.free&&env.scope.kind==.function&&env.kindOf n==some .cell)then(n,NameKind.cell)else(n,k)).lookup x=some .free
 | [],h=>by simp at h
 |(n,k)::r,h=>by
  show List.lookup x ((if(k==NameKind.free&&env.scope.kind==.function&&env.kindOf n==some .cell)=true then(n,NameKind.cell)else(n,k))::_)=_∨List.lookup x ((if(k==NameKind.free&&env.scope.kind==.function&&env.kindOf n==some .cell)=true then(n,NameKind.cell)else(n,k))::_)=_
  have ih:=@fS scope env x r
  cases hx:x==n with
  | true =>
   simp only[List.lookup_cons,hx]at h
   cases h
   split
   ·exact .inl (by simp[List.lookup_cons,hx])
   ·exact .inr (by simp[List.lookup_cons,hx])
  | false =>
   simp only[List.lookup_cons,hx]at h
   split
   ·simpa only[List.lookup_cons,hx]using ih h
   ·simpa only[List.lookup_cons,hx]using ih h
section
variable{X:Cx}{scope:Scope}{caps:List Nat}{N tn:List Str}{pins:List (Addr×Obj)}{σ:St}{H:Hp}{s:Shared}{fp:List Addr}{C:Addr}
theorem nv(cs:cA X scope caps N tn)(I:Inv X pins σ H s)(hf:∀b∈fp,jz X pins H b)(hlt:∀b∈fp,b < s.heap.objs.size)(hC:s.heap.objs.size≤C):(cxC X scope C N s H fp).Ok where
 mod:=I.ok.mod
 kind:=by show(relabel scope X.env).kind=_;exact cs.kind
 glob:=I.ok.glob
 blt:=I.ok.blt
 above:=hC
 inj:=fun x y c h1 h2=>by
  have old:∀z,(cz X.env.cells scope.names []).lookup z=some c→c < s.heap.objs.size:=fun z hz=>let⟨_,hv⟩:=I.cell z c (dP hz);hv.lt
  rcases jf h1 with⟨l1,_,m1⟩ | h1<;>rcases jf h2 with⟨l2,_,m2⟩ | h2
  ·exact name_of_addr (je (l:=[]) (fun _ z=>nomatch z) List.Pairwise.nil) m1 m2
  ·exact absurd (Nat.lt_of_lt_of_le (old y h2) (Nat.le_trans hC (Nat.le_trans (Nat.le_succ _) l1))) (Nat.lt_irrefl _)
  ·exact absurd (Nat.lt_of_lt_of_le (old x h1) (Nat.le_trans hC (Nat.le_trans (Nat.le_succ _) l2))) (Nat.lt_irrefl _)
  ·exact I.ok.inj x y c (dP h1) (dP h2)
 has:=fun x hx=>by
  have hx:(relabel scope X.env).names.lookup x=some .cell ∨(relabel scope X.env).names.lookup x=some .free:=hx
  have m:(x,NameKind.free)∈ scope.names ∨(x,NameKind.cell)∈ scope.names:=by
   rcases hx with h | h
   ·exact fR h (.inl rfl)
   ·exact fR h (.inr rfl)
  refine Option.isSome_iff_exists.mp (kH (l:=cz X.env.cells scope.names []) ?_)
  rcases m with m | m
  ·obtain⟨c,hc⟩:=I.ok.has x (cs.free _ m rfl)
   exact .inr (by rw[fi (dQ (acc:=[]) fun _ z=>nomatch z) (eS hc m)];rfl)
  ·exact .inl m
 cab:=fun x c h hc=>by
  have h':(scope.names.lookup x==some NameKind.cell)=true:=h
  have hx:scope.names.lookup x=some .cell:=by simpa using h'
  have hs:s.heap.objs.size≤C:=hC
  have hc:(lY X scope C).lookup x=some c:=hc
  obtain⟨d,hd⟩:=Option.isSome_iff_exists.mp (kH (a:=C+1) (l:=[]) (.inl (PySem.mem_of_lookup hx)))
  unfold lY at hc
  rw[show cz X.env.cells scope.names []=[]++ cz X.env.cells scope.names []from rfl,jd,ge,hd]at hc
  cases hc
  rcases jc (PySem.mem_of_lookup hd)with z | z
  ·cases z
  ·exact Nat.le_trans hs (Nat.le_trans (Nat.le_succ _) z.1)
 hd:=I.ok.hd
 frames:=I.ok.frames
 stk:=.inl rfl
 exf:=fun b hb=>⟨Nat.ne_of_lt (Nat.lt_of_lt_of_le (hlt b hb) hC),fun x c h=>by
  rcases jf h with⟨l1,_,_⟩ | h
  ·exact fun z=>absurd (Nat.lt_of_lt_of_le (hlt b hb) (Nat.le_trans hC (Nat.le_trans (Nat.le_succ _) l1))) (by rw[z];exact Nat.lt_irrefl _)
  ·exact(hf b hb).2.2.2.2.1 x c (dP h)⟩
 bs:=I.bs
 bsz:=Nat.le_trans I.ok.bsz I.sz
 noex:=fun b o e hb=>by
  rcases(hf b hb).2.2.2.1 with z | z
  ·exact I.ok.noex b o e z
  ·exact absurd (Nat.lt_of_lt_of_le (Heap.lt_size e) (Nat.le_trans I.ok.bsz z)) (Nat.lt_irrefl _)
 exfs:=fun b hb hs=>by
  rcases List.mem_cons.mp (I.stkSub b hs)with z | z
  ·exact(hf b hb).2.1 z
  ·exact(hf b hb).2.2.1 z
 funs:=I.stack
 frf:=I.stkFree
def kI(caps:List Nat)(k:Nat)(σ:St):St:=caps.map (fun i=>(σ[i]?).join)++ List.replicate k none
theorem rH(cs:cA X scope caps N tn)(I:Inv X pins σ H s)(hf:∀b∈fp,jz X pins H b)(hlt:∀b∈fp,b < s.heap.objs.size){h₁:Heap}{t:Nat}
  (hns:h₁.Ns (s.heap.objs.size+1) fun _=>none) (hD:h₁.get? s.heap.objs.size=some { cls:=.type "list", data:=.seq ([]:List Value).toArray }) (old:∀b o,s.heap.get? b=some o→h₁.get? b=some o)
  (hcl:∀n c,(n,c)∈ cellsFrom (s.heap.objs.size+1+1) scope.names []→h₁.IsCell c none) :
  Inv (cxC X scope (s.heap.objs.size+1) N s H fp) [] (kI caps tn.length σ) (upd H s.heap.objs.size (.lst [])) { s with heap:=h₁,toks:=t }:=by
 have fresh:∀b,s.heap.objs.size≤b→H b=none:=fun b hb=>I.hok.fresh hb
 have neD:s.heap.objs.size+1≠s.heap.objs.size:=Nat.succ_ne_self _
 have ltc:∀x c,(cz X.env.cells scope.names []).lookup x=some c→∃v,s.heap.IsCell c v:=fun x c h=>I.cell x c (dP h)
 refine⟨nv cs I hf hlt (Nat.le_succ _),rfl,I.bare,Un.laid old (Nat.le_refl _) (fresh _ (Nat.le_refl _)),⟨_,hns,fun i y v h1 h2 h3=>?_⟩,fun x c h=>?_,?_,fun x c h=>?_,fun p hp=>absurd (show p ∈([]:List (Addr×Obj))from hp) (by simp),?_,?_⟩
 ·have hi:i < caps.length:=by
   unfold kI at h2
   by_cases hi:i < caps.length
   ·exact hi
   ·rw[List.getElem?_append_right (by simpa using hi),List.getElem?_replicate]at h2
    split at h2<;>cases h2
  unfold kI at h2
  rw[List.getElem?_append_left (by simpa using hi),List.getElem?_map]at h2
  obtain⟨j,hj,e2⟩:=Option.map_eq_some_iff.mp h2
  have hjc:j∈caps:=List.mem_of_getElem? hj
  have hjN:=cs.capN j hjc
  have hy:X.N[j]?=some y:=by
   have h1':N[i]?=some y:=h1
   rw[cs.eN,List.getElem?_append_left (by simpa using hi),List.getElem?_map,hj]at h1'
   have:X.N.getD j "" = y:=by simpa using h1'
   rw[← this]
   simp[hjN]
  have hσ:σ[j]?=some (some v):=by
   cases e:σ[j]? with
   | none=>rw[e]at e2;cases e2
   | some w=>rw[e]at e2;simp only[Option.join_some]at e2;rw[e2]
  obtain⟨m0,hn0,hl⟩:=I.loc
  obtain⟨hm,hlk⟩:=cs.capF j hjc y hy
  have hk:=cs.free _ hm rfl
  dsimp only at hk
  have hvis:Vis X.env.scope y:=by
   rcases hk with z | z
   ·exact .inr (.inl z)
   ·exact .inr (.inr z)
  obtain⟨u,ru,lk⟩:=hl j y v hy hσ hvis
  refine⟨u,ru,.inr ?_⟩
  rcases lk with⟨z,_⟩ |⟨_,c,hc,hcell⟩
  ·rcases hk with w | w
   ·rw[z]at w;cases w
   ·rw[z]at w;cases w
  ·refine⟨fS (scope:=scope) hlk,c,yE (fun z=>?_) (fi (dQ (acc:=[]) fun _ z=>nomatch z) (eS hc hm)),hcell.keeps old⟩
   have:=cs.cel _ z rfl
   rw[hlk]at this
   cases this
 ·rcases jf h with⟨_,_,m⟩ | h
  ·exact⟨none,hcl x c m⟩
  ·obtain⟨v,hv⟩:=ltc x c h
   exact⟨v,hv.keeps old⟩
 ·show upd H _ _ (s.heap.objs.size+1)=none
  rw[ay neD]
  exact fresh _ (Nat.le_succ _)
 ·rcases jf h with⟨l1,_,_⟩ | h
  ·rw[ay (Nat.ne_of_gt (Nat.lt_of_lt_of_le (Nat.lt_succ_of_lt (Nat.lt_succ_self _)) l1))]
   exact fresh _ (Nat.le_trans (Nat.le_succ_of_le (Nat.le_succ _)) l1)
  ·obtain⟨v,hv⟩:=ltc x c h
   rw[ay (Nat.ne_of_lt hv.lt)]
   exact I.freeC x c (dP h)
 ·exact I.hok.laid old (Nat.le_refl _) ⟨Nat.zero_le _,[],_,.nil,hD⟩
 ·show(kI caps tn.length σ).length=N.length
  rw[cs.eN]
  simp[kI]
end
end L2
namespace PR
open PySem PySem.Spec L2
def Fl.borrow:Fl→Fl
 | .own=>.bor
 | .lnt=>.bor
 | f=>f
def PV.borrow(x:PV):PV:=x.mapF Fl.borrow
mutual
theorem Rel.borrow{T:Tb}{F B B' L L':Addr→Prop}{H:Hp}(hB:∀a,B a→B' a)(hL:∀a,L a→B' a):∀{x:PV}{v:V}{fp:List Addr},(∀a∈fp,B' a)→Rel T F B L H x v fp→Rel T F B' L' H (x.mapF Fl.borrow) v []
 | .non,_,_,_,h=>by unfold Rel at h;simp only[PV.mapF];unfold Rel;exact⟨h.1,rfl⟩
 | .bl _,_,_,_,h=>by unfold Rel at h;simp only[PV.mapF];unfold Rel;exact⟨h.1,rfl⟩
 | .int _,_,_,_,h=>by unfold Rel at h;simp only[PV.mapF];unfold Rel;exact⟨h.1,rfl⟩
 | .str _,_,_,_,h=>by unfold Rel at h;simp only[PV.mapF];unfold Rel;exact⟨h.1,rfl⟩
 | .lst f xs,_,fp,hp,h=>by
  unfold Rel at h
  obtain⟨a,vs,fp',e,hl,hr,hf⟩:=h
  simp only[PV.mapF]
  unfold Rel
  cases f with
  | own =>
   obtain rfl:fp=a::fp':=hf
   exact⟨a,vs,[],e,⟨hp a List.mem_cons_self,.inl hl⟩,RelL.borrow hB hL (fun b hb=>hp b (List.mem_cons_of_mem _ hb)) hr,rfl,rfl⟩
  | frz=>obtain⟨rfl,rfl⟩:=hf;exact⟨a,vs,[],e,hl,RelL.borrow hB hL hp hr,rfl,rfl⟩
  | bor=>obtain⟨rfl,rfl⟩:=hf;exact⟨a,vs,[],e,⟨hB a hl.1,hl.2⟩,RelL.borrow hB hL hp hr,rfl,rfl⟩
  | lnt=>obtain⟨rfl,rfl⟩:=hf;exact⟨a,vs,[],e,⟨hL a hl.1,.inl hl.2⟩,RelL.borrow hB hL hp hr,rfl,rfl⟩
  | mod=>obtain⟨rfl,rfl⟩:=hf;exact⟨a,vs,[],e,hl,RelL.borrow hB hL hp hr,rfl,rfl⟩
 | .tup xs,_,fp,hp,h=>by
  unfold Rel at h
  obtain⟨a,vs,e,hl,hr⟩:=h
  simp only[PV.mapF]
  unfold Rel
  exact⟨a,vs,e,hl,RelL.borrow hB hL hp hr⟩
 | .obj f c ks xs,_,fp,hp,h=>by
  unfold Rel at h
  obtain⟨a,dx,vs,fp',e,hl,hk,hr,hf,ha⟩:=h
  simp only[PV.mapF]
  unfold Rel
  cases f with
  | own =>
   obtain rfl:fp=a::fp':=hf
   have r:=RelL.borrow hB hL (L':=L') (fun b hb=>hp b (List.mem_cons_of_mem _ hb)) hr
   exact⟨a,dx,vs,[],e,hl,⟨by rw[r.length,hk.1,hr.length],hk.2⟩,r,⟨rfl,rfl⟩,hp a List.mem_cons_self⟩
  | frz=>obtain⟨rfl,rfl⟩:=hf;have r:=RelL.borrow hB hL (L':=L') hp hr;exact⟨a,dx,vs,[],e,hl,⟨by rw[r.length,hk.1,hr.length],hk.2⟩,r,⟨rfl,rfl⟩,ha⟩
  | bor=>obtain⟨rfl,rfl⟩:=hf;have r:=RelL.borrow hB hL (L':=L') hp hr;exact⟨a,dx,vs,[],e,hl,⟨by rw[r.length,hk.1,hr.length],hk.2⟩,r,⟨rfl,rfl⟩,hB a ha⟩
  | lnt=>obtain⟨rfl,rfl⟩:=hf;have r:=RelL.borrow hB hL (L':=L') hp hr;exact⟨a,dx,vs,[],e,hl,⟨by rw[r.length,hk.1,hr.length],hk.2⟩,r,⟨rfl,rfl⟩,hL a ha⟩
  | mod=>exact ha.elim
 | .exc c,_,fp,hp,h=>by
  unfold Rel at h
  obtain⟨a,e,hl,rfl⟩:=h
  simp only[PV.mapF]
  unfold Rel
  exact⟨a,e,hl,rfl⟩
theorem RelL.borrow{T:Tb}{F B B' L L':Addr→Prop}{H:Hp}(hB:∀a,B a→B' a)(hL:∀a,L a→B' a):∀{xs:List PV}{vs:List V}{fp:List Addr},(∀a∈fp,B' a)→RelL T F B L H xs vs fp→RelL T F B' L' H (mapL Fl.borrow xs) vs []
 | [],_,_,_,h=>by unfold RelL at h;simp only[mapL];unfold RelL;exact⟨h.1,rfl⟩
 | x::xs,_,fp,hp,h=>by
  unfold RelL at h
  obtain⟨v,ws,f1,f2,e,h1,h2,rfl⟩:=h
  simp only[mapL]
  unfold RelL
  exact⟨v,ws,[],[],e,Rel.borrow hB hL (fun b hb=>hp b (List.mem_append_left _ hb)) h1,RelL.borrow hB hL (fun b hb=>hp b (List.mem_append_right _ hb)) h2,rfl⟩
end
mutual
theorem fI:∀x:PV,(x.mapF Fl.borrow).has Fl.isOwn=false
 | .non=>rfl
 | .bl _=>rfl
 | .int _=>rfl
 | .str _=>rfl
 | .lst f xs=>by simp only[PV.mapF,PV.has,borrow_ownL xs,Bool.or_false];cases f<;>rfl
 | .tup xs=>by simp only[PV.mapF,PV.has,borrow_ownL xs]
 | .obj f c ks xs=>by simp only[PV.mapF,PV.has,borrow_ownL xs,Bool.or_false];cases f<;>rfl
 | .exc _=>rfl
theorem borrow_ownL:∀xs:List PV,hasL Fl.isOwn (mapL Fl.borrow xs)=false
 | []=>rfl
 | x::xs=>by simp only[mapL,hasL,fI x,borrow_ownL xs,Bool.or_false]
end
def ItC(T:Tb)(F B L:Addr→Prop)(H1:Hp)(J:It)(xs:List PV):Prop :=
 ∀H2,Ext H1 H2→(∀(i:Nat) x,xs[i]?=some x→J.go i H2∧∀v H3,J.yld i H2 v H3→Ext H2 H3∧∃f,(∀a∈f,∃o,H1 a=some o)∧Rel T F B L H3 x v f)∧J.stop xs.length H2
theorem ItC.of0{T:Tb}{F B L:Addr→Prop}{H1:Hp}{J:It}{xs:List PV}(h:∀H2,Ext H1 H2→(∀(i:Nat) x,xs[i]?=some x→J.go i H2∧∀v H3,J.yld i H2 v H3→H3=H2∧∃f,Rel T F B L H1 x v f)∧J.stop xs.length H2):ItC T F B L H1 J xs:=fun H2 hk=>by
 obtain⟨a,b⟩:=h H2 hk
 refine⟨fun i x e=>⟨(a i x e).1,fun v H3 hy=>?_⟩,b⟩
 obtain⟨rfl,f,r⟩:=(a i x e).2 v H3 hy
 exact⟨Ext.refl,f,fun a ha=>r.there a ha,r.ext hk fun _ h=>h⟩
def GIc(T:Tb)(W:Nat→St→Hp→Prop)(B F L:Addr→Prop)(σ:St)(H:Hp)(R:It→Hp→Prop):Res (List PV)→Prop
 | .ok xs=>∀J H1 F1,Gr F H F1 H1→ItC T F1 B L H1 J xs→R J H1
 | .exc c=>∀H',Ext H H'→W c σ H'
 | .stuck=>False
def tIc(T:Tb)(W:Nat→St→Hp→Prop)(m:MI):TI:=fun σ H R=>∃Z F env fp,ap T Z F H σ env fp∧GIc T W Z.B F (Own fp) σ H R (m env)
abbrev SIc(X:Cx)(T:Tb)(W:Nat→St→Hp→Prop)(tg iter:Expr)(m:MI):Prop:=PI X tg iter (tIc T W m)
def bx(m:ME):MI:=fun env=>(m env).bind fun x=>match bf x with
 | some xs=>.ok xs
 | none=>.stuck
section
variable{X:Cx}{T:Tb}{W:Nat→St→Hp→Prop}{Z:Zn}{F F1 B L:Addr→Prop}{H H1:Hp}{σ:St}{env:En}{fp:Nat→List Addr}{D:Ends}
theorem bK{tg e:Expr}{m:ME}(hK:X.K=T.K)(he:SE X T W e m):SIc X T W tg e (bx m):=fun pins s σ H R I h=>qJ he pins s σ H R I (by
 obtain⟨Z,F,env,fp,S,q⟩:=h
 unfold bx at q
 refine tE.bind S (fun c e=>by rw[e]at q;exact q) (fun e=>by rw[e]at q;exact q) fun x v H1 F1 f1 e1 g1 r1 n1 d1 w1=>?_
 rw[e1]at q
 simp only[Res.ok_bind]at q
 cases es:bf x with
 | none=>rw[es]at q;exact q.elim
 | some xs =>
  rw[es]at q
  obtain⟨a,vs,f',rfl,hs,hr,_⟩:=r1.seq es
  refine⟨a,rfl,?_⟩
  rw[hK]
  rcases hs with hs | hs
  ·refine .inl ⟨vs,hs,q _ H1 F1 g1 (ItC.of0 fun H2 hx=>?_)⟩
   have h2:SqL T.K H2 a vs:=by
    rcases hs with z | z
    ·exact .inl (Rd.tr (fun o q=>hx a o q) z)
    ·exact .inr z
   refine⟨fun i x ex=>?_,⟨vs,h2,by rw[hr.length];exact Nat.le_refl _⟩⟩
   obtain⟨v,f,ev,rv,_⟩:=hr.get ex
   refine⟨⟨vs,v,h2,ev⟩,fun w H3 hy=>⟨hy.1,f,?_⟩⟩
   have:=hy.2 vs h2
   rw[ev]at this
   cases this
   exact rv
  ·refine .inr ⟨vs,hs,q _ H1 F1 g1 (ItC.of0 fun H2 hx=>?_)⟩
   have h2:SqT T.K H2 a vs:=SqT.tr (fun o q _=>hx a o q) hs
   refine⟨fun i x ex=>?_,⟨vs,h2,by rw[hr.length];exact Nat.le_refl _⟩⟩
   obtain⟨v,f,ev,rv,_⟩:=hr.get ex
   refine⟨⟨vs,v,h2,ev⟩,fun w H3 hy=>⟨hy.1,f,?_⟩⟩
   have:=hy.2 vs h2
   rw[ev]at this
   cases this
   exact rv)
theorem uT{lo:Int}{n:Nat}:ItC T F1 B L H1 (Itr lo n) (cJ lo n):=by
 apply ItC.of0
 intro H2 _
 refine⟨fun i x ex=>?_,by simp[cJ,Itr]⟩
 have hi:i < n:=by
  have:=(List.getElem?_eq_some_iff.mp ex).1
  simpa[cJ]using this
 refine⟨hi,fun v H3 hy=>⟨hy.1,[],?_⟩⟩
 obtain⟨_,rfl⟩:=hy
 have:x=.int (lo+(i:Nat)):=by
  simp[cJ,hi]at ex
  exact ex.symm
 subst this
 exact d0
theorem bS{tg a:Expr}{ms:MA}{p pos:Pos}(hg:Gl X "range")(hm:X.mg "range" = none)(ha:SA X T W [a] ms)(hs:starEach [a] X.env=[(false,eval a X.env)]:=by rfl):SIc X T W tg (.Call (.Name "range" p) [a] [] pos) (bO ms):=fun pins s σ H R I h=>jJ hg hm ha hs pins s σ H R I (by
 obtain⟨Z,F,env,fp,S,q⟩:=h
 unfold bO at q
 refine tA.bind S (fun c e=>by rw[e]at q;exact q) (fun e=>by rw[e]at q;exact q) fun xs vs H1 F1 f1 e1 g1 r1 n1 d1 w1=>?_
 rw[e1]at q
 simp only[Res.ok_bind]at q
 split at q
 ·rename_i n
  split at q
  ·rename_i hc
   obtain⟨v,rfl,r2⟩:=r1.one
   unfold Rel at r2
   obtain⟨rfl,_⟩:=r2
   have hc':-(2 ^ 62)≤ n∧n < 2 ^ 62:=by simpa[inR]using hc
   exact⟨n,rfl,hc'.1,hc'.2,q _ H1 F1 g1 uT⟩
  ·exact q.elim
 ·exact q.elim)
abbrev WF:Nat→St→Hp→Prop:=fun _ _ _=>False
def STs(X:Cx)(T:Tb)(W:Nat→St→Hp→Prop)(ifs:List Expr)(m:MT):Prop :=
 ∀(pins:List (Addr×Obj)) (s:Shared) (σ:St) (H:Hp) (Q:Bool→Hp→Prop),L2.Inv X pins σ H s→tT T W m σ H Q →
  wpAny (model X.prog X.w) X.A (forIn ifs true fun c r=>if r=true then do let ok ← isTrue c X.env (eval c X.env);pure (ForInStep.yield ok)else pure (ForInStep.yield r)) (TP X pins σ Q) X.xe s
def bc:MT:=fun _=>.ok true
theorem be:STs X T W [] bc:=fun pins s σ H Q I ⟨Z,F,env,fp,S,q⟩=>wpAny_tests_nil ⟨H,I,q H F (Gr.refl S.hp.ft)⟩
theorem il{c:Expr}{m:MT}(h:ST X T W c m):STs X T W [c] m:=fun pins s σ H Q I q=>wpAny_tests_one (h pins s σ H Q I q)
structure fJ(g:TgM)(k:Nat):Prop where
 keep:∀x env e',g x env=some e'→e'.length=env.length∧∀j < k,e'[j]?=env[j]?
 own:∀x env e',g x env=some e'→x.has Fl.isOwn=false→∀(j:Nat) pv,e'[j]?=some (some pv)→env[j]?=some (some pv)∨ pv.has Fl.isOwn=false
structure BJ(g:kR)(k:Nat):Prop where
 keep:∀x env e',g x env=some e'→e'.length=env.length∧∀j < k,e'[j]?=env[j]?
 own:∀x env e',g x env=some e'→hasL Fl.isOwn x=false→∀(j:Nat) pv,e'[j]?=some (some pv)→env[j]?=some (some pv)∨ pv.has Fl.isOwn=false
theorem qd{i k:Nat}(h:k≤i):fJ (tgN i) k:=by
 refine⟨fun x env e' e=>?_,fun x env e' e hx j pv hj=>?_⟩
 ·unfold tgN at e
  split at e
  ·cases e
   exact⟨by simp,fun j hj=>List.getElem?_set_ne (by omega)⟩
  ·cases e
 ·unfold tgN at e
  split at e
  ·cases e
   by_cases hij:i=j
   ·subst hij
    have hl:i < env.length:=by
     have:=(List.getElem?_eq_some_iff.mp hj).1
     simpa using this
    rw[List.getElem?_set_self hl]at hj
    cases hj
    exact .inr hx
   ·rw[List.getElem?_set_ne hij]at hj
    exact .inl hj
  ·cases e
def ce(caps:List Nat)(k:Nat)(env:En):En:=caps.map (fun i=>((env[i]?).join).map PV.borrow)++ List.replicate k none
def de(g:TgM)(mc:MT)(me:ME)(env:En):List PV→Res (List PV)
 | []=>.ok []
 | x::xs=>match g x.borrow env with
  | none=>.stuck
  | some e=>(mc e).bind fun b=>if b then(me e).bind fun y=>if y.has Fl.isBor||y.has Fl.isLnt then .stuck else(de g mc me env xs).bind fun ys=>.ok (y::ys)else de g mc me env xs
def aR(caps:List Nat)(k:Nat)(mi:MI)(g:TgM)(mc:MT)(me:ME):ME:=fun env=>(mi env).bind fun xs=>if xs.length ≤ 10000000 then (match de g mc me (ce caps k env) xs with
 | .ok ys=>.ok (.lst .own ys)
 | _=>.stuck)else .stuck
end
section
variable{prog:Program}{w:World}{A:Around}{R:Result→Shared→Prop}{s:Shared}
theorem kG{elt target iter:Expr}{ifs:List Expr}{scope:Scope}{pos:Pos}{it acc:Value}{env:Env}(I:Nat→Shared→Prop)
  (turn:∀ n s,I n s→wpAny (model prog w) A (pyNext it) (fun r s₁=>match r with
   | none=>R (.ok .next) s₁
   | some v=>wpAny (model prog w) A (letOwnedTupleGo target it v) (fun _ s₁'=>wpAny (model prog w) A (assign target env v) (fun _ s₂ =>
     wpAny (model prog w) A (forIn ifs true fun c r=>if r=true then do let ok ← isTrue c env (eval c env);pure (ForInStep.yield ok) else pure (ForInStep.yield r)) (fun ok s₃ =>
      if ok=true then wpAny (model prog w) A (eval elt env) (fun x s₄ =>
       wpAny (model prog w) A (call (.builtin "list.append") [acc,x]) (fun _ s₅=>∃m,m < n∧I m s₅) (notedBy (model prog w) A env fun e s'=>R (.error e) s') s₄) (notedBy (model prog w) A env fun e s'=>R (.error e) s') s₃
      else ∃m,m < n∧I m s₃) (notedBy (model prog w) A env fun e s'=>R (.error e) s') s₂) (notedBy (model prog w) A env fun e s'=>R (.error e) s') s₁') (notedBy (model prog w) A env fun e s'=>R (.error e) s') s₁) (notedBy (model prog w) A env fun e s'=>R (.error e) s') s)
  (n:Nat) (h:I n s) :
  codeAny (model prog w) A (.compLoop (.ListComp elt [⟨target,iter,ifs,0⟩] scope pos) 0 it acc env) R s:=by
 refine codeAny_loop rfl I (fun n s hI=>?_) n h
 show wpAny _ A ((compTurn (.ListComp elt [⟨target,iter,ifs,0⟩] scope pos) 0 it acc env).onRaise (fun x=>do noteFrame x env;theTreesLotGoes x)) _ _ s
 refine wpAny_noted ?_
 rw[compTurn_list]
 refine wpAny_bind (wpAny_standAt (wpAny_bind (wpAny_mono (turn n s hI) (fun r s₁ h₁=>?_) fun _ _ h'=>h')))
 cases r with
 | none=>exact wpAny_pure h₁
 | some v =>
  refine wpAny_bind (wpAny_mono h₁ (fun _ s₁' h₁'=>?_) fun _ _ h'=>h')
  refine wpAny_bind (wpAny_mono h₁' (fun _ s₂ h₂=>wpAny_bind (wpAny_mono h₂ (fun ok s₃ h₃=>?_) fun _ _ h'=>h')) fun _ _ h'=>h')
  cases ok with
  | false=>exact wpAny_pure ⟨rfl,h₃⟩
  | true =>
   exact wpAny_bind (wpAny_bind (wpAny_mono h₃ (fun x s₄ h₄=>wpAny_bind (wpAny_mono h₄ (fun _ s₅ h₅=>wpAny_pure (wpAny_pure ⟨rfl,h₅⟩)) fun _ _ h'=>h')) fun _ _ h'=>h'))
end
end PR
namespace L2
open PySem PySem.Spec
end L2
namespace PR
open PySem PySem.Spec L2
section
variable{X:Cx}{T:Tb}{W:Nat→St→Hp→Prop}{Z:Zn}{F F1 B L:Addr→Prop}{H H1:Hp}{σ:St}{env:En}{fp:Nat→List Addr}{D:Ends}
theorem ap.wk{e2:En}(S:ap T Z F H σ env fp)(hpin:Z.pin=none)(hl:e2.length=env.length)(h:∀(i:Nat) pv,e2[i]?=some (some pv)→env[i]?=some (some pv)):ap T Z F H σ e2 fp :=
 ⟨S.hp,S.len.trans hl.symm,fun i pv e=>S.rel i pv (h i pv e),S.nd,S.dj,S.dis,S.new,S.ch,fun v hv=>by rw[hpin]at hv;cases hv⟩
theorem ap.noOwn(S:ap T Z F H σ env fp)(h:∀(i:Nat) pv,env[i]?=some (some pv)→pv.has Fl.isOwn=false):ap T Z F H σ env (fun _=>[]) :=
 ⟨S.hp,S.len,fun i pv e=>by
  obtain⟨v,h1,h2⟩:=S.rel i pv e
  have:=Rel.noOwn (h i pv e) h2
  rw[this]at h2
  exact⟨v,h1,h2⟩,fun _=>List.nodup_nil,fun _ _ _ _ z=>(nomatch z),fun _ _ z=>(nomatch z),fun _ _ z=>(nomatch z),fun _ _ z=>(nomatch z),S.pn⟩
theorem ap.updD{Dd:Addr}{o o':HO}(S:ap T Z F H σ env (fun _=>[]))(hF:¬F Dd)(h0:Z.H0 Dd=none)(hD:H Dd=some o)(hfx:¬hZ o):ap T Z F (upd H Dd o') σ env (fun _=>[]):=by
 have ne:∀a u,H a=some u→(F a∨Z.B a∨NoL a∨hZ u)→a≠Dd:=fun a u e h z=>by
  subst z
  rcases h with h | h | h | h
  ·exact hF h
  ·obtain⟨⟨u',e'⟩,_⟩:=S.hp.bo _ h
   rw[h0]at e';cases e'
  ·exact h
  ·rw[hD]at e;cases e;exact hfx h
 refine⟨⟨S.hp.bo,fun a u e n=>?_,S.hp.f0,S.hp.fn,fun a h=>?_⟩,S.len,fun i pv e=>?_,S.nd,S.dj,fun _ _ z=>(nomatch z),S.new,fun _ _ z=>(nomatch z),S.pn⟩
 ·have:a≠Dd:=fun z=>by rw[z,h0]at e;cases e
  rw[ay this]
  exact S.hp.keep a u e n
 ·obtain⟨u,e⟩:=S.hp.ft a h
  exact⟨u,by rw[ay (show a≠Dd from fun z=>hF (by rw[← z];exact h))];exact e⟩
 ·obtain⟨v,h1,h2⟩:=S.rel i pv e
  refine⟨v,h1,Rel.tr (fun _ h=>h) (fun _ h=>h) (fun _ h=>h) (fun a u q h=>?_) (fun _ z=>(nomatch z)) h2⟩
  rw[ay (ne a u q h)]
  exact q
def zC(F:Addr→Prop)(H:Hp):Zn:=⟨H,F,fun _=>False,fun a=>∃o,H a=some o,none⟩
theorem pT{caps:List Nat}{k:Nat}{Dd:Addr}(S:ap T Z F H σ env fp)(hD:H Dd=none)(hFD:¬F Dd) :
  ap T (zC F H) F (upd H Dd (.lst [])) (kI caps k σ) (ce caps k env) (fun _=>[]):=by
 have ext:Ext H (upd H Dd (.lst [])):=Ext.upd hD
 refine⟨⟨fun a h=>⟨h,fun z=>z⟩,fun a o h _=>ext a o h,fun _ h=>h,fun _ h=>.inl h,fun a h=>let⟨o,e⟩:=S.hp.ft a h;⟨o,ext a o e⟩⟩,by simp[kI,ce],fun i pv e=>?_,fun _=>List.nodup_nil,fun _ _ _ _ z=>(nomatch z),fun _ _ z=>(nomatch z),fun _ _ z=>(nomatch z),fun _ _ z=>(nomatch z),fun _ h=>(nomatch h)⟩
 unfold ce at e
 unfold kI
 by_cases hi:i < caps.length
 ·rw[List.getElem?_append_left (by simpa using hi),List.getElem?_map]at e ⊢
  obtain⟨j,hj,e2⟩:=Option.map_eq_some_iff.mp e
  rw[hj]
  obtain⟨pv0,e3,rfl⟩:=Option.map_eq_some_iff.mp e2
  have e4:env[j]?=some (some pv0):=by
   cases e5:env[j]? with
   | none=>rw[e5]at e3;cases e3
   | some w=>rw[e5]at e3;simp only[Option.join_some]at e3;rw[e3]
  obtain⟨v,h1,h2⟩:=S.rel j pv0 e4
  refine⟨v,by simp[h1],?_⟩
  refine Rel.borrow (B:=fun a=>∃o,H a=some o) (L:=NoL) (fun _ h=>h) (fun _ h=>h.elim) (fun a ha=>(S.dis j a ha).2) ?_
  exact Rel.tr (fun _ h=>h) (fun a h=>let⟨⟨o,h1⟩,h2⟩:=S.hp.bo a h;⟨o,S.hp.keep a o h1 h2⟩) (fun _ h=>h) (fun a o q _=>ext a o q) (fun a _ o q=>ext a o q) h2
 ·rw[List.getElem?_append_right (by simpa using hi),List.getElem?_replicate]at e
  split at e<;>cases e
set_option maxHeartbeats 1000000 in
theorem jZ{elt iter tg:Expr}{ifs:List Expr}{scope:Scope}{pos p':Pos}{caps:List Nat}{N tn:List Str}{mi:MI}{g:TgM}{mc:MT}{me:ME}
  (cs:cA X scope caps N tn) (hc:X.calm=true) (hi:SIc X T W tg iter mi) (hk:fJ g caps.length)
  (hb:∀C s H ex,SG (cxC X scope C N s H ex) T tg g∧STs (cxC X scope C N s H ex) T WF ifs mc∧SE (cxC X scope C N s H ex) T WF elt me)
  (hs:∀x,foldedSetIterable iter X.env x=pure x) {pins:List (Addr×Obj)}{s:Shared}{Q:VK}{use:Option (Value→Sem Unit)}{Q':Value→Shared→Prop} (I:L2.Inv X pins σ H s) (h:tE T W (aR caps tn.length mi g mc me) σ H Q)
  (hfin:∀(Dd C:Addr) (H':Hp) (s6:Shared) (m:Str→Option Value),Q (.ref Dd) H'→L2.Inv X pins σ H' s6→s6.heap.Ns C m→H' C=none→C≠X.env.locals→C∉X.fs→X.s₀.heap.objs.size≤C→(∀x c,X.env.cells.lookup x=some c→c≠C)→(∀p∈X.pn++pins,p.1≠C)→compPost (model X.prog X.w) X.A X.xe use Q' (.ref Dd) C (.ok .next) s6) :
  wpAny (model X.prog X.w) X.A (comprehension (.ListComp elt [⟨tg,iter,ifs,0⟩] scope pos) scope X.env p' (newList []) false (eval iter X.env) use) Q' X.xe s:=by
 obtain⟨Z,F,env,fp,S,q⟩:=h
 unfold aR at q
 refine wpAny_comprehension_free (use:=use) rfl hs (ju fun y hy hf=>I.ok.has y.1 (cs.free y hy hf)) cs.kind cs.names ?_
 refine thn (hi pins s σ H (fun J H1=>∃F1 xs,mi env=.ok xs∧Gr F H F1 H1∧ItC T F1 Z.B (Own fp) H1 J xs) I ⟨Z,F,env,fp,S,?_⟩) fun xv s1 h1=>thn h1 fun itv s2 h2=>?_
 ·cases em:mi env with
  | ok xs=>exact fun J H1 F1 g1 it=>⟨F1,xs,rfl,g1,it⟩
  | exc c=>rw[em]at q;exact q
  | stuck=>rw[em]at q;exact q
 obtain⟨it,fpi,tn_,J,H2,rfl,I2,Tn,st2,f2,F1,xs,em,g1,itc⟩:=h2
 rw[em]at q
 simp only[Res.ok_bind]at q
 split at q
 case isFalse=>exact q.elim
 rename_i hlen
 cases ec:de g mc me (ce caps tn.length env) xs with
 | exc c=>rw[ec]at q;exact q.elim
 | stuck=>rw[ec]at q;exact q.elim
 | ok full =>
 rw[ec]at q
 dsimp only at q
 have S2:=S.grow g1
 have hlt:∀b∈fpi,b < s2.heap.objs.size:=fun b hb=>by
  obtain⟨o,ho,_⟩:=Tn.obj 0 _ st2 b hb
  exact Heap.lt_size ho
 refine PySem.wpAny_newObj_type (ly fun h₁ hns₁ hsb₁ hcl₁=>?_)
 dsimp only at hns₁ hsb₁ hcl₁ ⊢
 generalize hH2:s2.heap.push { cls:=.type "list", dict:=none,data:=.seq ([]:List Value).toArray }=P2 at hns₁ hsb₁ hcl₁ ⊢
 have hC:P2.objs.size=s2.heap.objs.size+1:=by rw[← hH2,Heap.size_push]
 have old:∀b o,s2.heap.get? b=some o→h₁.get? b=some o:=fun b o e=>hsb₁ b o (hH2▸Heap.get?_push_of_some _ e)
 have hDo:h₁.get? s2.heap.objs.size=some { cls:=.type "list", data:=.seq ([]:List Value).toArray }:=hsb₁ _ _ (hH2▸Heap.get?_push_size _ rfl)
 rw[hC]at hns₁ hcl₁
 have inv0:=rH (t:=s2.toks) cs I2 f2 hlt hns₁ hDo old hcl₁
 have hDH:H2 s2.heap.objs.size=none:=I2.hok.fresh (Nat.le_refl _)
 have hDF:¬F1 s2.heap.objs.size:=fun z=>by obtain⟨o,e⟩:=g1.dom _ z;rw[hDH]at e;cases e
 have SB:=pT (caps:=caps) (k:=tn.length) S2 hDH hDF
 obtain⟨hgN,hts,hel⟩:=hb (s2.heap.objs.size+1) s2 H2 fpi
 have never:∀{α:Type}{t:Sem α}{Qa:α→Shared→Prop}{E':Value→Shared→Prop}{s':Shared},wpAny (model X.prog X.w) X.A t Qa (fun _ _=>False) s'→wpAny (model X.prog X.w) X.A t Qa E' s':=fun h=>wpAny_mono h (fun _ _ x=>x) fun _ _ z=>z.elim
 have fpok:∀{H':Hp}{pins':List (Addr×Obj)},(∀p∈pins',p.1∉fpi)→(∀b∈fpi,H' b=none)→∀b∈fpi,jz (cxC X scope (s2.heap.objs.size+1) N s2 H2 fpi) pins' H' b:=fun {H' pins'} hp hn b hb=>by
  refine⟨hn b hb,Nat.ne_of_lt (Nat.lt_succ_of_lt (hlt b hb)),(nv cs I2 f2 hlt (Nat.le_succ _)).exfs b hb,.inl hb,((nv cs I2 f2 hlt (Nat.le_succ _)).exf b hb).2,fun p hp' z=>?_⟩
  rcases List.mem_append.mp hp' with w | w
  ·exact absurd (show p ∈([]:List (Addr×Obj))from w) (by simp)
  ·exact hp p w (z▸hb)
 have key:∀s4:Shared,L2.Inv (cxC X scope (s2.heap.objs.size+1) N s2 H2 fpi) [] (kI caps tn.length σ) (upd H2 s2.heap.objs.size (.lst [])) s4→tn_ 0 s4.heap →
   codeAny (model X.prog X.w) X.A (.compLoop (.ListComp elt [⟨tg,iter,ifs,0⟩] scope pos) 0 (.ref it) (.ref s2.heap.objs.size) (compEnvC scope (lY X scope (s2.heap.objs.size+1)) (s2.heap.objs.size+1) X.env))
    (compPost (model X.prog X.w) X.A X.xe use Q' (.ref s2.heap.objs.size) (s2.heap.objs.size+1)) s4:=by
  intro s4 inv4 st4
  refine kG (fun n s'=>∃ (i:Nat) (σ':St) (H':Hp) (Fi:Addr→Prop) (ys zs:List PV) (vs:List V) (f:List Addr),n=xs.length - i∧i ≤ xs.length∧L2.Inv (cxC X scope (s2.heap.objs.size+1) N s2 H2 fpi) [] σ' H' s'∧tn_ i s'.heap∧(∀ b ∈ fpi,H' b=none) ∧
   ap T (zC F1 H2) Fi H' σ' (ce caps tn.length env) (fun _=>[])∧H' s2.heap.objs.size=some (.lst vs)∧RelL T Fi Z.B (Own fp) H' ys vs f∧f.Nodup∧(∀a∈f,¬Fi a∧H2 a=none∧a≠s2.heap.objs.size)∧¬Fi s2.heap.objs.size∧ys.length≤i ∧
   de g mc me (ce caps tn.length env) (xs.drop i)=.ok zs∧full=ys++zs) ?_ xs.length ?_
  case refine_2 =>
   refine⟨0,_,_,F1,[],full,[],[],by simp,Nat.zero_le _,inv4,st4,fun b hb=>?_,SB,bg,by unfold RelL;exact⟨rfl,rfl⟩,List.nodup_nil,fun _ z=>(nomatch z),hDF,Nat.zero_le _,ec,rfl⟩
   rw[ay (Nat.ne_of_lt (hlt b hb))]
   exact(f2 b hb).1
  rintro n s5 ⟨i,σ',H',Fi,ys,zs,vs,f,rfl,hil,inv5,st5,fr5,SI5,hD5,ry,nd5,nf5,nFD,hyl,ecl,efull⟩
  have ext5:Ext H2 H':=fun a o e=>SI5.hp.keep a o e fun z=>z
  have gr5:Gr F1 H2 Fi H':=⟨ext5,SI5.hp.f0,fun a h=>by
   rcases SI5.hp.fn a h with z | z | z
   ·exact .inl z
   ·exact .inr z
   ·exact z.elim,SI5.hp.ft⟩
  obtain⟨go,stop⟩:=itc H' ext5
  by_cases hlt5:i < xs.length
  ·have hx:xs[i]?=some xs[i]:=by simp[hlt5]
   obtain⟨g5,yl⟩:=go i _ hx
   rw[List.drop_eq_getElem_cons hlt5]at ecl
   unfold de at ecl
   cases eg:g xs[i].borrow (ce caps tn.length env)with
   | none=>rw[eg]at ecl;cases ecl
   | some e' =>
   rw[eg]at ecl
   dsimp only at ecl
   refine thn (Tn.item (cxC X scope (s2.heap.objs.size+1) N s2 H2 fpi) rfl rfl rfl hc i [] s5 σ' H' _ inv5 (fpok (fun _ z=>absurd z (by simp)) fr5) st5 g5) fun r s6 ⟨u,hr,h6⟩=>?_
   subst hr
   refine thn h6 fun _ s7 ⟨v,H7,inv7,rv,yy,st7,fr7⟩=>?_
   obtain⟨ex7,fx,tx,rx⟩:=yl v H7 yy
   replace SI5:=SI5.grow (Gr.same SI5.hp.ft ex7)
   replace ry:=ry.ext ex7 fun _ h=>h
   replace hD5:=ex7 _ _ hD5
   replace gr5:=gr5.trans (Gr.same gr5.dom ex7)
   replace ext5:=gr5.ext
   have pinv:=inv7.pinned (fpok (fun _ z=>absurd z (by simp)) fr7) (Tn.obj _ _ st7)
   have rxb:Rel T Fi (zC F1 H2).B NoL H7 xs[i].borrow v []:=by
    refine Rel.borrow (B:=fun a=>∃o,H2 a=some o) (L:=Own fp) (fun _ h=>h) (fun a ⟨j,hj⟩=>(S2.dis j a hj).2) (fun a ha=>tx a ha) ?_
    exact Rel.tr SI5.hp.f0 (fun a h=>let⟨⟨o,h1⟩,h2⟩:=S2.hp.bo a h;⟨o,S2.hp.keep a o h1 h2⟩) (fun _ h=>h) (fun a o q _=>q) (fun a _ o q=>q) rx
   refine never (thn (hgN _ s7 σ' H7 v u (fun σ8 H8=>H8=H7∧∃fp8,ap T (zC F1 H2) Fi H7 σ8 e' fp8) pinv rv ⟨zC F1 H2,Fi,ce caps tn.length env,fun _=>[],xs[i].borrow,[],SI5,rxb,p6.nil,?_⟩) fun _ s8 ⟨σ8,H8,inv8,e8,fp8,S8⟩=>?_)
   ·rw[eg]
    exact fun σ8 fp8 S8=>⟨rfl,fp8,S8⟩
   subst e8
   obtain⟨kl,kk⟩:=hk.keep _ _ _ eg
   have capOwn:∀(j:Nat) pv,(ce caps tn.length env)[j]?=some (some pv)→pv.has Fl.isOwn=false:=fun j pv ej=>by
    unfold ce at ej
    by_cases hj:j < caps.length
    ·rw[List.getElem?_append_left (by simpa using hj),List.getElem?_map]at ej
     obtain⟨jj,_,e2⟩:=Option.map_eq_some_iff.mp ej
     obtain⟨pv0,_,rfl⟩:=Option.map_eq_some_iff.mp e2
     exact fI pv0
    ·rw[List.getElem?_append_right (by simpa using hj),List.getElem?_replicate]at ej
     split at ej<;>cases ej
   have S8':ap T (zC F1 H2) Fi H8 σ8 e' (fun _=>[]):=S8.noOwn fun j pv ej=>by
    rcases hk.own _ _ _ eg (fI _) j pv ej with z | z
    ·exact capOwn j pv z
    ·exact z
   have back:∀{F9:Addr→Prop}{H9:Hp},ap T (zC F1 H2) F9 H9 σ8 e' (fun _=>[])→ap T (zC F1 H2) F9 H9 σ8 (ce caps tn.length env) (fun _=>[]):=fun S9=>S9.wk rfl kl.symm fun j pv ej=>by
    have hj:j < caps.length:=by
     by_cases hj:j < caps.length
     ·exact hj
     ·unfold ce at ej
      rw[List.getElem?_append_right (by simpa using hj),List.getElem?_replicate]at ej
      split at ej<;>cases ej
    rw[kk j hj]
    exact ej
   have pinback:∀{H9:Hp}{s9:Shared},L2.Inv (cxC X scope (s2.heap.objs.size+1) N s2 H2 fpi) ([]++ iP fpi s7.heap) σ8 H9 s9→L2.Inv (cxC X scope (s2.heap.objs.size+1) N s2 H2 fpi) [] σ8 H9 s9∧tn_ (i+1) s9.heap∧∀b∈fpi,H9 b=none:=fun {H9 s9} i9 =>
    ⟨i9.unpinned,Tn.keep _ _ _ st7 fun b hb o e=>(i9.pin (b,o) (List.mem_append_right _ (List.mem_append_right _ (d7 hb e)))).1,fun b hb=>by
     obtain⟨o,e,_⟩:=Tn.obj _ _ st7 b hb
     exact(i9.pin (b,o) (List.mem_append_right _ (List.mem_append_right _ (d7 hb e)))).2.1⟩
   cases emc:mc e' with
   | exc c=>rw[emc]at ecl;cases ecl
   | stuck=>rw[emc]at ecl;cases ecl
   | ok bb =>
   rw[emc]at ecl
   simp only[Res.ok_bind]at ecl
   refine never (thn (hts _ s8 σ8 H8 (fun b H9=>b=bb∧∃F9,Gr Fi H8 F9 H9) inv8 ⟨zC F1 H2,Fi,e',fun _=>[],S8',?_⟩) fun ok s9 ⟨H9,inv9,eb,F9,g9⟩=>?_)
   ·rw[emc]
    exact fun H9 F9 g9=>⟨rfl,F9,g9⟩
   subst eb
   have S9:=S8'.grow g9
   have ry9:=ry.ext g9.ext g9.mono
   have nf9:∀a∈f,¬F9 a:=fun a ha z=>by
    rcases g9.only a z with z | z
    ·exact(nf5 a ha).1 z
    ·obtain⟨o,e⟩:=ry.there a ha
     rw[e]at z;cases z
   have nFD9:¬F9 s2.heap.objs.size:=fun z=>by
    rcases g9.only _ z with z | z
    ·exact nFD z
    ·rw[hD5]at z;cases z
   cases ok with
   | false =>
    simp only[Bool.false_eq_true,if_false]at ecl ⊢
    obtain⟨i10,st10,fr10⟩:=pinback inv9
    exact⟨xs.length - (i+1),by omega,i+1,σ8,H9,F9,ys,zs,vs,f,rfl,hlt5,i10,st10,fr10,back S9,g9.ext _ _ hD5,ry9,nd5,fun a ha=>⟨nf9 a ha,(nf5 a ha).2⟩,nFD9,by omega,ecl,efull⟩
   | true =>
    simp only[if_true]at ecl ⊢
    cases eme:me e' with
    | exc c=>rw[eme]at ecl;cases ecl
    | stuck=>rw[eme]at ecl;cases ecl
    | ok y =>
    rw[eme]at ecl
    simp only[Res.ok_bind]at ecl
    split at ecl
    case isTrue=>cases ecl
    rename_i hyb
    simp only[Bool.or_eq_true,not_or,Bool.not_eq_true]at hyb
    cases ecr:de g mc me (ce caps tn.length env) (xs.drop (i+1))with
    | exc c=>rw[ecr]at ecl;cases ecl
    | stuck=>rw[ecr]at ecl;cases ecl
    | ok zs' =>
    rw[ecr]at ecl
    simp only[Res.ok_bind]at ecl
    cases ecl
    refine never (thn (hel _ s9 σ8 H9 (fun v' H10=>∃F10 f10,Gr F9 H9 F10 H10∧Rel T F10 (zC F1 H2).B (Own fun _=>[]) H10 y v' f10∧(∀a∈f10,¬F10 a)∧f10.Nodup∧∀a∈f10,H9 a=none) inv9 ⟨zC F1 H2,F9,e',fun _=>[],S9,?_⟩) fun w s10 ⟨v',H10,inv10,rw10,F10,f10,g10,r10,n10,d10,w10⟩=>?_)
    ·rw[eme]
     exact fun v' H10 F10 f10 g10 r10 n10 d10 w10=>⟨F10,f10,g10,r10,n10,d10,w10⟩
    have hvl:vs.length < sizeLine:=by
     have h1:=ry.length
     have h2:sizeLine=16777216:=sizeLine_eq
     omega
    have hD10:H10 s2.heap.objs.size=some (.lst vs):=g10.ext _ _ (g9.ext _ _ hD5)
    refine never (thn (jN _ s10 σ8 H10 (.ref s2.heap.objs.size) [v'] (.ref s2.heap.objs.size) [w] (fun _ H11=>H11=upd H10 s2.heap.objs.size (.lst (vs++[v']))) inv10 rfl (.cons rw10 .nil) ⟨s2.heap.objs.size,vs,v',rfl,rfl,hD10,hvl,rfl⟩) fun _ s11 ⟨_,H11,inv11,_,e11⟩=>?_)
    subst e11
    obtain⟨i12,st12,fr12⟩:=pinback inv11
    have S10:=S9.grow g10
    have nFD10:¬F10 s2.heap.objs.size:=fun z=>by
     rcases g10.only _ z with z | z
     ·exact nFD9 z
     ·rw[g9.ext _ _ hD5]at z;cases z
    have ry10:=ry9.ext g10.ext g10.mono
    have ryy:RelL T F10 Z.B (Own fp) (upd H10 s2.heap.objs.size (.lst (vs++[v']))) (ys++[y]) (vs++[v']) (f++f10):=by
     have ry1:Rel T F10 Z.B (Own fp) H10 y v' f10:=Rel.noL hyb.2 (Rel.noB (B':=Z.B) hyb.1 r10)
     have all:RelL T F10 Z.B (Own fp) H10 (ys++[y]) (vs++[v']) (f++f10):=RelL.append ry10 (by unfold RelL;exact⟨v',[],f10,[],rfl,ry1,by unfold RelL;exact⟨rfl,rfl⟩,by simp⟩)
     refine RelL.tr (fun _ h=>h) (fun _ h=>h) (fun _ h=>h) (fun a o e h=>?_) (fun a ha o e=>?_) all
     ·refine(ay fun z=>?_).trans e
      subst z
      rcases h with h | h | h | h
      ·exact nFD10 h
      ·obtain⟨⟨o',h1⟩,h2⟩:=S2.hp.bo _ h
       rw[S2.hp.keep _ o' h1 h2]at hDH;cases hDH
      ·obtain⟨j,hj⟩:=h
       obtain⟨_,o',ho'⟩:=S2.dis j _ hj
       rw[hDH]at ho';cases ho'
      ·rw[hD10]at e;cases e;exact h
     ·refine(ay fun z=>?_).trans e
      subst z
      rcases List.mem_append.mp ha with ha | ha
      ·exact(nf5 _ ha).2.2 rfl
      ·have:=w10 _ ha
       rw[g9.ext _ _ hD5]at this;cases this
    have nf10:∀a∈f,¬F10 a:=fun a ha z=>by
     rcases g10.only a z with z | z
     ·exact nf9 a ha z
     ·obtain⟨o,e⟩:=ry9.there a ha
      rw[e]at z;cases z
    refine⟨xs.length - (i+1),by omega,i+1,σ8,_,F10,ys++[y],zs',vs++[v'],f++f10,rfl,hlt5,i12,st12,fr12,back (S10.updD nFD10 hDH hD10 (fun z=>z)),bg,ryy,?_,fun a ha=>?_,nFD10,by simp;omega,ecr,by rw[efull,List.append_assoc];rfl⟩
    ·refine List.nodup_append.mpr ⟨nd5,d10,fun a ha b hb z=>?_⟩
     subst z
     obtain⟨o,e⟩:=ry9.there a ha
     rw[w10 a hb]at e;cases e
    ·rcases List.mem_append.mp ha with ha | ha
     ·exact⟨nf10 a ha,(nf5 a ha).2⟩
     ·refine⟨n10 a ha,?_,fun z=>?_⟩
      ·have:=w10 a ha
       exact ext5.free (g9.ext.free this)
      ·subst z
       have:=w10 _ ha
       rw[g9.ext _ _ hD5]at this;cases this
  ·have e:i=xs.length:=by omega
   subst e
   rw[List.drop_length]at ecl
   unfold de at ecl
   cases ecl
   rw[List.append_nil]at efull
   subst efull
   refine thn (Tn.done (cxC X scope (s2.heap.objs.size+1) N s2 H2 fpi) rfl rfl rfl hc xs.length [] s5 σ' H' _ inv5 (fpok (fun _ z=>absurd z (by simp)) fr5) st5 stop) fun r s6 ⟨hr,inv6⟩=>?_
   subst hr
   obtain⟨m,hn,_⟩:=id inv6.loc
   have hlc:X.env.locals < s2.heap.objs.size+1:=Nat.lt_succ_of_lt I2.lt
   have iX:L2.Inv X pins σ H' s6:=I2.call' inv6.os inv6.base inv6.hok inv6.bare fun b hb=>⟨(f2 b hb).2.2.2.1,(f2 b hb).2.1,(f2 b hb).2.2.2.2.1,(f2 b hb).2.2.2.2.2⟩
   refine hfin _ (s2.heap.objs.size+1) H' s6 m ?_ iX hn inv6.free (Nat.ne_of_gt hlc) (I2.nofs (Nat.le_succ _)) (Nat.le_trans I2.sz (Nat.le_succ _)) (fun x c e z=>?_) (fun p hp z=>?_)
   case refine_2 =>
    obtain⟨v,hv⟩:=I2.cell x c e
    rw[z]at hv
    exact absurd hv.lt (Nat.not_lt.mpr (Nat.le_succ _))
   case refine_3 =>
    have:=Heap.lt_size (I2.pin p hp).1
    rw[z]at this
    exact absurd this (Nat.not_lt.mpr (Nat.le_succ _))
   refine q (.ref s2.heap.objs.size) H' Fi (s2.heap.objs.size::f) (g1.trans gr5) ?_ (fun a ha=>?_) ?_ (fun a ha=>?_)
   ·unfold Rel
    exact⟨_,vs,f,rfl,hD5,ry,rfl⟩
   ·rcases List.mem_cons.mp ha with rfl | ha
    ·exact nFD
    ·exact(nf5 a ha).1
   ·exact List.nodup_cons.mpr ⟨fun z=>(nf5 _ z).2.2 rfl,nd5⟩
   ·rcases List.mem_cons.mp ha with rfl | ha
    ·exact g1.ext.free hDH
    ·exact g1.ext.free (nf5 a ha).2.1
 have st0:tn_ 0 h₁:=Tn.keep _ _ _ st2 fun b _ o e=>old b o e
 have lp:=key _ inv0 st0
 simp only[hC]
 exact codeAny_compStart_list lp (Tn.self _ 0 _ _ _ st0 lp)
theorem t0{elt iter tg:Expr}{ifs:List Expr}{scope:Scope}{pos:Pos}{caps:List Nat}{N tn:List Str}{mi:MI}{g:TgM}{mc:MT}{me:ME}
  (cs:cA X scope caps N tn) (hc:X.calm=true) (hi:SIc X T W tg iter mi) (hk:fJ g caps.length)
  (hb:∀C s H ex,SG (cxC X scope C N s H ex) T tg g∧STs (cxC X scope C N s H ex) T WF ifs mc∧SE (cxC X scope C N s H ex) T WF elt me)
  (hs:∀x,foldedSetIterable iter X.env x=pure x:=by intro _;rfl):SE X T W (.ListComp elt [⟨tg,iter,ifs,0⟩] scope pos) (aR caps tn.length mi g mc me):=by
 intro pins s σ H Q I h
 rw[eval_ListComp]
 refine jZ cs hc hi hk hb hs I h fun Dd C H' s6 m hq iX hn hCn hCl hCf hC0 hCc hCp=>⟨m,hn,fun h' hs'=>⟨.ref Dd,H',?_,rfl,hq⟩⟩
 exact iX.turned (t':=s6.toks) (fun b o hb e=>(hs'.2 b hb).trans e) hCn hCl (.inr hC0) hCc hCp
theorem tN{i:Nat}{y:Str}{elt iter tg:Expr}{ifs:List Expr}{scope:Scope}{pos py spos:Pos}{caps:List Nat}{N tn:List Str}{mi:MI}{g:TgM}{mc:MT}{me:ME}
  (cs:cA X scope caps N tn) (hc:X.calm=true) (hN:X.N.Nodup) (hy:X.N[i]?=some y) (hx:Loc X.env.scope y) (hi:SIc X T W tg iter mi) (hk:fJ g caps.length)
  (hb:∀C s H ex,SG (cxC X scope C N s H ex) T tg g∧STs (cxC X scope C N s H ex) T WF ifs mc∧SE (cxC X scope C N s H ex) T WF elt me)
  (hsw:swapsWith (.ListComp elt [⟨tg,iter,ifs,0⟩] scope pos) (some (.Name y py)) spos.line X.env=pure true:=by rfl)
  (hs:∀x,foldedSetIterable iter X.env x=pure x:=by intro _;rfl)
  (hf:X.fn y=true∨X.env.scope.names.lookup y=some .local:=by first | exact .inl rfl | exact .inr rfl | assumption) :
  SS X T W (.Assign [.Name y py] (.ListComp elt [⟨tg,iter,ifs,0⟩] scope pos) spos) (aE i (aR caps tn.length mi g mc me)):=by
 intro pins s σ H D I h
 obtain⟨Z,F,env,fp,S,q⟩:=h
 unfold aE at q
 rw[exec_Assign_Name_used _ _ _ _ hsw]
 refine wpAny_bind (wpAny_standAt (wpAny_bind ?_))
 show wpAny _ X.A (do let _ ← comprehension (.ListComp elt [⟨tg,iter,ifs,0⟩] scope pos) scope X.env _ (newList []) false (eval iter X.env) (some (assign (.Name y py) X.env))) _ _ s
 refine wpAny_bind (wpAny_mono (jZ (use:=some (assign (.Name y py) X.env)) (Q':=fun _ s'=>SP X pins D .next s') (Q:=fun v H1=>D.nx (σ.set i (some v)) H1) cs hc hi hk hb hs I ?_ fun Dd C H' s6 m hq iX hn hCn hCl hCf hC0 hCc hCp=>?_) (fun _ s' hq=>wpAny_pure (wpAny_pure hq)) fun _ _ e=>e)
 ·refine tE.bind S (fun c e H' x=>?_) (fun e=>by rw[e]at q;exact q) fun pv v H1 F1 f e g r h1 h2 h3=>?_
  ·rw[e]at q
   exact q F H' σ fp (S.grow (Gr.same S.hp.ft x))
  ·rw[e]at q
   simp only at q
   split at q
   ·rename_i hl
    rw[Bool.and_eq_true]at hl
    exact q F1 H1 _ _ (S.putN g hl.2 r hl.1 h1 h2 h3)
   ·exact q.elim
 ·refine wpAny_assign_Name (jC (v:=.ref Dd) (u:=.ref Dd) iX hN hy hx rfl (fun s7 i7 ⟨a,hsa,ha⟩=>?_) hf)
  have hCa:C≠a:=by
   rcases ha with ha | ha
   ·rw[ha];exact hCl
   ·exact fun z=>hCc y a ha z.symm
  refine⟨m,hn.sameBut hsa hCa,fun h' hs'=>⟨_,H',?_,hq⟩⟩
  exact i7.turned (t':=s7.toks) (fun b o hb e=>(hs'.2 b hb).trans e) hCn hCl (.inr hC0) hCc hCp
end
end PR
namespace PR
open PySem PySem.Spec L2
def GFI(T:Tb)(Z:Zn)(v0:V)(Q:VK)(E:XK):Res PV→Prop
 | .ok pv=>∀F H f,dg T Z F H→Rel T F Z.B NoL H pv v0 f→f.Nodup→(∀a∈f,¬F a)→(∀a∈f,Z.H0 a=none∨Z.fp0 a)→Q .non H
 | .exc c=>∀H,(∀a o,Z.H0 a=some o→¬Z.fp0 a→H a=some o)→E (.ref (T.xcl c)) none H
 | .stuck=>False
def spI(T:Tb)(n:Nat)(m:List PV→Res PV):Sp:=fun vs H Q E=>vs.length=n∧∃v0 pvs F B f,vs[0]?=some v0∧p7 T F B H pvs vs f∧(∃fl c ks xs,pvs[0]?=some (.obj fl c ks xs))∧GFI T ⟨H,F,(·∈f),B,some v0⟩ v0 Q E (m pvs)
def ie(n:Nat)(m:MS)(args:List PV):Res PV:=match m (args.map some++List.replicate (n - args.length) none)with
 | .next e=>match e[0]? with
  | some (some o)=>.ok o
  | _=>.stuck
 | .exc c _=>.exc c
 | _=>.stuck
section
variable{P:Program}{w:World}{K:PySem.W.Frag}{mg:Str→Option Value}{base:Heap}{T:Tb}
theorem yc{x qual:Str}{st:Stmt}{f:Addr}{fd:FuncData}{N ps:List Str}{k:Nat}{m:MS}(F:Fun K x qual st f fd)(S:bV N ps (am st))
  (body:∀ (cdv:Value) (A:Around) (outer:List Env) (s:Shared) (H:Hp) (E:XK),ck k (A.deeper (PyProof.Rows.envOfC qual (am st) s.heap.objs.size f cdv)) →
   SSs (cj (CXP P w) P w K mg base N qual (am st) f cdv A outer s H E) T (WD T E) (aQ st) m):bR P w K mg base (CXP P w) (k+1) f fd ps (spI T ps.length (ie N.length m)):=by
 obtain⟨oc,od,kV,doc,pm,an,cdv,ct,osl,rfl,lk,hcd⟩:=F.ex
 refine oz lk hcd S (fun vs H Q E h=>h.1) fun A outer s H vs Q E hr hsp=>⟨_,body cdv A outer s H E hr,?_⟩
 obtain⟨_,v0,pvs,F,B,fl,hv0,R,hob,q⟩:=hsp
 obtain⟨fp,S0⟩:=gW N R (some v0) (fun v hv=>by cases hv;exact⟨hv0,hob⟩)
 refine⟨_,F,_,fp,S0,?_⟩
 unfold ie at q
 cases e:m (pvs.map some++List.replicate (N.length - pvs.length) none)with
 | next e' =>
  rw[e]at q
  dsimp only at q
  intro F' H' σ' fp' S'
  obtain⟨h1,_⟩:=S'.pn v0 rfl
  cases e0:e'[0]? with
  | none=>rw[e0]at q;exact q.elim
  | some o0 =>
   cases o0 with
   | none=>rw[e0]at q;exact q.elim
   | some o =>
    rw[e0]at q
    obtain⟨v,h2,r⟩:=S'.rel 0 o e0
    rw[h1]at h2
    cases h2
    exact q F' H' (fp' 0) S'.hp r (S'.nd 0) (fun a ha=>(S'.dis 0 a ha).1) (S'.new 0)
 | ret v=>rw[e]at q;exact q.elim
 | brk e'=>rw[e]at q;exact q.elim
 | cont e'=>rw[e]at q;exact q.elim
 | exc c e'=>rw[e]at q;exact fun F' H' σ' fp' S'=>q H' S'.hp.keep
 | stuck=>rw[e]at q;exact q.elim
end
section
variable{X:Cx}{T:Tb}{W:Nat→St→Hp→Prop}{Z:Zn}{F F1 B L:Addr→Prop}{H H1:Hp}{σ:St}{env:En}{fp:Nat→List Addr}{D:Ends}
theorem wF{k c:Nat}{f:Addr}{fd:FuncData}{ps:List Str}{m:List PV→Res PV}{xs:List PV}{vs:List V}{us ds:List Value}{fx:List Addr}{Q:VK}{pins:List (Addr×Obj)}{s1:Shared}{dvs:List V}{dps:List PV}
  (M:Mk X.K (T.cls c) f) (hcn:c < T.nc) (G:bR X.prog X.w X.K X.mg X.base (CXP X.prog X.w) k f fd ps (spI T ps.length m)) (hr:ck (k+1) X.A) (hb:cH X.K fd ps ds) (hd:aC dvs ds) (hdp:∀F B L H,RelL T F B L H dps dvs []) (hx:XF X T W)
  (S:ap T Z F H σ env fp) (g:Gr F H F1 H1) (r:RelL T F1 Z.B (Own fp) H1 xs vs fx) (nf:∀a∈fx,¬F1 a) (nd:fx.Nodup) (new:∀a∈fx,H a=none) (q:GE T W Z.B F (Own fp) σ H Q (aA m (.obj .own c [] []::(xs++dps))))
  (I1:L2.Inv X pins σ H1 s1) (rv:aC vs us) (hlen:vs.length+dvs.length+1=ps.length):wpAny (model X.prog X.w) X.A (call (.ref (T.cls c)) us) (EP X pins σ Q) X.xe s1:=by
 have hxn:H1 (s1.heap.objs.size+1)=none:=I1.hok.fresh (Nat.le_succ _)
 have hdn:H1 s1.heap.objs.size=none:=I1.hok.fresh (Nat.le_refl _)
 have hne:s1.heap.objs.size≠s1.heap.objs.size+1:=Nat.ne_of_lt (Nat.lt_succ_self _)
 generalize hH2:upd (upd H1 s1.heap.objs.size (.own (s1.heap.objs.size+1))) (s1.heap.objs.size+1) (.ins (T.cls c) s1.heap.objs.size [])=H2
 have ext2:Ext H1 H2:=by
  rw[← hH2]
  exact(Ext.upd hdn).trans (Ext.upd (by rw[ay hne.symm];exact hxn))
 have free2:∀a,H2 a=none→H1 a=none:=fun a h=>ext2.free h
 have hx2:H2 (s1.heap.objs.size+1)=some (.ins (T.cls c) s1.heap.objs.size []):=by rw[← hH2];exact bg
 have I2:=L2.Inv.made (C:=T.cls c) I1
 rw[hH2]at I2
 have r2:aC (V.ref (s1.heap.objs.size+1)::(vs++dvs)) (Value.ref (s1.heap.objs.size+1)::(us++ds)):=.cons rfl (rv.append hd)
 have hl:(Value.ref (s1.heap.objs.size+1)::us++ds).length=ps.length:=by
  have e:=r2.length
  simp only[List.length_cons,List.length_append]at e hlen ⊢
  omega
 have rr:RelL T F1 Z.B (Own fp) H1 (xs++dps) (vs++dvs) fx:=by
  have:=RelL.append r (hdp F1 Z.B (Own fp) H1)
  rwa [List.append_nil]at this
 have nx:s1.heap.objs.size+1∉fx:=fun z=>by
  obtain⟨o,ho⟩:=r.there _ z
  rw[hxn]at ho;cases ho
 have hBo:∀a,Z.B a→(∃o,H2 a=some o)∧a ∉(s1.heap.objs.size+1)::fx:=fun a h=>by
  obtain⟨⟨o,h1⟩,h2⟩:=S.hp.bo a h
  have h3:=S.hp.keep a o h1 h2
  refine⟨⟨o,ext2 a o (g.ext a o h3)⟩,fun z=>?_⟩
  rcases List.mem_cons.mp z with z | z
  ·rw[z]at h3;rw[g.ext _ _ h3]at hxn;cases hxn
  ·rw[new a z]at h3;cases h3
 have hOw:∀a,Own fp a→(∃o,H2 a=some o)∧a ∉(s1.heap.objs.size+1)::fx:=fun a ⟨i,hi⟩=>by
  obtain⟨_,o,ho⟩:=S.dis i a hi
  refine⟨⟨o,ext2 a o (g.ext a o ho)⟩,fun z=>?_⟩
  rcases List.mem_cons.mp z with z | z
  ·rw[z]at ho;rw[g.ext _ _ ho]at hxn;cases hxn
  ·rw[new a z]at ho;cases ho
 have nF:¬F1 (s1.heap.objs.size+1):=fun z=>by
  obtain⟨o,ho⟩:=g.dom _ z
  rw[hxn]at ho;cases ho
 have R:p7 T F1 (fun a=>(∃o,H2 a=some o)∧a ∉(s1.heap.objs.size+1)::fx) H2 (.obj .own c [] []::mapL Fl.toBor (xs++dps)) (.ref (s1.heap.objs.size+1)::(vs++dvs)) ((s1.heap.objs.size+1)::fx):=by
  refine⟨?_,List.nodup_cons.mpr ⟨nx,nd⟩,fun a ha=>?_,fun a h=>h,fun a h=>let⟨o,ho⟩:=g.dom a h;⟨o,ext2 a o ho⟩⟩
  ·unfold RelL
   refine⟨_,_,[s1.heap.objs.size+1],fx,rfl,?_,RelL.toBor hBo hOw (rr.ext ext2 fun _ h=>h),rfl⟩
   unfold Rel
   exact⟨_,s1.heap.objs.size,[],[],rfl,by simpa using hx2,⟨rfl,hcn⟩,by unfold RelL;exact⟨rfl,rfl⟩,rfl,True.intro⟩
  ·rcases List.mem_cons.mp ha with rfl | ha
   ·exact nF
   ·exact nf a ha
 have newx:∀a ∈(s1.heap.objs.size+1)::fx,H a=none:=fun a ha=>by
  rcases List.mem_cons.mp ha with rfl | ha
  ·exact g.ext.free hxn
  ·exact new a ha
 refine wpAny_call (rn (f:=f) I1.kIn M.makes M.init (beq_iff_eq.mp M.fn) (codeAny_mono (G.run _ X.stack _ _ ⟨Value.ref (s1.heap.objs.size+1)::us,[]⟩ (Value.ref (s1.heap.objs.size+1)::(us ++ ds)) _ (fun v H3=>v=.non∧Q (.ref (s1.heap.objs.size+1)) H3) (fun cls _ H'=>∃ c,cls=.ref (T.xcl c)∧W c σ H') (hr.make (T.cls c) us [])
  (I2.env0.make (T.cls c) us []) (hb _ (Value.ref (s1.heap.objs.size+1)::us) I2.kIn hl) r2 ⟨by rw[r2.length];exact hl,_,_,F1,_,_,rfl,R,⟨.own,c,[],[],rfl⟩,?_⟩) fun rs s' hq'=>?_))
 ·unfold aA at q
  have e0:mapL Fl.toBor (PV.obj .own c [] []::(xs++dps))=.obj .own c [] []::mapL Fl.toBor (xs++dps):=by simp[mapL,PV.mapF,Fl.toBor]
  rw[e0]at q
  cases e:m (.obj .own c [] []::mapL Fl.toBor (xs++dps))with
  | ok v =>
   rw[e]at q
   dsimp only at q
   intro F3 H3 f3 hp3 r3 nd3 nf3 new3
   refine⟨rfl,?_⟩
   by_cases hbr:v.has Fl.isBor=true
   ·rw[if_pos hbr]at q;exact q.elim
   ·rw[if_neg hbr]at q
    have hbr':v.has Fl.isBor=false:=by simpa using hbr
    refine q _ H3 F3 f3 ⟨fun a o h=>hp3.keep a o (ext2 a o (g.ext a o h)) fun z=>(by rw[newx a z]at h;cases h),fun a h=>hp3.f0 a (g.mono a h),fun a h=>?_,hp3.ft⟩ ?_ nf3 nd3 fun a ha=>?_
    ·rcases hp3.fn a h with z | z | z
     ·exact g.only a z
     ·exact .inr (g.ext.free (free2 a z))
     ·exact .inr (newx a z)
    ·exact Rel.tr (fun _ h=>h) (fun _ h=>h) (fun _ h=>h.elim) (fun _ _ h _=>h) (fun _ _ _ h=>h) (Rel.noB (B':=Z.B) hbr' r3)
    ·rcases new3 a ha with z | z
     ·exact g.ext.free (free2 a z)
     ·exact newx a z
  | exc c' =>
   rw[e]at q
   exact fun H' h=>⟨c',rfl,q H' fun a o z=>h a o (ext2 a o (g.ext a o z)) fun z'=>by rw[newx a z']at z;cases z⟩
  | stuck=>rw[e]at q;exact q.elim
 ·cases rs with
  | error e =>
   obtain⟨cls,H',fl,c',rfl,hw⟩:=hq'
   exact hx pins σ H2 _ c' H' e s' I2 fl hw
  | ok fl =>
   cases fl with
   | ret u =>
    obtain⟨v,H',I3,rv',ev,q3⟩:=I2.after hq'
    subst ev
    exact⟨rv',⟨V.ref (s1.heap.objs.size+1),H',I3,rfl,q3⟩⟩
   | next=>exact False.elim hq'
   | brk=>exact False.elim hq'
   | cont=>exact False.elim hq'
theorem tW{k c:Nat}{f:Addr}{fd:FuncData}{ps:List Str}{m:List PV→Res PV}{x:Str}{p pos:Pos}{e:Expr}{es:List Expr}{ms:MA}{ds:List Value}{dvs:List V}{dps:List PV}{n:Nat}
  (M:Mk X.K (T.cls c) f) (hcn:c < T.nc) (G:bR X.prog X.w X.K X.mg X.base (CXP X.prog X.w) k f fd ps (spI T ps.length m)) (hr:ck (k+1) X.A) (hg:Gl X x) (hm:X.mg x=some (.ref (T.cls c))) (hb:cH X.K fd ps ds) (hd:aC dvs ds) (hdp:∀F B L H,RelL T F B L H dps dvs []) (hx:XF X T W)
  (hn:ee ms n) (hps:n+dvs.length+1=ps.length) (ha:SA X T W (e::es) ms)
  (hdb:(x ==("__debug__" : Str))=false:=by decide) (he:starEach (e::es) X.env=(false,eval e X.env)::starEach es X.env:=by rfl) (hpl:(backTo pos (starEach es X.env)).any (·.1)=false:=by rfl) :
  SE X T W (.Call (.Name x p) (e::es) [] pos) (ao (fun xs=>aA m (.obj .own c [] []::(xs++dps))) ms):=by
 intro pins s σ H Q I h
 obtain⟨Z,F,env,fp,S,q⟩:=h
 unfold ao at q
 refine wpAny_Call_Name_kw (dD I hg hm ?_ hdb)
 refine PySem.W.callWith_K (h₀:=X.base) I.ok.mod.kin M.kp (thn (ha pos pins s σ H (fun vs H1=>∀ us s1,L2.Inv X pins σ H1 s1→aC vs us→wpAny (model X.prog X.w) X.A (call (.ref (T.cls c)) us) (EP X pins σ Q) X.xe s1) I
  (tA.bind S (fun c e=>by rw[e]at q;exact q) (fun e=>by rw[e]at q;exact q) fun xs vs H1 F1 f1 e1 g1 r1 n1 d1 w1 us s1 I1 rv=>?_)) fun us s1 ⟨vs,H1,I1,r,q1⟩=>⟨I1.kIn,q1 us s1 I1 r⟩) he hpl
 rw[e1]at q
 exact wF M hcn G hr hb hd hdp hx S g1 r1 n1 d1 w1 q I1 rv (by rw[← r1.length,hn env xs e1];exact hps)
theorem ap.mut{i:Nat}{pv':PV}{v:V}{a:Addr}{f':List Addr}{o':HO}(S:ap T Z F H σ env fp)(hi:i < env.length)(hv:σ[i]?=some (some v))(ha:a∈fp i)(r:Rel T F Z.B NoL (upd H a o') pv' v f')(nd:f'.Nodup)(nf:∀b∈f',¬F b)
  (new:∀b∈f',Z.H0 b=none∨Z.fp0 b) (dj:∀b∈f',∀j,j≠i→b∉fp j) (ho:i=0→b9 env=true→∃fl c ks xs,pv'=.obj fl c ks xs):ap T Z F (upd H a o') σ (env.set i (some pv')) (bA fp i f'):=by
 obtain⟨oa,hoa,hch⟩:=S.ch i a ha
 have nFa:¬F a:=(S.dis i a ha).1
 have nBa:¬Z.B a:=fun z=>S.bow a z ⟨i,ha⟩
 have ne:∀b u,H b=some u→(F b∨Z.B b∨NoL b∨hZ u)→b≠a:=fun b u e h z=>by
  subst z
  rcases h with h | h | h | h
  ·exact nFa h
  ·exact nBa h
  ·exact h
  ·rw[hoa]at e
   cases e
   cases oa with
   | lst _=>exact h
   | ins _ _ _=>exact h
   | _=>exact hch
 have nz:∀b u,Z.H0 b=some u→¬Z.fp0 b→b≠a:=fun b u e n z=>by
  subst z
  rcases S.new i _ ha with w | w
  ·rw[e]at w;cases w
  ·exact n w
 have nj:∀j,j≠i→∀b∈fp j,b≠a:=fun j hj b hb z=>by
  subst z
  exact S.dj j i hj _ hb ha
 refine⟨⟨S.hp.bo,fun b u e n=>by rw[ay (nz b u e n)];exact S.hp.keep b u e n,S.hp.f0,S.hp.fn,fun b h=>?_⟩,by rw[List.length_set,S.len],fun j pv e=>?_,fun j=>?_,fun j k hjk b hb=>?_,fun j b hb=>?_,fun j b hb=>?_,fun j b hb=>?_,fun w hw=>?_⟩
 ·obtain⟨u,e⟩:=S.hp.ft b h
  exact⟨u,by rw[ay (show b≠a from fun z=>nFa (by rw[← z];exact h))];exact e⟩
 ·by_cases hj:j=i
  ·subst hj
   rw[List.getElem?_set_self hi]at e
   cases e
   refine⟨v,hv,?_⟩
   unfold bA
   rw[if_pos rfl]
   exact r
  ·rw[List.getElem?_set_ne (Ne.symm hj)]at e
   obtain⟨w,h1,h2⟩:=S.rel j pv e
   refine⟨w,h1,?_⟩
   unfold bA
   rw[if_neg hj]
   exact Rel.tr (fun _ h=>h) (fun _ h=>h) (fun _ h=>h) (fun b u q h=>by rw[ay (ne b u q h)];exact q) (fun b hb u q=>by rw[ay (nj j hj b hb)];exact q) h2
 ·unfold bA;split
  ·exact nd
  ·exact S.nd j
 ·unfold bA at hb ⊢
  by_cases h1:j=i
  ·subst h1
   rw[if_pos rfl]at hb
   rw[if_neg (Ne.symm hjk)]
   exact dj b hb k (Ne.symm hjk)
  ·rw[if_neg h1]at hb
   by_cases h2:k=i
   ·subst h2
    rw[if_pos rfl]
    exact fun z=>dj b z j h1 hb
   ·rw[if_neg h2]
    exact S.dj j k hjk b hb
 ·unfold bA at hb
  by_cases h1:j=i
  ·rw[if_pos h1]at hb;exact⟨nf b hb,r.there b hb⟩
  ·rw[if_neg h1]at hb
   obtain⟨n,u,e⟩:=S.dis j b hb
   exact⟨n,u,by rw[ay (nj j h1 b hb)];exact e⟩
 ·unfold bA at hb
  by_cases h1:j=i
  ·rw[if_pos h1]at hb;exact new b hb
  ·rw[if_neg h1]at hb;exact S.new j b hb
 ·unfold bA at hb
  by_cases h1:j=i
  ·rw[if_pos h1]at hb;exact r.chg b hb
  ·rw[if_neg h1]at hb
   obtain⟨u,e,c⟩:=S.ch j b hb
   exact⟨u,by rw[ay (nj j h1 b hb)];exact e,c⟩
 ·obtain⟨h1,h2⟩:=S.pn w hw
  refine⟨h1,?_⟩
  by_cases hi0:i=0
  ·obtain⟨fl,c,ks,xs,e⟩:=ho hi0 h2
   subst hi0 e
   unfold b9
   rw[List.getElem?_set_self hi]
  ·unfold b9 at h2 ⊢
   rw[List.getElem?_set_ne hi0]
   exact h2
def eC(i k:Nat)(e:ME):MS:=fun env=>match e env with
 | .ok v=>(match env[i]? with
  | some (some (.obj .own c ks vs))=>if v.noLnt&&!ks.contains k&&decide (ks.length < 900)then .next (env.set i (some (.obj .own c (ks++[k]) (vs++[v]))))else .stuck
  | _=>.stuck)
 | .exc c=>.exc c env
 | .stuck=>.stuck
theorem la{k:Nat}{y:V}:∀{ks:List Nat}{ws:List V},ks.contains k=false→ks.length=ws.length→d3 (T.att k) y ((ks.map T.att).zip ws)=((ks++[k]).map T.att).zip (ws++[y])
 | [],[],_,_=>rfl
 | j::ks,w::ws,h,hl=>by
  simp only[List.contains_cons,Bool.or_eq_false_iff,beq_eq_false_iff_ne]at h
  show d3 (T.att k) y ((T.att j,w)::(ks.map T.att).zip ws)=(T.att j,w)::((ks++[k]).map T.att).zip (ws++[y])
  unfold d3
  rw[if_neg (fun z=>h.1 (T.inj _ _ z).symm),la h.2 (by simpa using hl)]
 | [],_::_,_,hl=>by simp at hl
 | _::_,[],_,hl=>by simp at hl
theorem wp{i k:Nat}{x f:Str}{e:Expr}{m:ME}{pos pos' px:Pos}(hK:X.K=T.K)(hf:T.att k=f)(hc:∀c < T.nc,Cls T.K (T.cls c))(hn:∀c < T.nc,cM T.K (T.cls c) f)(hN:X.N[i]?=some x)(hv:Vis X.env.scope x)(he:SE X T W e m)
  (hs:swapsWith e (some (.Attribute (.Name x px) f pos')) pos.line X.env=pure false:=by rfl) (hd:(x ==("__debug__" : Str))=false:=by decide) (hcd:(x ==("__classdict__" : Str))=false:=by decide) :
  SS X T W (.Assign [.Attribute (.Name x px) f pos'] e pos) (eC i k m):=PS.wk (wU (pos:=pos) (pos':=pos') (eM (pos:=px) hN hv hd hcd) he hs) fun D σ H ⟨Z,F,env,fp,S,q⟩=>by
 unfold eC at q
 refine tE.bind S (fun c e H' x=>?_) (fun e=>by rw[e]at q;exact q) fun pv v H1 F1 f1 e g r h1 h2 h3=>?_
 ·rw[e]at q
  exact q F H' σ fp (S.grow (Gr.same S.hp.ft x))
 ·rw[e]at q
  dsimp only at q
  split at q
  ·rename_i c ks vs eo
   split at q
   ·rename_i hcnd
    simp only[Bool.and_eq_true,Bool.not_eq_true',decide_eq_true_eq]at hcnd
    obtain⟨⟨hln,hkn⟩,hkl⟩:=hcnd
    have S1:=S.grow g
    obtain⟨vo,ho1,ho2⟩:=S1.rel i _ eo
    have ho3:=ho2
    unfold Rel at ho3
    obtain⟨a,dx,ws,fp',rfl,hl,hk,hr,hfl,_⟩:=ho3
    have hfl':fp i=a::fp':=hfl
    have hil:i < env.length:=(List.getElem?_eq_some_iff.mp eo).1
    refine⟨_,ho1,a,_,dx,_,rfl,hl,by rw[hK];exact hc c hk.2,by rw[hK];exact hn c hk.2,?_,?_⟩
    ·have:=hr.length
     rw[List.length_zip,List.length_map]
     omega
    ·rw[← hf,la hkn (by rw[← hr.length];exact hk.1)]
     have ha:a∈fp i:=by rw[hfl'];exact List.mem_cons_self
     have nd:(a::fp').Nodup:=by rw[← hfl'];exact S1.nd i
     have old:∀b∈f1,∀j,b∉fp j:=fun b hb j hj=>by
      obtain⟨_,o,e⟩:=S.dis j b hj
      rw[h3 b hb]at e;cases e
     have hrv:Rel T F1 Z.B NoL H1 pv v f1:=Rel.noL (by simpa[PV.noLnt]using hln) r
     have nea:∀b u,H1 b=some u→(F1 b∨Z.B b∨NoL b∨hZ u)→b≠a:=fun b u e h z=>by
      subst z
      rcases h with h | h | h | h
      ·exact(S1.dis i _ ha).1 h
      ·exact S1.bow _ h ⟨i,ha⟩
      ·exact h
      ·rw[hl]at e;cases e;exact h
     refine q F1 _ σ _ (S1.mut (f':=a::(fp'++f1)) hil ho1 ha ?_ ?_ (fun b hb=>?_) (fun b hb=>?_) (fun b hb j hj=>?_) fun _ _=>⟨_,_,_,_,rfl⟩)
     ·unfold Rel
      have hrr:RelL T F1 Z.B NoL H1 (vs++[pv]) (ws++[v]) (fp'++f1):=RelL.append hr (by unfold RelL;exact⟨v,[],f1,[],rfl,hrv,by unfold RelL;exact⟨rfl,rfl⟩,by simp⟩)
      refine⟨a,dx,ws++[v],fp'++f1,rfl,bg,⟨by simp[hk.1],hk.2⟩,?_,rfl,True.intro⟩
      refine RelL.tr (fun _ h=>h) (fun _ h=>h) (fun _ h=>h) (fun b u e h=>by rw[ay (nea b u e h)];exact e) (fun b hb u e=>?_) hrr
      refine(ay fun z=>?_).trans e
      subst z
      rcases List.mem_append.mp hb with hb | hb
      ·exact(List.nodup_cons.mp nd).1 hb
      ·exact old _ hb i ha
     ·refine List.nodup_cons.mpr ⟨fun z=>?_,List.nodup_append.mpr ⟨(List.nodup_cons.mp nd).2,h2,fun b hb b' hb' z=>?_⟩⟩
      ·rcases List.mem_append.mp z with z | z
       ·exact(List.nodup_cons.mp nd).1 z
       ·exact old _ z i ha
      ·subst z
       exact old b hb' i (by rw[hfl'];exact List.mem_cons_of_mem _ hb)
     ·rcases List.mem_cons.mp hb with rfl | hb
      ·exact(S1.dis i _ ha).1
      ·rcases List.mem_append.mp hb with hb | hb
       ·exact(S1.dis i b (by rw[hfl'];exact List.mem_cons_of_mem _ hb)).1
       ·exact h1 b hb
     ·rcases List.mem_cons.mp hb with rfl | hb
      ·exact S1.new i _ ha
      ·rcases List.mem_append.mp hb with hb | hb
       ·exact S1.new i b (by rw[hfl'];exact List.mem_cons_of_mem _ hb)
       ·exact S.hp.newE h3 b hb
     ·rcases List.mem_cons.mp hb with rfl | hb
      ·exact fun z=>S1.dj i j (Ne.symm hj) _ ha z
      ·rcases List.mem_append.mp hb with hb | hb
       ·exact fun z=>S1.dj i j (Ne.symm hj) b (by rw[hfl'];exact List.mem_cons_of_mem _ hb) z
       ·exact old b hb j
   ·exact q.elim
  ·exact q.elim
end
end PR
namespace PR
open PySem PySem.Spec L2
section
variable{X:Cx}{T:Tb}{W:Nat→St→Hp→Prop}{Z:Zn}{F F1 B L:Addr→Prop}{H H1:Hp}{σ:St}{env:En}{fp:Nat→List Addr}{D:Ends}
theorem ap.mutL{i:Nat}{xs ys:List PV}{ws us:List V}{a:Addr}{v:V}{f' fp':List Addr}(S:ap T Z F H σ env fp)(eo:env[i]?=some (some (.lst .own xs)))(hv:σ[i]?=some (some (.ref a)))(hfp:fp i=a::fp')(r:RelL T F Z.B NoL H ys us f')(nd:f'.Nodup)
  (hf:∀b∈f',(b∈fp')∨(¬F b∧(Z.H0 b=none∨Z.fp0 b)∧∀j,b∉fp j)) (hl:H a=some (.lst ws)):ap T Z F (upd H a (.lst us)) σ (env.set i (some (.lst .own ys))) (bA fp i (a::f')):=by
 have ha:a∈fp i:=by rw[hfp];exact List.mem_cons_self
 have ndi:(a::fp').Nodup:=by rw[← hfp];exact S.nd i
 have sub:∀b∈fp',b∈fp i:=fun b hb=>by rw[hfp];exact List.mem_cons_of_mem _ hb
 have na:∀b∈f',b≠a:=fun b hb z=>by
  subst z
  rcases hf _ hb with h | h
  ·exact(List.nodup_cons.mp ndi).1 h
  ·exact h.2.2 i ha
 have hil:i < env.length:=(List.getElem?_eq_some_iff.mp eo).1
 have nea:∀b u,H b=some u→(F b∨Z.B b∨NoL b∨hZ u)→b≠a:=fun b u e h z=>by
  subst z
  rcases h with h | h | h | h
  ·exact(S.dis i _ ha).1 h
  ·exact S.bow _ h ⟨i,ha⟩
  ·exact h
  ·rw[hl]at e;cases e;exact h
 refine S.mut hil hv ha ?_ (List.nodup_cons.mpr ⟨fun z=>na a z rfl,nd⟩) (fun b hb=>?_) (fun b hb=>?_) (fun b hb j hj=>?_) fun h0 h1=>?_
 ·unfold Rel
  exact⟨a,us,f',rfl,bg,RelL.tr (fun _ h=>h) (fun _ h=>h) (fun _ h=>h) (fun b u e h=>by rw[ay (nea b u e h)];exact e) (fun b hb u e=>by rw[ay (na b hb)];exact e) r,rfl⟩
 ·rcases List.mem_cons.mp hb with rfl | hb
  ·exact(S.dis i _ ha).1
  ·rcases hf b hb with h | h
   ·exact(S.dis i b (sub b h)).1
   ·exact h.1
 ·rcases List.mem_cons.mp hb with rfl | hb
  ·exact S.new i _ ha
  ·rcases hf b hb with h | h
   ·exact S.new i b (sub b h)
   ·exact h.2.1
 ·rcases List.mem_cons.mp hb with rfl | hb
  ·exact fun z=>S.dj i j (Ne.symm hj) _ ha z
  ·rcases hf b hb with h | h
   ·exact fun z=>S.dj i j (Ne.symm hj) b (sub b h) z
   ·exact h.2.2 j
 ·subst h0
  unfold b9 at h1
  rw[eo]at h1
  cases h1
theorem ap.lst{i:Nat}{xs:List PV}(S:ap T Z F H σ env fp)(eo:env[i]?=some (some (.lst .own xs))):∃a ws fp',σ[i]?=some (some (.ref a))∧H a=some (.lst ws)∧RelL T F Z.B NoL H xs ws fp'∧fp i=a::fp':=by
 obtain⟨v,h1,h2⟩:=S.rel i _ eo
 unfold Rel at h2
 obtain⟨a,ws,fp',rfl,hl,hr,hf⟩:=h2
 exact⟨a,ws,fp',h1,hl,hr,hf⟩
theorem ap.beside{f1:List Addr}(S:ap T Z F H σ env fp)(g:Gr F H F1 H1)(h1:∀ a ∈ f1,¬ F1 a)(h3:∀ a ∈ f1,H a=none):∀ b ∈ f1,¬ F1 b∧(Z.H0 b=none ∨ Z.fp0 b)∧∀ j,b ∉ fp j:=fun b hb=>⟨h1 b hb,S.hp.newE h3 b hb,fun j hj=>by
 obtain⟨_,o,e⟩:=S.dis j b hj
 rw[h3 b hb]at e;cases e⟩
def dB(i:Nat)(e:ME):MS:=fun env=>match e env with
 | .ok v=>(match env[i]? with
  | some (some (.lst .own xs))=>if v.noLnt&&decide (xs.length < 10000000)then .next (env.set i (some (.lst .own (xs++[v]))))else .stuck
  | _=>.stuck)
 | .exc c=>(match env[i]? with
  | some (some (.lst .own _))=>.exc c env
  | _=>.stuck)
 | .stuck=>.stuck
theorem o4{i:Nat}{x:Str}{e:Expr}{m:ME}{pos px apos cpos:Pos}(hK:X.K=T.K)(hN:X.N[i]?=some x)(hv:Vis X.env.scope x)(he:SE X T W e m)
  (hs:swapsWith (.Call (.Attribute (.Name x px) "append" apos) [e] [] cpos) none pos.line X.env=pure false:=by rfl) (hst:starEach [e] X.env=[(false,eval e X.env)]:=by rfl)
  (hfew:((backTo cpos (starEach [e] X.env)).all (fun x=>!x.1)&&(backToKw cpos (keywordEach [] X.env)).all (fun x=>x.1.isSome)&&decide ([e].length+([]:List Keyword).length+(if([]:List Keyword).isEmpty then 0 else 1) < 30))=true:=by rfl)
  (hline:(apos.endLine==cpos.line)=true:=by rfl) (hd:(x ==("__debug__" : Str))=false:=by decide) (hcd:(x ==("__classdict__" : Str))=false:=by decide) :
  SS X T W (.Expr (.Call (.Attribute (.Name x px) "append" apos) [e] [] cpos) pos) (dB i m) :=
 PS.wk (ip (pos:=pos) (zP (cpos:=cpos) (apos:=apos) PySem.F.plainAttrs_list PySem.F.slot_list_append PySem.F.type_list_append jN (eM (pos:=px) hN hv hd hcd) (aa he ag hst) rfl hfew hline hst) hs) fun D σ H ⟨Z,F,env,fp,S,q⟩=>by
  unfold dB at q
  cases em:m env with
  | stuck=>rw[em]at q;exact q.elim
  | exc c =>
   rw[em]at q
   dsimp only at q
   split at q
   ·rename_i xs eo
    obtain⟨a,ws,fp',h1,hl,hr,hf⟩:=S.lst eo
    refine⟨_,h1,.inl ⟨rfl,ws,by rw[hK];exact SqL.of hl⟩,Z,F,env,fp,S,?_⟩
    unfold ad
    rw[em]
    exact fun H' x=>q F H' σ fp (S.grow (Gr.same S.hp.ft x))
   ·exact q.elim
  | ok v =>
   rw[em]at q
   dsimp only at q
   split at q
   ·rename_i xs eo
    split at q
    ·rename_i hc
     simp only[Bool.and_eq_true,decide_eq_true_eq]at hc
     obtain⟨a,ws,fp',h1,hl,hr,hf⟩:=S.lst eo
     refine⟨_,h1,.inl ⟨rfl,ws,by rw[hK];exact SqL.of hl⟩,Z,F,env,fp,S,?_⟩
     unfold ad ai
     rw[em]
     intro vs H1 F1 f1 g r n1 d1 w1
     obtain⟨u,rfl,ru⟩:=r.one
     have S1:=S.grow g
     have hl1:=g.ext a _ hl
     refine⟨a,ws,u,rfl,rfl,hl1,?_,?_⟩
     ·rw[← hr.length,sizeLine_eq];omega
     ·have rone:RelL T F1 Z.B NoL H1 [v] [u] f1:=by unfold RelL;exact⟨u,[],f1,[],rfl,Rel.noL (by simpa[PV.noLnt]using hc.1) ru,by unfold RelL;exact⟨rfl,rfl⟩,by simp⟩
      refine q F1 _ σ _ (S1.mutL (v:=u) eo h1 hf (RelL.append (hr.ext g.ext g.mono) rone) ?_ (fun b hb=>?_) hl1)
      ·have ndi:(a::fp').Nodup:=by rw[← hf];exact S.nd i
       refine List.nodup_append.mpr ⟨(List.nodup_cons.mp ndi).2,d1,fun b hb b' hb' z=>?_⟩
       subst z
       exact(S.beside g n1 w1 b hb').2.2 i (by rw[hf];exact List.mem_cons_of_mem _ hb)
      ·rcases List.mem_append.mp hb with hb | hb
       ·exact .inl hb
       ·exact .inr (S.beside g n1 w1 b hb)
    ·exact q.elim
   ·exact q.elim
def rq(i:Nat):MS:=fun env=>match env[i]? with
 | some (some (.lst .own _))=>.next (env.set i (some (.lst .own [])))
 | _=>.stuck
theorem zI{i:Nat}{x:Str}{pos px apos cpos:Pos}(hK:X.K=T.K)(hN:X.N[i]?=some x)(hv:Vis X.env.scope x)
  (hs:swapsWith (.Call (.Attribute (.Name x px) "clear" apos) [] [] cpos) none pos.line X.env=pure false:=by rfl) (hline:(apos.endLine==cpos.line)=true:=by rfl) (hd:(x ==("__debug__" : Str))=false:=by decide) (hcd:(x ==("__classdict__" : Str))=false:=by decide) :
  SS X T W (.Expr (.Call (.Attribute (.Name x px) "clear" apos) [] [] cpos) pos) (rq i) :=
 PS.wk (ip (pos:=pos) (w_ (cpos:=cpos) (apos:=apos) PySem.F.plainAttrs_list PySem.F.slot_list_clear PySem.F.type_list_clear qZ (eM (pos:=px) hN hv hd hcd) rfl hline) hs) fun D σ H ⟨Z,F,env,fp,S,q⟩=>by
  unfold rq at q
  split at q
  ·rename_i xs eo
   obtain⟨a,ws,fp',h1,hl,hr,hf⟩:=S.lst eo
   refine⟨_,h1,.inl ⟨rfl,ws,by rw[hK];exact SqL.of hl⟩,a,ws,rfl,rfl,hl,?_⟩
   exact q F _ σ _ (S.mutL (v:=.non) (f':=[]) eo h1 hf (by unfold RelL;exact⟨rfl,rfl⟩) List.nodup_nil (fun _ z=>(nomatch z)) hl)
  ·exact q.elim
def eQ(i:Nat)(k e:ME):MS:=fun env=>match e env with
 | .ok v=>(match env[i]? with
  | some (some (.lst .own xs))=>(match k env with
   | .ok (.int j)=>(match ixN xs.length j with
    | some n=>if v.noLnt then .next (env.set i (some (.lst .own (xs.set n v))))else .stuck
    | none=>.stuck)
   | _=>.stuck)
  | _=>.stuck)
 | .exc c=>.exc c env
 | .stuck=>.stuck
theorem RelL.set{y:PV}{w:V}{g:List Addr}(ry:Rel T F B L H y w g):∀{xs:List PV}{vs:List V}{f:List Addr} (n:Nat),RelL T F B L H xs vs f→(f++g).Nodup→∃f',RelL T F B L H (xs.set n y) (vs.set n w) f'∧f'.Nodup∧∀b∈f',b∈f∨b∈g
 | [],vs,f,n,h,nd=>by unfold RelL at h;obtain⟨rfl,rfl⟩:=h;exact⟨[],by simp[RelL],List.nodup_nil,fun _ z=>(nomatch z)⟩
 | x::xs,_,_,0,h,nd=>by
  unfold RelL at h
  obtain⟨v,ws,f1,f2,rfl,h1,h2,rfl⟩:=h
  obtain⟨n1,n2,n3⟩:=List.nodup_append.mp nd
  obtain⟨m1,m2,m3⟩:=List.nodup_append.mp n1
  refine⟨g++f2,?_,List.nodup_append.mpr ⟨n2,m2,fun a ha b hb z=>n3 b (List.mem_append_right _ hb) a ha z.symm⟩,fun b hb=>?_⟩
  ·rw[List.set_cons_zero,List.set_cons_zero]
   unfold RelL
   exact⟨w,ws,g,f2,rfl,ry,h2,rfl⟩
  ·rcases List.mem_append.mp hb with hb | hb
   ·exact .inr hb
   ·exact .inl (List.mem_append_right _ hb)
 | x::xs,_,_,n+1,h,nd=>by
  unfold RelL at h
  obtain⟨v,ws,f1,f2,rfl,h1,h2,rfl⟩:=h
  obtain⟨n1,n2,n3⟩:=List.nodup_append.mp nd
  obtain⟨m1,m2,m3⟩:=List.nodup_append.mp n1
  obtain⟨f',r,d,s⟩:=RelL.set ry n h2 (List.nodup_append.mpr ⟨m2,n2,fun a ha b hb=>n3 a (List.mem_append_right _ ha) b hb⟩)
  refine⟨f1++f',?_,List.nodup_append.mpr ⟨m1,d,fun a ha b hb z=>?_⟩,fun b hb=>?_⟩
  ·rw[List.set_cons_succ,List.set_cons_succ]
   unfold RelL
   exact⟨v,_,f1,f',rfl,h1,r,rfl⟩
  ·rcases s b hb with h | h
   ·exact m3 a ha b h z
   ·exact n3 a (List.mem_append_left _ ha) b h z
  ·rcases List.mem_append.mp hb with hb | hb
   ·exact .inl (List.mem_append_left _ hb)
   ·rcases s b hb with h | h
    ·exact .inl (List.mem_append_right _ h)
    ·exact .inr h
theorem iB{i:Nat}{x:Str}{k e:Expr}{mk me:ME}{pos px tpos:Pos}(hN:X.N[i]?=some x)(hv:Vis X.env.scope x)(hk:SE X T W k mk)(he:SE X T W e me)
  (ha:∀ v,assign (.Subscript (.Name x px) k tpos) X.env v=(do
   let ov ← holding [v] (eval (.Name x px) X.env)
   let iv ← holding [v,ov] (eval k X.env)
   standAt tpos
   holding [v,ov,iv] (setItem ov iv v)
   release [v,ov,iv] []):=by intro _;rfl)
  (hs:swapsWithSole [.Subscript (.Name x px) k tpos] e pos.line X.env=pure false:=by rfl) (hw:swappedStores [.Subscript (.Name x px) k tpos] e X.env=pure none:=by rfl)
  (h1:(assignEach [.Subscript (.Name x px) k tpos] X.env).map (·.2)=[assign (.Subscript (.Name x px) k tpos) X.env]:=by rfl) (hd:(x ==("__debug__" : Str))=false:=by decide) (hcd:(x ==("__classdict__" : Str))=false:=by decide) :
  SS X T W (.Assign [.Subscript (.Name x px) k tpos] e pos) (eQ i mk me) :=
 PS.wk (qF (pos:=pos) he (wX (pos:=tpos) (eM (pos:=px) hN hv hd hcd) hk qj ha) hs hw h1) fun D σ H ⟨Z,F,env,fp,S,q⟩=>by
  unfold eQ at q
  refine tE.bind S (fun c e H' x=>?_) (fun e=>by rw[e]at q;exact q) fun pv v H1 F1 f1 e g r n1 d1 w1=>?_
  ·rw[e]at q
   exact q F H' σ fp (S.grow (Gr.same S.hp.ft x))
  ·rw[e]at q
   dsimp only at q
   split at q
   ·rename_i xs eo
    have S1:=S.grow g
    obtain⟨a,ws,fp',h1,hl,hr,hf⟩:=S1.lst eo
    cases ek:mk env with
    | stuck=>rw[ek]at q;exact q.elim
    | exc c=>rw[ek]at q;exact q.elim
    | ok kv =>
     rw[ek]at q
     refine⟨_,h1,Z,F1,env,fp,S1,?_⟩
     rw[ek]
     intro u H2 F2 f2 g2 r2 _ _ _
     cases kv with
     | int j =>
      dsimp only at q
      unfold Rel at r2
      obtain⟨rfl,_⟩:=r2
      cases en:ixN xs.length j with
      | none=>rw[en]at q;exact q.elim
      | some n =>
       rw[en]at q
       dsimp only at q
       split at q
       ·rename_i hln
        have S2:=S1.grow g2
        have hr2:=hr.ext g2.ext g2.mono
        have ndi:(a::fp').Nodup:=by rw[← hf];exact S.nd i
        have g12:=g.trans g2
        have nn:∀b∈f1,¬F2 b:=fun b hb z=>by
         rcases g2.only b z with z | z
         ·exact n1 b hb z
         ·obtain⟨o,ho⟩:=r.there b hb
          rw[ho]at z;cases z
        obtain ⟨f',r',nd',sub'⟩:=RelL.set (T:=T) (Rel.noL (L':=NoL) (by simpa [PV.noLnt] using hln) (r.ext g2.ext g2.mono)) n hr2 (List.nodup_append.mpr ⟨(List.nodup_cons.mp ndi).2,d1,fun b hb b' hb' z=>by
         subst z
         exact(S.beside g12 nn w1 b hb').2.2 i (by rw[hf];exact List.mem_cons_of_mem _ hb)⟩)
        refine⟨a,ws,j,n,rfl,rfl,g2.ext a _ hl,by rw[← hr.length];exact en,?_⟩
        refine q F2 _ σ _ (S2.mutL (v:=v) eo h1 hf r' nd' (fun b hb=>?_) (g2.ext a _ hl))
        rcases sub' b hb with h | h
        ·exact .inl h
        ·exact .inr (S.beside g12 nn w1 b h)
       ·exact q.elim
     | _=>exact q.elim
   ·exact q.elim
end
end PR
namespace PR
open PySem PySem.Spec L2
def uB(i:Nat):Str:=⟨#[1114112+i]⟩
def gw(l:List Str)(i:Nat):Str:=match l[i]? with
 | some x=>x
 | none=>uB i
def gH(x:Str):Bool:=x.cps.all fun c=>decide (c < 1114112)
theorem dH(i:Nat):gH (uB i)=false:=by
 simp[gH,uB]
theorem pZ{l:List Str}(nd:l.Nodup)(h:l.all gH=true)(i j:Nat)(e:gw l i=gw l j):i=j:=by
 have pl:∀(i:Nat) x,l[i]?=some x→gH x=true:=fun i x hx=>List.all_eq_true.mp h x (List.mem_of_getElem? hx)
 unfold gw at e
 cases ei:l[i]? with
 | some x =>
  cases ej:l[j]? with
  | some y =>
   rw[ei,ej]at e
   dsimp only at e
   subst e
   obtain⟨h1,e1⟩:=List.getElem?_eq_some_iff.mp ei
   obtain⟨h2,e2⟩:=List.getElem?_eq_some_iff.mp ej
   exact(List.getElem_inj nd).mp (e1.trans e2.symm)
  | none =>
   rw[ei,ej]at e
   dsimp only at e
   have:=pl i x ei
   rw[e,dH]at this
   cases this
 | none =>
  cases ej:l[j]? with
  | some y =>
   rw[ei,ej]at e
   dsimp only at e
   have:=pl j y ej
   rw[← e,dH]at this
   cases this
  | none =>
   rw[ei,ej]at e
   dsimp only at e
   simpa[uB]using e
theorem sV{l:List Str}{m:Str}(hp:gH m=true)(hm:m∉l)(k:Nat):gw l k≠m:=by
 unfold gw
 cases e:l[k]? with
 | some x=>exact fun z=>hm (z▸List.mem_of_getElem? e)
 | none =>
  intro z
  dsimp only at z
  rw[← z,dH]at hp
  cases hp
structure Ctx(X:Cx)(T:Tb)(W:Nat→St→Hp→Prop)(k:Nat):Prop where
 hK:X.K=T.K
 calm:X.calm=true
 room:ck k X.A
 xf:XF X T W
 po:PassesOwn (model X.prog X.w) X.A X.env X.xe
theorem Ctx.hu{X:Cx}{T:Tb}{W:Nat→St→Hp→Prop}{k:Nat}(c:Ctx X T W k):X.A.units+64 < cLine:=c.room.units
theorem Ctx.hu2{X:Cx}{T:Tb}{W:Nat→St→Hp→Prop}{k:Nat}(c:Ctx X T W k):X.A.units+66 < cLine:=by
 have:=c.room.un
 omega
theorem kF{P:Program}{w:World}{mg:Str→Option Value}{base:Heap}{N:List Str}{qual:Str}{scope:Scope}{f:Addr}{cd:Value}{A:Around}{outer:List Env}{s:Shared}{H:Hp}{E:XK}{T:Tb}{k:Nat}
  (hr:ck k (A.deeper (PyProof.Rows.envOfC qual scope s.heap.objs.size f cd))):Ctx (cj (CXP P w) P w T.K mg base N qual scope f cd A outer s H E) T (WD T E) k:=⟨rfl,rfl,hr,v7,PassesOwn.leaving⟩
theorem Ctx.comp{X:Cx}{T:Tb}{W:Nat→St→Hp→Prop}{k:Nat}(c:Ctx X T W k){scope:Scope}{C:Addr}{N:List Str}{s:Shared}{H:Hp}{ex:List Addr}:Ctx (cxC X scope C N s H ex) T WF k:=⟨c.hK,c.calm,c.room,fun _ _ _ _ _ _ _ _ _ _ h=>h.elim,PassesOwn.never⟩
def jb(scD scope:Scope)(NX:List Str)(caps:List Nat)(N tn:List Str):Bool :=
 decide (scope.kind=.function)&&scope.names.all (fun y=>decide (y.2=.cell→scope.names.lookup y.1=some .cell))&&scope.names.all (fun y=>decide (y.2=.local→scope.names.lookup y.1=some .local)) &&
 scope.names.all (fun y=>decide (y.2=.free→scD.names.lookup y.1=some .cell∨scD.names.lookup y.1=some .free))&&decide (N=caps.map (fun i=>NX.getD i "")++ tn)&&caps.all (fun i=>decide (i < NX.length)) &&
 caps.all (fun i=>match NX[i]? with | some x=>decide ((x,NameKind.free)∈ scope.names∧scope.names.lookup x=some .free) | none=>false)&&decide N.Nodup
theorem vg{X:Cx}{scD scope:Scope}{NX:List Str}{caps:List Nat}{N tn:List Str}(h:jb scD scope NX caps N tn=true)(hs:X.env.scope=scD)(hN:X.N=NX):cA X scope caps N tn:=by
 simp only[jb,Bool.and_eq_true,decide_eq_true_eq,List.all_eq_true]at h
 obtain⟨⟨⟨⟨⟨⟨⟨h1,h2⟩,h3⟩,h4⟩,h5⟩,h6⟩,h7⟩,h9⟩:=h
 subst hs hN
 refine⟨h1,h2,h3,h4,h5,h6,fun i hi x hx=>?_,h9⟩
 have:=h7 i hi
 rw[hx]at this
 simpa using this
section
variable{X:Cx}{T:Tb}{W:Nat→St→Hp→Prop}
theorem sv(i:Nat){x:Str}{pos:Pos}(hN:X.N[i]?=some x:=by rfl)(hv:Vis X.env.scope x:=by first | exact Or.inl rfl | exact Or.inr (Or.inl rfl) | exact Or.inr (Or.inr rfl))(hd:(x ==("__debug__" : Str))=false:=by decide)
  (hcd:(x ==("__classdict__" : Str))=false:=by decide):SE X T W (.Name x pos) (ac i):=wv hN hv hd hcd
def tyP:PV→String
 | .non => "NoneType"
 | .bl _ => "bool"
 | .int _ => "int"
 | .str _ => "str"
 | .lst _ _ => "list"
 | .tup _ => "tuple"
 | _ => ""
def jr(t c:String):Bool:=t==c ||(t=="bool"&&c=="int")
def kh(c:String):PV→Res PV:=fun x=>if tyP x = "" then .stuck else .ok (.bl (jr (tyP x) c))
def tD(m:ME)(c:String):ME:=fun env=>(m env).bind (kh c)
def vq(K:PySem.W.Frag)(c:String):Prop:=∀t∈["NoneType", "bool", "int", "str", "list", "tuple"],PySem.W.kitOne K (.type t) (.type c)=some (jr t c)
theorem uU{pins:List (Addr×Obj)}{σ:St}{H:Hp}{s:Shared}{F B L:Addr→Prop}{x:PV}{v:V}{u:Value}{f:List Addr}{c:String}{Q:Value→Shared→Prop}{A:Around}{E:Value→Shared→Prop}(hK:X.K=T.K)(hc:vq T.K c)(I:L2.Inv X pins σ H s)(r:Rel T F B L H x v f)(ru:aY v u)(hx:tyP x≠"")
  (h:∀tk,Q (.bool (jr (tyP x) c)) { s with toks:=tk }):wpAny (model X.prog X.w) A (call (.builtin "isinstance") [u,.type c]) Q E s:=by
 have kin:T.K.In s.heap:=by rw[← hK];exact I.kIn
 cases x with
 | non=>unfold Rel at r;obtain⟨rfl,_⟩:=r;cases ru;exact PySem.W.kia_one PySem.W.kitx_none kin True.intro (hc _ (by simp)) (fun z=>nomatch z) h
 | bl b=>unfold Rel at r;obtain⟨rfl,_⟩:=r;cases ru;exact PySem.W.kia_one PySem.W.kitx_bool kin True.intro (hc _ (by simp)) (fun z=>nomatch z) h
 | int i=>unfold Rel at r;obtain⟨rfl,_⟩:=r;obtain⟨t,rfl⟩:=ru;exact PySem.W.kia_one PySem.W.kitx_int kin True.intro (hc _ (by simp)) (fun z=>nomatch z) h
 | str i=>unfold Rel at r;obtain⟨rfl,_⟩:=r;obtain⟨t,rfl⟩:=ru;exact PySem.W.kia_one PySem.W.kitx_str kin True.intro (hc _ (by simp)) (fun z=>nomatch z) h
 | lst f xs =>
  unfold Rel at r
  obtain⟨a,vs,fp',rfl,hl,hr,_⟩:=r
  cases ru
  obtain⟨its,_,⟨o,n,ho,hcl,_,_⟩,_⟩:=I.list (by rw[hK];exact hl.sq)
  exact PySem.W.kia_one PySem.W.kitx_list kin ⟨_,ho,hcl⟩ (hc _ (by simp)) (fun z=>nomatch z) h
 | tup xs =>
  unfold Rel at r
  obtain⟨a,vs,rfl,hl,hr⟩:=r
  cases ru
  obtain⟨its,_,⟨o,ho,hcl,_⟩,_⟩:=I.tuple (by rw[hK];exact hl)
  exact PySem.W.kia_one PySem.W.kitx_tuple kin ⟨_,ho,hcl⟩ (hc _ (by simp)) (fun z=>nomatch z) h
 | obj f c ks xs=>exact absurd rfl hx
 | exc c=>exact absurd rfl hx
theorem wB{e:Expr}{m:ME}{c:String}{cn:Str}{p pc pos:Pos}(hK:X.K=T.K)(hc:vq T.K c)(hg:Gl X "isinstance")(hm:X.mg "isinstance" = none)(hb:bootBuiltins "isinstance" = some (.builtin "isinstance"))(hgc:Gl X cn)(hmc:X.mg cn=none)(hvc:bootBuiltins cn=some (.type c))(he:SE X T W e m)
  (hcn:cn≠"__name__" := by decide) (hcd:(cn ==("__debug__" : Str))=false:=by decide) (hst:starEach [e,.Name cn pc] X.env=[(false,eval e X.env),(false,eval (.Name cn pc) X.env)]:=by rfl)
  (hst2:starEach [.Name cn pc] X.env=[(false,eval (.Name cn pc) X.env)]:=by rfl):SE X T W (.Call (.Name "isinstance" p) [e,.Name cn pc] [] pos) (tD m c):=by
 have ht:PE X (.Name cn pc) (tC (.ty c)):=ut hgc hmc hvc rfl hcn hcd
 have hcall:cP X (.builtin "isinstance") (fun vs H Q=>∃v x F B L f,vs=[v,.ty c]∧Rel T F B L H x v f∧tyP x≠"" ∧ Q (.bl (jr (tyP x) c)) H):=by
  intro pins s σ H vs us Q I rv h
  obtain⟨v,x,F,B,L,f,rfl,r,hx,q⟩:=h
  cases rv with
  | cons r1 r2 =>
   cases r2 with
   | cons r3 r4 =>
    cases r4
    cases r3
    exact uU hK hc I r r1 hx fun tk=>⟨.bl _,H,I.tok tk,rfl,q⟩
 have hargs:PA X [e,.Name cn pc] (kU (tE T W m) (kU (tC (.ty c)) wc)):=cC he (cC ht fv hst2) (by rw[hst,hst2])
 refine PE.wk (fT (pos:=pos) (p:=p) hcall hg hm hb hargs (he:=by rw[hst,hst2]) (hpl:=by rw[hst2];rfl)) fun σ H Q ⟨Z,F,env,fp,S,q⟩=>?_
 unfold tD at q
 refine tE.bind S (fun c e=>by rw[e]at q;exact q) (fun e=>by rw[e]at q;exact q) fun x v H1 F1 f1 e1 g1 r1 n1 d1 w1=>?_
 rw[e1]at q
 simp only[Res.ok_bind,kh]at q
 by_cases hx:tyP x = ""
 ·rw[if_pos hx]at q;exact q.elim
 ·rw[if_neg hx]at q
  exact⟨v,x,F1,Z.B,Own fp,f1,rfl,r1,hx,q.scal g1 iK⟩
def rz(f g:PV→PV→Res PV)(a b c:ME):ME:=fun env=>(a env).bind fun x=>(b env).bind fun y=>(f x y).bind fun
 | .bl true=>(c env).bind fun z=>g y z
 | .bl false=>.ok (.bl false)
 | _=>.stuck
end
theorem qm{X:Cx}{T:Tb}{W:Nat→St→Hp→Prop}{x:Str}{i:Int}{t:Tok}{pos:Pos}(hg:Gl X x)(hm:X.mg x=some (.int i t))(hd:(x ==("__debug__" : Str))=false:=by decide):SE X T W (.Name x pos) (mC (.int i)) :=
 iD (v:=.int i) (iq hg hm ⟨t,rfl⟩ hd) fun _ _ _ _=>d0
end PR
namespace PR
open PySem PySem.Spec
structure kS(K:PySem.W.Frag)(C:Addr):Prop where
 ga:PySem.W.findIn K (.ref C) "__getattribute__" = some (some (.builtin "BaseException.__getattribute__"))
 gt:PySem.W.findIn K (.ref C) "__getattr__" = some none
 ca:PySem.W.findIn K (.ref C) "__class__" = some (some (.builtin "object.__class__"))
 sb:PySem.W.mroIn K C (.type "BaseException")=some true
 so:PySem.W.mroIn K C (.type "object")=some true
 cl:(PySem.W.clsIn K C).isSome=true
section
variable{prog:Program}{w:World}{A:Around}{E:Value→Shared→Prop}{h:Heap}{g:Array GenState}{d:Drawn}{t:Nat}{os:OsState}{a C:Addr}{o:Obj}{K:PySem.W.Frag}
theorem se{tk:Tok}{Q:Fin→Shared→Prop}(O:kS K C)(X:K.In h)(hx:h.get? a=some o)(hc:o.cls=.ref C)(hq:Q (.done (.ret (.ref C))) ⟨h,g,d,t,os⟩) :
  wpAny (model prog w) A (Builtin.«object.__getattribute__» ⟨[.ref a,.str "__class__" tk],[]⟩) Q E ⟨h,g,d,t,os⟩:=by
 have k1:(⟨h,g,d,t,os⟩:Shared).TypeIs (.builtin "object.__class__") "getset_descriptor" := F.typeOf_object_class
 have k2:=F.typeOf_object_class
 have k3:=F.slot_gs_get.lookup
 have k4:=F.slot_gs_set.lookup
 have lc:=PySem.W.looks_findIn (M:=model prog w) X O.ca
 have ls:=PySem.W.looks_mroIn (M:=model prog w) X O.so
 repeat (any_goals (first | assumption |(with_reducible refine wpAny_loadPart_at hx ?_;rw[hc]) | with_reducible refine PySem.W.Looks.at lc ?_ | wp_step))
 refine codeAny_call_builtin F.slot_gs_get.plain F.entry_gs_get (F.slot_gs_get.check _ _ _ _ _ _ _ _ k1 (F.args_gs_get _ _ _) ?_)
 rw[← F.owner_object_class]at ls
 repeat (any_goals (first | assumption |(with_reducible refine wpAny_loadPart_at hx ?_;rw[hc]) | with_reducible refine PySem.W.Looks.at ls ?_ | wp_step))
 refine⟨Code.quiet_builtin _ (by decide +kernel),codeAny_builtin F.entry_object_class ?_⟩
 repeat (any_goals (first | assumption |(with_reducible refine wpAny_loadPart_at hx ?_;rw[hc]) | wp_step))
theorem yv{M:Model}{v:Value}{Q:Unit→Shared→Prop}(O:kS K C)(X:K.In h)(hx:h.get? a=some o)(hc:o.cls=.ref C)(hq:Q () ⟨h,g,d,t,os⟩):wpAny M A (checkBuiltinCall "BaseException.__getattribute__" ⟨[.ref a,v],[]⟩) Q E ⟨h,g,d,t,os⟩:=by
 have ka:=F.args_bexc_ga (.ref a) v
 have lb:=PySem.W.looks_mroIn (M:=M) X O.sb
 simp only[checkBuiltinCall,show builtinKind "BaseException.__getattribute__" = some .slot by decide +kernel,show splitId "BaseException.__getattribute__" = some ("BaseException", "__getattribute__") by decide +kernel]
 refine wpAny_bind ?_
 unfold isInstance
 repeat (first |(with_reducible refine wpAny_loadPart_at hx ?_;rw[hc]) | with_reducible refine PySem.W.Looks.at lb ?_ | wp_step)
 exact hq
theorem AW{tk:Tok}{Q:Value→Shared→Prop}(O:kS K C)(X:K.In h)(hx:h.get? a=some o)(hc:o.cls=.ref C)(hq:Q (.ref C) ⟨h,g,d,t,os⟩) :
  wpAny (model prog w) A (getAttrBy (.ref a) (.str "__class__" tk) false) Q E ⟨h,g,d,t,os⟩:=by
 have k1:=PySem.F.excAttr_ValueError.ga.bind (.ref a)
 have k2:(false&&onTheHeap (Value.builtin "BaseException.__getattribute__"))=false:=rfl
 have k3:(onTheHeap (Value.ref C)&&Value.builtin "BaseException.__getattribute__"==Value.builtin "object.__getattribute__")=false:=by
  rw[show(Value.builtin "BaseException.__getattribute__"==Value.builtin "object.__getattribute__")=false by decide +kernel];rfl
 have lg:=PySem.W.looks_findIn (M:=model prog w) X O.ga
 have lt:=PySem.W.looks_findIn (M:=model prog w) X O.gt
 repeat (any_goals (first | assumption |(with_reducible refine wpAny_loadPart_at hx ?_;rw[hc]) | with_reducible refine PySem.W.Looks.at lg ?_ | with_reducible refine PySem.W.Looks.at lt ?_ | wp_step))
 refine codeAny_call_builtin PySem.F.excAttr_ValueError.ga.plain F.entry_bexc_ga (yv O X hx hc (se O X hx hc ?_))
 repeat (any_goals (first | assumption | wp_step))
theorem u9{Q:Option Value→Shared→Prop}(O:kS K C)(X:K.In h)(hx:h.get? a=some o)(hc:o.cls=.ref C)(hq:Q (some (.ref C)) ⟨h,g,d,t+1,os⟩):wpAny (model prog w) A (getAttr? (.ref a) "__class__") Q E ⟨h,g,d,t,os⟩:=by
 unfold getAttr? getAttrBy?
 repeat (any_goals (first | assumption | with_reducible apply AW O X hx hc | wp_step))
theorem j0(h:(PySem.W.clsIn K C).isSome=true):∃c dd cd sl,K.lookup C=some ⟨c,dd,.cls cd,sl⟩:=by
 unfold PySem.W.clsIn at h
 split at h
 ·exact⟨_,_,_,_,by assumption⟩
 ·cases h
theorem rF(O:kS K C):PySem.W.KitX K (.ref a) (.ref C) (fun h=>∃o,h.get? a=some o∧o.cls=.ref C) where
 ty:=fun M h _ ⟨o,hx,hc⟩=>hc ▸(PySem.W.Looks.ld hx).andThen .now
 it:=fun M h X _=>by
  obtain⟨c,dd,cd,sl,ho⟩:=j0 O.cl
  intro A' Q' E' s' k q
  unfold isType loadHead
  exact wpAny_bind (wpAny_loadPart (k _ _ (X _ _ ho)) (wpAny_pure q))
 ne:=fun h tp dd its n sl X htp=>by
  obtain⟨c,dd',cd,sl',ho⟩:=j0 O.cl
  refine Bool.eq_false_iff.mpr fun q=>?_
  obtain rfl:C=tp:=Value.ref.inj (beq_iff_eq.mp q)
  have z:=(X _ _ ho).symm.trans htp
  cases z
 ca:=fun {_ _ _ _ _ s} X p k=>by
  obtain⟨h,g,d,t,os⟩:=s
  obtain⟨o,hx,hc⟩:=p
  exact u9 O X hx hc k
end
end PR
namespace L2
open PySem PySem.Spec PyProof.Rows
abbrev Cx.tryX(X:Cx)(E:Value→Shared→Prop)(pn:List (Addr×Obj)):Cx:={ X with xe:=E,pn:=pn }
abbrev Cx.hanX(X:Cx)(e:Value):Cx:={ X with A:=X.A.mark (some e),calm:=false,xe:=fun _ _=>False }
section
variable{X:Cx}{pins pins':List (Addr×Obj)}{σ:St}{H H':Hp}{s:Shared}{E:Value→Shared→Prop}{e:Value}
theorem Inv.tryX(I:Inv X pins σ H s):Inv (X.tryX E (X.pn++pins)) [] σ H s :=
 ⟨⟨I.ok.mod,I.ok.kind,I.ok.glob,I.ok.blt,I.ok.above,I.ok.inj,I.ok.has,I.ok.cab,I.ok.hd,I.ok.frames,I.ok.stk,I.ok.exf,I.ok.bs,I.ok.bsz,I.ok.noex,I.ok.exfs,I.ok.funs,I.ok.frf⟩,
  I.os,I.bare,I.base,I.loc,I.cell,I.free,I.freeC,fun p hp=>I.pin p (by simpa using hp),I.hok,I.len⟩
theorem Inv.untry(I:Inv (X.tryX E (X.pn++pins)) pins' σ H s):Inv X pins σ H s :=
 ⟨⟨I.ok.mod,I.ok.kind,I.ok.glob,I.ok.blt,I.ok.above,I.ok.inj,I.ok.has,I.ok.cab,I.ok.hd,I.ok.frames,I.ok.stk,I.ok.exf,I.ok.bs,I.ok.bsz,I.ok.noex,I.ok.exfs,I.ok.funs,I.ok.frf⟩,
  I.os,I.bare,I.base,I.loc,I.cell,I.free,I.freeC,fun p hp=>I.pin p (List.mem_append_left _ hp),I.hok,I.len⟩
theorem Inv.hanX(I:Inv X pins σ H s):Inv (X.hanX e) pins σ H s :=
 ⟨⟨I.ok.mod,I.ok.kind,I.ok.glob,I.ok.blt,I.ok.above,I.ok.inj,I.ok.has,I.ok.cab,fun z=>(nomatch z),I.ok.frames,I.ok.stk,I.ok.exf,I.ok.bs,I.ok.bsz,I.ok.noex,I.ok.exfs,I.ok.funs,I.ok.frf⟩,
  I.os,I.bare,I.base,I.loc,I.cell,I.free,I.freeC,I.pin,I.hok,I.len⟩
theorem Inv.unhan(ok:X.Ok)(I:Inv (X.hanX e) pins σ H s):Inv X pins σ H s:=⟨ok,I.os,I.bare,I.base,I.loc,I.cell,I.free,I.freeC,I.pin,I.hok,I.len⟩
theorem iu{M:Model}{A:Around}{i:Nat}{x:Str}{pos:Pos}{Q:Unit→Shared→Prop}(I:Inv X pins σ H s)(hN:X.N.Nodup)(hi:X.N[i]?=some x)(hk:X.env.scope.names.lookup x=some .local)
  (h:∀s',Inv X pins (σ.set i none) H s'→Q () s'):wpAny M A (do bindName X.env x .none;unbindBehindTheSuite X.env x pos) Q E s:=by
 obtain⟨m,hn,hl⟩:=id I.loc
 obtain⟨oL,_,_,hoL,_⟩:=id hn
 have hcls:(X.env.scope.kind==.class ||(X.env.scope.kind==.module&&X.env.locals != X.env.globals))=false:=by rw[I.ok.kind];rfl
 refine wpAny_nameGoes_keeps hk hn hcls fun h' v hn' hs=>h _ ?_
 have ne:∀b o,X.s₀.heap.get? b=some o→b≠X.env.locals:=fun b o e=>Nat.ne_of_lt (Nat.lt_of_lt_of_le (Heap.lt_size e) I.ok.above)
 refine⟨I.ok,I.os,I.bare,⟨fun b o e n hb hx=>(hs.2 b (ne b o e)).trans (I.base.keep b o e n hb hx),fun b o e n hb hx=>?_,I.base.free,fun b o e hx=>?_,I.base.tups,I.base.frzs,I.base.tbls⟩,⟨_,hn',fun j y v' e1 e2 e3=>?_⟩,fun y c e=>?_,I.free,I.freeC,fun p hp=>?_,fun b ob e=>?_,by simpa using I.len⟩
 ·obtain⟨sl,e1⟩:=I.base.slot b o e n hb hx
  exact⟨sl,(hs.2 b (ne b o e)).trans e1⟩
 ·obtain⟨o',e1⟩:=I.base.there b o e hx
  exact⟨o',(hs.2 b (ne b o e)).trans e1⟩
 ·by_cases hj:j=i
  ·subst hj
   rw[List.getElem?_set]at e2
   simp at e2
  ·rw[List.getElem?_set_ne (Ne.symm hj)]at e2
   obtain⟨u,r,q⟩:=hl j y v' e1 e2 e3
   refine⟨u,r,?_⟩
   rcases q with⟨k,z⟩ |⟨k,c,z,w⟩
   ·have hy:y≠x:=fun q=>hj (iU hN e1 (q▸hi))
    exact .inl ⟨k,by simp[hy,z]⟩
   ·exact .inr ⟨k,c,z,w.sameBut hs (I.cne y c z)⟩
 ·obtain⟨w,z⟩:=I.cell y c e
  exact⟨w,z.sameBut hs (I.cne y c e)⟩
 ·obtain⟨e,n,np,nf,d⟩:=I.pin p hp
  exact⟨(hs.2 p.1 np).trans e,n,np,nf,d⟩
 ·refine(I.hok b ob e).stay (fun c w hc q=>(hs.2 c ?_).trans q) (fun _ q=>q) fun _ _ q=>q
  rintro rfl
  rcases hc with z | z
  ·rw[← z,I.free]at e;cases e
  ·rw[I.free]at z;cases z
end
end L2
namespace PR
open PySem PySem.Spec L2
section
variable{X:Cx}{T:Tb}{W:Nat→St→Hp→Prop}{pins:List (Addr×Obj)}{σ:St}{H H':Hp}{s s':Shared}
theorem ir{C:Addr}{x:Addr}{a0:Value}{Bh h6:Heap}{g:Array GenState}{d:Drawn}{t:Nat}(I:L2.Inv X pins σ H s)(fl:Fly X.prog X.w X.stack H s (.ref C) H' (.ref x) s')(f0:Heap.FlyingW Bh X.stack x (.ref C) a0 s'.heap)
  (tr:∀b o u,H' b=some u→s'.heap.get? b=some o→Bh.get? b=some o) (ol:∀b o o',s'.heap.get? b=some o→s.heap.get? b=some o'→b∉frs X.stack→Bh.get? b=some o)
  (f6:Heap.FlyingW Bh X.stack x (.ref C) a0 h6) (up:s'.heap.UpToSlots h6) (hg:PyProof.Rows.AllBare g) :
  L2.Inv X pins σ (upd H' x (s_ C x)) ⟨h6,g,d,t,s'.os⟩∧H' x=none∧s.heap.get? x=none:=by
 obtain⟨oe,he,hc⟩:=f6.there
 obtain⟨o0,he0,_⟩:=f0.there
 have nx:H' x=none:=by
  cases e:H' x with
  | none=>rfl
  | some u =>
   have:=tr x o0 u e he0
   rw[f0.2.1]at this;cases this
 have ns:s.heap.get? x=none:=by
  cases e:s.heap.get? x with
  | none=>rfl
  | some o' =>
   by_cases hx:x∈frs X.stack
   ·obtain⟨_,o,ho,hd⟩:=f0.2.2.1.mem hx
    obtain⟨o1,vs,h1,_,h2,_⟩:=f0.first
    rw[ho]at h1;cases h1
    exact absurd h2 (hd vs)
   ·have:=ol x o0 o' he0 e hx
    rw[f0.2.1]at this;cases this
 have data:∀b o,s.heap.get? b=some o→b∈frs X.stack→∀vs,o.data≠.fields vs:=fun b o e hb vs z=>by
  obtain⟨_,o',ho',hd'⟩:=I.stack.mem hb
  rw[e]at ho';cases ho'
  exact hd' vs z
 have hok:HOk X.prog X.w (upd H' x (s_ C x)) h6:=fun b u e=>by
  by_cases hb:b=x
  ·subst hb
   rw[bg]at e;cases e
   exact⟨⟨oe,he,hc⟩,⟨oe,he⟩,fun h1 h2 ⟨o,q1,q2⟩ k=>⟨o,k o q1,q2⟩⟩
  ·rw[ay hb]at e
   have nb:∀c u,H' c=some u→c≠x:=fun c u q z=>by rw[z,nx]at q;cases q
   exact(oA fl.hok tr f6.1 b u e).stay (fun _ _ _ q=>q) (fun c q=>by rw[ay (nb c _ q)];exact q) fun c xs q=>by rw[ay (nb c _ q)];exact q
 refine⟨I.call' (s':=⟨h6,g,d,t,s'.os⟩) (ch:=[]) fl.os ⟨fun b o e n hf _=>?_,fun b o e n hf _=>?_,fun b o e n _=>?_,fun b o e _=>?_,fun b xs e=>?_,fun b o u e=>?_,fun b ps e=>?_⟩ hok hg (fun _ z=>(nomatch z)),nx,ns⟩
 ·have q:=fl.un.keep b o e n hf (by simp)
  exact f6.1 b o (ol b o o q e hf)
 ·obtain⟨sl,q⟩:=fl.un.slot b o e n hf (by simp)
  obtain⟨sl',q'⟩:=up b _ q (data b o e hf)
  exact⟨sl',q'⟩
 ·rw[ay (show b≠x from fun z=>by rw[z,ns]at e;cases e)]
  exact fl.un.free b o e n (by simp)
 ·by_cases hf:b∈frs X.stack
  ·obtain⟨_,o2,ho2,_⟩:=f6.2.2.1.mem hf
   exact⟨o2,ho2⟩
  ·obtain⟨o1,e1⟩:=fl.un.there b o e (by simp)
   exact⟨o1,f6.1 b o1 (ol b o1 o e1 e hf)⟩
 ·have q:=fl.un.tups b xs e
  rw[ay (fun z=>by rw[z,nx]at q;cases q)];exact q
 ·have q:=fl.un.frzs b o u e
  rw[ay (fun z=>by rw[z,nx]at q;cases q)];exact q
 ·obtain⟨more,q⟩:=fl.un.tbls b ps e
  exact⟨more,by rw[ay (fun z=>by rw[z,nx]at q;cases q)];exact q⟩
end
end PR
namespace PR
open PySem PySem.Spec L2
def p_(n:Nat):Out→Out
 | .next e=>.next (e.set n none)
 | .brk e=>.brk (e.set n none)
 | .cont e=>.cont (e.set n none)
 | .ret v=>.ret v
 | .exc _ _=>.stuck
 | .stuck=>.stuck
section
variable{X:Cx}{T:Tb}{W:Nat→St→Hp→Prop}{Z:Zn}{F:Addr→Prop}{H:Hp}{σ:St}{env:En}{fp:Nat→List Addr}
theorem ap.unset(S:ap T Z F H σ env fp){n:Nat}(h0:n≠0):ap T Z F H (σ.set n none) (env.set n none) fp:=by
 refine⟨S.hp,by rw[List.length_set,List.length_set,S.len],fun i pv e=>?_,S.nd,S.dj,S.dis,S.new,S.ch,fun v hv=>?_⟩
 ·by_cases hi:i=n
  ·subst hi
   rw[List.getElem?_set]at e
   simp at e
  ·rw[List.getElem?_set_ne (Ne.symm hi)]at e ⊢
   exact S.rel i pv e
 ·obtain⟨h1,h2⟩:=S.pn v hv
  refine⟨by rw[List.getElem?_set_ne h0];exact h1,?_⟩
  unfold b9 at h2 ⊢
  rw[List.getElem?_set_ne h0];exact h2
theorem ap.caught(S:ap T Z F H σ env fp){n c:Nat}{x:Addr}(h0:n≠0)(hx:H x=none) :
  ap T Z F (upd H x (s_ (T.xcl c) x)) (σ.set n (some (.ref x))) (env.set n (some (.exc c))) (bA fp n []) :=
 (S.grow (Gr.same S.hp.ft (Ext.upd hx))).put (by unfold Rel;exact⟨x,rfl,bg,rfl⟩) List.nodup_nil (fun _ z=>(nomatch z)) (fun _ z=>(nomatch z)) (fun _ z=>(nomatch z)) (by simp[bq,h0])
end
end PR
namespace PR
open PySem PySem.Spec L2
def cO(tab:Nat→Bool):PV→Res PV
 | .exc c=>.ok (.bl (tab c))
 | _=>.stuck
section
variable{X:Cx}{T:Tb}{W:Nat→St→Hp→Prop}
theorem tY{e:Expr}{m:ME}{cn:Str}{vc:V}{uc:Value}{tab:Nat→Bool}{p pc pos:Pos}(hK:X.K=T.K)(hx:∀c,kS T.K (T.xcl c))(ht:∀c,PySem.W.kitOne T.K (.ref (T.xcl c)) uc=some (tab c))
  (hg:Gl X "isinstance") (hm:X.mg "isinstance" = none) (hb:bootBuiltins "isinstance" = some (.builtin "isinstance")) (hv:PE X (.Name cn pc) (tC vc)) (hu:∀u,aY vc u→u=uc) (he:SE X T W e m)
  (hst:starEach [e,.Name cn pc] X.env=[(false,eval e X.env),(false,eval (.Name cn pc) X.env)]:=by rfl)
  (hst2:starEach [.Name cn pc] X.env=[(false,eval (.Name cn pc) X.env)]:=by rfl):SE X T W (.Call (.Name "isinstance" p) [e,.Name cn pc] [] pos) (mUn (cO tab) m):=by
 have hcall:cP X (.builtin "isinstance") (fun vs H Q=>∃a c,vs=[.ref a,vc]∧H a=some (s_ (T.xcl c) a)∧Q (.bl (tab c)) H):=by
  intro pins s σ H vs us Q I rv h
  obtain⟨a,c,rfl,ha,q⟩:=h
  cases rv with
  | cons r1 r2 =>
   cases r2 with
   | cons r3 r4 =>
    cases r4
    cases r1
    rw[hu _ r3]
    have kin:T.K.In s.heap:=by rw[← hK];exact I.kIn
    obtain⟨hφ,_,_⟩:=I.hok a _ ha
    exact PySem.W.kia_one (rF (hx c)) kin hφ (ht c) (fun z=>nomatch z) fun tk=>⟨.bl _,H,I.tok tk,rfl,q⟩
 have hargs:PA X [e,.Name cn pc] (kU (tE T W m) (kU (tC vc) wc)):=cC he (cC hv fv hst2) (by rw[hst,hst2])
 refine PE.wk (fT (pos:=pos) (p:=p) hcall hg hm hb hargs (he:=by rw[hst,hst2]) (hpl:=by rw[hst2];rfl)) fun σ H Q ⟨Z,F,env,fp,S,q⟩=>?_
 unfold mUn at q
 refine tE.bind S (fun c e=>by rw[e]at q;exact q) (fun e=>by rw[e]at q;exact q) fun x v H1 F1 f1 e1 g1 r1 n1 d1 w1=>?_
 rw[e1]at q
 cases x with
 | exc c =>
  unfold Rel at r1
  obtain⟨a,rfl,ha,_⟩:=r1
  exact⟨a,c,rfl,ha,q.scal g1 iK⟩
 | _=>exact q.elim
theorem cR{e:Expr}{m:ME}{cn:Str}{D:Addr}{tab:Nat→Bool}{p pc pos:Pos}(hK:X.K=T.K)(hx:∀c,kS T.K (T.xcl c))(ht:∀c,PySem.W.kitOne T.K (.ref (T.xcl c)) (.ref D)=some (tab c))
  (hg:Gl X "isinstance") (hm:X.mg "isinstance" = none) (hb:bootBuiltins "isinstance" = some (.builtin "isinstance")) (hgc:Gl X cn) (hmc:X.mg cn=some (.ref D)) (he:SE X T W e m) (hcd:(cn ==("__debug__" : Str))=false:=by decide)
  (hst:starEach [e,.Name cn pc] X.env=[(false,eval e X.env),(false,eval (.Name cn pc) X.env)]:=by rfl)
  (hst2:starEach [.Name cn pc] X.env=[(false,eval (.Name cn pc) X.env)]:=by rfl):SE X T W (.Call (.Name "isinstance" p) [e,.Name cn pc] [] pos) (mUn (cO tab) m) :=
 tY hK hx ht hg hm hb (iq (v:=.ref D) hgc hmc rfl hcd) (fun _ h=>h) he hst hst2
end
end PR
namespace PR
open PySem PySem.Spec L2
theorem fh{T:Tb}(F B L:Addr→Prop)(H:Hp):RelL T F B L H [] [] []:=by unfold RelL;exact⟨rfl,rfl⟩
def eB(disp:Nat→Option (List PV→Res PV))(o:ME)(ms:MA):ME:=fun env=>(o env).bind fun ov=>match ov with
 | .obj _ c _ _=>match disp c with
  | some m=>(ms env).bind fun xs=>aA m (ov::xs)
  | none=>.stuck
 | _=>.stuck
theorem uJ(disp:Nat→Option (List PV→Res PV))(o:ME)(ms:MA):on disp [] o ms=eB disp o ms:=by
 funext env
 unfold on eB
 congr 1
 funext ov
 cases ov with
 | obj f c ks vs=>simp only[List.append_nil,List.cons_append]<;>rfl
 | _=>rfl
def jp(c:Nat)(m:List PV→Res PV)(ms:MA):ME:=ao (fun xs=>aA m (.obj .own c [] []::xs)) ms
section
variable{X:Cx}{T:Tb}{W:Nat→St→Hp→Prop}
theorem k8{k kk n:Nat}{f:Addr}{fd:FuncData}{ps:List Str}{m:List PV→Res PV}{x:Str}{p pos:Pos}{e:Expr}{es:List Expr}{ms:MA}
  (G:bR X.prog X.w X.K X.mg X.base (CXP X.prog X.w) k f fd ps (spM T ps.length m)) (cx:Ctx X T W kk) (hk:k≤kk) (hg:Gl X x) (hm:X.mg x=some (.ref f)) (hkp:PySem.W.keepIn X.K (.ref f)=true) (hb:cH X.K fd ps [])
  (hn:ee ms n) (hps:n=ps.length) (ha:SA X T W (e::es) ms)
  (hdb:(x ==("__debug__" : Str))=false:=by decide) (he:starEach (e::es) X.env=(false,eval e X.env)::starEach es X.env:=by rfl) (hpl:(backTo pos (starEach es X.env)).any (·.1)=false:=by rfl) :
  SE X T W (.Call (.Name x p) (e::es) [] pos) (ao (aA m) ms):=by
 have h:=t3 (dvs:=[]) (dps:=[]) (p:=p) (pos:=pos) G (cx.room.mono hk) hg hm hkp hb .nil fh cx.xf (fun env xs q=>by rw[hn env xs q];exact hps) ha hdb he hpl
 simpa using h
theorem wz{k kk n:Nat}{mn:Str}{ps:List Str}{disp:Nat→Option (List PV→Res PV)}{o e:Expr}{es:List Expr}{mo:ME}{ms:MA}{apos pos:Pos}{pl:Sem Bool}
  (cx:Ctx X T W kk) (hc:∀c < T.nc,Cls T.K (T.cls c)) (hm:∀k,T.att k≠mn) (D:jA X T k mn ps [] disp) (hk:k≤kk)
  (hn:ee ms n) (hps:n+1=ps.length) (ho:SE X T W o mo) (ha:SA X T W (e::es) ms)
  (hst:starEach (e::es) X.env=(false,eval e X.env)::starEach es X.env:=by rfl) (hpl:(backTo pos (starEach es X.env)).any (·.1)=false:=by rfl)
  (ht:eval (.Call (.Attribute o mn apos) (e::es) [] pos) X.env=(do
   let ov ← eval o X.env
   standAt apos.atName
   let(f,first) ← holding [ov] (getMethod ov mn pl)
   callWith pos f first (backTo pos (starEach (e::es) X.env)) (backToKw pos (keywordEach [] X.env))):=by rfl) :
  SE X T W (.Call (.Attribute o mn apos) (e::es) [] pos) (eB disp mo ms):=by
 rw[← uJ]
 exact tV (pl:=pl) (dvs:=[]) (dps:=[]) cx.hK hc hm D (cx.room.mono hk) .nil fh cx.xf (fun env xs q=>by rw[hn env xs q];exact hps) ho ha hst hpl ht
theorem wy{k kk c n:Nat}{f:Addr}{fd:FuncData}{ps:List Str}{m:List PV→Res PV}{x:Str}{p pos:Pos}{e:Expr}{es:List Expr}{ms:MA}
  (M:Mk X.K (T.cls c) f) (hcn:c < T.nc) (G:bR X.prog X.w X.K X.mg X.base (CXP X.prog X.w) k f fd ps (spI T ps.length m)) (cx:Ctx X T W kk) (hk:k+1≤kk) (hg:Gl X x) (hm:X.mg x=some (.ref (T.cls c))) (hb:cH X.K fd ps [])
  (hn:ee ms n) (hps:n+1=ps.length) (ha:SA X T W (e::es) ms)
  (hdb:(x ==("__debug__" : Str))=false:=by decide) (he:starEach (e::es) X.env=(false,eval e X.env)::starEach es X.env:=by rfl) (hpl:(backTo pos (starEach es X.env)).any (·.1)=false:=by rfl) :
  SE X T W (.Call (.Name x p) (e::es) [] pos) (jp c m ms):=by
 have h:=tW (dvs:=[]) (dps:=[]) (p:=p) (pos:=pos) M hcn G (cx.room.mono hk) hg hm hb .nil fh cx.xf hn hps ha hdb he hpl
 unfold jp
 simpa using h
end
theorem u8{K:PySem.W.Frag}{h:Heap}{C:Addr}(X:K.In h)(q:PySem.W.excIn K C [.type "ValueError", .type "Exception", .type "BaseException", .type "object"] "ValueError.__new__" = true) :
  ∃bm N nm q bs hdct sn sub ab col dd k0 k1 k2 k3 k5 mN,h.get? C=some (excClassObj nm q C N bs bm hdct sn sub ab col dd k0 k1 k2 k3 k5 "ValueError.__new__")∧h.Ns N mN∧mN "__init__" = none ∧
   OwnTail h [.type "ValueError", .type "Exception", .type "BaseException", .type "object"] bm:=by
 unfold PySem.W.excIn at q
 split at q
 ·rename_i dd cd sl ho
  split at q
  ·rename_i C' bm k0 k1 k2 k3 n k5 hm hs
   simp only[Bool.and_eq_true,beq_iff_eq,Bool.not_eq_true']at q
   obtain⟨⟨⟨⟨⟨rfl,rfl⟩,hdel⟩,ht⟩,hok⟩,hni⟩:=q
   cases cd
   cases sl
   dsimp only at hm hdel hok hni hs
   subst hm hdel hs
   exact⟨bm,_,_,_,_,_,_,_,_,_,dd,k0,k1,k2,k3,k5,_,X _ _ ho,.of_isNs (PySem.W.isNs_of_in X hok),PySem.W.nsMap_none_of_in X hok hni,PySem.W.tail_of_in X ht⟩
  ·cases q
 ·cases q
end PR
namespace PR
open PySem PySem.Spec L2
def aM(c:Nat)(ms:MA):MS:=fun env=>match ms env with
 | .ok _=>.exc c env
 | .exc k=>.exc k env
 | .stuck=>.stuck
theorem o3{X:Cx}{T:Tb}{W:Nat→St→Hp→Prop}{k c n:Nat}{x:Str}{e:Expr}{es:List Expr}{ms:MA}{np cpos pos:Pos}(cx:Ctx X T W k)(hm:X.mg x=some (.ref (T.xcl c)))(hB:T.K.In X.base)
  (hE:PySem.W.excIn T.K (T.xcl c) [.type "ValueError", .type "Exception", .type "BaseException", .type "object"] "ValueError.__new__" = true) (hx:XM X T W) (hg:Gl X x) (hn:ee ms n) (hn2:n≤100) (ha:SA X T W (e::es) ms)
  (hd:(x ==("__debug__" : Str))=false:=by decide)
  (he:starEach (e::es) X.env=(false,eval e X.env)::starEach es X.env:=by rfl) (hpl:(backTo cpos (starEach es X.env)).any (·.1)=false:=by rfl) :
  SS X T W (.Raise (some (.Call (.Name x np) (e::es) [] cpos)) none pos) (aM c ms) :=
 qh (np:=np) (cpos:=cpos) (pos:=pos) ⟨hm,u8 hB hE⟩ hx cx.calm hg ha (fun env pvs q=>by rw[hn env pvs q];exact hn2) hd he hpl
structure Scr(fl:Fl):Prop where
 is:fl=.frz∨fl=.mod
theorem Scr.lend{fl:Fl}(h:Scr fl):fl.lend=fl:=by rcases h.is with rfl | rfl<;>rfl
theorem Scr.toBor{fl:Fl}(h:Scr fl):fl.toBor=fl:=by rcases h.is with rfl | rfl<;>rfl
theorem Scr.isBor{fl:Fl}(h:Scr fl):fl.isBor=false:=by rcases h.is with rfl | rfl<;>rfl
theorem Scr.isLnt{fl:Fl}(h:Scr fl):fl.isLnt=false:=by rcases h.is with rfl | rfl<;>rfl
theorem Scr.isOwn{fl:Fl}(h:Scr fl):fl.isOwn=false:=by rcases h.is with rfl | rfl<;>rfl
theorem Scr.freeze{fl:Fl}(h:Scr fl):fl.freeze=fl:=by rcases h.is with rfl | rfl<;>rfl
theorem Scr.borrow{fl:Fl}(h:Scr fl):fl.borrow=fl:=by rcases h.is with rfl | rfl<;>rfl
theorem gD{T:Tb}{F B L:Addr→Prop}{H:Hp}:∀ns:List Int,RelL T F B L H (ns.map PV.int) (ns.map V.int) []
 | []=>fh _ _ _ _
 | n::ns=>by
  rw[List.map_cons,List.map_cons]
  unfold RelL
  exact⟨_,_,[],[],rfl,d0,gD ns,rfl⟩
def nO(K:PySem.W.Frag):Sp:=fun vs H Q _=>∃(a:Addr) (ns:List Int),vs=[.ref a]∧SqL K H a (ns.map V.int)∧ns.length≤63∧∀v H',v=.bl true→Q v H'
theorem xP{P:Program}{w:World}{T:Tb}{mg:Str→Option Value}{base:Heap}{k:Nat}{f:Addr}{fd:FuncData}{x:Str}{m:List PV→Res PV}(G:bR P w T.K mg base (CXP P w) k f fd [x] (spM T 1 m))
  (h:∀(fl:Fl) (ns:List Int),Scr fl→ns.length≤63→m [.lst fl (ns.map .int)]=.ok (.bl true)):bR P w T.K mg base (CXP P w) k f fd [x] (nO T.K):=by
 refine G.imp fun vs H Q E q=>?_
 obtain⟨a,ns,rfl,hS,hl,hQ⟩:=q
 have fin:∀fl,Scr fl→∀Z:Zn,GF T Z Q E (m [.lst fl (ns.map .int)]):=fun fl hf Z=>by
  rw[h fl ns hf hl]
  intro F H' v f' _ r _ _ _
  unfold Rel at r
  exact hQ v H' r.1
 refine⟨rfl,?_⟩
 rcases hS with hS | hS
 ·refine⟨[.lst .frz (ns.map .int)],(·=a),fun _=>False,[],⟨?_,List.nodup_nil,fun _ z=>(nomatch z),fun _ z=>z.elim,fun b hb=>?_⟩,fin _ ⟨.inl rfl⟩ _⟩
  ·unfold RelL
   refine⟨_,_,[],[],rfl,?_,fh _ _ _ _,rfl⟩
   unfold Rel
   exact⟨a,_,[],rfl,⟨rfl,hS⟩,gD ns,rfl,rfl⟩
  ·subst hb
   rcases hS with e |⟨o,e⟩
   ·exact⟨_,e⟩
   ·exact⟨_,e⟩
 ·refine⟨[.lst .mod (ns.map .int)],fun _=>False,fun _=>False,[],⟨?_,List.nodup_nil,fun _ z=>(nomatch z),fun _ z=>z.elim,fun _ z=>z.elim⟩,fin _ ⟨.inr rfl⟩ _⟩
  unfold RelL
  refine⟨_,_,[],[],rfl,?_,fh _ _ _ _,rfl⟩
  unfold Rel
  exact⟨a,_,[],rfl,hS,gD ns,rfl,rfl⟩
theorem rD{l:PySem.W.OpenLaw}{k:Nat}{x:Str}{q:Program}{loose:List Str}{XP:(Str→Option Value)→Heap→Prop}{YP:World→Heap→Prop}{d:DefRec}{K:Params→PySem.W.Frag}(hn:l.most=some 63)(hdf:d.params.defaults=[])(hr:ck k callerA)
  (hY:∀(w:World) (h:Heap),YP w h→(K w.params).In h)
  (F:∀ (w:World) (mg:Str→Option Value) (fa:Addr) (h:Heap),(K w.params).In h→h.Ns mainGlobals mg→mg d.name=some (.ref fa) →
   ∃fd:FuncData,(∀(s:Shared) (u:Value),BindsTo s fd ⟨[u],[]⟩ [(x,u)])∧∀base:Heap,(K w.params).In base→base.Ns mainGlobals mg→bR l.prog w (K w.params) mg base (CXP l.prog w) k fa fd [x] (nO (K w.params))) :
  PySem.W.WalkO q loose XP YP l.row.toRowW d [] (fun f vs=>PySem.call f vs) :=
 L2.tm (n:=63) (k:=k) (x:=x) (CX:=fun w=>CXP l.prog w) (sp:=fun w=>nO (K w.params)) hn (by decide) hdf hr hY F (fun _ _ a ns hl _ hS=>⟨a,ns,rfl,hS,hl,fun _ _ z=>z⟩) fun _ _ _ _ _ ⟨_,_,_,z⟩=>z
theorem Bq{K:PySem.W.Frag}:vq K "int" := by
 intro t ht
 simp only[List.mem_cons,List.not_mem_nil,or_false]at ht
 rcases ht with rfl | rfl | rfl | rfl | rfl | rfl<;>kernel_rfl
theorem pG{K:PySem.W.Frag}:vq K "tuple" := by
 intro t ht
 simp only[List.mem_cons,List.not_mem_nil,or_false]at ht
 rcases ht with rfl | rfl | rfl | rfl | rfl | rfl<;>kernel_rfl
theorem aW:bootBuiltins "isinstance" = some (.builtin "isinstance"):=by decide +kernel
theorem oO:bootBuiltins "list" = some (.type "list"):=by decide +kernel
theorem df:bootBuiltins "tuple" = some (.type "tuple"):=by decide +kernel
def pQ(K:PySem.W.Frag)(C:Addr):Bool :=
 decide (PySem.W.findIn K (.ref C) "__getattribute__" = some (some (.builtin "BaseException.__getattribute__")))&&decide (PySem.W.findIn K (.ref C) "__getattr__" = some none) &&
 decide (PySem.W.findIn K (.ref C) "__class__" = some (some (.builtin "object.__class__")))&&decide (PySem.W.mroIn K C (.type "BaseException")=some true)&&decide (PySem.W.mroIn K C (.type "object")=some true)&&(PySem.W.clsIn K C).isSome &&
 PySem.W.excIn K C [.type "ValueError", .type "Exception", .type "BaseException", .type "object"] "ValueError.__new__"
theorem oG{K:PySem.W.Frag}{C:Addr}(h:pQ K C=true):kS K C∧PySem.W.excIn K C [.type "ValueError", .type "Exception", .type "BaseException", .type "object"] "ValueError.__new__" = true:=by
 simp only[pQ,Bool.and_eq_true,decide_eq_true_eq]at h
 obtain⟨⟨⟨⟨⟨⟨h1,h2⟩,h3⟩,h4⟩,h5⟩,h6⟩,h7⟩:=h
 exact⟨⟨h1,h2,h3,h4,h5,h6⟩,h7⟩
def uo(l:List Addr)(i:Nat):Addr:=l.getD i (l.headD 0)
def bM(l:List Bool)(i:Nat):Bool:=l.getD i (l.headD false)
theorem qI{α:Type}{f:Addr→Option α}{g:α→Bool}{l:List Addr}{bs:List Bool}{r:Bool→Option α}(hl:l≠[])(h:l.map f=bs.map r)(i:Nat):f (uo l i)=r (bM bs i):=by
 have hlen:l.length=bs.length:=by simpa using congrArg List.length h
 unfold uo bM
 rw[List.getD_eq_getElem?_getD,List.getD_eq_getElem?_getD]
 have key:∀j,(l[j]?).map f=(bs[j]?).map r:=fun j=>by rw[← List.getElem?_map,← List.getElem?_map,h]
 cases e:l[i]? with
 | some C =>
  have:=key i
  rw[e]at this
  cases e2:bs[i]? with
  | some b=>rw[e2]at this;simpa using this
  | none=>rw[e2]at this;simp at this
 | none =>
  have hb:bs[i]?=none:=by
   rw[List.getElem?_eq_none_iff]at e ⊢
   omega
  rw[hb]
  cases l with
  | nil=>exact absurd rfl hl
  | cons a l =>
   cases bs with
   | nil=>simp at hlen
   | cons b bs=>simpa using key 0
end PR
namespace PR
open PySem PySem.Spec L2
def PV.isBl(c:Bool):PV→Bool
 | .bl b=>b==c
 | _=>false
def BX:PV→PV→Res PV
 | x,.bl c=>.ok (.bl (x.isBl c))
 | _,_=>.stuck
def zS:PV→PV→Res PV
 | x,.bl c=>.ok (.bl (!x.isBl c))
 | _,_=>.stuck
section
variable{X:Cx}{T:Tb}{W:Nat→St→Hp→Prop}{F B L:Addr→Prop}{H:Hp}{a b:Expr}{ma mb:ME}{pos:Pos}
theorem Rel.isBl{x:PV}{v:V}{f:List Addr}(c:Bool)(r:Rel T F B L H x v f):decide (v=.bl c)=x.isBl c:=by
 cases x with
 | non=>unfold Rel at r;rw[r.1];rfl
 | bl b=>unfold Rel at r;rw[r.1];cases b<;>cases c<;>rfl
 | int i=>unfold Rel at r;rw[r.1];rfl
 | str i=>unfold Rel at r;rw[r.1];rfl
 | lst f xs=>unfold Rel at r;obtain⟨a,_,_,rfl,_⟩:=r;rfl
 | tup xs=>unfold Rel at r;obtain⟨a,_,rfl,_⟩:=r;rfl
 | obj f c ks xs=>unfold Rel at r;obtain⟨a,_,_,_,rfl,_⟩:=r;rfl
 | exc c=>unfold Rel at r;obtain⟨a,rfl,_⟩:=r;rfl
end
theorem nK:∀(xs:List V) (ys:List Value),xs.length=ys.length→(∀(i:Nat) x y,xs[i]?=some x→ys[i]?=some y→aY x y)→aC xs ys
 | [],[],_,_=>.nil
 | x::xs,y::ys,hl,h=>.cons (h 0 x y rfl rfl) (nK xs ys (by simpa using hl) fun i a b e1 e2=>h (i+1) a b (by simpa using e1) (by simpa using e2))
 | [],_::_,hl,_=>by simp at hl
 | _::_,[],hl,_=>by simp at hl
section
variable{X:Cx}{T:Tb}{W:Nat→St→Hp→Prop}{Z:Zn}{F F1 B L:Addr→Prop}{H H1:Hp}{σ:St}{env:En}{fp:Nat→List Addr}
def n5:List PV→Res PV
 | [.int n]=>if decide (0≤n∧n≤1000000)then .ok (.lst .own (cJ 0 n.toNat))else .stuck
 | _=>.stuck
end
def bC:List PV→Option (List Int)
 | []=>some []
 | .int i::xs=>(bC xs).map (i::·)
 | _::_=>none
def jY(ns:List Int):Nat:=(PyProof.Rows.firstMet (fun i=>ns.getD i 0) ns.length).length
def fV:PV→Res PV
 | .lst _ xs=>match bC xs with
  | some ns=>if decide (ns.length≤1000)then .ok (.int (jY ns))else .stuck
  | none=>.stuck
 | _=>.stuck
section
variable{X:Cx}{T:Tb}{W:Nat→St→Hp→Prop}{Z:Zn}{F F1 B L:Addr→Prop}{H H1:Hp}{σ:St}{env:En}{fp:Nat→List Addr}
theorem db:∀{xs:List PV}{vs:List V}{f:List Addr}{ns:List Int},bC xs=some ns→RelL T F B L H xs vs f→vs=ns.map V.int
 | [],_,_,_,e,r=>by cases e;unfold RelL at r;exact r.1
 | .int i::xs,_,_,ns,e,r=>by
  unfold RelL at r
  obtain⟨v,ws,f1,f2,rfl,h1,h2,rfl⟩:=r
  simp only[bC]at e
  cases e2:bC xs with
  | none=>rw[e2]at e;cases e
  | some ms =>
   rw[e2]at e
   cases e
   unfold Rel at h1
   rw[h1.1,db e2 h2]
   rfl
 | .non::_,_,_,_,e,_=>by simp[bC]at e
 | .bl _::_,_,_,_,e,_=>by simp[bC]at e
 | .str _::_,_,_,_,e,_=>by simp[bC]at e
 | .lst _ _::_,_,_,_,e,_=>by simp[bC]at e
 | .tup _::_,_,_,_,e,_=>by simp[bC]at e
 | .obj _ _ _ _::_,_,_,_,e,_=>by simp[bC]at e
 | .exc _::_,_,_,_,e,_=>by simp[bC]at e
theorem dS:∀{ns:List Int}{its:List Value},aC (ns.map V.int) its→PyProof.Rows.IntsAre its ns
 | [],_,r=>by cases r;exact .nil
 | n::ns,_,r=>by
  cases r with
  | cons h t =>
   obtain⟨tk,rfl⟩:=h
   exact .cons _ _ (dS t)
theorem jw(hc:X.calm=true):cP X (.type "set") (fun xs H Q=>∃p ns,xs=[.ref p]∧SqL X.K H p (ns.map V.int)∧ns.length≤1000∧∀r S,H r=none→Q (.ref r) (upd H r (.set S (jY ns)))):=by
 intro pins s σ H xs us Q I rv h
 obtain⟨p,ns,rfl,hS,hl,q⟩:=h
 obtain⟨u,rfl,rx⟩:=eE rv
 cases rx
 obtain⟨its,r',pl,hz⟩:=I.list hS
 have hlen:=r'.length
 rw[List.length_map]at hlen
 refine call_set_list (I.ok.hd hc) pl.isList (ns:=ns) (by simpa using dS r') (by simp only[List.size_toArray,← hlen];unfold scanBound;omega) fun h' tk hs kp=>?_
 have e:its.toArray.size=ns.length:=by simp[hlen]
 rw[e]at hs
 exact⟨.ref s.heap.objs.size,_,I.laid (t':=tk) (o:=.set (fun k'=>(PyProof.Rows.firstMet (fun i=>ns.getD i 0) ns.length).any (·==k')) (jY ns)) (fun b o e=>kp b o (Heap.lt_size e) e) (Nat.le_refl _) hs,rfl,q _ _ (I.hok.fresh (Nat.le_refl _))⟩
theorem jx:cP X (.builtin "len") (fun xs H Q=>∃r S n,xs=[.ref r]∧H r=some (.set S n)∧Q (.int n) H):=by
 intro pins s σ H xs us Q I rv h
 obtain⟨r,S,n,rfl,hr,q⟩:=h
 obtain⟨u,rfl,rx⟩:=eE rv
 cases rx
 obtain⟨o,es,ep,t,ho,hex,hd,_,_,hb,hf,hn⟩:=I.hok r _ hr
 have hb':es.size < 4096:=hb
 exact call_len_set ho hex hd hf (by omega) ⟨.int n,H,I.tok _,⟨s.toks+1,by rw[hn]⟩,q⟩
theorem yJ:bootBuiltins "set" = some (.type "set"):=by decide +kernel
theorem o6{e:Expr}{m:ME}{p p2 pos pos2:Pos}(hK:X.K=T.K)(hc:X.calm=true)(hg:Gl X "len")(hm:X.mg "len" = none)(hg2:Gl X "set")(hm2:X.mg "set" = none)(he:SE X T W e m)
  (hs:starEach [e] X.env=[(false,eval e X.env)]:=by rfl)
  (hs2:starEach [.Call (.Name "set" p2) [e] [] pos2] X.env=[(false,eval (.Call (.Name "set" p2) [e] [] pos2) X.env)]:=by rfl) :
  SE X T W (.Call (.Name "len" p) [.Call (.Name "set" p2) [e] [] pos2] [] pos) (mUn fV m):=by
 refine PE.wk (fT (p:=p) (pos:=pos) jx hg hm boot_len (cC (jK (p:=p2) (pos:=pos2) (jw hc) hg2 hm2 yJ (cC he fv (by rw[hs];rfl)) (he:=by rw[hs];rfl) (hpl:=rfl)) fv (by rw[hs2];rfl)) (he:=by rw[hs2];rfl) (hpl:=rfl)) fun σ H Q ⟨Z,F,env,fp,S,q⟩=>?_
 unfold mUn at q
 refine tE.bind S (fun c e=>by rw[e]at q;exact q) (fun e=>by rw[e]at q;exact q) fun x v H1 F1 f1 e1 g1 r1 n1 d1 w1=>?_
 rw[e1]at q
 cases x with
 | lst fl xs =>
  simp only[Res.ok_bind,fV]at q
  cases en:bC xs with
  | none=>rw[en]at q;exact q.elim
  | some ns =>
   rw[en]at q
   dsimp only at q
   unfold Rel at r1
   obtain⟨a,vs,fp',rfl,hl,hr,_⟩:=r1
   by_cases hn:decide (ns.length≤1000)=true
   ·rw[if_pos hn]at q
    have hv:=db en hr
    subst hv
    exact⟨a,ns,rfl,by rw[hK];exact hl.sq,of_decide_eq_true hn,fun r S hr=>⟨r,S,_,rfl,bg,q.scal (g1.trans (Gr.same g1.dom (Ext.upd hr))) d0⟩⟩
   ·rw[if_neg hn]at q;exact q.elim
 | _=>exact q.elim
end
end PR
namespace PR
open PySem PySem.Spec L2
def ij:List Int→Int
 | []=>0
 | [a]=>a
 | a::b::l=>min a (ij (b::l))
def eA:List Int→Int
 | []=>0
 | [a]=>a
 | a::b::l=>max a (eA (b::l))
theorem lB:∀{l:List Int},l≠[]→ij l∈l∧∀x∈l,ij l≤x
 | [],h=>absurd rfl h
 | [a],_=>by simp[ij]
 | a::b::l,_=>by
  obtain⟨h1,h2⟩:=lB (l:=b::l) (by simp)
  unfold ij
  refine⟨?_,fun x hx=>?_⟩
  ·rcases Int.le_total a (ij (b::l))with h | h
   ·rw[Int.min_eq_left h];exact List.mem_cons_self
   ·rw[Int.min_eq_right h];exact List.mem_cons_of_mem _ h1
  ·rcases List.mem_cons.mp hx with rfl | hx
   ·exact Int.min_le_left _ _
   ·exact Int.le_trans (Int.min_le_right _ _) (h2 x hx)
theorem lC:∀{l:List Int},l≠[]→eA l∈l∧∀x∈l,x≤eA l
 | [],h=>absurd rfl h
 | [a],_=>by simp[eA]
 | a::b::l,_=>by
  obtain⟨h1,h2⟩:=lC (l:=b::l) (by simp)
  unfold eA
  refine⟨?_,fun x hx=>?_⟩
  ·rcases Int.le_total a (eA (b::l))with h | h
   ·rw[Int.max_eq_right h];exact List.mem_cons_of_mem _ h1
   ·rw[Int.max_eq_left h];exact List.mem_cons_self
  ·rcases List.mem_cons.mp hx with rfl | hx
   ·exact Int.le_max_left _ _
   ·exact Int.le_trans (h2 x hx) (Int.le_max_right _ _)
section
variable{X:Cx}{T:Tb}{W:Nat→St→Hp→Prop}{Z:Zn}{F F1 B L:Addr→Prop}{H H1:Hp}{σ:St}{env:En}{fp:Nat→List Addr}{pins:List (Addr×Obj)}{s:Shared}
theorem lK{h':Heap}{t:Nat}(I:L2.Inv X pins σ H s)(k:∀b o,s.heap.get? b=some o→h'.get? b=some o):L2.Inv X pins σ H { s with heap:=h',toks:=t }:=I.un (Un.kept k) (I.hok.kept k)
theorem d8{its:List Value}{ns:List Int}(r:aC (ns.map V.int) its):∀(i:Nat) (v:Value),its.toArray[i]?=some v→∃t,v=.int (ns.getD i 0) t:=by
 intro i v e
 have e':its[i]?=some v:=by simpa using e
 have hi:i < ns.length:=by
  have h1:=(List.getElem?_eq_some_iff.mp e').1
  have h2:=r.length
  rw[List.length_map]at h2
  omega
 have:∀{ns:List Int}{its:List Value}{i:Nat}{v:Value},aC (ns.map V.int) its→its[i]?=some v→∃t,v=.int (ns.getD i 0) t:=by
  intro ns
  induction ns with
  | nil=>intro its i v r e;cases r;simp at e
  | cons n ns ih =>
   intro its i v r e
   cases r with
   | cons h t =>
    obtain⟨tk,rfl⟩:=h
    cases i with
    | zero=>simp at e;exact⟨tk,by rw[← e];rfl⟩
    | succ i =>
     obtain⟨tk',h'⟩:=ih t (by simpa using e)
     exact⟨tk',by rw[h'];rfl⟩
 exact this r e'
theorem sC{ns:List Int}(h:0 < ns.length):ns.getD (argBest (fun i j=>decide (ns.getD i 0 < ns.getD j 0)) (ns.length - 1)) 0=ij ns:=by
 obtain⟨h1,h2⟩:=argBest_lt (fun i=>ns.getD i 0) (ns.length - 1)
 obtain⟨m1,m2⟩:=lB (l:=ns) (by intro z;simp[z]at h)
 refine Int.le_antisymm ?_ (m2 _ ?_)
 ·obtain⟨i,hi,e⟩:=List.getElem_of_mem m1
  have:=h2 i (by omega)
  simp only[List.getD_eq_getElem?_getD,List.getElem?_eq_getElem hi,Option.getD_some,e]at this
  simpa[List.getD_eq_getElem?_getD]using this
 ·rw[List.getD_eq_getElem?_getD,List.getElem?_eq_getElem (by omega)]
  exact List.getElem_mem _
theorem sD{ns:List Int}(h:0 < ns.length):ns.getD (argBest (fun i j=>decide (ns.getD i 0 > ns.getD j 0)) (ns.length - 1)) 0=eA ns:=by
 obtain⟨h1,h2⟩:=argBest_gt (fun i=>ns.getD i 0) (ns.length - 1)
 obtain⟨m1,m2⟩:=lC (l:=ns) (by intro z;simp[z]at h)
 refine Int.le_antisymm (m2 _ ?_) ?_
 ·rw[List.getD_eq_getElem?_getD,List.getElem?_eq_getElem (by omega)]
  exact List.getElem_mem _
 ·obtain⟨i,hi,e⟩:=List.getElem_of_mem m1
  have:=h2 i (by omega)
  simp only[List.getD_eq_getElem?_getD,List.getElem?_eq_getElem hi,Option.getD_some,e]at this
  simpa[List.getD_eq_getElem?_getD]using this
theorem j5{n:Nat}{l I:Addr}(hl:l < n)(e:I=n):∀b∈[I,l],b < n+1:=fun b hb=>by
 rcases List.mem_cons.mp hb with z | hb
 ·rw[z,e];exact Nat.lt_succ_self _
 ·rcases List.mem_cons.mp hb with rfl | hb
  ·exact Nat.lt_succ_of_lt hl
  ·cases hb
theorem fX{h h':Heap}{o:Obj}(hk:∀b u,b∉[h.objs.size]→(h.push o).get? b=some u→h'.get? b=some u):∀b u,h.get? b=some u→h'.get? b=some u:=fun b u e =>
 hk b u (fun hm=>by
  rcases List.mem_cons.mp hm with z | z
  ·exact absurd (z▸Heap.lt_size e) (Nat.lt_irrefl _)
  ·cases z) (Heap.get?_push_of_some _ e)
theorem kJ(hc:X.calm=true):cP X (.builtin "min") (fun xs H Q=>∃p ns,xs=[.ref p]∧(SqL X.K H p (ns.map V.int)∨ SqT X.K H p (ns.map V.int))∧0 < ns.length∧Q (.int (ij ns)) H):=by
 intro pins s σ H xs us Q I rv h
 obtain⟨p,ns,rfl,hq,hn,q⟩:=h
 obtain⟨u,rfl,rx⟩:=eE rv
 cases rx
 have hh:=I.ok.hd hc
 have key:∀{its:List Value},aC (ns.map V.int) its→∀{v:Value}{h':Heap}{tk:Nat},its.toArray[argBest (fun i j=>decide (ns.getD i 0 < ns.getD j 0)) (its.toArray.size - 1)]?=some v→(∀b o,s.heap.get? b=some o→h'.get? b=some o)→EP X pins σ Q v { s with heap:=h',toks:=tk }:=by
  intro its r v h' tk hv k
  have hl:its.toArray.size=ns.length:=by
   have:=r.length
   simpa using this.symm
  rw[hl]at hv
  obtain⟨t,rfl⟩:=d8 r _ _ hv
  rw[sC hn]
  exact⟨.int _,H,lK I k,⟨t,rfl⟩,q⟩
 rcases hq with hq | hq
 ·obtain⟨its,r,pl,hz⟩:=I.list hq
  have hl:its.toArray.size=ns.length:=by
   have:=r.length
   simpa using this.symm
  obtain⟨o,ho,hcl,n,hd⟩:=pl.isList
  have hlt:=Heap.lt_size ho
  refine call_min_walk (wpAny_pyIter_list pl.isList ?_)
  refine⟨_,_,_,_,_,_,_,rfl,Walks.list (A:=X.A.in1) hh _ p (Nat.ne_of_lt hlt) its.toArray,⟨⟨_,Heap.get?_push_size _ rfl,rfl,rfl⟩,pl.isList.push _⟩,fun b hb=>?_,by omega,CmpOf.ints_lt (fun i=>ns.getD i 0) (d8 r),fun v h' tk hP hk=>key r hP (fX hk)⟩
  show b <(s.heap.push _).objs.size
  rw[Heap.size_push]
  exact j5 hlt rfl b hb
 ·obtain⟨its,r,pl,hz⟩:=I.tuple hq
  have hl:its.toArray.size=ns.length:=by
   have:=r.length
   simpa using this.symm
  have pt:s.heap.IsTuple p its.toArray:=pl
  obtain⟨o,ho,hcl,n,hd⟩:=pl
  have hlt:=Heap.lt_size ho
  refine call_min_walk (wpAny_pyIter_tuple pt ?_)
  refine⟨_,_,_,_,_,_,_,rfl,Walks.tuple (A:=X.A.in1) hh _ p (Nat.ne_of_lt hlt) its.toArray,⟨⟨_,Heap.get?_push_size _ rfl,rfl,rfl⟩,pt.push _⟩,fun b hb=>?_,by omega,CmpOf.ints_lt (fun i=>ns.getD i 0) (d8 r),fun v h' tk hP hk=>key r hP (fX hk)⟩
  show b <(s.heap.push _).objs.size
  rw[Heap.size_push]
  exact j5 hlt rfl b hb
theorem kK(hc:X.calm=true):cP X (.builtin "max") (fun xs H Q=>∃p ns,xs=[.ref p]∧(SqL X.K H p (ns.map V.int)∨ SqT X.K H p (ns.map V.int))∧0 < ns.length∧Q (.int (eA ns)) H):=by
 intro pins s σ H xs us Q I rv h
 obtain⟨p,ns,rfl,hq,hn,q⟩:=h
 obtain⟨u,rfl,rx⟩:=eE rv
 cases rx
 have hh:=I.ok.hd hc
 have key:∀{its:List Value},aC (ns.map V.int) its→∀{v:Value}{h':Heap}{tk:Nat},its.toArray[argBest (fun i j=>decide (ns.getD i 0 > ns.getD j 0)) (its.toArray.size - 1)]?=some v→(∀b o,s.heap.get? b=some o→h'.get? b=some o)→EP X pins σ Q v { s with heap:=h',toks:=tk }:=by
  intro its r v h' tk hv k
  have hl:its.toArray.size=ns.length:=by
   have:=r.length
   simpa using this.symm
  rw[hl]at hv
  obtain⟨t,rfl⟩:=d8 r _ _ hv
  rw[sD hn]
  exact⟨.int _,H,lK I k,⟨t,rfl⟩,q⟩
 rcases hq with hq | hq
 ·obtain⟨its,r,pl,hz⟩:=I.list hq
  have hl:its.toArray.size=ns.length:=by
   have:=r.length
   simpa using this.symm
  obtain⟨o,ho,hcl,n,hd⟩:=pl.isList
  have hlt:=Heap.lt_size ho
  refine call_max_walk (wpAny_pyIter_list pl.isList ?_)
  refine⟨_,_,_,_,_,_,_,rfl,Walks.list (A:=X.A.in1) hh _ p (Nat.ne_of_lt hlt) its.toArray,⟨⟨_,Heap.get?_push_size _ rfl,rfl,rfl⟩,pl.isList.push _⟩,fun b hb=>?_,by omega,CmpOf.ints_gt (fun i=>ns.getD i 0) (d8 r),fun v h' tk hP hk=>key r hP (fX hk)⟩
  show b <(s.heap.push _).objs.size
  rw[Heap.size_push]
  exact j5 hlt rfl b hb
 ·obtain⟨its,r,pl,hz⟩:=I.tuple hq
  have hl:its.toArray.size=ns.length:=by
   have:=r.length
   simpa using this.symm
  have pt:s.heap.IsTuple p its.toArray:=pl
  obtain⟨o,ho,hcl,n,hd⟩:=pl
  have hlt:=Heap.lt_size ho
  refine call_max_walk (wpAny_pyIter_tuple pt ?_)
  refine⟨_,_,_,_,_,_,_,rfl,Walks.tuple (A:=X.A.in1) hh _ p (Nat.ne_of_lt hlt) its.toArray,⟨⟨_,Heap.get?_push_size _ rfl,rfl,rfl⟩,pt.push _⟩,fun b hb=>?_,by omega,CmpOf.ints_gt (fun i=>ns.getD i 0) (d8 r),fun v h' tk hP hk=>key r hP (fX hk)⟩
  show b <(s.heap.push _).objs.size
  rw[Heap.size_push]
  exact j5 hlt rfl b hb
def dy(g:List Int→Int):PV→Res PV:=fun x=>match bf x with
 | some xs=>match bC xs with
  | some ns=>if ns.isEmpty then .stuck else .ok (.int (g ns))
  | none=>.stuck
 | none=>.stuck
theorem lA{g:List Int→Int}(hK:X.K=T.K):Mir T W (p1 (dy g)) (fun xs H Q=>∃p ns,xs=[.ref p]∧(SqL X.K H p (ns.map V.int)∨ SqT X.K H p (ns.map V.int))∧0 < ns.length∧Q (.int (g ns)) H):=by
 intro B F L σ H Q F' H' xs vs fx gr r nf nd new q
 match xs,r,q with
 | [x],r,q =>
  obtain⟨v,rfl,rv⟩:=RelL.one r
  simp only[p1,dy]at q
  cases e:bf x with
  | none=>rw[e]at q;exact q.elim
  | some ys =>
   rw[e]at q
   dsimp only at q
   cases e2:bC ys with
   | none=>rw[e2]at q;exact q.elim
   | some ns =>
    rw[e2]at q
    dsimp only at q
    obtain⟨a,us,fx',rfl,hs,hr,_⟩:=rv.seq e
    have hu:=db e2 hr
    subst hu
    cases ns with
    | nil=>exact q.elim
    | cons n ns=>exact⟨a,_,rfl,by rw[hK];exact hs,by simp,q.scal gr d0⟩
 | [],_,q=>exact q.elim
 | _::_::_,_,q=>simp only[p1]at q;exact q.elim
theorem sE:bootBuiltins "min" = some (.builtin "min"):=by decide +kernel
theorem sF:bootBuiltins "max" = some (.builtin "max"):=by decide +kernel
theorem nT{p pos:Pos}{e:Expr}{m:ME}(hK:X.K=T.K)(hc:X.calm=true)(hg:Gl X "min")(hm:X.mg "min" = none)(ha:SE X T W e m)(he:starEach [e] X.env=[(false,eval e X.env)]:=by rfl):SE X T W (.Call (.Name "min" p) [e] [] pos) (ao (p1 (dy ij)) (ad m ai)) :=
 dL (kJ hc) (lA hK) hg hm sE (aa ha ag (by rw[he];rfl)) (he:=by rw[he];rfl) (hpl:=rfl)
theorem ke{p pos:Pos}{e:Expr}{m:ME}(hK:X.K=T.K)(hc:X.calm=true)(hg:Gl X "max")(hm:X.mg "max" = none)(ha:SE X T W e m)(he:starEach [e] X.env=[(false,eval e X.env)]:=by rfl):SE X T W (.Call (.Name "max" p) [e] [] pos) (ao (p1 (dy eA)) (ad m ai)) :=
 dL (kK hc) (lA hK) hg hm sF (aa ha ag (by rw[he];rfl)) (he:=by rw[he];rfl) (hpl:=rfl)
def b8(g:Int→Int→Int):List PV→Res PV
 | [.int i,.int j]=>.ok (.int (g i j))
 | _=>.stuck
theorem jO{g:Int→Int→Int}{g':Int→Int→Int}(hg:∀i j,g' i j=g i j):Mir T W (b8 g) (fun xs H Q=>∃i j,xs=[.int i,.int j]∧Q (.int (g' i j)) H):=by
 intro B F L σ H Q F' H' xs vs fx gr r nf nd new q
 match xs,r,q with
 | [x,y],r,q =>
  cases x with
  | int i =>
   cases y with
   | int j =>
    unfold RelL at r
    obtain⟨v,ws,f1,f2,rfl,h1,h2,rfl⟩:=r
    obtain⟨u,rfl,h3⟩:=RelL.one h2
    unfold Rel at h1 h3
    obtain⟨rfl,_⟩:=h1
    obtain⟨rfl,_⟩:=h3
    exact⟨i,j,rfl,by rw[hg];exact q.scal gr d0⟩
   | _=>exact q.elim
  | _=>exact q.elim
 | [],_,q=>exact q.elim
 | [x],_,q=>cases x<;>exact q.elim
 | x::y::z::l,_,q=>cases x<;>cases y<;>exact q.elim
theorem kd{p pos:Pos}{a b:Expr}{ms:MA}(hc:X.calm=true)(hg:Gl X "min")(hm:X.mg "min" = none)(ha:SA X T W [a,b] ms)(he:starEach [a,b] X.env=[(false,eval a X.env),(false,eval b X.env)]:=by rfl)(he2:starEach [b] X.env=[(false,eval b X.env)]:=by rfl) :
  SE X T W (.Call (.Name "min" p) [a,b] [] pos) (ao (b8 min) ms) :=
 dL (pU hc) (jO fun i j=>by simp only[Int.min_def];split<;>split<;>omega) hg hm sE ha (he:=by rw[he,he2]) (hpl:=by rw[he2];rfl)
theorem nU{p pos:Pos}{a b:Expr}{ms:MA}(hc:X.calm=true)(hg:Gl X "max")(hm:X.mg "max" = none)(ha:SA X T W [a,b] ms)(he:starEach [a,b] X.env=[(false,eval a X.env),(false,eval b X.env)]:=by rfl)(he2:starEach [b] X.env=[(false,eval b X.env)]:=by rfl) :
  SE X T W (.Call (.Name "max" p) [a,b] [] pos) (ao (b8 max) ms) :=
 dL (pV hc) (jO fun i j=>by simp only[Int.max_def];split<;>split<;>omega) hg hm sF ha (he:=by rw[he,he2]) (hpl:=by rw[he2];rfl)
end
end PR
namespace PR
open PySem PySem.W PyProof.Rows
structure Ord(N:Nat)(lt:Nat→Nat→Bool):Prop where
 tr:∀i j k,i < N→j < N→k < N→lt i j=true→lt j k=true→lt i k=true
 tot:∀i j,i < N→j < N→i≠j→lt i j=false→lt j i=true
 irr:∀i,i < N→lt i i=false
structure Plc(N:Nat)(p:Array Nat):Prop where
 pm:p.toList.Perm (List.range N)
abbrev at_(p:Array Nat)(i:Nat):Nat:=p.getD i 0
section
variable{N:Nat}{lt:Nat→Nat→Bool}{p:Array Nat}
theorem Plc.sz(P:Plc N p):p.size=N:=by simpa using P.pm.length_eq
theorem Plc.get(P:Plc N p){i:Nat}(h:i < N):p[i]?=some (at_ p i):=by
 have:i < p.size:=by rw[P.sz];exact h
 simp[at_,this]
theorem Plc.bd(P:Plc N p){i:Nat}(h:i < N):at_ p i < N:=by
 have hm:at_ p i∈p.toList:=by
  have:=P.get h
  exact Array.mem_toList_iff.mpr (Array.mem_of_getElem? this)
 simpa using P.pm.mem_iff.mp hm
theorem Plc.inj(P:Plc N p){i j:Nat}(hi:i < N)(hj:j < N)(e:at_ p i=at_ p j):i=j:=by
 have nd:p.toList.Nodup:=P.pm.nodup_iff.mpr List.nodup_range
 have h1:=P.get hi
 have h2:=P.get hj
 rw[e]at h1
 have h1':p.toList[i]?=some (at_ p j):=by simpa using h1
 have h2':p.toList[j]?=some (at_ p j):=by simpa using h2
 obtain⟨a1,b1⟩:=List.getElem?_eq_some_iff.mp h1'
 obtain⟨a2,b2⟩:=List.getElem?_eq_some_iff.mp h2'
 exact(List.getElem_inj nd).mp (b1.trans b2.symm)
def Asc(lt:Nat→Nat→Bool)(p:Array Nat)(n:Nat):Prop:=∀a b,a < b→b < n→lt (at_ p a) (at_ p b)=true
def Dsc(lt:Nat→Nat→Bool)(p:Array Nat)(n:Nat):Prop:=∀a b,a < b→b < n→lt (at_ p b) (at_ p a)=true
theorem Asc.more(O:Ord N lt)(P:Plc N p){n:Nat}(h:Asc lt p n)(h1:1≤n)(hn:n < N)(hl:lt (at_ p (n - 1)) (at_ p n)=true):Asc lt p (n+1):=fun a b hab hb=>by
 by_cases hbn:b < n
 ·exact h a b hab hbn
 ·obtain rfl:b=n:=by omega
  by_cases ha:a=b - 1
  ·rw[ha];exact hl
  ·exact O.tr _ _ _ (P.bd (by omega)) (P.bd (by omega)) (P.bd (by omega)) (h a (b - 1) (by omega) (by omega)) hl
theorem Dsc.more(O:Ord N lt)(P:Plc N p){n:Nat}(h:Dsc lt p n)(h1:1≤n)(hn:n < N)(hl:lt (at_ p n) (at_ p (n - 1))=true):Dsc lt p (n+1):=fun a b hab hb=>by
 by_cases hbn:b < n
 ·exact h a b hab hbn
 ·obtain rfl:b=n:=by omega
  by_cases ha:a=b - 1
  ·rw[ha];exact hl
  ·exact O.tr _ _ _ (P.bd (by omega)) (P.bd (by omega)) (P.bd (by omega)) hl (h a (b - 1) (by omega) (by omega))
theorem Dsc.rev(P:Plc N p){n:Nat}(h:Dsc lt p n)(hn:n≤N):Asc lt (kas_rev p 0 n) n∧Plc N (kas_rev p 0 n):=by
 have hp:(kas_rev p 0 n).toList.Perm p.toList:=Array.perm_iff_toList_perm.mp (mirror_perm _ _ _ _)
 have P':Plc N (kas_rev p 0 n):=⟨hp.trans P.pm⟩
 have ix:∀k,k < n→at_ (kas_rev p 0 n) k=at_ p (n - 1 - k):=fun k hk=>by
  have e:=getElem?_mirror_all (xs:=p) (i:=0) (j:=n) (by rw[P.sz];exact hn) k
  have h1:(kas_rev p 0 n)[k]?=p[0+n - 1 - k]?:=by
   unfold kas_rev
   rw[e,if_pos ⟨by omega,hk⟩]
  rw[P'.get (by omega),show 0+n - 1 - k=n - 1 - k by omega,P.get (by omega)]at h1
  exact Option.some.inj h1
 refine⟨fun a b hab hb=>?_,P'⟩
 rw[ix a (by omega),ix b hb]
 exact h _ _ (by omega) (by omega)
variable{cmp:Nat→Nat→(Bool→Shared→Prop)→Shared→Prop}{s:Shared}
abbrev Cmp(N:Nat)(lt:Nat→Nat→Bool)(cmp:Nat→Nat→(Bool→Shared→Prop)→Shared→Prop)(s:Shared):Prop:=∀(i j:Nat) (C:Bool→Shared→Prop),i < N→j < N→C (lt i j) s→cmp i j C s
theorem nD(O:Ord N lt)(C:Cmp N lt cmp s)(P:Plc N p):∀(f n:Nat) (Q:Nat→Shared→Prop),1≤n→n+f=N→Asc lt p n→(∀m,n≤m→m≤N→Asc lt p m→(m < N→lt (at_ p m) (at_ p (m - 1))=true)→Q m s)→(kas_asc p f n).kasWp cmp Q s
 | 0,n,Q,h1,hn,ha,k=>k n (Nat.le_refl _) (by omega) ha (by omega)
 | f+1,n,Q,h1,hn,ha,k=>by
  refine C _ _ _ (P.bd (by omega)) (P.bd (by omega)) ?_
  cases e:lt (at_ p n) (at_ p (n - 1))with
  | true=>exact k n (Nat.le_refl _) (by omega) ha fun _=>e
  | false =>
   have hl:=O.tot _ _ (P.bd (by omega)) (P.bd (by omega)) (fun z=>by have:=P.inj (by omega) (by omega) z;omega) e
   exact nD O C P f (n+1) Q (by omega) (by omega) (ha.more O P h1 (by omega) hl) fun m hm=>k m (by omega)
theorem sj(O:Ord N lt)(C:Cmp N lt cmp s)(P:Plc N p):∀(f n:Nat) (Q:Array Nat×Nat×Nat→Shared→Prop),1≤n→n+f=N→Dsc lt p n→(∀m,n≤m→m≤N→Dsc lt p m→Q (p,m,0) s)→(kas_desc f p n 0).kasWp cmp Q s
 | 0,n,Q,h1,hn,ha,k=>k n (Nat.le_refl _) (by omega) ha
 | f+1,n,Q,h1,hn,ha,k=>by
  refine C _ _ _ (P.bd (by omega)) (P.bd (by omega)) ?_
  cases e:lt (at_ p n) (at_ p (n - 1))with
  | true=>exact sj O C P f (n+1) Q (by omega) (by omega) (ha.more O P h1 (by omega) e) fun m hm=>k m (by omega)
  | false =>
   have hl:=O.tot _ _ (P.bd (by omega)) (P.bd (by omega)) (fun z=>by have:=P.inj (by omega) (by omega) z;omega) e
   refine C _ _ _ (P.bd (by omega)) (P.bd (by omega)) ?_
   have e2:lt (p.getD (n - 1) 0) (p.getD n 0)=true:=hl
   rw[e2]
   exact k n (Nat.le_refl _) (by omega) ha
theorem sw(O:Ord N lt)(C:Cmp N lt cmp s)(P:Plc N p)(h2:2≤N)(Q:Nat×Array Nat→Shared→Prop)(k:∀m p',1≤m→m≤N→Plc N p'→Asc lt p' m→Q (m,p') s):(kas_count N p).kasWp cmp Q s:=by
 unfold kas_count
 rw[KasT.kasWp_bind]
 refine nD O C P (N - 1) 1 _ (Nat.le_refl _) (by omega) (fun a b _ hb=>by omega) fun n h1 hn ha hs=>?_
 by_cases e:n=N
 ·rw[if_pos (by simpa using e)]
  exact k n p h1 hn P ha
 ·rw[if_neg (by simpa using e)]
  by_cases hn1:n > 1
  ·rw[if_pos hn1]
   refine C _ _ _ (P.bd (by omega)) (P.bd (by omega)) ?_
   have e2:lt (p.getD 0 0) (p.getD (n - 1) 0)=true:=ha 0 (n - 1) (by omega) (by omega)
   rw[e2]
   exact k n p h1 hn P ha
  ·rw[if_neg hn1]
   obtain rfl:n=1:=by omega
   unfold kas_descPart
   rw[KasT.kasWp_bind]
   refine sj O C P (N - 2) 2 _ (by omega) (by omega) (fun a b hab hb=>?_) fun m hm1 hm2 hd=>?_
   ·obtain rfl:a=0:=by omega
    obtain rfl:b=1:=by omega
    exact hs (by omega)
   ·dsimp only
    rw[if_neg (Nat.lt_irrefl 0)]
    obtain⟨ha',P'⟩:=hd.rev P hm2
    unfold kas_tail3
    rw[KasT.kasWp_bind]
    exact nD O C P' (N - m) m _ (by omega) (by omega) ha' fun n' h1' hn' ha'' _=>k n' _ (by omega) hn' P' ha''
theorem iO(O:Ord N lt)(C:Cmp N lt cmp s)(P:Plc N p){k:Nat}(hk:k < N)(ha:Asc lt p k):∀(f l r:Nat) (Q:Nat→Shared→Prop),l≤r→r≤k→r - l≤f→(∀a,a < l→lt (at_ p a) (at_ p k)=true)→(∀a,r≤a→a < k→lt (at_ p k) (at_ p a)=true)→
  (∀m,m≤k→(∀a,a < m→lt (at_ p a) (at_ p k)=true)→(∀a,m≤a→a < k→lt (at_ p k) (at_ p a)=true)→Q m s)→(kas_place p k f l r).kasWp cmp Q s
 | 0,l,r,Q,h1,h2,h3,h4,h5,q=>by
  obtain rfl:l=r:=by omega
  exact q l h2 h4 h5
 | f+1,l,r,Q,h1,h2,h3,h4,h5,q=>by
  unfold kas_place
  by_cases e:l ≥ r
  ·rw[if_pos e]
   obtain rfl:l=r:=by omega
   exact q l h2 h4 h5
  ·rw[if_neg e]
   have hm:(l+r) / 2 < r:=by omega
   have hm2:l ≤(l+r) / 2:=by omega
   refine C _ _ _ (P.bd hk) (P.bd (by omega)) ?_
   cases e2:lt (at_ p k) (at_ p ((l+r) / 2))with
   | true =>
    refine iO O C P hk ha f l ((l+r) / 2) Q hm2 (by omega) (by omega) h4 (fun a h6 h7=>?_) q
    by_cases hae:a=(l+r) / 2
    ·rw[hae];exact e2
    ·exact O.tr _ _ _ (P.bd hk) (P.bd (by omega)) (P.bd (by omega)) e2 (ha _ a (by omega) h7)
   | false =>
    have hl:=O.tot _ _ (P.bd hk) (P.bd (by omega)) (fun z=>by have:=P.inj hk (by omega) z;omega) e2
    refine iO O C P hk ha f ((l+r) / 2+1) r Q (by omega) h2 (by omega) (fun a h6=>?_) h5 q
    by_cases hae:a=(l+r) / 2
    ·rw[hae];exact hl
    ·exact O.tr _ _ _ (P.bd (by omega)) (P.bd (by omega)) (P.bd hk) (ha a _ (by omega) (by omega)) hl
theorem sB(O:Ord N lt)(C:Cmp N lt cmp s):∀(f k:Nat) (p:Array Nat) (Q:Array Nat→Shared→Prop),Plc N p→Asc lt p k→k+f=N→(∀p',Plc N p'→Asc lt p' N→Q p' s)→(kas_bin f p k).kasWp cmp Q s
 | 0,k,p,Q,P,ha,hk,q=>q p P (by rw[← hk];exact ha)
 | f+1,k,p,Q,P,ha,hk,q=>by
  unfold kas_bin
  rw[KasT.kasWp_bind]
  refine iO O C P (by omega) ha k 0 k _ (Nat.zero_le _) (Nat.le_refl _) (by omega) (fun _ z=>absurd z (Nat.not_lt_zero _)) (fun a h1 h2=>by omega) fun m hm h1 h2=>?_
  have P':Plc N (bubble p k (k - m)):=⟨(Array.perm_iff_toList_perm.mp (bubble_perm _ _ _)).trans P.pm⟩
  have ix:=getElem?_bubble (xs:=p) (src:=k) (by rw[P.sz];omega) (k - m) (by omega)
  have g:∀i,i < k+1→at_ (bubble p k (k - m)) i=if i=m then at_ p k else if m < i then at_ p (i - 1)else at_ p i:=fun i hi=>by
   have e:=ix i
   rw[P'.get (by omega)]at e
   have hkm:k - (k - m)=m:=by omega
   rw[hkm]at e
   by_cases c1:i=m
   ·rw[if_pos c1]
    rw[if_pos c1,P.get (by omega)]at e
    exact Option.some.inj e
   ·rw[if_neg c1]at e ⊢
    by_cases c2:m < i
    ·rw[if_pos c2]
     rw[if_pos ⟨c2,by omega⟩,P.get (by omega)]at e
     exact Option.some.inj e
    ·rw[if_neg c2]
     rw[if_neg (fun z=>c2 z.1),P.get (by omega)]at e
     exact Option.some.inj e
  refine sB O C f (k+1) _ Q P' (fun a b hab hb=>?_) (by omega) q
  rw[g a (by omega),g b hb]
  by_cases a1:a=m
  ·rw[if_pos a1,if_neg (by omega),if_pos (by omega)]
   exact h2 (b - 1) (by omega) (by omega)
  ·rw[if_neg a1]
   by_cases a2:m < a
   ·rw[if_pos a2,if_neg (by omega),if_pos (by omega)]
    exact ha _ _ (by omega) (by omega)
   ·rw[if_neg a2]
    by_cases b1:b=m
    ·rw[if_pos b1];exact h1 a (by omega)
    ·rw[if_neg b1]
     by_cases b2:m < b
     ·rw[if_pos b2]
      by_cases hh:a=b - 1
      ·omega
      ·exact ha _ _ (by omega) (by omega)
     ·rw[if_neg b2]
      exact ha _ _ hab (by omega)
theorem tP(O:Ord N lt)(C:Cmp N lt cmp s)(h2:2≤N)(Q:Array Nat→Shared→Prop)(q:∀p,Plc N p→Asc lt p N→Q p s):(kas_sort N).kasWp cmp Q s:=by
 unfold kas_sort
 rw[KasT.kasWp_bind]
 refine sw O C (p:=List.toArray (List.range N)) ⟨by simp⟩ h2 _ fun m p' h1 hm P ha=>?_
 dsimp only
 by_cases e:m < N
 ·rw[if_pos e,Nat.max_eq_left h1]
  exact sB O C (N - m) m p' Q P ha (by omega) q
 ·rw[if_neg e]
  obtain rfl:m=N:=by omega
  exact q p' P ha
end
end PR
namespace PR
open PySem PySem.Spec L2 PyProof.Rows PySem.W
section
variable{prog:Program}{w:World}{A:Around}{E:Value→Shared→Prop}{s:Shared}
def iT(vs:List Value)(p:Array Nat):Array Value:=(p.toList.map fun i=>vs.getD i Value.none).toArray
theorem pd(N:Nat):Plc N (List.range N).toArray:=⟨by simp⟩
theorem gZ{vs:List Value}:iT vs (List.range vs.length).toArray=vs.toArray:=by
 unfold iT
 congr 1
 refine List.ext_getElem (by simp) fun i h1 h2=>?_
 simp[h2]
theorem pD{a:Addr}{vs:List Value}{n:Nat}{κ:SortKind}{lt:Nat→Nat→Bool}{P:PySem.Fin→Shared→Prop}(ho:s.heap.get? a=some (seqObj "list" vs.toArray n))(h64:vs.length < 64)
  (hK:2≤vs.length→∀s':Shared,(∀b o,b≠a→s.heap.get? b=some o→s'.heap.get? b=some o)→Ord vs.length lt∧(∀Q:SortKind→Shared→Prop,Q κ s'→wpAny (model prog w) A (keyKind' vs.toArray) Q E s')∧Cmp vs.length lt (kas_ask prog w A κ vs) s')
  (h:∀p,Plc vs.length p→Asc lt p vs.length→P (.done (.ret .none)) { s with heap:=sortedHeap s.heap a vs (iT vs p) }) :
  wpAny (model prog w) A (Builtin.«list.sort» ⟨[.ref a],[]⟩) P E s:=by
 have lo:=Heap.lt_size ho
 obtain⟨e1,g1⟩:∃e1,(s.heap.update a (Obj.mapSeq fun _=>#[])).get? a=some (seqObj "list" #[] e1):=⟨_,get?_update_seq ho (fun _=>#[])⟩
 have g6:(((s.heap.update a (Obj.mapSeq fun _=>#[])).push (seqObj "tuple" vs.toArray 0)).push (seqObj "list" #[] 0)).get? a=some (seqObj "list" #[] e1):=Heap.get?_push_of_some _ (Heap.get?_push_of_some _ g1)
 have kp:∀b o,b≠a→s.heap.get? b=some o→(((s.heap.update a (Obj.mapSeq fun _=>#[])).push (seqObj "tuple" vs.toArray 0)).push (seqObj "list" #[] 0)).get? b=some o:=fun b o hb q =>
  Heap.get?_push_of_some _ (Heap.get?_push_of_some _ ((Heap.get?_update_ne _ _ _ _ hb).trans q))
 rw[list_sort_plain]
 refine wpAny_bind (listItems_at ho rfl (wpAny_bind (listUpdate_at ho rfl (wpAny_bind (seqEpoch_at g1 rfl (wpAny_bind (wpAny_newTuple (wpAny_bind (wpAny_newList (wpAny_holding ?_))))))))))<;>try (simp only[List.size_toArray,sizeLine_eq];omega)
 show wpAny (model prog w) A _ P E { s with heap:=((s.heap.update a (Obj.mapSeq fun _=>#[])).push (seqObj "tuple" vs.toArray 0)).push (seqObj "list" #[] 0) }
 dsimp only
 by_cases h2:vs.toArray.size < 2
 ·have h2':vs.length < 2:=by simpa using h2
  rw[if_pos h2,if_pos h2]
  refine wpAny_bind (wpAny_pure ?_)
  rw[StateT.run_pure]
  refine wpAny_bind (wpAny_pure ?_)
  dsimp only
  have e3:(arrOf (SortSt.mk' general' (vs.toArray.zip vs.toArray) #[] 7 none)).map (·.2)=iT vs (List.range vs.length).toArray:=by
   rw[gZ]
   show(vs.toArray.zip vs.toArray).map (·.2)=vs.toArray
   match vs,h2' with
   | [],_=>simp
   | [v],_=>simp
  rw[e3]
  refine wpAny_bind (seqEpoch_at g6 rfl (wpAny_bind (listUpdate_at g6 rfl ?_ (Nat.zero_le _) (by rw[gZ];simp only[List.size_toArray,sizeLine_eq];omega))))
  simp only[bne_self_eq_false,Bool.false_eq_true,if_false]
  exact wpAny_pure (h _ (pd _) fun x y hxy hy=>by omega)
 ·have h2':2≤vs.length:=by simp at h2;omega
  rw[if_neg h2,if_neg h2]
  obtain⟨O,hk,C⟩:=hK h2' { s with heap:=((s.heap.update a (Obj.mapSeq fun _=>#[])).push (seqObj "tuple" vs.toArray 0)).push (seqObj "list" #[] 0) } kp
  refine wpAny_bind (hk _ ?_)
  refine wpAny_bind (wpAny_mono (kat_run (κ:=κ) (ks:=vs) (vs:=vs) (Q:=fun st' s'=>∃ p:Array Nat,arrOf st'=p.map (kas_item (vs.toArray.zip vs.toArray))∧failedOf st'=none∧Plc vs.length p∧Asc lt p vs.length∧s'=_) rfl h2' h64
   (fun p st' s' _ a2 a3 a4=>⟨p,a2,a3,a4⟩) (tP O C h2' _ fun p c1 c2=>⟨c1,c2,rfl⟩)) ?_ fun _ _ e=>e)
  rintro⟨⟨⟩,st'⟩ s' ⟨p,har,hf,c1,c2,rfl⟩
  dsimp only
  have e3:=kat_snds (ks:=vs) (vs:=vs) rfl har
  rw[e3]
  refine wpAny_bind (seqEpoch_at g6 rfl (wpAny_bind (listUpdate_at g6 rfl ?_ (Nat.zero_le _) (by
   rw[List.size_toArray,List.length_map,Array.length_toList,c1.sz,sizeLine_eq];omega))))
  rw[hf]
  simp only[bne_self_eq_false,Bool.false_eq_true,if_false]
  exact wpAny_pure (h _ c1 c2)
theorem mt{l:Addr}{vs:List Value}{κ:SortKind}{lt:Nat→Nat→Bool}{Q:Value→Shared→Prop}(hl:s.heap.IsList l vs.toArray)(h64:vs.length < 64)
  (hK:2≤vs.length→∀s':Shared,(∀b o,s.heap.get? b=some o→s'.heap.get? b=some o)→Ord vs.length lt∧(∀(E:Value→Shared→Prop) (Q:SortKind→Shared→Prop),Q κ s'→wpAny (model prog w) A.in1.in1 (keyKind' vs.toArray) Q E s')∧Cmp vs.length lt (kas_ask prog w A.in1.in1 κ vs) s')
  (h:∀p,Plc vs.length p→Asc lt p vs.length→Q (.ref (s.heap.objs.size+1)) { s with heap:=sortedAll s.heap vs (iT vs p) }) :
  wpAny (model prog w) A (call (.builtin "sorted") [.ref l]) Q E s:=by
 refine Calls.call_function_entry kind_sorted plain_sorted entry_sorted (args_sorted1 _) ?_
 unfold Builtin.«sorted»
 have sz:((s.heap.push (seqObj "list" #[] 0)).update s.heap.objs.size (Obj.mapSeq (·++vs.toArray))).objs.size=s.heap.objs.size+1:=(Heap.size_update _ _ _).trans (size_push' _ _)
 refine wpAny_bind (m:=checkCount "sorted" 1 1 _) (wpAny_pure (wpAny_bind (collect_list hl (wpAny_bind (wpAny_newList ?_ (by rw[sizeLine_eq];omega))) (by rw[sizeLine_eq];omega))))
 have g:(((s.heap.push (seqObj "list" #[] 0)).update s.heap.objs.size (Obj.mapSeq (·++vs.toArray))).push (seqObj "list" vs.toArray 0)).get? (s.heap.objs.size+1)=some (seqObj "list" vs.toArray 0):=sz▸Heap.get?_push_size _ rfl
 have kp:∀b o,s.heap.get? b=some o→(((s.heap.push (seqObj "list" #[] 0)).update s.heap.objs.size (Obj.mapSeq (·++vs.toArray))).push (seqObj "list" vs.toArray 0)).get? b=some o:=fun b o q =>
  Heap.get?_push_of_some _ ((Heap.get?_update_ne _ _ _ _ (Nat.ne_of_lt (Heap.lt_size q))).trans (Heap.get?_push_of_some _ q))
 show wpAny _ _ _ _ _ { s with heap:=((s.heap.push (seqObj "list" #[] 0)).update s.heap.objs.size (Obj.mapSeq (·++vs.toArray))).push (seqObj "list" vs.toArray 0) }
 rw[sz]
 refine wpAny_bind (wpAny_holding (wpAny_call_entry slot_list_sort ⟨_,g,rfl⟩ entry_list_sort ?body (args_list_sort _)))
 refine pD (κ:=κ) (lt:=lt) g h64 (fun h2 s' k'=>?_) fun p c1 c2=>⟨_,rfl,wpAny_pure ⟨_,rfl,h p c1 c2⟩⟩
 obtain⟨O,hk,C⟩:=hK h2 s' fun b o q=>k' b o (Nat.ne_of_lt (Nat.lt_succ_of_lt (Heap.lt_size q))) (kp b o q)
 exact⟨O,fun Q q=>hk _ Q q,C⟩
def cS(x y:Int×Int):Bool:=decide (x.1 < y.1) ||(x.1==y.1&&decide (x.2 < y.2))
theorem fu{x y z:Int×Int}(h1:cS x y=true)(h2:cS y z=true):cS x z=true:=by
 simp only[cS,Bool.or_eq_true,Bool.and_eq_true,decide_eq_true_eq,beq_iff_eq]at *
 omega
theorem lh(x:Int×Int):cS x x=false:=by simp[cS]
theorem lf{x y:Int×Int}(h:x≠y):cS x y=true∨cS y x=true:=by
 obtain⟨a,b⟩:=x
 obtain⟨c,d⟩:=y
 have:a≠c∨b≠d:=by
  by_cases e:a=c
  ·right;intro e2;exact h (by rw[e,e2])
  ·exact .inl e
 simp only[cS,Bool.or_eq_true,Bool.and_eq_true,decide_eq_true_eq,beq_iff_eq]
 omega
def bP(h:Heap):List Value→List (Int×Int)→Prop
 | [],[]=>True
 | v::vs,x::ps=>(∃a o n t u,v=.ref a∧h.get? a=some o∧o.cls=.type "tuple" ∧ o.data=.seq #[.int x.1 t,.int x.2 u] n)∧bP h vs ps
 | _,_=>False
theorem bP.len{h:Heap}:∀{vs:List Value}{ps:List (Int×Int)},bP h vs ps→vs.length=ps.length
 | [],[],_=>rfl
 | _::_,_::_,q=>by simp[q.2.len]
theorem bP.kept{h h':Heap}(k:∀b o,h.get? b=some o→h'.get? b=some o):∀{vs:List Value}{ps:List (Int×Int)},bP h vs ps→bP h' vs ps
 | [],[],_=>trivial
 | _::_,_::_,⟨⟨a,o,n,t,u,e1,e2,e3⟩,q⟩=>⟨⟨a,o,n,t,u,e1,k _ _ e2,e3⟩,q.kept k⟩
theorem bP.at{h:Heap}:∀{vs:List Value}{ps:List (Int×Int)},bP h vs ps→∀i,i < ps.length→∃a o n t u,vs.getD i Value.none=.ref a∧h.get? a=some o∧o.data=.seq #[.int (ps.getD i (0,0)).1 t,.int (ps.getD i (0,0)).2 u] n
 | _::_,_::_,⟨⟨a,o,n,t,u,e1,e2,e3⟩,q⟩,0,_=>⟨a,o,n,t,u,by simp[e1],e2,by simpa using e3.2⟩
 | v::vs,x::ps,⟨_,q⟩,i+1,hi=>by
  have:=q.at i (by simpa using hi)
  simpa using this
 | [],[],_,i,hi=>by simp at hi
theorem bP.firsts{h:Heap}:∀{vs:List Value}{ps:List (Int×Int)},bP h vs ps→∃fs,KatTups h vs fs∧fs.length=ps.length∧∀v∈fs,∃i t,v=.int i t
 | [],[],_=>⟨[],.nil,rfl,fun v hv=>by cases hv⟩
 | _::_,_::_,⟨⟨a,o,n,t,u,e1,e2,e3,e4⟩,q⟩=>by
  obtain⟨fs,h1,h2,h3⟩:=q.firsts
  subst e1
  refine⟨_::fs,.cons e2 e3 e4 rfl h1,by simp[h2],fun v hv=>?_⟩
  rcases List.mem_cons.mp hv with rfl | hv
  ·exact⟨_,_,rfl⟩
  ·exact h3 v hv
theorem pf{ps:List (Int×Int)}(hd:ps.Nodup):Ord ps.length (fun i j=>cS (ps.getD i (0,0)) (ps.getD j (0,0))):=by
 refine⟨fun i j k _ _ _ h1 h2=>fu h1 h2,fun i j hi hj hn h=>?_,fun i _=>lh _⟩
 have:ps.getD i (0,0)≠ ps.getD j (0,0):=by
  simp only[List.getD_eq_getElem?_getD,List.getElem?_eq_getElem hi,List.getElem?_eq_getElem hj,Option.getD_some]
  exact fun e=>hn ((List.getElem_inj hd).mp e)
 rcases lf this with q | q
 ·rw[q]at h;cases h
 ·exact q
theorem jM{b:Bool}{x y:Int}{t u:Tok}{Q:Bool→Shared→Prop}(h:Q (decide (x < y)) s):wpAny (model prog w) A (oneLt' b (.int x t) (.int y u)) Q E s:=by
 cases b with
 | true=>exact oneLt_int h
 | false=>exact kat_one _ _ (wpAny_lt_int h)
theorem ph{vs:List Value}{ps:List (Int×Int)}(hp:bP s.heap vs ps):Cmp vs.length (fun i j=>cS (ps.getD i (0,0)) (ps.getD j (0,0))) (kas_ask prog w A (tuples' true) vs) s:=by
 intro i j C hi hj q
 rw[hp.len]at hi hj
 obtain⟨a,o,n,t,u,e1,e2,e3⟩:=hp.at i hi
 obtain⟨a',o',n',t',u',e1',e2',e3'⟩:=hp.at j hj
 unfold kas_ask
 rw[e1,e1']
 dsimp only at q
 generalize ps.getD i (0,0)=x at *
 generalize ps.getD j (0,0)=y at *
 refine kat_lt e2 e3 e2' e3' (kat_cons (wpAny_eqBool_int (kat_go (fun h1=>kat_yes (kat_cons (wpAny_eqBool_int (kat_go (fun h2=>kat_yes (kat_nil ?_)) fun h2=>kat_no (jM ?_))))) fun h1=>kat_no (jM ?_))))
 ·simp only[beq_iff_eq]at h1 h2
  have:cS x y=false:=by simp[cS,h1,h2]
  rw[this]at q
  exact q
 ·simp only[beq_iff_eq]at h1
  have:cS x y=decide (x.2 < y.2):=by simp[cS,h1]
  rw[this]at q
  exact q
 ·have:cS x y=decide (x.1 < y.1):=by simp[cS,h1]
  rw[this]at q
  exact q
theorem mM{vs:List Value}{ps:List (Int×Int)}(hp:bP s.heap vs ps)(h2:2≤vs.length){Q:SortKind→Shared→Prop}(q:Q (tuples' true) s):wpAny (model prog w) A (keyKind' vs.toArray) Q E s:=by
 obtain⟨fs,h1,hl,hi⟩:=hp.firsts
 refine kat_kind (T:=.type "int") h1 (by rw[hl,← hp.len];omega) (fun v hv=>?_) rfl q
 obtain⟨i,t,rfl⟩:=hi v hv
 exact Looks.of_pure rfl
theorem j9{l:Addr}{vs:List Value}{ps:List (Int×Int)}{Q:Value→Shared→Prop}(hl:s.heap.IsList l vs.toArray)(h64:vs.length < 64)(hp:bP s.heap vs ps)(hd:ps.Nodup)
  (h:∀p,Plc vs.length p→Asc (fun i j=>cS (ps.getD i (0,0)) (ps.getD j (0,0))) p vs.length→Q (.ref (s.heap.objs.size+1)) { s with heap:=sortedAll s.heap vs (iT vs p) }) :
  wpAny (model prog w) A (call (.builtin "sorted") [.ref l]) Q E s :=
 mt hl h64 (fun h2 s' k=>⟨hp.len▸pf hd,fun E Q q=>mM (hp.kept k) h2 q,ph (hp.kept k)⟩) h
end
end PR
namespace PR
open PySem PySem.Spec L2 PyProof.Rows
def m6(x:Int):List Int→List Int
 | []=>[x]
 | y::l=>if x≤y then x::y::l else y::m6 x l
def iC:List Int→List Int
 | []=>[]
 | x::l=>m6 x (iC l)
theorem gR(x:Int):∀l,(m6 x l).Perm (x::l)
 | []=>.refl _
 | y::l=>by
  unfold m6
  split
  ·exact .refl _
  ·exact((gR x l).cons y).trans (.swap x y l)
theorem fq:∀l,(iC l).Perm l
 | []=>.refl _
 | x::l=>(gR x _).trans ((fq l).cons x)
theorem lM(x:Int):∀{l:List Int},l.Pairwise (·≤·)→(m6 x l).Pairwise (·≤·)
 | [],_=>by simp[m6]
 | y::l,h=>by
  obtain⟨h1,h2⟩:=List.pairwise_cons.mp h
  unfold m6
  split
  ·refine List.pairwise_cons.mpr ⟨fun z hz=>?_,h⟩
   rcases List.mem_cons.mp hz with rfl | hz
   ·assumption
   ·have:=h1 z hz;omega
  ·refine List.pairwise_cons.mpr ⟨fun z hz=>?_,lM x h2⟩
   rcases List.mem_cons.mp ((gR x l).mem_iff.mp hz)with rfl | hz
   ·omega
   ·exact h1 z hz
theorem jE:∀l,(iC l).Pairwise (·≤·)
 | []=>.nil
 | x::l=>lM x (jE l)
theorem my{l l':List Int}(h1:l'.Perm l)(h2:l'.Pairwise (·≤·)):l'=iC l :=
 List.Perm.eq_of_pairwise (fun a b _ _ x y=>Int.le_antisymm x y) h2 (jE l) (h1.trans (fq l).symm)
def m4(x:Int×Int):List (Int×Int)→List (Int×Int)
 | []=>[x]
 | y::l=>if cS x y then x::y::l else y::m4 x l
def gY:List (Int×Int)→List (Int×Int)
 | []=>[]
 | x::l=>m4 x (gY l)
theorem gQ(x:Int×Int):∀l,(m4 x l).Perm (x::l)
 | []=>.refl _
 | y::l=>by
  unfold m4
  split
  ·exact .refl _
  ·exact((gQ x l).cons y).trans (.swap x y l)
theorem fm:∀l,(gY l).Perm l
 | []=>.refl _
 | x::l=>(gQ x _).trans ((fm l).cons x)
theorem lL(x:Int×Int):∀{l:List (Int×Int)},x∉l→l.Pairwise (fun a b=>cS a b=true)→(m4 x l).Pairwise (fun a b=>cS a b=true)
 | [],_,_=>by simp[m4]
 | y::l,hn,h=>by
  obtain⟨h1,h2⟩:=List.pairwise_cons.mp h
  unfold m4
  split
  ·refine List.pairwise_cons.mpr ⟨fun z hz=>?_,h⟩
   rcases List.mem_cons.mp hz with rfl | hz
   ·assumption
   ·exact fu ‹_› (h1 z hz)
  ·refine List.pairwise_cons.mpr ⟨fun z hz=>?_,lL x (fun z=>hn (List.mem_cons_of_mem _ z)) h2⟩
   rcases List.mem_cons.mp ((gQ x l).mem_iff.mp hz)with rfl | hz
   ·rcases lf (x:=y) (y:=z) (fun e=>hn (e▸List.mem_cons_self))with q | q
    ·exact q
    ·contradiction
   ·exact h1 z hz
theorem jD:∀{l:List (Int×Int)},l.Nodup→(gY l).Pairwise (fun a b=>cS a b=true)
 | [],_=>.nil
 | x::l,h=>by
  obtain⟨h1,h2⟩:=List.nodup_cons.mp h
  exact lL x (fun z=>h1 ((fm l).mem_iff.mp z)) (jD h2)
theorem mw{l l':List (Int×Int)}(hd:l.Nodup)(h1:l'.Perm l)(h2:l'.Pairwise (fun a b=>cS a b=true)):l'=gY l :=
 List.Perm.eq_of_pairwise (fun a b _ _ x y=>by
  have:=fu x y
  rw[lh]at this;cases this) h2 (jD hd) (h1.trans (fm l).symm)
theorem o9{α:Type}(l:List α)(d:α):(List.range l.length).map (fun i=>l.getD i d)=l:=by
 refine List.ext_getElem (by simp) fun i h1 h2=>?_
 simp[h2]
theorem pb{ps:List (Int×Int)}{p:Array Nat}(hd:ps.Nodup)(P:Plc ps.length p)(a:Asc (fun i j=>cS (ps.getD i (0,0)) (ps.getD j (0,0))) p ps.length):p.toList.map (fun i=>ps.getD i (0,0))=gY ps:=by
 refine mw hd (by have:=P.pm.map (fun i=>ps.getD i (0,0));rwa [o9]at this) ?_
 refine List.pairwise_iff_getElem.mpr fun i j hi hj hij=>?_
 have hs:=P.sz
 have hi':i < p.size:=by simpa using hi
 have hj':j < p.size:=by simpa using hj
 have:=a i j hij (by omega)
 simpa[at_,Array.getD,hi',hj']using this
def PrH(K:PySem.W.Frag)(H:Hp):List V→List (Int×Int)→Prop
 | [],[]=>True
 | v::vs,x::ps=>(∃a,v=.ref a∧SqT K H a [.int x.1,.int x.2])∧PrH K H vs ps
 | _,_=>False
theorem PrH.len{K:PySem.W.Frag}{H:Hp}:∀{vs:List V}{ps:List (Int×Int)},PrH K H vs ps→vs.length=ps.length
 | [],[],_=>rfl
 | _::_,_::_,q=>by simp[q.2.len]
section
variable{X:Cx}{T:Tb}{W:Nat→L2.St→Hp→Prop}{Z:Zn}{F F1 B L:Addr→Prop}{H H1:Hp}{σ:L2.St}{env:En}{fp:Nat→List Addr}{pins:List (Addr×Obj)}{s:Shared}
theorem PrH.at(I:L2.Inv X pins σ H s):∀{vs:List V}{its:List Value}{ps:List (Int×Int)},PrH X.K H vs ps→aC vs its→bP s.heap its ps
 | [],_,[],_,r=>by cases r;trivial
 | _::_,_,_::_,⟨⟨a,e,h⟩,q⟩,r=>by
  cases r with
  | cons h1 h2 =>
   subst e
   cases h1
   refine⟨?_,q.at I h2⟩
   obtain⟨its,r,pl,_⟩:=I.tuple h
   obtain⟨u,r2,rfl,⟨t,rfl⟩,r3⟩:∃u r2,its=u::r2∧aY _ u∧aC _ r2:=by cases r with | cons a b=>exact⟨_,_,rfl,a,b⟩
   obtain⟨u',rfl,⟨t',rfl⟩⟩:=eE r3
   obtain⟨o,ho,hcl,n,hd⟩:=pl
   exact⟨a,o,n,t,t',rfl,ho,hcl,hd⟩
theorem p8{vs:List V}{its:List Value}(r:aC vs its)(q:List Nat)(hq:∀i∈q,i < vs.length):aC (q.map fun i=>vs.getD i .non) (q.map fun i=>its.getD i Value.none):=by
 induction q with
 | nil=>exact .nil
 | cons i q ih =>
  refine .cons ?_ (ih fun j hj=>hq j (List.mem_cons_of_mem _ hj))
  have hi:=hq i List.mem_cons_self
  have:∀{vs:List V}{its:List Value}{i:Nat},aC vs its→i < vs.length→aY (vs.getD i .non) (its.getD i Value.none):=by
   intro vs its i r
   induction r generalizing i with
   | nil=>intro h;simp at h
   | cons a b ih =>
    intro h
    cases i with
    | zero=>simpa using a
    | succ i=>simpa using ih (by simpa using h)
  exact this r hi
theorem kr:∀{ns:List Int}{its:List Value},PyProof.Rows.IntsAre its ns→aC (ns.map V.int) its:=by
 intro ns its h
 induction h with
 | nil=>exact .nil
 | cons=>exact .cons ⟨_,rfl⟩ ‹_›
theorem lZ:cP X (.builtin "sorted") (fun xs H Q=>∃ p ys,xs=[.ref p]∧SqL X.K H p ys∧ys.length < 64 ∧
    ((∃ ns,ys=ns.map V.int∧∀ l,H l=none→Q (.ref l) (upd H l (.lst ((iC ns).map V.int)))) ∨
     (∃ps,PrH X.K H ys ps∧ps.Nodup∧∀l (q:List Nat),H l=none→q.Perm (List.range ys.length)→q.map (fun i=>ps.getD i (0,0))=gY ps→Q (.ref l) (upd H l (.lst (q.map fun i=>ys.getD i .non)))))):=by
  intro pins s σ H xs us Q I rv h
  obtain⟨p,ys,rfl,hq,h64,h⟩:=h
  obtain⟨u,rfl,rx⟩:=eE rv
  cases rx
  obtain⟨its,r,pl,hz⟩:=I.list hq
  have hlen:=r.length
  have hfr:=I.hok.fresh (Nat.le_succ s.heap.objs.size)
  rcases h with⟨ns,rfl,q⟩ |⟨ps,hp,hd,q⟩
  · refine sorted_ints pl.isList (dS r) (by omega) fun out ns' a1 a2 a3=>?_
    obtain⟨c,hc⟩:=sortedAll_at s.heap its out
    have e:=my a2 a3
    subst e
    refine⟨.ref (s.heap.objs.size+1),_,I.laid (fun b o=>sortedAll_old) (Nat.le_succ _) ?_,rfl,q _ hfr⟩
    refine⟨?_,out.toList,c,kr a1,by simpa using hc⟩
    rw[sizeLine_eq];simp[(fq ns).length_eq]at h64 ⊢;omega
  · refine j9 pl.isList (by omega) (hp.at I r) hd fun p P a=>?_
    obtain⟨c,hc⟩:=sortedAll_at s.heap its (iT its p)
    have hl:=hp.len
    have pm:p.toList.Perm (List.range ys.length):=by rw[hlen];exact P.pm
    refine⟨.ref (s.heap.objs.size+1),_,I.laid (fun b o=>sortedAll_old) (Nat.le_succ _) ?_,rfl,q _ p.toList hfr pm (pb hd (by rw[← hl,hlen];exact P) (by rw[← hl,hlen];exact a))⟩
    refine⟨?_,_,c,p8 r p.toList (fun i hi=>by simpa using pm.mem_iff.mp hi),hc⟩
    rw[sizeLine_eq];simp[P.sz,← hlen];omega
end
end PR
namespace PR
open PySem PySem.Spec L2
def prV(x:Int×Int):PV:=.tup [.int x.1,.int x.2]
def iR:PV→Option (Int×Int)
 | .tup [.int a,.int b]=>some (a,b)
 | _=>none
def eO:List PV→Option (List (Int×Int))
 | []=>some []
 | x::xs=>match iR x,eO xs with
  | some y,some ys=>some (y::ys)
  | _,_=>none
def fU:PV→Res PV
 | .lst _ xs=>if decide (xs.length < 64) then (match bC xs with
  | some ns=>.ok (.lst .own ((iC ns).map .int))
  | none=>match eO xs with
   | some ps=>if decide ps.Nodup then .ok (.lst .own ((gY ps).map prV))else .stuck
   | none=>.stuck)else .stuck
 | _=>.stuck
section
variable{X:Cx}{T:Tb}{W:Nat→St→Hp→Prop}{Z:Zn}{F F1 B L:Addr→Prop}{H H1:Hp}{σ:St}{env:En}{fp:Nat→List Addr}
theorem pj{x:PV}{y:Int×Int}(e:iR x=some y):x=prV y:=by
 unfold iR at e
 split at e
 ·cases e;rfl
 ·cases e
theorem iQ:∀{xs:List PV}{vs:List V}{f:List Addr}{ps:List (Int×Int)},eO xs=some ps→RelL T F B L H xs vs f→PrH T.K H vs ps∧f=[]
 | [],_,_,_,e,r=>by cases e;unfold RelL at r;obtain⟨rfl,rfl⟩:=r;exact⟨trivial,rfl⟩
 | x::xs,_,_,ps,e,r=>by
  unfold RelL at r
  obtain⟨v,ws,f1,f2,rfl,h1,h2,rfl⟩:=r
  unfold eO at e
  cases e1:iR x with
  | none=>rw[e1]at e;cases e
  | some y =>
   cases e2:eO xs with
   | none=>rw[e1,e2]at e;cases e
   | some ys =>
    rw[e1,e2]at e
    cases e
    obtain⟨q,rfl⟩:=iQ e2 h2
    have:=pj e1
    subst this
    unfold prV Rel at h1
    obtain⟨a,us,rfl,hs,hr⟩:=h1
    unfold RelL at hr
    obtain⟨v1,w1,g1,g2,rfl,k1,k2,rfl⟩:=hr
    obtain⟨v2,rfl,k3⟩:=RelL.one k2
    unfold Rel at k1 k3
    obtain⟨rfl,rfl⟩:=k1
    obtain⟨rfl,rfl⟩:=k3
    exact⟨⟨⟨a,rfl,hs⟩,q⟩,rfl⟩
theorem PrH.rel:∀{vs:List V}{ps:List (Int×Int)},PrH T.K H vs ps→RelL T F B L H (ps.map prV) vs []
 | [],[],_=>fh _ _ _ _
 | _::_,x::ps,⟨⟨a,e,h⟩,q⟩=>by
  subst e
  rw[List.map_cons]
  unfold RelL
  refine⟨_,_,[],[],rfl,?_,q.rel,rfl⟩
  unfold prV Rel
  refine⟨a,_,rfl,h,?_⟩
  unfold RelL
  refine⟨_,_,[],[],rfl,d0,?_,rfl⟩
  unfold RelL
  exact⟨_,_,[],[],rfl,d0,fh _ _ _ _,rfl⟩
theorem PrH.get{K:PySem.W.Frag}:∀{vs:List V}{ps:List (Int×Int)},PrH K H vs ps→∀i,i < vs.length→∃a,vs.getD i .non=.ref a∧SqT K H a [.int (ps.getD i (0,0)).1,.int (ps.getD i (0,0)).2]
 | _::_,_::_,⟨h,q⟩,0,_=>by simpa using h
 | _::_,_::_,⟨_,q⟩,i+1,hi=>by simpa using q.get i (by simpa using hi)
 | [],[],_,_,hi=>by simp at hi
theorem PrH.map{K:PySem.W.Frag}{vs:List V}{ps:List (Int×Int)}(h:PrH K H vs ps)(q:List Nat)(hq:∀i∈q,i < vs.length):PrH K H (q.map fun i=>vs.getD i .non) (q.map fun i=>ps.getD i (0,0)):=by
 induction q with
 | nil=>trivial
 | cons i q ih=>exact⟨h.get i (hq i List.mem_cons_self),ih fun j hj=>hq j (List.mem_cons_of_mem _ hj)⟩
theorem nX(ns:List Int):RelL T F B L H (ns.map PV.int) (ns.map V.int) []:=by
 induction ns with
 | nil=>exact fh _ _ _ _
 | cons a l ih =>
  rw[List.map_cons,List.map_cons]
  unfold RelL
  exact⟨_,_,[],[],rfl,d0,ih,rfl⟩
theorem RelL.len2:∀{xs:List PV}{vs:List V}{f:List Addr},RelL T F B L H xs vs f→xs.length=vs.length
 | [],_,_,r=>by unfold RelL at r;rw[r.1];rfl
 | x::xs,_,_,r=>by
  unfold RelL at r
  obtain⟨v,ws,f1,f2,rfl,_,h2,_⟩:=r
  simp[h2.len2]
theorem mQ(hK:X.K=T.K):Mir T W (p1 fU) (fun xs H Q=>∃ p ys,xs=[.ref p]∧SqL X.K H p ys∧ys.length < 64 ∧
    ((∃ ns,ys=ns.map V.int∧∀ l,H l=none→Q (.ref l) (upd H l (.lst ((iC ns).map V.int)))) ∨
     (∃ps,PrH X.K H ys ps∧ps.Nodup∧∀l (q:List Nat),H l=none→q.Perm (List.range ys.length)→q.map (fun i=>ps.getD i (0,0))=gY ps→Q (.ref l) (upd H l (.lst (q.map fun i=>ys.getD i .non)))))):=by
  intro B F L σ H Q F' H' xs vs fx g r nf nd new q
  match xs,r,q with
  | [x],r,q =>
    obtain⟨v,rfl,r1⟩:=r.one
    simp only[p1]at q
    cases x with
    | lst f xs =>
      unfold Rel at r1
      obtain⟨a,ws,fp',rfl,hl,hr,_⟩:=r1
      simp only[fU]at q
      by_cases hn:decide (xs.length < 64)=true
      · rw[if_pos hn]at q
        refine⟨a,ws,rfl,by rw[hK];exact hl.sq,by rw[← hr.len2];exact of_decide_eq_true hn,?_⟩
        cases e1:bC xs with
        | some ns =>
          rw[e1]at q
          dsimp only at q
          exact .inl ⟨ns,db e1 hr,GE.newL q g (nX _) (fun _ h=>by cases h) .nil (fun _ h=>by cases h)⟩
        | none =>
          rw[e1]at q
          dsimp only at q
          cases e2:eO xs with
          | none=>rw[e2]at q;exact q.elim
          | some ps =>
            rw[e2]at q
            dsimp only at q
            by_cases hd:decide ps.Nodup=true
            · rw[if_pos hd]at q
              obtain⟨hp,rfl⟩:=iQ e2 hr
              refine .inr ⟨ps,by rw[hK];exact hp,of_decide_eq_true hd,fun l q' hl' pm e=>?_⟩
              have h2:=hp.map q' fun i hi=>by simpa using pm.mem_iff.mp hi
              rw[e]at h2
              exact GE.newL q g h2.rel (fun _ h=>by cases h) .nil (fun _ h=>by cases h) l hl'
            · rw[if_neg hd]at q;exact q.elim
      · rw[if_neg hn]at q;exact q.elim
    | _=>exact q.elim
  | [],_,q=>exact q.elim
  | _::_::_,_,q=>simp only[p1]at q;exact q.elim
theorem pX:bootBuiltins "sorted" = some (.builtin "sorted"):=by decide +kernel
theorem jG{p pos:Pos}{e:Expr}{m:ME}(hK:X.K=T.K)(hg:Gl X "sorted")(hm:X.mg "sorted" = none)(ha:SE X T W e m)(he:starEach [e] X.env=[(false,eval e X.env)]:=by rfl):SE X T W (.Call (.Name "sorted" p) [e] [] pos) (ao (p1 fU) (ad m ai)) :=
 dL lZ (mQ hK) hg hm pX (aa ha ag (by rw[he];rfl)) (he:=by rw[he];rfl) (hpl:=rfl)
end
end PR
namespace PR
open PySem PySem.Spec L2
def vW:Out→Out
 | .exc _ _=>.stuck
 | o=>o
def om(mb:MS)(hit:Nat→Bool)(mh mo:MS):MS:=fun env=>match mb env with
 | .exc c e=>if hit c then vW (mh e)else .stuck
 | .next e=>mo e
 | o=>o
section
variable{X:Cx}{T:Tb}{W:Nat→St→Hp→Prop}{Z:Zn}{F:Addr→Prop}{H:Hp}{σ:St}{env:En}{fp:Nat→List Addr}
theorem tJ{body suite orelse:List Stmt}{b₀:Stmt}{cn:Str}{k:Nat}{mb mh mo:MS}{hit:Nat→Bool}{CC:Addr}{pc hp pos:Pos}(cx:Ctx X T W k)
  (hst:X.stack=X.env::X.outer) (hfr:X.env.frame=some X.env.locals)
  (hg:Gl X cn) (hm:X.mg cn=some (.ref CC)) (hhit:∀c,hit c=true→PySem.W.exmOne T.K (.ref (T.xcl c)) (.ref CC)=some true)
  (hb:∀E pn Wb,Ctx (X.tryX E pn) T Wb k→SSs (X.tryX E pn) T Wb body mb) (hs:∀e,SSs (X.hanX e) T WF (b₀::suite) mh) (ho:SSs X T W orelse mo) (hd:(cn ==("__debug__" : Str))=false:=by decide) :
  SS X T W (.Try body [.ExceptHandler (some (.Name cn pc)) none (b₀::suite) hp] orelse [] pos) (om mb hit mh mo):=by
 intro pins s σ H D I h
 obtain⟨Z,F,env,fp,S,q⟩:=h
 unfold om at q
 refine wpAny_Try_except ?_
 generalize hEb:(fun (e:Value) (s₁:Shared)=>wpAny (model X.prog X.w) X.A (noteFrame e X.env) (fun _ s₂=>wpAny (model X.prog X.w) X.A (setFlight e none) (fun _ s₃ =>
  wpAny (model X.prog X.w) X.A (handleBy e X.env [.ExceptHandler (some (.Name cn pc)) none (b₀::suite) hp]) (SP X pins D) X.xe s₃) X.xe s₂) X.xe s₁)=Eb
 have po:PassesOwn (model X.prog X.w) X.A X.env Eb:=by rw[← hEb];exact PassesOwn.looking
 have ctx:Ctx (X.tryX Eb (X.pn++pins)) T (fun c σ' H'=>∃Z F env fp,ap T Z F H' σ' env fp∧hit c=true∧GS T W Z D (vW (mh env))) k:=by
  refine⟨cx.hK,cx.calm,cx.room,?_,po⟩
  intro pins' σ1 H1 s1 c H2 e s2 I1 fl hW
  have I1:=I1.untry
  obtain⟨Z,F,env,fp,S,hh,q⟩:=hW
  obtain⟨x,a0,Bh,rfl,f0,tr,ol⟩:=fl.fly
  show Eb (.ref x) s2
  rw[← hEb]
  have f0':=f0
  rw[show(X.tryX Eb (X.pn++pins)).stack=X.env::X.outer from hst]at f0'
  refine wpAny_looks_onW (hst▸I1.ok.frames) hfr f0' fun h4 held4 up4=>wpAny_landsW held4 fun h5 f5 up5=>?_
  have f5':Heap.FlyingW Bh X.stack x (.ref (T.xcl c)) a0 h5:=by rw[hst];exact f5
  obtain⟨I5,nx,_⟩:=ir (g:=s2.gens) (d:=s2.drawn) (t:=s2.toks) I1 fl f0 tr ol f5' (up4.trans up5) fl.bare
  refine wpAny_handleBy_cons (codeAny_handlers_test ?_) (by intro z;cases z)
  refine dD (X:=X.hanX (.ref x)) (pins:=pins) (I:=I5.hanX) hg hm ?_ hd
  obtain⟨o5,ho5,hc5⟩:=f5.there
  have lt:PySem.W.Looks (model X.prog X.w) h5 (typeOf (.ref x)) (.ref (T.xcl c)):=hc5 ▸(PySem.W.Looks.ld ho5).andThen .now
  have kin:T.K.In h5:=by rw[← cx.hK];exact I5.kIn
  refine(PySem.W.exm_one kin lt (hhit c hh)).at ?_
  refine codeAny_handlers_suite ?_
  refine PyProof.Rows.lands_againW f5 fun h6 f6 up6=>?_
  have f6':Heap.FlyingW Bh X.stack x (.ref (T.xcl c)) a0 h6:=by rw[hst];exact f6
  obtain⟨I6,_,_⟩:=ir (g:=s2.gens) (d:=s2.drawn) (t:=s2.toks) I1 fl f0 tr ol f6' ((up4.trans up5).trans up6) fl.bare
  refine wpAny_mono (hs (.ref x) pins _ _ _ D I6.hanX ⟨Z,F,_,_,S.grow (Gr.same S.hp.ft (Ext.upd nx)),?_⟩) (fun f s8 h8=>?_) fun _ _ z=>z.elim
  ·cases e:mh env with
   | next e'=>rw[e]at q;exact q
   | brk e'=>rw[e]at q;exact q
   | cont e'=>rw[e]at q;exact q
   | ret v=>rw[e]at q;exact q
   | exc c' e'=>rw[e]at q;exact q.elim
   | stuck=>rw[e]at q;exact q.elim
  ·cases f with
   | next=>obtain⟨σ',H',I8,q8⟩:=h8;exact⟨σ',H',I8.unhan I.ok,q8⟩
   | brk=>obtain⟨σ',H',I8,q8⟩:=h8;exact⟨σ',H',I8.unhan I.ok,q8⟩
   | cont=>obtain⟨σ',H',I8,q8⟩:=h8;exact⟨σ',H',I8.unhan I.ok,q8⟩
   | ret u=>obtain⟨v,σ',H',I8,r8,q8⟩:=h8;exact⟨v,σ',H',I8.unhan I.ok,r8,q8⟩
 have r:=hb Eb (X.pn ++ pins) _ ctx [] s σ H ⟨fun σ' H'=>tS T W mo D σ' H',D.rt,D.bk,D.ct⟩ I.tryX ⟨Z,F,env,fp,S,by
  cases e:mb env with
  | next e'=>rw[e]at q;exact fun F' H' σ' fp' S'=>⟨Z,F',e',fp',S',q⟩
  | brk e'=>rw[e]at q;exact q
  | cont e'=>rw[e]at q;exact q
  | ret v=>rw[e]at q;exact q
  | exc c e' =>
   rw[e]at q
   dsimp only at q
   intro F' H' σ' fp' S'
   by_cases hh:hit c=true
   ·rw[if_pos hh]at q;exact⟨Z,F',e',fp',S',hh,q⟩
   ·rw[if_neg hh]at q;exact q.elim
  | stuck=>rw[e]at q;exact q.elim⟩
 refine wpAny_mono r (fun f s1 h1=>?_) fun e s1 h1=>?_
 ·cases f with
  | next=>obtain⟨σ',H',I1,q1⟩:=h1;exact ho pins s1 σ' H' D I1.untry q1
  | brk=>obtain⟨σ',H',I1,q1⟩:=h1;exact⟨σ',H',I1.untry,q1⟩
  | cont=>obtain⟨σ',H',I1,q1⟩:=h1;exact⟨σ',H',I1.untry,q1⟩
  | ret u=>obtain⟨v,σ',H',I1,r1,q1⟩:=h1;exact⟨v,σ',H',I1.untry,r1,q1⟩
 ·exact h1
theorem bE{x:Str}{i:Int}{pos:Pos}(hg:Gl X x)(hm:∃t,X.mg x=some (.int i t))(hd:(x ==("__debug__" : Str))=false:=by decide):SE X T W (.Name x pos) (mC (.int i)):=by
 obtain⟨t,h⟩:=hm
 exact qm hg h hd
end
end PR
namespace PR
open PySem PySem.Spec L2
def nZ{α:Type}(n:Nat)(y:α)(xs:List α):List α:=xs.take n++y::xs.drop n
section
variable{X:Cx}{T:Tb}{W:Nat→St→Hp→Prop}{Z:Zn}{F F1 B L:Addr→Prop}{H H1:Hp}{σ:St}{env:En}{fp:Nat→List Addr}{D:Ends}
theorem RelL.ins{v:PV}{u:V}(hv:Rel T F B L H v u []):∀(n:Nat) {xs:List PV}{ws:List V}{f:List Addr},RelL T F B L H xs ws f→RelL T F B L H (nZ n v xs) (nZ n u ws) f
 | 0,xs,ws,f,h=>by
  show RelL T F B L H (v::xs) (u::ws) f
  unfold RelL
  exact⟨u,ws,[],f,rfl,hv,h,rfl⟩
 | n+1,[],ws,f,h=>by
  unfold RelL at h
  obtain⟨rfl,rfl⟩:=h
  show RelL T F B L H [v] [u] []
  unfold RelL
  exact⟨u,[],[],[],rfl,hv,fh _ _ _ _,rfl⟩
 | n+1,x::xs,ws,f,h=>by
  unfold RelL at h
  obtain⟨w,ws,f1,f2,rfl,h1,h2,rfl⟩:=h
  show RelL T F B L H (x::nZ n v xs) (w::nZ n u ws) _
  unfold RelL
  exact⟨w,_,f1,f2,rfl,h1,RelL.ins hv n h2,rfl⟩
end
end PR
namespace PR
open PySem PySem.Spec L2
section
variable{X:Cx}{T:Tb}{W:Nat→St→Hp→Prop}{Z:Zn}{F F1 B L:Addr→Prop}{H H1:Hp}{σ:St}{env:En}{fp:Nat→List Addr}{pins:List (Addr×Obj)}{s:Shared}{a b:Expr}{ma mb:ME}{pos:Pos}
end
end PR
namespace PR
open PySem PySem.Spec L2
def fW:PV→PV→Res PV
 | x,.int i=>match bf x with
  | some xs=>match atI xs i with
   | some y=>.ok y
   | none=>.stuck
  | none=>.stuck
 | _,_=>.stuck
section
variable{X:Cx}{T:Tb}{W:Nat→St→Hp→Prop}
theorem rj(hK:X.K=T.K):fK T W fW (fun x y H Q=>ue X.K x y H Q ∨(ub X.K x y H Q∨ud x y H Q)):=by
 intro B F L σ H Q F' H' x y v u fx fy g rx ry nf nd new q
 cases y with
 | int i =>
  simp only[fW]at q
  cases e:bf x with
  | none=>rw[e]at q;exact q.elim
  | some xs =>
   rw[e]at q
   dsimp only at q
   obtain⟨a,ws,fx',rfl,hs,hr,sl⟩:=rx.seq e
   cases e2:atI xs i with
   | none=>rw[e2]at q;exact q.elim
   | some z =>
    rw[e2]at q
    dsimp only at q
    obtain⟨w,f',h1,h2,h3⟩:=oQ hr e2
    unfold Rel at ry
    obtain⟨rfl,rfl⟩:=ry
    rw[List.append_nil]at nf nd new
    have s2:=h3.trans sl
    have q':Q w H':=q w H' F' f' g h2 (fun a ha=>nf a (s2.subset ha)) (nd.sublist s2) (fun a ha=>new a (s2.subset ha))
    rcases hs with hs | hs
    ·exact .inl ⟨a,ws,i,w,rfl,rfl,by rw[hK];exact hs,h1,q'⟩
    ·exact .inr (.inl ⟨a,ws,i,w,rfl,rfl,by rw[hK];exact hs,h1,q'⟩)
 | _=>exact q.elim
theorem nV{a b:Expr}{ma mb:ME}{pos:Pos}(hK:X.K=T.K)(ha:SE X T W a ma)(hb:SE X T W b mb)(hs:fb b):SE X T W (.Subscript a b pos) (mOp fW ma mb) :=
 vF rG (rj hK) ha hb hs
end
end PR
namespace PR
open PySem PySem.Spec L2
structure Sup(K:PySem.W.Frag)(C f:Addr):Prop where
 ga:PySem.W.specialIn K (.ref C) "__getattribute__" = some (some (.builtin "type.__getattribute__"))
 rd:PySem.W.readsIn K C (.type "type")=true
 fc:PySem.W.findCls K (.ref C) (.type "type") "__init__" = some (.val (.ref f))
 kp:PySem.W.keepIn K (.ref f)=true
def f9(m:List PV→Res PV)(ms:MA):MS:=fun env=>match (env[(0:Nat)]?:Option (Option PV))with
 | some (some (.obj .own c ks vs))=>match ms env with
  | .ok xs=>if hasL Fl.isLnt xs then .stuck else match m (.obj .own c ks vs::mapL Fl.toBor xs)with
   | .ok (.obj fl c' ks' vs')=>if(PV.obj fl c' ks' vs').has Fl.isBor then .stuck else .next (env.set 0 (some (.obj fl c' ks' vs')))
   | _=>.stuck
  | .exc c=>.exc c env
  | .stuck=>.stuck
 | _=>.stuck
section
variable{X:Cx}{T:Tb}{W:Nat→St→Hp→Prop}{Z:Zn}{F F1 F3:Addr→Prop}{H H1 H3:Hp}{σ:St}{env:En}{fp:Nat→List Addr}
theorem ap.sup{o:PV}{v0:V}{fx f3:List Addr}{B':Addr→Prop}(S:ap T Z F H σ env fp)(h0:σ[0]?=some (some v0))(hl:0 < env.length)
  (nx:∀a∈fx,Z.H0 a=none∨Z.fp0 a) (nj:∀a∈fx,∀i,a∉fp i) (nF:∀a∈fx,¬F a) (cx:∀a∈fx,∃o,H a=some o∧Chg o)
  (hp3:dg T ⟨H,F,(·∈fp 0++fx),B',some v0⟩ F3 H3) (r:Rel T F3 B' NoL H3 o v0 f3) (hb:o.has Fl.isBor=false) (nd3:f3.Nodup) (nf3:∀a∈f3,¬F3 a) (new3:∀a∈f3,H a=none∨a∈fp 0++fx)
  (ho:∃fl c ks xs,o=.obj fl c ks xs):ap T Z F3 H3 σ (env.set 0 (some o)) (bA fp 0 f3):=by
 have zfree:∀a,H a=none→Z.H0 a=none∨Z.fp0 a:=fun a z=>by
  by_cases q:Z.fp0 a
  ·exact .inr q
  ·refine .inl ?_
   cases w:Z.H0 a with
   | none=>rfl
   | some o=>rw[S.hp.keep a o w q]at z;exact(nomatch z)
 have inn:∀a∈fp 0++fx,Z.H0 a=none∨Z.fp0 a:=fun a h=>by
  rcases List.mem_append.mp h with h | h
  ·exact S.new 0 a h
  ·exact nx a h
 have jn:∀j,j≠0→∀a∈fp j,a∉fp 0++fx:=fun j hj a ha z=>by
  rcases List.mem_append.mp z with z | z
  ·exact S.dj j 0 hj a ha z
  ·exact nj a z j ha
 have chgn:∀a∈fp 0++fx,∃o,H a=some o∧Chg o:=fun a h=>by
  rcases List.mem_append.mp h with h | h
  ·exact S.ch 0 a h
  ·exact cx a h
 have rel':Rel T F3 Z.B NoL H3 o v0 f3:=Rel.noB hb r
 refine⟨⟨S.hp.bo,fun a u e n=>hp3.keep a u (S.hp.keep a u e n) fun z=>?_,fun a h=>hp3.f0 a (S.hp.f0 a h),fun a h=>?_,hp3.ft⟩,by rw[List.length_set,S.len],fun j pv e=>?_,fun j=>?_,fun j k hjk b hb=>?_,fun j b hb=>?_,fun j b hb=>?_,fun j b hb=>?_,fun w hw=>?_⟩
 ·rcases inn a z with q | q
  ·rw[e]at q;cases q
  ·exact n q
 ·rcases hp3.fn a h with z | z | z
  ·exact S.hp.fn a z
  ·exact .inr (zfree a z)
  ·exact .inr (inn a z)
 ·by_cases hj:j=0
  ·subst hj
   rw[List.getElem?_set_self hl]at e
   cases e
   refine⟨v0,h0,?_⟩
   unfold bA
   rw[if_pos rfl]
   exact rel'
  ·rw[List.getElem?_set_ne (Ne.symm hj)]at e
   obtain⟨w,h1,h2⟩:=S.rel j pv e
   refine⟨w,h1,?_⟩
   unfold bA
   rw[if_neg hj]
   refine Rel.tr (fun a h=>hp3.f0 a h) (fun _ h=>h) (fun _ h=>h) (fun b u q h=>hp3.keep b u q fun z=>?_) (fun b hb u q=>hp3.keep b u q (jn j hj b hb)) h2
   rcases h with h | h | h | h
   ·rcases List.mem_append.mp z with z | z
    ·exact(S.dis 0 b z).1 h
    ·exact nF b z h
   ·obtain⟨⟨o',e1⟩,e2⟩:=S.hp.bo b h
    rcases inn b z with q' | q'
    ·rw[e1]at q';cases q'
    ·exact e2 q'
   ·exact h
   ·obtain⟨o',e1,e2⟩:=chgn b z
    have q1:H b=some u:=q
    rw[q1]at e1
    cases e1
    cases u with
    | lst _=>exact h
    | ins _ _ _=>exact h
    | _=>exact e2
 ·unfold bA;split
  ·exact nd3
  ·exact S.nd j
 ·unfold bA at hb ⊢
  have fj:∀i,i≠0→∀a∈f3,a∉fp i:=fun i hi a ha z=>by
   rcases new3 a ha with q | q
   ·obtain⟨_,o',e⟩:=S.dis i a z
    rw[e]at q;cases q
   ·exact jn i hi a z q
  by_cases h1:j=0
  ·subst h1
   rw[if_pos rfl]at hb
   rw[if_neg (Ne.symm hjk)]
   exact fj k (Ne.symm hjk) b hb
  ·rw[if_neg h1]at hb
   by_cases h2:k=0
   ·subst h2
    rw[if_pos rfl]
    exact fun z=>fj j h1 b z hb
   ·rw[if_neg h2]
    exact S.dj j k hjk b hb
 ·unfold bA at hb
  by_cases h1:j=0
  ·rw[if_pos h1]at hb;exact⟨nf3 b hb,r.there b hb⟩
  ·rw[if_neg h1]at hb
   obtain⟨n,u,e⟩:=S.dis j b hb
   refine⟨fun z=>?_,u,hp3.keep b u e (jn j h1 b hb)⟩
   rcases hp3.fn b z with q | q | q
   ·exact n q
   ·have q':H b=none:=q
    rw[e]at q';cases q'
   ·exact jn j h1 b hb q
 ·unfold bA at hb
  by_cases h1:j=0
  ·rw[if_pos h1]at hb
   rcases new3 b hb with q | q
   ·exact zfree b q
   ·exact inn b q
  ·rw[if_neg h1]at hb;exact S.new j b hb
 ·unfold bA at hb
  by_cases h1:j=0
  ·rw[if_pos h1]at hb;exact r.chg b hb
  ·rw[if_neg h1]at hb
   obtain⟨u,e,c⟩:=S.ch j b hb
   exact⟨u,hp3.keep b u e (jn j h1 b hb),c⟩
 ·obtain⟨h1,h2⟩:=S.pn w hw
  refine⟨h1,?_⟩
  obtain⟨fl,c,ks,xs,e⟩:=ho
  subst e
  unfold b9
  rw[List.getElem?_set_self hl]
theorem wm{k kk n:Nat}{C f:Addr}{fd:FuncData}{ps:List Str}{m:List PV→Res PV}{x y:Str}{p px apos pos pos':Pos}{es:List Expr}{ms:MA}{pl:Sem Bool}
  (cx:Ctx X T W kk) (U:Sup X.K C f) (G:bR X.prog X.w X.K X.mg X.base (CXP X.prog X.w) k f fd ps (spI T ps.length m)) (hk:k≤kk) (hg:Gl X x) (hm:X.mg x=some (.ref C)) (hb:cH X.K fd ps [])
  (hN:X.N[0]?=some y) (hv:Vis X.env.scope y) (hn:ee ms n) (hps:n+1=ps.length) (ha:SA X T W es ms)
  (hdb:(x ==("__debug__" : Str))=false:=by decide) (hdy:(y ==("__debug__" : Str))=false:=by decide) (hcy:(y ==("__classdict__" : Str))=false:=by decide)
  (hst:starEach (.Name y px::es) X.env=(false,eval (.Name y px) X.env)::starEach es X.env:=by rfl) (hpl:(backTo pos (starEach es X.env)).any (·.1)=false:=by rfl)
  (ht:eval (.Call (.Attribute (.Name x p) "__init__" apos) (.Name y px::es) [] pos) X.env=(do
   let ov ← eval (.Name x p) X.env
   standAt apos.atName
   let(f,first) ← holding [ov] (getMethod ov "__init__" pl)
   callWith pos f first (backTo pos (starEach (.Name y px::es) X.env)) (backToKw pos (keywordEach [] X.env))):=by rfl)
  (hs:swapsWith (.Call (.Attribute (.Name x p) "__init__" apos) (.Name y px::es) [] pos) none pos'.line X.env=pure false:=by rfl) :
  SS X T W (.Expr (.Call (.Attribute (.Name x p) "__init__" apos) (.Name y px::es) [] pos) pos') (f9 m ms):=by
 have pe:PE X (.Call (.Attribute (.Name x p) "__init__" apos) (.Name y px::es) [] pos) (fun σ H Q=>∃ Z F env fp,ap T Z F H σ env fp∧(match f9 m ms env with
   | .next e=>∀F' H' fp',ap T Z F' H' σ e fp'→Q .non H'
   | .exc c e=>∀F' H' fp',ap T Z F' H' σ e fp'→W c σ H'
   | _=>False)):=by
  intro pins s σ H Q I h
  obtain⟨Z,F,env,fp,S,q⟩:=h
  refine PySem.W.methodCall_KW (pl:=pl) (dD I hg hm ?_ hdb) ht
  refine PySem.W.method_cls I.kIn U.ga (PySem.W.cls_value I.kIn U.rd U.fc rfl ?_)
  have I':=I.tok (s.toks+1)
  unfold f9 at q
  cases e0:env[0]? with
  | none=>rw[e0]at q;exact q.elim
  | some o0 =>
  cases o0 with
  | none=>rw[e0]at q;exact q.elim
  | some ov =>
  obtain⟨v0,hv0,r0⟩:=S.rel 0 ov e0
  have hl0:0 < env.length:=(List.getElem?_eq_some_iff.mp e0).1
  rw[e0]at q
  by_cases hob:∃c ks vs,ov=.obj .own c ks vs
  case neg =>
   exfalso
   cases ov with
   | obj fl c ks vs =>
    cases fl with
    | own=>exact hob ⟨_,_,_,rfl⟩
    | _=>exact q
   | _=>exact q
  obtain⟨c,ks,vs0,rfl⟩:=hob
  dsimp only at q
  have pa:=cC (X:=X) (eM (pos:=px) hN hv hdy hcy) ha hst
  refine PySem.W.callWith_K (first:=[]) (h₀:=X.base) I'.ok.mod.kin U.kp (thn (pa pos pins _ σ H (fun vs H1=>∀ us s1,L2.Inv X pins σ H1 s1→aC vs us→wpAny (model X.prog X.w) X.A (call (.ref f) us) (EP X pins σ Q) X.xe s1) I'
   ⟨v0,hv0,tA.bind S (fun c e=>?_) (fun e=>by rw[e]at q;exact q) fun xs vs H1 F1 f1 e1 g1 r1 n1 d1 w1 us s1 I1 rv=>?_⟩) fun us s1 ⟨vs,H1,I1,r,q1⟩=>⟨I1.kIn,q1 us s1 I1 r⟩) hst hpl
  ·rw[e]at q
   exact fun H' x=>q F H' fp (S.grow (Gr.same S.hp.ft x))
  rw[e1]at q
  dsimp only at q
  by_cases hln:hasL Fl.isLnt xs=true
  ·rw[if_pos hln]at q;exact q.elim
  rw[if_neg hln]at q
  have hln':hasL Fl.isLnt xs=false:=by simpa using hln
  have S1:=S.grow g1
  obtain⟨v0',hv0',r0'⟩:=S1.rel 0 _ e0
  rw[hv0]at hv0'
  cases hv0'
  have xn:∀a∈f1,∀i,a∉fp i:=fun a ha i hi=>by
   obtain⟨_,o,e⟩:=S.dis i a hi
   rw[w1 a ha]at e;cases e
  have xz:∀a∈f1,Z.H0 a=none∨Z.fp0 a:=fun a ha=>by
   by_cases q:Z.fp0 a
   ·exact .inr q
   ·refine .inl ?_
    cases w:Z.H0 a with
    | none=>rfl
    | some o =>
     have:=w1 a ha
     rw[S.hp.keep a o w q]at this;cases this
  have hBo:∀a,Z.B a→(∃o,H1 a=some o)∧a∉fp 0++f1:=fun a h=>by
   obtain⟨⟨o,h1⟩,h2⟩:=S.hp.bo a h
   have h3:=S.hp.keep a o h1 h2
   refine⟨⟨o,g1.ext a o h3⟩,fun z=>?_⟩
   rcases List.mem_append.mp z with z | z
   ·exact S.bow a h ⟨0,z⟩
   ·rw[w1 a z]at h3;cases h3
  have R:p7 T F1 (fun a=>(∃o,H1 a=some o)∧a∉fp 0++f1) H1 (.obj .own c ks vs0::mapL Fl.toBor xs) (v0::vs) (fp 0++f1):=by
   refine⟨?_,List.nodup_append.mpr ⟨S.nd 0,d1,fun a ha b hb z=>by subst z;exact xn a hb 0 ha⟩,fun a ha=>?_,fun a h=>h,g1.dom⟩
   ·unfold RelL
    refine⟨v0,vs,fp 0,f1,rfl,Rel.tr (fun _ h=>h) hBo (fun _ h=>h) (fun _ _ q _=>q) (fun _ _ _ q=>q) r0',?_,rfl⟩
    exact RelL.toBor hBo (fun _ h=>h.elim) (RelL.noL (L':=NoL) hln' r1)
   ·rcases List.mem_append.mp ha with ha | ha
    ·exact(S1.dis 0 a ha).1
    ·exact n1 a ha
  have r2:aC (v0::vs) us:=rv
  have hl:us.length=ps.length:=by
   rw[← r2.length,List.length_cons,← r1.length,hn env xs e1]
   exact hps
  refine wpAny_call (codeAny_mono (G.run X.A X.stack s1 H1 ⟨us,[]⟩ us (v0::vs) Q (fun cls _ H'=>∃ c,cls=.ref (T.xcl c)∧W c σ H') (cx.room.mono hk) I1.env0 (by simpa using hb s1 us I1.kIn (by simpa using hl)) r2
   ⟨by rw[r2.length,hl],v0,_,F1,_,_,rfl,R,⟨.own,c,ks,vs0,rfl⟩,?_⟩) fun rs s' hq=>?_)
  ·cases e:m (.obj .own c ks vs0::mapL Fl.toBor xs)with
   | ok o =>
    rw[e]at q
    cases o with
    | obj fl c' ks' vs' =>
     dsimp only at q
     by_cases hbr:(PV.obj fl c' ks' vs').has Fl.isBor=true
     ·rw[if_pos hbr]at q;exact q.elim
     ·rw[if_neg hbr]at q
      dsimp only at q
      have hbr':(PV.obj fl c' ks' vs').has Fl.isBor=false:=by simpa using hbr
      intro F3 H3 f3 hp3 r3 nd3 nf3 new3
      exact q F3 H3 _ (S1.sup hv0 hl0 xz xn n1 r1.chg hp3 r3 hbr' nd3 nf3 new3 ⟨_,_,_,_,rfl⟩)
    | _=>exact q.elim
   | exc c=>rw[e]at q;exact q.elim
   | stuck=>rw[e]at q;exact q.elim
  ·cases rs with
   | error e =>
    obtain⟨cls,H',fl,c,rfl,hw⟩:=hq
    exact cx.xf pins σ H1 s1 c H' e s' I1 fl hw
   | ok fl =>
    cases fl with
    | ret u=>exact I1.after hq
    | next=>exact False.elim hq
    | brk=>exact False.elim hq
    | cont=>exact False.elim hq
 exact PS.wk (ip (pos:=pos') pe hs) fun D σ H ⟨Z,F,env,fp,S,q⟩=>by
  refine⟨Z,F,env,fp,S,?_⟩
  cases e:f9 m ms env with
  | next e'=>rw[e]at q;exact fun F' H' fp' S'=>q F' H' σ fp' S'
  | exc c e'=>rw[e]at q;exact fun F' H' fp' S'=>q F' H' σ fp' S'
  | ret v =>
   exfalso
   revert e
   unfold f9
   split
   ·split
    ·split
     ·simp
     ·split
      ·split<;>simp
      ·simp
    ·simp
    ·simp
   ·simp
  | brk e' =>
   exfalso
   revert e
   unfold f9
   split
   ·split
    ·split
     ·simp
     ·split
      ·split<;>simp
      ·simp
    ·simp
    ·simp
   ·simp
  | cont e' =>
   exfalso
   revert e
   unfold f9
   split
   ·split
    ·split
     ·simp
     ·split
      ·split<;>simp
      ·simp
    ·simp
    ·simp
   ·simp
  | stuck=>rw[e]at q;exact q
end
end PR
namespace PR
open PySem PySem.Spec L2
@[irreducible] def Bx(p:Prop):Prop:=p
theorem Bx.mk{p:Prop}(h:p):Bx p:=by unfold Bx;exact h
section
variable{X:Cx}{T:Tb}{W:Nat→St→Hp→Prop}
end
end PR
namespace PR
open PySem PySem.Spec L2 PyProof.Rows
section
variable{X:Cx}{T:Tb}{W:Nat→L2.St→Hp→Prop}{Z:Zn}{F F1 B L:Addr→Prop}{H H1:Hp}{σ:L2.St}{env:En}{fp:Nat→List Addr}{D:Ends}
end
end PR
namespace L2
open PySem PySem.Spec PyProof.Rows
section
variable{X:Cx}{e st:Expr}{te ts:TE}{pos p2:Pos}
end
end L2
namespace PR
open PySem PySem.Spec L2
section
variable{X:Cx}{T:Tb}{W:Nat→St→Hp→Prop}{Z:Zn}{F F1 B L:Addr→Prop}{H H1:Hp}{σ:St}{env:En}{fp:Nat→List Addr}
end
end PR
namespace PR
open PySem PySem.Spec L2
def whL(c:MT)(b:MS):Nat→MS
 | 0,_=>.stuck
 | k+1,env=>match c env with
  | .ok true=>match b env with
   | .next e=>whL c b k e
   | .cont e=>whL c b k e
   | .brk e=>.next e
   | .ret v=>.ret v
   | .exc x e=>.exc x e
   | .stuck=>.stuck
  | .ok false=>.next env
  | .exc x=>.exc x env
  | .stuck=>.stuck
def iY(c:MT)(b:MS):MS:=whL c b 100000
section
variable{X:Cx}{T:Tb}{W:Nat→St→Hp→Prop}
theorem kY{c:Expr}{body:List Stmt}{mc:MT}{mb:MS}{pos:Pos}(hp:PassesOwn (model X.prog X.w) X.A X.env X.xe)(hc:ST X T W c mc)(hb:SSs X T W body mb):SS X T W (.While c body [] pos) (iY mc mb) :=
 PS.wk (qC (pos:=pos) hp hc hb) fun D σ H ⟨Z,F,env,fp,S,q⟩=>by
  unfold iY at q
  refine⟨fun m σ' H'=>∃F' env' fp',ap T Z F' H' σ' env' fp'∧GS T W Z D (whL mc mb m env'),⟨100000,F,env,fp,S,q⟩,?_⟩
  rintro m σ' H' ⟨F',env',fp',S',q'⟩
  cases m with
  | zero=>exact q'.elim
  | succ k =>
   unfold whL at q'
   refine tT.bind S' (fun c e H2 x=>?_) (fun e=>by rw[e]at q';exact q') fun b H1 F1 e g=>?_
   ·rw[e]at q'
    exact q' F' H2 σ' fp' (S'.grow (Gr.same S'.hp.ft x))
   ·cases b with
    | false=>rw[e]at q';exact(if_neg (by decide)).mpr (q' F1 H1 σ' fp' (S'.grow g))
    | true =>
     rw[e]at q'
     dsimp only at q'
     refine(if_pos rfl).mpr ⟨fun σ2 H2=>∃F2 env2 fp2,ap T Z F2 H2 σ2 env2 fp2∧GS T W Z D (whL mc mb k env2),fun σ2 H2 h=>⟨k,Nat.lt_succ_self k,h⟩,Z,F1,env',fp',S'.grow g,?_⟩
     cases eb:mb env' with
     | next e2=>rw[eb]at q';exact fun F3 H3 σ3 fp3 S3=>⟨F3,e2,fp3,S3,q'⟩
     | cont e2=>rw[eb]at q';exact fun F3 H3 σ3 fp3 S3=>⟨F3,e2,fp3,S3,q'⟩
     | brk e2=>rw[eb]at q';exact q'
     | ret v=>rw[eb]at q';exact q'
     | exc c e2=>rw[eb]at q';exact q'
     | stuck=>rw[eb]at q';exact q'
end
end PR
namespace PR
open PySem PySem.Spec L2
def sA:List PV→Option (List Bool)
 | []=>some []
 | .bl b::xs=>(sA xs).map (b::·)
 | _=>none
section
variable{X:Cx}{T:Tb}{W:Nat→St→Hp→Prop}{Z:Zn}{F F1 B L:Addr→Prop}{H H1:Hp}{σ:St}{env:En}{fp:Nat→List Addr}{pins:List (Addr×Obj)}{s:Shared}
end
end PR
namespace PR
open PySem PySem.Spec L2
section
variable{X:Cx}{T:Tb}{W:Nat→St→Hp→Prop}{Z:Zn}{F:Addr→Prop}{H:Hp}{σ:St}{env:En}{fp:Nat→List Addr}
end
end PR
namespace L2
open PySem PySem.Spec PyProof.Rows
section
variable{X:Cx}{a b c d:Expr}{ta tb tc td:TE}{pos:Pos}
end
end L2
namespace PR
open PySem PySem.Spec L2
section
variable{X:Cx}{T:Tb}{W:Nat→St→Hp→Prop}
end
end PR
namespace PR
open PySem PySem.Spec L2
section
variable{X:Cx}{T:Tb}{W:Nat→St→Hp→Prop}
end
end PR
namespace PR
open PySem PySem.Spec L2
open AutoSeq1 (wpAny_loadPart')
section
variable{prog:Program}{w:World}{A:Around}{E:Value→Shared→Prop}{s:Shared}
theorem pW{T nI iI:String}{Bn Bi:Builtin}{us:List Value}{kw:List (Str×Value)}{S:PySem.Spec}{Q Q1:Value→Shared→Prop}(ft:TypeCalled T nI iI)
  (c1:checkTypeCall T ⟨us,kw⟩=pure ()) (c2:checkBuiltinCall nI ⟨.type T::us,kw⟩=pure ()) (eN:entryFor table nI=some Bn) (eI:entryFor table iI=some Bi) (g:Meets (Bn ⟨.type T::us,kw⟩) S)
  (h:S A.in1 (wants Q1 E) s) (nx:∀ob s1,Q1 ob s1→s1.TypeIs ob T∧argsOk iI ⟨ob::us,kw⟩∧∃Si,Meets (Bi ⟨ob::us,kw⟩) Si∧Si A.in1 (wants (fun r s2=>r=.none∧Q ob s2) E) s1) :
  wpAny (model prog w) A (call (.type T) us kw) Q E s:=by
 obtain⟨cc,tt,hmro⟩:=ft.mro
 have hmade:=ft.made;have hsub:=ft.sub;have h1:=ft.notType;have h2:=ft.canCreate
 refine wpAny_call (codeAny_of_tree (show wpAny _ _ (callAny (.type T) _) _ _ _ from wpAny_pure ⟨Code.quiet_builtin _ (by decide +kernel),codeAny_builtin F.entry_type_call ?_⟩))
 rw[Around.under_plain (weight_type_call_type T us kw) (units_type_call_type T us kw)]
 repeat (any_goals (first | assumption | wp_step | fail))
 refine codeAny_mono (codeAny_call_builtin ft.plain eN (wpAny_of_eq c2 (g prog w A.in1 _ s h))) fun r s1 hr=>?_
 cases r with
 | error e=>exact hr
 | ok fl =>
  cases fl with
  | ret ob =>
   obtain⟨hT,hok,Si,gi,hsi⟩:=nx _ _ hr
   have hli:=ft.init.lookup;have hbi:=ft.init.bind ob
   repeat (any_goals (first | assumption | wp_step | fail))
   refine codeAny_mono (codeAny_call_builtin ft.init.plain eI (ft.init.check _ _ _ _ _ _ _ _ hT hok (gi prog w A.in1 _ s1 hsi))) fun r2 s2 hr2=>?_
   cases r2 with
   | error e=>exact hr2
   | ok fl2 =>
    cases fl2 with
    | ret r =>
     obtain⟨rfl,hq⟩:=hr2
     repeat (any_goals (first | assumption | wp_step | fail))
    | _=>exact hr2.elim
  | _=>exact hr.elim
theorem AH{T nI:String}{self a:Value}{kw:List (Str×Value)}(hl:typeLookup (.type T) "__init__" = pure (some (.builtin "object.__init__")))(hm:Bind.madeBy (.type T)=pure (some nI))(hne:(some nI != some "object.__new__")=true) :
  Meets (Builtin.«object.__init__» ⟨[self,a],kw⟩) (fun _ R s=>s.TypeIs self T∧R (.ok (.ret .none)) s):=by
 refine Meets.of_wp fun pr w A R s0 hs=>?_
 obtain⟨hT,hq⟩:=hs
 repeat (any_goals (first | assumption | wp_step | fail))
 exact⟨_,rfl,hq⟩
abbrev itO(n:String)(l:Addr):Obj:={ cls:=.type n,data:=.fields #[.ref l,.int 0 0] }
abbrev enO(it:Addr)(i:Int):Obj:={ cls:=.type "enumerate", data:=.fields #[.none,.bool false,.ref it,rawInt i,.none,.none] }
def sY(n:String)(l:Addr)(s:Shared):Prop:=∀(pr:Program) (w:World) (A:Around) (Q:Value→Shared→Prop) (E:Value→Shared→Prop),Q (.ref s.heap.objs.size) { s with heap:=s.heap.push (itO n l) }→wpAny (model pr w) A (pyIter (.ref l)) Q E s
end
end PR
namespace PR
open PySem PySem.Spec L2
section
variable{prog:Program}{w:World}{A:Around}{E:Value→Shared→Prop}{s:Shared}
theorem k_(t:Addr):¬((Value.ref t==Value.none)=true):=Bool.false_ne_true
theorem qV{it t:Addr}{i:Nat}{items:Array Value}{x:Value}{Q:Value→Shared→Prop}(hit:s.heap.IsTupleIter it t i)(ht:s.heap.IsTuple t items)(hx:items[i]?=some x)
  (hQ:∀h',h'.IsTupleIter it t (i+1)→Heap.SameBut it s.heap h'→Q x { s with heap:=h' }):wpAny (model prog w) A (Builtin.SmallTypes.nextOf (.ref it)) Q E s:=by
 obtain⟨o,ho,hc,hd⟩:=id hit
 obtain⟨o2,ho2,_,n2,hd2⟩:=ht
 unfold Builtin.SmallTypes.nextOf
 refine wpAny_bind (wpAny_callSpecial?_slot (name:=Str.ofString "__next__") hit.typeIs F.slot_tuple_iterator_next (wpAny_call_entry F.slot_tuple_iterator_next hit.typeIs F.entry_tuple_iterator_next ?_ (F.args_tuple_iterator_next_1 _)))
 refine(show wpAny _ _ (field (.ref it) 0 >>= _) _ _ s from wpAny_bind (wpAny_field ho hd (x:=.ref t) rfl ?_))
 refine(show wpAny _ _ (if(Value.ref t==Value.none)=true then _ else _) _ _ s from ?_)
 rw[if_neg (k_ t)]
 refine(show wpAny _ _ (field (.ref it) 1 >>= _) _ _ s from wpAny_bind (wpAny_field ho hd (x:=.int i 0) rfl ?_))
 refine(show wpAny _ _ (seqItems? (.ref t) >>= _) _ _ s from wpAny_bind (wpAny_seqItems ho2 hd2 ?_))
 simp only[Int.toNat_natCast,hx]
 refine wpAny_bind (wpAny_setField ho hd (by simp) (wpAny_pure ⟨x,rfl,wpAny_pure (hQ _ ⟨_,Heap.get?_update_self _ ho (Obj.isFreed_of_fields (Obj.data_mapFields hd _)),(Obj.cls_mapFields ..).trans hc,by rw[Obj.data_mapFields hd];simp[rawInt]⟩ (Heap.SameBut.update ..))⟩))
theorem uD{it t:Addr}{i:Nat}{items:Array Value}{Q:Value→Shared→Prop}(hh:A.handled=none)(hit:s.heap.IsTupleIter it t i)(ht:s.heap.IsTuple t items)(hx:items[i]?=none)
  (hE:∀h' e,Heap.ExtBut it s.heap h'→(∃o,h'.get? e=some o∧o.cls=.type "StopIteration")→E (.ref e) { s with heap:=h' }):wpAny (model prog w) A (Builtin.SmallTypes.nextOf (.ref it)) Q E s:=by
 obtain⟨o,ho,hc,hd⟩:=id hit
 obtain⟨o2,ho2,_,n2,hd2⟩:=ht
 unfold Builtin.SmallTypes.nextOf
 refine wpAny_bind (wpAny_callSpecial?_slot (name:=Str.ofString "__next__") hit.typeIs F.slot_tuple_iterator_next (wpAny_call_entry F.slot_tuple_iterator_next hit.typeIs F.entry_tuple_iterator_next ?_ (F.args_tuple_iterator_next_1 _)))
 refine(show wpAny _ _ (field (.ref it) 0 >>= _) _ _ s from wpAny_bind (wpAny_field ho hd (x:=.ref t) rfl ?_))
 refine(show wpAny _ _ (if(Value.ref t==Value.none)=true then _ else _) _ _ s from ?_)
 rw[if_neg (k_ t)]
 refine(show wpAny _ _ (field (.ref it) 1 >>= _) _ _ s from wpAny_bind (wpAny_field ho hd (x:=.int i 0) rfl ?_))
 refine(show wpAny _ _ (seqItems? (.ref t) >>= _) _ _ s from wpAny_bind (wpAny_seqItems ho2 hd2 ?_))
 simp only[Int.toNat_natCast,hx]
 refine wpAny_bind (wpAny_rule (wpAny_bind (wpAny_setField ho hd (by simp) (show wpAny _ _ (newExc (.type "StopIteration") [] >>= _) _ _ _ from wpAny_bind ?_))))
 simp only[newExc,newTuple]
 refine wpAny_bind (wpAny_newObj_type (wpAny_bind (m:=firstArgMember _ _) (wpAny_of_eq (a:=Value.none) (by first | rfl |(simp only[firstArgMember];rfl)) (wpAny_newObj_type ?_ (by size_fits)))) (by size_fits))
 simp only[raiseNew]
 refine wpAny_bind (wpAny_handled ?_)
 first | rw[show A.in1.handled=none from hh] | rw[hh] | skip
 exact wpAny_bind (wpAny_pure (wpAny_throw (hE _ _ (((Heap.SameBut.update ..).extBut.push _).push _) ⟨_,Heap.get?_push_size _ rfl,rfl⟩)))
inductive fL(h:Heap)(it l:Addr)(its:Array Value)(i:Nat):Prop
 | lst (a:h.IsListIter it l i) (b:h.IsList l its)
 | tup (a:h.IsTupleIter it l i) (b:h.IsTuple l its)
theorem fL.at{h h':Heap}{it l:Addr}{its:Array Value}{i:Nat}(x:fL h it l its i)(k1:∀o,h.get? it=some o→h'.get? it=some o)(k2:∀o,h.get? l=some o→h'.get? l=some o):fL h' it l its i:=by
 rcases x with⟨⟨o,e,r⟩,⟨o2,e2,r2⟩⟩ |⟨⟨o,e,r⟩,⟨o2,e2,r2⟩⟩
 ·exact .lst ⟨o,k1 o e,r⟩ ⟨o2,k2 o2 e2,r2⟩
 ·exact .tup ⟨o,k1 o e,r⟩ ⟨o2,k2 o2 e2,r2⟩
theorem fL.obj{h:Heap}{it l:Addr}{its:Array Value}{i:Nat}(x:fL h it l its i):∃o,h.get? it=some o∧∀v,o.data≠.cell v:=by
 rcases x with⟨⟨o,e,_,d⟩,_⟩ |⟨⟨o,e,_,d⟩,_⟩
 ·exact⟨o,e,fun v z=>by rw[d]at z;cases z⟩
 ·exact⟨o,e,fun v z=>by rw[d]at z;cases z⟩
theorem uC{it l:Addr}{i:Nat}{its:Array Value}{x:Value}{Q:Value→Shared→Prop}(hi:fL s.heap it l its i)(hne:l≠it)(hx:its[i]?=some x)(hQ:∀h',fL h' it l its (i+1)→Heap.SameBut it s.heap h'→Q x { s with heap:=h' }) :
  wpAny (model prog w) A (Builtin.SmallTypes.nextOf (.ref it)) Q E s:=by
 rcases hi with⟨a,b⟩ |⟨a,b⟩
 ·exact wpAny_nextOf_list_item a b hx fun h' q sb=>hQ h' (.lst q (b.extBut sb.extBut hne)) sb
 ·exact qV a b hx fun h' q sb=>hQ h' (.tup q (b.extBut sb.extBut hne)) sb
theorem xN{it l:Addr}{i:Nat}{its:Array Value}{Q:Value→Shared→Prop}(hh:A.handled=none)(hi:fL s.heap it l its i)(hx:its[i]?=none)
  (hE:∀h' e,Heap.ExtBut it s.heap h'→(∃o,h'.get? e=some o∧o.cls=.type "StopIteration")→E (.ref e) { s with heap:=h' }):wpAny (model prog w) A (Builtin.SmallTypes.nextOf (.ref it)) Q E s:=by
 rcases hi with⟨a,b⟩ |⟨a,b⟩
 ·exact wpAny_nextOf_list_end hh a b hx hE
 ·exact uD hh a b hx hE
theorem vd{e it l:Addr}{i:Nat}{k:Int}{its:Array Value}{x old:Value}{Q:Value→Shared→Prop}(he:IsEnum s.heap e it k old)(hi:fL s.heap it l its i)(hne:e≠it)(hli:l≠it)(hle:l≠e)(hx:its[i]?=some x)
  (hQ:∀ h',IsEnumOut h' e it (k+1) x s.heap.objs.size→fL h' it l its (i+1)→h'.get? s.heap.objs.size=some { cls:=.type "tuple", data:=.seq #[.int k s.toks,x] }→h'.objs.size=s.heap.objs.size+1 →
   (∀b o,b≠e→b≠it→s.heap.get? b=some o→h'.get? b=some o)→Q (.ref s.heap.objs.size) { s with heap:=h',toks:=s.toks+1 }) :
  wpAny (model prog w) A (Builtin.«enumerate.__next__» ⟨[.ref e],[]⟩) (fun fin s'=>∃v,fin=.done (.ret v)∧Q v s') E s:=by
 obtain⟨hp,g,d,tk,os⟩:=s
 refine(show wpAny _ _ (field (.ref e) 2 >>= _) _ _ _ from wpAny_bind (wpAny_field he rfl (x:=.ref it) rfl ?_))
 refine wpAny_bind (uC hi hli hx fun h1 i1 s1=>?_)
 replace s1:Heap.SameBut it hp h1:=s1
 have e1:IsEnum h1 e it k old:=(s1.2 e hne).trans he
 refine(show wpAny _ _ (field (.ref e) 3 >>= _) _ _ ⟨h1,g,d,tk,os⟩from wpAny_bind (wpAny_field e1 rfl (x:=rawInt k) rfl ?_))
 refine(show wpAny _ _ (field (.ref e) 4 >>= _) _ _ ⟨h1,g,d,tk,os⟩from wpAny_bind (wpAny_field e1 rfl (x:=.none) rfl ?_))
 refine(show wpAny _ _ (mkInt k >>= _) _ _ ⟨h1,g,d,tk,os⟩from wpAny_bind (wpAny_mkInt ?_))
 refine(show wpAny _ _ (setField (.ref e) 3 (rawInt (k+1)) >>= _) _ _ ⟨h1,g,d,tk+1,os⟩from wpAny_bind (wpAny_setField_rec e1 (by simp) fun h2 e2 s2=>?_))
 replace s2:Heap.SameBut e h1 h2:=s2
 replace e2:IsEnum h2 e it (k+1) old:=e2
 refine(show wpAny _ _ (setField (.ref e) 4 .none >>= _) _ _ ⟨h2,g,d,tk+1,os⟩from wpAny_bind (wpAny_setField_rec e2 (by simp) fun h3 e3 s3=>?_))
 replace s3:Heap.SameBut e h2 h3:=s3
 replace e3:IsEnum h3 e it (k+1) old:=e3
 refine(show wpAny _ _ (newTuple [.int k tk,x] >>= _) _ _ ⟨h3,g,d,tk+1,os⟩from wpAny_bind (wpAny_newTuple ?_))
 have e4:IsEnum (h3.push { cls:=.type "tuple", data:=.seq #[.int k tk,x] }) e it (k+1) old:=Heap.get?_push_of_some _ e3
 generalize hh4:h3.push { cls:=.type "tuple", data:=.seq #[.int k tk,x] }=h4 at e4
 have z3:h3.objs.size=hp.objs.size:=by rw[s3.1,s2.1,s1.1]
 have lte:e < hp.objs.size:=Heap.lt_size he
 have t4:h4.get? hp.objs.size=some { cls:=.type "tuple", data:=.seq #[.int k tk,x] }:=by rw[← hh4,← z3];exact Heap.get?_push_size _ rfl
 have z4:h4.objs.size=hp.objs.size+1:=by rw[← hh4,Heap.size_push,z3]
 have k4:∀b o,b≠e→h1.get? b=some o→h4.get? b=some o:=fun b o hb q=>by
  rw[← hh4];exact Heap.get?_push_of_some _ (s3.extBut b o hb (s2.extBut b o hb q))
 refine(show wpAny _ _ (Builtin.SmallTypes.ownedTupleIsFree (.ref e) >>= _) _ _ ⟨h4,g,d,tk+1,os⟩from ?_)
 rw[z3]
 refine wpAny_bind ?_
 unfold Builtin.SmallTypes.ownedTupleIsFree
 refine wpAny_bind (wpAny_field e4 rfl (x:=.none) rfl (wpAny_pure ?_))
 simp only[if_true]
 refine wpAny_bind (wpAny_rule (wpAny_bind (wpAny_field e4 rfl (x:=old) rfl (wpAny_bind (wpAny_setField_rec e4 (by simp) fun h5 e5 s5=>?_)))))
 replace s5:Heap.SameBut e h4 h5:=s5
 replace e5:IsEnum h5 e it (k+1) x:=e5
 refine(show wpAny _ _ (Builtin.SmallTypes.ownedTupleHandOut (.ref e) (.ref hp.objs.size) >>= _) _ _ ⟨h5,g,d,tk+1,os⟩from wpAny_bind ?_)
 unfold Builtin.SmallTypes.ownedTupleHandOut
 refine wpAny_bind (wpAny_setField_rec e5 (by simp) fun h6 e6 s6=>?_)
 replace s6:Heap.SameBut e h5 h6:=s6
 replace e6:IsEnumOut h6 e it (k+1) x hp.objs.size:=e6
 refine wpAny_setField_rec e6 (by simp) fun h7 e7 s7=>?_
 replace s7:Heap.SameBut e h6 h7:=s7
 replace e7:IsEnumOut h7 e it (k+1) x hp.objs.size:=e7
 have up:∀b o,b≠e→h4.get? b=some o→h7.get? b=some o:=fun b o hb q=>s7.extBut b o hb (s6.extBut b o hb (s5.extBut b o hb q))
 refine wpAny_bind (wpAny_letGo (wpAny_pure ⟨_,rfl,hQ h7 e7 (i1.at (fun o q=>up it o hne.symm (k4 it o hne.symm q)) fun o q=>up l o hle (k4 l o hle q)) (up _ _ (Nat.ne_of_gt lte) t4) (by rw[s7.1,s6.1,s5.1,z4]) fun b o hb hb2 q=>up b o hb (k4 b o hb (s1.extBut b o hb2 q))⟩))
theorem um{e it l:Addr}{i:Nat}{k:Int}{its:Array Value}{x old:Value}{Q:Option Value→Shared→Prop}(he:IsEnum s.heap e it k old)(hi:fL s.heap it l its i)(hne:e≠it)(hli:l≠it)(hle:l≠e)(hx:its[i]?=some x)
  (hQ:∀ h',IsEnumOut h' e it (k+1) x s.heap.objs.size→fL h' it l its (i+1)→h'.get? s.heap.objs.size=some { cls:=.type "tuple", data:=.seq #[.int k s.toks,x] }→h'.objs.size=s.heap.objs.size+1 →
   (∀b o,b≠e→b≠it→s.heap.get? b=some o→h'.get? b=some o)→Q (some (.ref s.heap.objs.size)) { s with heap:=h',toks:=s.toks+1 }):wpAny (model prog w) A (pyNext (.ref e)) Q E s:=by
 have hT:s.TypeIs (.ref e) "enumerate" :=⟨_,he,rfl⟩
 unfold pyNext
 exact wpAny_bind (wpAny_attempt (wpAny_callSpecial?_slot (name:=Str.ofString "__next__") hT F.slot_enumerate_next (wpAny_call_entry F.slot_enumerate_next hT F.entry_enumerate_next (vd he hi hne hli hle hx fun h' a b c d q=>wpAny_pure (hQ h' a b c d q)) (F.args_enumerate_next_1 _))))
theorem wV{e it l:Addr}{i:Nat}{k:Int}{its:Array Value}{old:Value}{Q:Option Value→Shared→Prop}(hh:A.handled=none)(he:IsEnum s.heap e it k old)(hi:fL s.heap it l its i)(hx:its[i]?=none)
  (hQ:∀h',Heap.ExtBut it s.heap h'→Q none { s with heap:=h' }):wpAny (model prog w) A (pyNext (.ref e)) Q E s:=by
 have hT:s.TypeIs (.ref e) "enumerate" :=⟨_,he,rfl⟩
 unfold pyNext
 refine wpAny_bind (wpAny_attempt (wpAny_callSpecial?_slot (name:=Str.ofString "__next__") hT F.slot_enumerate_next (wpAny_call_entry F.slot_enumerate_next hT F.entry_enumerate_next ?_ (F.args_enumerate_next_1 _))))
 refine(show wpAny _ _ (field (.ref e) 2 >>= _) _ _ _ from wpAny_bind (wpAny_field he rfl (x:=.ref it) rfl ?_))
 refine wpAny_bind (xN hh hi hx fun h' y q ⟨o,ho,hc⟩=>?_)
 exact wpAny_bind (wpAny_isInstance (T := "StopIteration") (b:=true) ⟨o,ho,hc⟩ isSubtype_stop (wpAny_pure (hQ _ q)))
end
end PR
namespace PR
open PySem PySem.Spec L2
section
variable{X:Cx}{T:Tb}{W:Nat→St→Hp→Prop}{Z:Zn}{F F1 B L:Addr→Prop}{H H1:Hp}{σ:St}{env:En}{pins:List (Addr×Obj)}{s:Shared}
theorem pH{h':Heap}{t':Nat}{fp:List Addr}{a:Addr}{vs:List V}(I:L2.Inv X pins σ H s)(hf:∀b∈fp,jz X pins H b)(k:∀b o,b∉fp→s.heap.get? b=some o→h'.get? b=some o)(hp:s.heap.objs.size≤a)(new:b5 X.prog X.w (upd H a (.tup vs)) h' a (.tup vs)) :
  L2.Inv X pins σ (upd H a (.tup vs)) { s with heap:=h',toks:=t' }:=by
 have hn:H a=none:=I.hok.fresh hp
 have nit:∀b u,H b=some u→b∉fp:=fun b u e z=>by rw[(hf b z).1]at e;cases e
 refine I.step (g':=s.gens) (d':=s.drawn) (ch:=fp) (fun b hb=>?_) (fun b o _ _ hc e _=>k b o hc e) (fun b o _ _ hc e _=>⟨o.slots,k b o hc e⟩) (fun b o _ e n=>?_) (fun b o hc e=>⟨o,k b o hc e⟩)
  (fun b xs e=>by rw[ay (bh e hn)];exact e) (fun b o u e=>by rw[ay (bh e hn)];exact e) (fun b ps e=>⟨#[],by rw[ay (bh e hn),e];simp⟩) (fun m hm=>?_) (fun b u e=>?_) I.bare
 ·obtain⟨_,q1,_,q3,q4,q5⟩:=hf b hb
  exact⟨q3,q1,q4,q5⟩
 ·rw[ay (Nat.ne_of_lt (Nat.lt_of_lt_of_le (Heap.lt_size e) hp))];exact n
 ·obtain⟨o,es,ep,ho,r⟩:=hm
  exact⟨o,es,ep,k _ o (fun z=>(hf _ z).2.1 rfl) ho,r⟩
 ·by_cases hb:b=a
  ·subst hb;rw[bg]at e;cases e;exact new
  ·rw[ay hb]at e
   refine(I.hok b u e).stay (fun c v hc q=>k c v ?_ q) (fun c q=>by rw[ay (bh q hn)];exact q) fun c xs q=>by rw[ay (bh q hn)];exact q
   rcases hc with z | z
   ·rw[z];exact nit b u e
   ·exact nit c _ z
def Sq(tp:Bool)(K:PySem.W.Frag)(H:Hp)(l:Addr)(xs:List V):Prop:=match tp with
 | true=>SqT K H l xs
 | false=>SqL K H l xs
def vt(tp:Bool)(h:Heap)(it l:Addr)(i:Nat):Prop:=match tp with
 | true=>h.IsTupleIter it l i
 | false=>h.IsListIter it l i
def Ite(tp:Bool)(K:PySem.W.Frag)(st:Int)(l:Addr):It :=
 ⟨fun i H=>∃xs x,Sq tp K H l xs∧xs[i]?=some x,fun i H v H'=>∃p y,H p=none∧v=.ref p∧H'=upd H p (.tup [.int (st+i),y])∧∀xs,Sq tp K H l xs→xs[i]?=some y,fun i H=>∃xs,Sq tp K H l xs∧xs.length≤i⟩
theorem vC{tp:Bool}{l it:Addr}{i:Nat}{xs:List V}(I:L2.Inv X pins σ H s)(hq:Sq tp X.K H l xs)(ha:vt tp s.heap it l i):∃its:List Value,aC xs its∧fL s.heap it l its.toArray i∧l≠it∧∀e k old,IsEnum s.heap e it k old→e≠it∧l≠e:=by
 cases tp with
 | false =>
  obtain⟨its,rv,p,_⟩:=I.list hq
  obtain⟨o,ho,hc,_⟩:=id p.isList
  obtain⟨o2,ho2,hc2,_⟩:=id (show s.heap.IsListIter it l i from ha)
  refine⟨its,rv,.lst ha p.isList,fun z=>?_,fun e k old he=>⟨fun z=>?_,fun z=>?_⟩⟩
  ·rw[z,ho2]at ho;cases ho;rw[hc2]at hc;exact absurd hc (by decide)
  ·have he':s.heap.get? e=some _:=he
   rw[z,ho2]at he';injection he' with he';rw[he']at hc2;exact absurd hc2 (by simp)
  ·have he':s.heap.get? e=some _:=he
   rw[z,he']at ho;injection ho with ho;rw[← ho]at hc;exact absurd hc (by simp)
 | true =>
  obtain⟨its,rv,p,_⟩:=I.tuple hq
  have p':s.heap.IsTuple l its.toArray:=p
  obtain⟨o,ho,hc,_⟩:=id p'
  obtain⟨o2,ho2,hc2,_⟩:=id (show s.heap.IsTupleIter it l i from ha)
  refine⟨its,rv,.tup ha p',fun z=>?_,fun e k old he=>⟨fun z=>?_,fun z=>?_⟩⟩
  ·rw[z,ho2]at ho;cases ho;rw[hc2]at hc;exact absurd hc (by decide)
  ·have he':s.heap.get? e=some _:=he
   rw[z,ho2]at he';injection he' with he';rw[he']at hc2;exact absurd hc2 (by simp)
  ·have he':s.heap.get? e=some _:=he
   rw[z,he']at ho;injection ho with ho;rw[← ho]at hc;exact absurd hc (by simp)
theorem wr{tp:Bool}{l:Addr}{xs ys:List V}(I:L2.Inv X pins σ H s)(h1:Sq tp X.K H l xs)(h2:Sq tp X.K H l ys):xs=ys:=by
 cases tp with
 | false=>exact I.list_inj h1 h2
 | true=>exact I.tuple_inj h1 h2
theorem AA{tp:Bool}{h:Heap}{it l:Addr}{its:Array Value}{i:Nat}(x:fL h it l its i)(hl:tp=true→∃o,h.get? l=some o∧o.cls=.type "tuple")(hl2:tp=false→∃o,h.get? l=some o∧o.cls=.type "list"):vt tp h it l i:=by
 cases tp with
 | false =>
  obtain⟨o,ho,hc⟩:=hl2 rfl
  rcases x with⟨a,b⟩ |⟨a,⟨o2,ho2,hc2,_⟩⟩
  ·exact a
  ·rw[ho]at ho2;cases ho2;rw[hc]at hc2;exact absurd hc2 (by decide)
 | true =>
  obtain⟨o,ho,hc⟩:=hl rfl
  rcases x with⟨a,⟨o2,ho2,hc2,_⟩⟩ |⟨a,b⟩
  ·rw[ho]at ho2;cases ho2;rw[hc]at hc2;exact absurd hc2 (by decide)
  ·exact a
theorem oV{P:Program}{w:World}{K:PySem.W.Frag}{els:List Expr}{x1}{tpos:Pos}(tp:Bool)(st:Int)(l e it:Addr) :
  sX P w K (.Tuple els x1 tpos) (Ite tp K st l) [e,it] e (fun i h=>(∃old,IsEnum h e it (st+i) old)∧vt tp h it l i) where
 mem:=by simp
 obj:=fun i h st b hb=>by
  obtain⟨⟨old,he⟩,ha⟩:=st
  simp only[List.mem_cons,List.not_mem_nil,or_false]at hb
  rcases hb with rfl | rfl
  ·exact⟨_,he,fun v z=>by cases z⟩
  ·cases tp with
   | false =>
    obtain⟨o,e,c,d⟩:=id (show h.IsListIter b l i from ha)
    exact⟨o,e,fun v z=>by rw[d]at z;cases z⟩
   | true =>
    obtain⟨o,e,c,d⟩:=id (show h.IsTupleIter b l i from ha)
    exact⟨o,e,fun v z=>by rw[d]at z;cases z⟩
 keep:=fun i h h' st k=>by
  obtain⟨⟨old,he⟩,ha⟩:=st
  refine⟨⟨old,k e (by simp) _ he⟩,?_⟩
  cases tp with
  | false =>
   obtain⟨o,e,r⟩:=id (show h.IsListIter it l i from ha)
   exact⟨o,k it (by simp) o e,r⟩
  | true =>
   obtain⟨o,e,r⟩:=id (show h.IsTupleIter it l i from ha)
   exact⟨o,k it (by simp) o e,r⟩
 item:=by
  intro X hP hw hK hc i pins s σ H E I hf stt hg
  subst hP hw hK
  obtain⟨⟨old,he⟩,ha⟩:=stt
  obtain⟨xs,x,hq,hx⟩:=hg
  obtain⟨its,rv,hi,hli,hen⟩:=vC I hq ha
  obtain⟨hne,hle⟩:=hen e _ old he
  obtain⟨u,hu,ru⟩:=rv.get hx
  refine um he hi hne hli hle (x:=u) (by simpa using hu) fun h1 eo in1 tu sz kp=>?_
  refine⟨_,rfl,wpAny_letOwnedTupleGo_enum eo fun h2 e2 s2=>?_⟩
  replace s2:Heap.SameBut e h1 h2:=s2
  have lte:e < s.heap.objs.size:=Heap.lt_size he
  have kp2:∀b o,b∉[e,it]→s.heap.get? b=some o→h2.get? b=some o:=fun b o hb q=>by
   simp only[List.mem_cons,List.not_mem_nil,or_false,not_or]at hb
   exact s2.extBut b o hb.1 (kp b o hb.1 hb.2 q)
  have tu2:h2.get? s.heap.objs.size=some { cls:=.type "tuple", data:=.seq #[.int (st+i) s.toks,u] }:=s2.extBut _ _ (Nat.ne_of_gt lte) tu
  refine⟨.ref s.heap.objs.size,upd H s.heap.objs.size (.tup [.int (st+i),x]),(pH (h':=h2) (t':=s.toks+1) (vs:=[.int (st+i),x]) I hf kp2 (Nat.le_refl _) ⟨by rw[sizeLine_eq];simp,[.int (st+i) s.toks,u],.cons ⟨_,rfl⟩ (.cons ru .nil),⟨_,tu2,rfl,_,rfl⟩⟩ :),rfl,⟨_,x,I.hok.fresh (Nat.le_refl _),rfl,rfl,fun ys hy=>by rw[wr I hy hq];exact hx⟩,⟨⟨u,?_⟩,?_⟩,fun b hb=>?_⟩
  ·have:st+((i+1:Nat):Int)=st+i+1:=by omega
   rw[this];exact e2
  ·have in2:=in1.at (fun o q=>s2.extBut it o hne.symm q) fun o q=>s2.extBut l o hle q
   refine AA in2 (fun z=>?_) fun z=>?_
   ·subst z
    obtain⟨_,_,p,_⟩:=I.tuple hq
    obtain⟨o,ho,hc,_⟩:=id (show s.heap.IsTuple l _ from p)
    exact⟨o,kp2 l o (by simp[hle,hli]) ho,hc⟩
   ·subst z
    obtain⟨_,_,p,_⟩:=I.list hq
    obtain⟨o,ho,hc,_⟩:=id p.isList
    exact⟨o,kp2 l o (by simp[hle,hli]) ho,hc⟩
  ·have:b < s.heap.objs.size:=by
    simp only[List.mem_cons,List.not_mem_nil,or_false]at hb
    rcases hb with rfl | rfl
    ·exact lte
    ·obtain⟨o,ho,_⟩:=hi.obj
     exact Heap.lt_size ho
   rw[ay (Nat.ne_of_lt this)]
   exact(hf b hb).1
 done:=by
  intro X hP hw hK hc i pins s σ H E I hf stt hg
  subst hP hw hK
  obtain⟨⟨old,he⟩,ha⟩:=stt
  obtain⟨xs,hq,hx⟩:=hg
  obtain⟨its,rv,hi,hli,hen⟩:=vC I hq ha
  obtain⟨f0,f1,f2,f3,f4,f5⟩:=hf it (by simp)
  have hl:=rv.length
  exact wV (I.ok.hd hc) he hi (by simp;omega) fun h' eb=>⟨rfl,I.turned (t':=s.toks) (fun b o hb e=>eb b o hb e) f0 f1 f3 f4 f5⟩
 self:=fun _ _ _ _ _ st h=>by
  obtain⟨⟨old,he⟩,_⟩:=st
  exact wpAny_pyIter_enum he h
theorem vj:bootBuiltins "enumerate" = some (.type "enumerate"):=by decide +kernel
end
end PR
namespace PR
open PySem PySem.Spec L2
def enP(k:Int):List PV→List PV
 | []=>[]
 | x::xs=>.tup [.int k,x]::enP (k+1) xs
theorem e_:∀(k:Int) (xs:List PV) (i:Nat),(enP k xs)[i]?=(xs[i]?).map fun x=>.tup [.int (k+i),x]
 | _,[],i=>by simp[enP]
 | k,x::xs,0=>by simp[enP]
 | k,x::xs,i+1=>by
  simp only[enP,List.getElem?_cons_succ,e_ (k+1) xs i]
  congr 1
  funext y
  congr 3
  omega
theorem iy:∀(k:Int) (xs:List PV),(enP k xs).length=xs.length
 | _,[]=>rfl
 | k,_::xs=>by simp[enP,iy (k+1) xs]
section
variable{X:Cx}{T:Tb}{W:Nat→St→Hp→Prop}{Z:Zn}{F F1 B L:Addr→Prop}{H H1:Hp}{σ:St}{env:En}{fp:Nat→List Addr}
theorem qu{H2:Hp}{k:Int}{x:PV}{v:V}{f:List Addr}{p:Addr}(hp:H2 p=none)(r:Rel T F B L H2 x v f):Rel T F B L (upd H2 p (.tup [.int k,v])) (.tup [.int k,x]) (.ref p) f:=by
 unfold Rel
 refine⟨p,_,rfl,SqT.of bg,?_⟩
 have r2:Rel T F B L (upd H2 p (.tup [.int k,v])) x v f:=r.ext (Ext.upd hp) fun _ h=>h
 unfold RelL
 refine⟨.int k,[v],[],f,rfl,d0,?_,rfl⟩
 unfold RelL
 exact⟨v,[],f,[],rfl,r2,by unfold RelL;exact⟨rfl,rfl⟩,by simp⟩
end
end PR
namespace PR
open PySem PySem.Spec L2
section
variable{X:Cx}{T:Tb}{W:Nat→St→Hp→Prop}{Z:Zn}{F F1 B L:Addr→Prop}{H H1:Hp}{σ:St}{env:En}{fp:Nat→List Addr}{D:Ends}
end
end PR
namespace PR
open PySem PySem.Spec L2
section
variable{X:Cx}{T:Tb}{W:Nat→St→Hp→Prop}{Z:Zn}{F F1 B L:Addr→Prop}{H H1:Hp}{σ:St}{env:En}{fp:Nat→List Addr}{D:Ends}
end
end PR
namespace PR
open PySem PySem.Spec L2
section
variable{X:Cx}{T:Tb}{W:Nat→St→Hp→Prop}{Z:Zn}{F F1 B L:Addr→Prop}{H H1:Hp}{σ:St}{env:En}{fp:Nat→List Addr}{D:Ends}
end
end PR
namespace PR
open PySem PySem.Spec L2
open AutoSeq1 (wpAny_loadPart')
section
variable{prog:Program}{w:World}{A:Around}{E:Value→Shared→Prop}{s:Shared}
end
end PR
namespace PR
open PySem PySem.Spec L2
section
variable{X:Cx}{T:Tb}{W:Nat→St→Hp→Prop}{Z:Zn}{F F1 B L:Addr→Prop}{H H1:Hp}{σ:St}{env:En}{pins:List (Addr×Obj)}{s:Shared}
end
end PR
namespace PR
open PySem PySem.Spec L2
section
variable{X:Cx}{T:Tb}{W:Nat→St→Hp→Prop}{Z:Zn}{F F1 B L:Addr→Prop}{H H1:Hp}{σ:St}{env:En}{fp:Nat→List Addr}
end
end PR
namespace PR
open PySem PySem.Spec L2
section
variable{X:Cx}{T:Tb}{W:Nat→St→Hp→Prop}{F B L:Addr→Prop}{H:Hp}
end
end PR
namespace PR
open PySem PySem.Spec L2
section
variable{prog:Program}{w:World}{A:Around}{R:Result→Shared→Prop}{ia:Addr}{fps wrs:List Addr}{len:Nat}{Pv:Nat→Value→Prop}{Sv:Nat→Heap→Prop}
end
section
variable{prog:Program}{w:World}{A:Around}{E:Value→Shared→Prop}{s:Shared}
end
end PR
namespace PR
open PySem PySem.Spec L2
section
variable{X:Cx}{T:Tb}{W:Nat→St→Hp→Prop}{Z:Zn}{F F1 B L:Addr→Prop}{H H1:Hp}{σ:St}{env:En}{fp:Nat→List Addr}{pins:List (Addr×Obj)}{s:Shared}
def z1(vs:List V)(P:V→Prop):Prop:=match vs with
 | [v]=>P v
 | _=>False
theorem uz{vs:List V}{P:V→Prop}(h:z1 vs P):∃v,vs=[v]∧P v:=by
 match vs,h with
 | [v],h=>exact⟨v,rfl,h⟩
end
end PR
namespace PR
open PySem PySem.Spec L2
section
variable{X:Cx}{T:Tb}{W:Nat→St→Hp→Prop}{Z:Zn}{F F1 B L:Addr→Prop}{H H1:Hp}{σ:St}{env:En}{fp:Nat→List Addr}{D:Ends}
end
end PR
namespace PR
open PySem PySem.Spec L2
open AutoSeq1 (wpAny_loadPart')
section
variable{prog:Program}{w:World}{A:Around}{E:Value→Shared→Prop}{s:Shared}
theorem dK1(a:Value):checkTypeCall "enumerate" ⟨[a],[]⟩=pure ():=by kernel_rfl
theorem dK2(a:Value):checkBuiltinCall "enumerate.__new__" ⟨[.type "enumerate", a],[]⟩=pure ():=by kernel_rfl
theorem dK3(a b:Value):argsOk "object.__init__" ⟨[a,b],[]⟩:=by
 unfold argsOk
 rw[signature?_of (id := "object.__init__") (n:=['_','_','t','i','n','i','_','_']) (o:=['t','c','e','j','b','o']) (by kernel_rfl) F.owner_object]
 kernel_rfl
theorem yB(n:String)(l:Addr) :
  Meets (Builtin.«enumerate.__new__» ⟨[.type "enumerate", .ref l],[]⟩) (fun _ R s=>sY n l s∧R (.ok (.ret (.ref (s.heap.push (itO n l)).objs.size))) { s with heap:=(s.heap.push (itO n l)).push (enO s.heap.objs.size 0) }) :=
 .of_wp fun pr w A R s0 h=>by
  obtain⟨hp,g,d,tk,os⟩:=s0
  obtain⟨hI,h⟩:=h
  have hsub:=sub_enumerate
  have hJ:∀{Q:Value→Shared→Prop}{E:Value→Shared→Prop},Q (.ref hp.objs.size) ⟨hp.push (itO n l),g,d,tk,os⟩→wpAny (model pr w) A.in1 (pyIter (.ref l)) Q E ⟨hp,g,d,tk,os⟩:=fun {Q E} q=>hI pr w A.in1 Q E q
  have hJ':∀{Q:Value→Shared→Prop}{E:Value→Shared→Prop},Q (.ref hp.objs.size) ⟨hp.push (itO n l),g,d,tk,os⟩→wpAny (model pr w) A (pyIter (.ref l)) Q E ⟨hp,g,d,tk,os⟩:=fun {Q E} q=>hI pr w A Q E q
  wp_walk
  refine wpAny_stack_any fun st=>wpAny_pure ?_
  split<;>try (rename_i c _ _ _ _ _;cases(c==Value.type "enumerate"))
  all_goals (wp_walk using hJ,hJ')
  all_goals exact⟨_,rfl,h⟩
theorem vi{n:String}{l:Addr}{Q:Value→Shared→Prop}(hI:sY n l s)(h:Q (.ref (s.heap.objs.size+1)) { s with heap:=(s.heap.push (itO n l)).push (enO s.heap.objs.size 0) }) :
  wpAny (model prog w) A (call (.type "enumerate") [.ref l] []) Q E s:=by
 have hz:(s.heap.push (itO n l)).objs.size=s.heap.objs.size+1:=Heap.size_push ..
 refine pW (Q1:=fun ob s1=>s1.TypeIs ob "enumerate" ∧ Q ob s1) F.called_enumerate (dK1 _) (dK2 _) F.entry_enumerate_new F.entry_object_init (yB n l) ⟨hI,?_⟩ fun ob s1 hq=>⟨hq.1,dK3 ob _,_,AH F.called_enumerate.init.lookup F.called_enumerate.made (by decide),hq.1,rfl,hq.2⟩
 show _∧_
 rw[hz]
 have:=Heap.get?_push_size (s.heap.push (itO n l)) (o:=enO s.heap.objs.size 0) rfl
 rw[hz]at this
 exact⟨⟨_,this,rfl⟩,h⟩
end
def et(m:ME):MI:=fun env=>(m env).bind fun x=>match x with
 | .lst f xs=>if !f.isLnt&&ff xs then .ok (enP 0 xs)else .stuck
 | .tup xs=>if ff xs then .ok (enP 0 xs)else .stuck
 | _=>.stuck
section
variable{X:Cx}{T:Tb}{W:Nat→St→Hp→Prop}{Z:Zn}{F F1 B L:Addr→Prop}{H H1:Hp}{σ:St}{env:En}{fp:Nat→List Addr}{pins:List (Addr×Obj)}{s:Shared}
theorem qK{els:List Expr}{x1}{tpos:Pos}{l:Expr}{tl:TE}{p pos:Pos}(hg:Gl X "enumerate")(hm:X.mg "enumerate" = none)(hl:PE X l tl)(hs:starEach [l] X.env=[(false,eval l X.env)]:=by rfl) :
  PI X (.Tuple els x1 tpos) (.Call (.Name "enumerate" p) [l] [] pos) (fun σ H R=>tl σ H fun x H1=>∃a tp xs,[x]=[V.ref a]∧Sq tp X.K H1 a xs∧R (Ite tp X.K 0 a) H1):=by
 intro pins s σ H R I h
 refine PyProof.Rows.Call_ (fE I hg hm vj (PyProof.Rows.callWith_type1 (thn (cC (te:=tl) hl fv (by rw[hs];rfl) pos pins s σ H (fun vs H1=>∃a tp xs,vs=[.ref a]∧Sq tp X.K H1 a xs∧R (Ite tp X.K 0 a) H1) I h) fun us s2 ⟨vs,H1,I2,r1,a,tp,xs,ev,hq,q⟩=>?_) (by rw[hs];rfl) rfl))
 subst ev
 obtain⟨u,rfl,rx⟩:=eE r1
 cases rx
 have hI:∃n,sY n a s2∧∀h',h'.get? s2.heap.objs.size=some (itO n a)→vt tp h' s2.heap.objs.size a 0:=by
  cases tp with
  | false =>
   obtain⟨its,rv,pl,_⟩:=I2.list hq
   exact⟨"list_iterator", fun _ _ _ _ _ q=>wpAny_pyIter_list pl.isList q,fun h' e=>⟨_,e,rfl,rfl⟩⟩
  | true =>
   obtain⟨its,rv,pl,_⟩:=I2.tuple hq
   exact⟨"tuple_iterator", fun _ _ _ _ _ q=>wpAny_pyIter_tuple (show s2.heap.IsTuple a its.toArray from pl) q,fun h' e=>⟨_,e,rfl,rfl⟩⟩
 obtain⟨n,hI,hA⟩:=hI
 have hz:(s2.heap.push (itO n a)).objs.size=s2.heap.objs.size+1:=Heap.size_push ..
 have he:((s2.heap.push (itO n a)).push (enO s2.heap.objs.size 0)).get? (s2.heap.objs.size+1)=some (enO s2.heap.objs.size 0):=by
  have:=Heap.get?_push_size (s2.heap.push (itO n a)) (o:=enO s2.heap.objs.size 0) rfl
  rw[hz]at this
  exact this
 refine vi hI (wpAny_pyIter_enum (i:=0) (old:=.none) he ?_)
 refine⟨s2.heap.objs.size+1,[s2.heap.objs.size+1,s2.heap.objs.size],_,_,H1,rfl,I2.kept (t':=s2.toks) fun b o e=>Heap.get?_push_of_some _ (Heap.get?_push_of_some _ e),oV tp 0 a _ _,⟨⟨.none,by simpa using he⟩,hA _ (Heap.get?_push_of_some _ (Heap.get?_push_size _ rfl))⟩,fun b hb=>?_,q⟩
 simp only[List.mem_cons,List.not_mem_nil,or_false]at hb
 rcases hb with rfl | rfl
 ·exact I2.fpOk (Nat.le_succ _) (I2.hok.fresh (Nat.le_succ _))
 ·exact I2.fpOk (Nat.le_refl _) (I2.hok.fresh (Nat.le_refl _))
theorem fN{els:List Expr}{x1}{tpos p pos:Pos}{e:Expr}{m:ME}(hK:X.K=T.K)(hg:Gl X "enumerate")(hm:X.mg "enumerate" = none)(he:SE X T W e m)(hs:starEach [e] X.env=[(false,eval e X.env)]:=by rfl) :
  SI X T W (.Tuple els x1 tpos) (.Call (.Name "enumerate" p) [e] [] pos) (et m):=fun pins s σ H R I h=>qK hg hm he hs pins s σ H R I (by
 obtain⟨Z,F,env,fp,S,q⟩:=h
 unfold et at q
 refine tE.bind S (fun c e=>by rw[e]at q;exact q) (fun e=>by rw[e]at q;exact q) fun x v H1 F1 f1 e1 g1 r1 n1 d1 w1=>?_
 rw[e1]at q
 simp only[Res.ok_bind]at q
 have S1:=S.grow g1
 rw[hK]
 have key:∀(tp:Bool) (a:Addr) (xs:List PV) (vs:List V),RelL T F1 Z.B NoL H1 xs vs []→(∀H2,(∀a o,H1 a=some o→¬Own fp a→H2 a=some o)→Sq tp T.K H2 a vs)→ItR T F1 Z.B (Own fp) H1 (Ite tp T.K 0 a) (enP 0 xs):=by
  intro tp a xs vs hr hq H2 hk
  have hq2:=hq H2 hk
  refine⟨fun i x ex=>?_,⟨vs,hq2,by rw[iy,hr.length];exact Nat.le_refl _⟩⟩
  rw[e_]at ex
  obtain⟨y,ey,rfl⟩:=Option.map_eq_some_iff.mp ex
  obtain⟨v,_,ev,_,_⟩:=hr.get ey
  refine⟨⟨vs,v,hq2,ev⟩,fun w H3 hy=>?_⟩
  obtain⟨p,y',hp,rfl,rfl,hall⟩:=hy
  have:=hall vs hq2
  rw[ev]at this
  cases this
  exact⟨Ext.upd hp,qu hp (fF S1.fow S1.bow S1.oow hk hr ey ev)⟩
 cases x with
 | lst f xs =>
  dsimp only at q
  by_cases hc:(!f.isLnt&&ff xs)=true
  ·rw[if_pos hc]at q
   rw[Bool.and_eq_true]at hc
   unfold Rel at r1
   obtain⟨a,vs,fp',rfl,hl,hr,hf⟩:=r1
   obtain⟨rfl,hr'⟩:=fZ hc.2 hr
   refine⟨a,false,vs,rfl,hl.sq,q _ H1 F1 g1 (key false a xs vs hr' fun H2 hk=>?_)⟩
   have na:f≠.mod→∀o,H1 a=some o→H2 a=some o:=fun hn o ho=>by
    refine hk a o ho ?_
    cases f with
    | own =>
     rintro⟨i,hi⟩
     obtain⟨_,o',ho'⟩:=S.dis i a hi
     obtain rfl:f1=[a]:=hf
     rw[w1 a List.mem_cons_self]at ho';cases ho'
    | frz=>exact S1.fow a hl.1
    | bor=>exact S1.bow a hl.1
    | lnt=>exact absurd hc.1 (by decide)
    | mod=>exact absurd rfl hn
   show SqL T.K H2 a vs
   by_cases hn:f=.mod
   ·subst hn;exact .inr hl
   ·exact .inl (Rd.tr (na hn) (hl.rd hn))
  ·rw[if_neg hc]at q;exact q.elim
 | tup xs =>
  dsimp only at q
  by_cases hc:ff xs=true
  ·rw[if_pos hc]at q
   unfold Rel at r1
   obtain⟨a,vs,rfl,hl,hr⟩:=r1
   obtain⟨rfl,hr'⟩:=fZ hc hr
   refine⟨a,true,vs,rfl,hl,q _ H1 F1 g1 (key true a xs vs hr' fun H2 hk=>?_)⟩
   exact SqT.tr (fun o ho hfx=>hk a o ho fun z=>by
    have:=S1.oow a o z ho
    cases o with
    | lst _=>exact hfx
    | ins _ _ _=>exact hfx
    | _=>exact this) hl
  ·rw[if_neg hc]at q;exact q.elim
 | _=>exact q.elim)
end
end PR
namespace PR
open PySem PySem.Spec L2
def lV(P:Params):List DictEntry→List (Str×Int)→Prop
 | [],[]=>True
 | e::es,kv::kvs=>(∃t u,e=⟨PyData.keyHash P kv.1,.str kv.1 t,.int kv.2 u⟩)∧lV P es kvs
 | _,_=>False
structure ib(w:World)(K:PySem.W.Frag)(d:Addr)(kvs:List (Str×Int)):Prop where
 ne:(d==sysModules)=false
 ex:∃(es:List DictEntry) (ep:Nat),K.lookup d=some { cls:=.type "dict", dict:=none,data:=.dict es.toArray ep,slots:=#[] }∧lV w.params es kvs
def look(kvs:List (Str×Int))(k:Str):Option Int:=(kvs.find? fun p=>p.1==k).map (·.2)
def A6(f:Str→Option Value)(kvs:List (Str×Int)):Prop:=∀k,match look kvs k with
 | some i=>∃u,f k=some (.int i u)
 | none=>f k=none
theorem oJ{P:Params}:∀{es:List DictEntry}{kvs:List (Str×Int)},lV P es kvs→A6 (fun k=>(es.find? fun e=>Value.isStrOf k e.key).map (·.val)) kvs
 | [],[],_=>fun k=>rfl
 | [],_::_,h=>h.elim
 | _::_,[],h=>h.elim
 | e::es,kv::kvs,h=>fun k=>by
  obtain⟨⟨t,u,rfl⟩,h2⟩:=h
  have ih:=oJ h2 k
  simp only[look,List.find?_cons,Value.isStrOf]at ih ⊢
  by_cases q:(kv.1==k)=true
  ·simp only[q,Option.map_some]
   exact⟨u,rfl⟩
  ·simp only[q]
   exact ih
theorem lU{P:Params}:∀{es:List DictEntry}{kvs:List (Str×Int)},lV P es kvs→∀e∈es,∃k t,e.key=.str k t∧e.hash=PyData.keyHash P k
 | [],_,_=>fun e he=>nomatch he
 | _::_,[],h=>h.elim
 | e::es,kv::kvs,h=>fun e' he=>by
  obtain⟨⟨t,u,rfl⟩,h2⟩:=h
  rcases List.mem_cons.mp he with rfl | he
  ·exact⟨kv.1,t,rfl,rfl⟩
  ·exact lU h2 e' he
theorem ib.map{prog:Program}{w:World}{K:PySem.W.Frag}{d:Addr}{kvs:List (Str×Int)}{h:Heap}(hD:ib w K d kvs)(hI:K.In h):∃f,h.MapOf (strKind prog w) d f∧A6 f kvs:=by
 obtain⟨es,ep,hl,he⟩:=hD.ex
 refine⟨_,⟨_,es.toArray,ep,hI _ _ hl,⟨rfl,rfl,rfl⟩,rfl,fun e hm=>?_,fun k=>rfl⟩,?_⟩
 ·obtain⟨k,t,h1,h2⟩:=lU he e (by simpa using hm)
  refine⟨k,?_,h2⟩
  rw[h1]
  show(k==k)=true
  simp
 ·intro k
  have:=oJ he k
  simpa[findBy,strKind]using this
section
variable{X:Cx}{T:Tb}{W:Nat→St→Hp→Prop}{Z:Zn}{F F1 B L:Addr→Prop}{H H1:Hp}{σ:St}{env:En}{fp:Nat→List Addr}{d:Addr}{kvs:List (Str×Int)}
def nY(d:Addr)(kvs:List (Str×Int)):R2:=fun x y H Q=>∃k,x=.str k∧y=.ref d∧Q (.bl (!(look kvs k).isSome)) H
theorem xm(hD:ib X.w X.K d kvs):OpR X (compareOp .NotIn) (nY d kvs):=by
 intro pins s σ H x y v u Q I rx ry h
 obtain⟨k,rfl,rfl,q⟩:=h
 obtain⟨t,rfl⟩:=rx
 cases ry
 obtain⟨f,hm,hf⟩:=hD.map (prog:=X.prog) I.kIn
 refine wpAny_notIn_of (knd:=strKind X.prog X.w) (k:=k) (by show(k==k)=true;simp) hD.ne hm ⟨.bl (!(look kvs k).isSome),H,I.tok _,?_,q⟩
 have:=hf k
 cases e:look kvs k with
 | none=>rw[e]at this;rw[show f k=none from this];rfl
 | some i =>
  rw[e]at this
  obtain⟨u,hu⟩:=this
  rw[hu]
  rfl
def vH(d:Addr)(kvs:List (Str×Int)):R2:=fun x y H Q=>∃k i,x=.ref d∧y=.str k∧look kvs k=some i∧Q (.int i) H
theorem uR(hD:ib X.w X.K d kvs):IxR X (vH d kvs):=by
 intro value slice pins s σ H x y v u Q I rx ry h hs
 obtain⟨k,i,rfl,rfl,e,q⟩:=h
 cases rx
 obtain⟨t,rfl⟩:=ry
 obtain⟨f,hm,hf⟩:=hD.map (prog:=X.prog) I.kIn
 have:=hf k
 rw[e]at this
 obtain⟨u,hu⟩:=this
 exact PyProof.Rows.subscriptTail_builtinR (x:=.int i u) hm.typeIs PySem.F.slot_dict_getitem.lookup
  (wpAny_getItem_of (knd:=strKind X.prog X.w) (k:=k) (Q:=fun r s'=>r=.int i u∧EP X pins σ Q r s') (by show(k==k)=true;simp) hm hu ⟨rfl,.int i,H,I.tok _,⟨u,rfl⟩,q⟩) hs
def kg(kvs:List (Str×Int)):PV→Res PV
 | .str k=>.ok (.bl (!(look kvs k).isSome))
 | _=>.stuck
def n9(kvs:List (Str×Int)):PV→Res PV
 | .str k=>(match look kvs k with
  | some i=>.ok (.int i)
  | none=>.stuck)
 | _=>.stuck
theorem mR:vn T W (kg kvs) (fun x H Q=>nY d kvs x (.ref d) H Q):=by
 intro B F L σ H Q F' H' x v fx g rx nf nd new q
 cases x with
 | str k =>
  unfold Rel at rx
  exact⟨k,rx.1,rfl,q.scal g iK⟩
 | _=>exact q.elim
theorem rk:vn T W (n9 kvs) (fun x H Q=>vH d kvs (.ref d) x H Q):=by
 intro B F L σ H Q F' H' x v fx g rx nf nd new q
 cases x with
 | str k =>
  unfold Rel at rx
  unfold n9 at q
  dsimp only at q
  cases e:look kvs k with
  | none=>rw[e]at q;exact q.elim
  | some i=>rw[e]at q;exact⟨k,i,rfl,rx.1,e,q.scal g d0⟩
 | _=>exact q.elim
theorem tZ{x:Str}{e:Expr}{m:ME}{px pos:Pos}(hg:Gl X x)(hm:X.mg x=some (.ref d))(hD:ib X.w X.K d kvs)(he:SE X T W e m)(hs:fb e)(hd:(x ==("__debug__" : Str))=false:=by decide):SE X T W (.Subscript (.Name x px) e pos) (mUn (n9 kvs) m) :=
 PE.wk (vM (pos:=pos) (uR hD) (iq (v:=.ref d) (pos:=px) hg hm rfl hd) he hs) fun _ _ _ h=>tE.mir1 rk h
theorem oZ{x:Str}{e:Expr}{m:ME}{px pos:Pos}(hg:Gl X x)(hm:X.mg x=some (.ref d))(hD:ib X.w X.K d kvs)(he:SE X T W e m)(hd:(x ==("__debug__" : Str))=false:=by decide):ST X T W (.Compare e [.NotIn] [.Name x px] pos) (aq (mUn (kg kvs) m)) :=
 PT.wk (n0 (pos:=pos) (xm hD) he (iq (v:=.ref d) (pos:=px) hg hm rfl hd) rfl) fun σ H Q h=>by
  obtain⟨Z,F,env,fp,S,q⟩:=tT.test h
  exact tE.mir1 mR ⟨Z,F,env,fp,S,q⟩
end
end PR
namespace PR
open PySem PySem.Spec L2
section
variable{X:Cx}{T:Tb}{W:Nat→St→Hp→Prop}{Z:Zn}{F F1 B L:Addr→Prop}{H H1:Hp}{σ:St}{env:En}{fp:Nat→List Addr}{D:Ends}
end
end PR
namespace PR
open PySem PySem.Spec L2
section
variable{X:Cx}{T:Tb}{W:Nat→St→Hp→Prop}{Z:Zn}{F F1 B L:Addr→Prop}{H H1:Hp}{σ:St}{env:En}{fp:Nat→List Addr}{D:Ends}
end
end PR
namespace PR
open PySem PySem.Spec L2
section
variable{P:Program}{w:World}{mg:Str→Option Value}{base:Heap}{T:Tb}
theorem yb{x qual:Str}{st:Stmt}{f:Addr}{fd:FuncData}{N ps:List Str}{k:Nat}{m:MS}(F:Fun T.K x qual st f fd)(S:bV N ps (am st))
  (body:∀ (cdv:Value) (A:Around) (outer:List Env) (s:Shared) (H:Hp) (E:XK),Ctx (cj (CXP P w) P w T.K mg base N qual (am st) f cdv A outer s H E) T (WD T E) k →
   SSs (cj (CXP P w) P w T.K mg base N qual (am st) f cdv A outer s H E) T (WD T E) (aQ st) m):bR P w T.K mg base (CXP P w) (k+1) f fd ps (spM T ps.length (a9 N.length m)) :=
 AQ F S fun cdv A outer s H E hr=>body cdv A outer s H E (kF hr)
theorem uY{x qual:Str}{st:Stmt}{f:Addr}{fd:FuncData}{N ps:List Str}{k:Nat}{m:MS}(F:Fun T.K x qual st f fd)(S:bV N ps (am st))
  (body:∀ (cdv:Value) (A:Around) (outer:List Env) (s:Shared) (H:Hp) (E:XK),Ctx (cj (CXP P w) P w T.K mg base N qual (am st) f cdv A outer s H E) T (WD T E) k →
   SSs (cj (CXP P w) P w T.K mg base N qual (am st) f cdv A outer s H E) T (WD T E) (aQ st) m):bR P w T.K mg base (CXP P w) (k+1) f fd ps (spI T ps.length (ie N.length m)) :=
 yc F S fun cdv A outer s H E hr=>body cdv A outer s H E (kF hr)
end
end PR
namespace PR
open PySem PySem.Spec L2
section
variable{prog:Program}{w:World}{A:Around}{E:Value→Shared→Prop}{s:Shared}
abbrev emL(c:Nat):Obj:={ cls:=.type "list", data:=.seq #[] c }
abbrev fuL(xs:Array Value)(c:Nat):Obj:={ cls:=.type "list", dict:=none,data:=.seq xs c,slots:=#[] }
theorem rB:typeLookup (.type "list_reverseiterator") "__len__" = pure none:=by
 rw[typeLookup_type,builtinLookup_eq_fast];kernel_rfl
theorem uK:typeLookup (.type "list_reverseiterator") "__length_hint__" = pure (some (.builtin "list_reverseiterator.__length_hint__")):=by
 rw[typeLookup_type,builtinLookup_eq_fast];kernel_rfl
def vz(items:Array Value)(i:Nat)(v:Value):Prop:=items[items.size - 1 - i]?=some v
theorem yu{R:Result→Shared→Prop}{S it l:Addr}{items:Array Value}{c₀:Nat}(hh:A.handled=none)(hS:s.heap.get? S=some (emL c₀))(hit:s.heap.IsRevIter it l ((items.size:Int) - 1))(hl:s.heap.IsList l items)(hne:l≠it)(hSi:S≠it)(hSl:S≠l)(hz:items.size≤1000000)
  (hR:∀h' tk acc c,(∀b o,b≠S→b≠it→s.heap.get? b=some o→h'.get? b=some o)→h'.get? S=some (fuL acc c)→ItemsOf (vz items) acc items.size→R (.ok (.ret .none)) { s with heap:=h',toks:=tk }) :
  wpAny (model prog w) A.in1 (Builtin.List.listExtendWith (.ref S) (.ref it) .none)
   (fun fin s'=>match fin with | .done f=>R (.ok f) s' | .again c'=>c'.quiet=true∧codeAny (model prog w) A c' R s') (fun e s'=>R (.error e) s') s:=by
 have W:=(Walks.listRev (prog:=prog) (w:=w) (A:=A.in1) hh it l hne items).toS
 have n1:Builtin.List.listSameRef (.ref S) (.ref it)=false:=by simp[Builtin.List.listSameRef,hSi]
 unfold Builtin.List.listExtendWith
 refine wpAny_bind (wpAny_typeOf hit.typeIs ?_);rw[if_neg (by rw[n1];decide)]
 refine wpAny_bind (wpAny_pyIter_revIter hit (wpAny_bind (wpAny_holding ?_)));unfold Builtin.List.listLengthHint
 refine wpAny_bind (wpAny_specialOf hit.typeIs rB ?_)
 show wpAny _ _ (specialOf (.ref it) (Str.ofString "__length_hint__") >>= _) _ _ s;refine wpAny_bind (wpAny_specialOf hit.typeIs uK ?_)
 generalize hid:("list_reverseiterator.__length_hint__" : String)=id0
 wp_delta
 rw[show splitId id0=some ("list_reverseiterator", "__length_hint__")from by subst hid;decide +kernel]
 subst hid
 refine wpAny_bind (wpAny_isInstance (b:=true) hit.typeIs (by rw[isSubtype_type];kernel_rfl) (wpAny_pure ?_));rw[if_neg (by decide)]
 refine wpAny_pure ⟨plainId_quiet F.plain_extend_loop _,codeAny_extend_loopS W (by rw[sizeLine_eq];omega) S (by simp[hSi,hSl]) .none items.size 0 s #[] c₀ rfl (Nat.zero_le _) ⟨Nat.zero_le _,by simpa using hit,hl⟩ hS (ItemsOf.nil _) fun s' acc c hm hS' ha=>?_⟩
 rw[Moved.eq_with hm]
 exact hR s'.heap s'.toks acc c (fun b o h1 h2 e=>hm.heap b o (by simp[h1,h2]) e) hS' ha
theorem l5{it l:Addr}{items:Array Value}{Q:Value→Shared→Prop}(hh:A.handled=none)(hit:s.heap.IsRevIter it l ((items.size:Int) - 1))(hl:s.heap.IsList l items)(hne:l≠it)(hz:items.size≤1000000)
  (hQ:∀h' tk acc c,(∀b o,b≠it→s.heap.get? b=some o→h'.get? b=some o)→h'.get? s.heap.objs.size=some (fuL acc c)→ItemsOf (vz items) acc items.size→Q (.ref s.heap.objs.size) { s with heap:=h',toks:=tk }) :
  wpAny (model prog w) A (call (.type "list") [.ref it]) Q E s:=by
 have lt1:it < s.heap.objs.size:=by obtain⟨o,e,_⟩:=id hit;exact Heap.lt_size e
 have lt2:l < s.heap.objs.size:=by obtain⟨o,e,_⟩:=id hl;exact Heap.lt_size e
 refine callType_codes (Q₁:=fun ob s1=>ob=.ref s.heap.objs.size∧s1={ s with heap:=s.heap.push (emL 0) }) F.called_list (F.typeCall_list_1 _) F.entry_list_init (code_list_new _ ⟨rfl,rfl⟩) fun ob s1 hq=>?_
 obtain⟨rfl,rfl⟩:=hq
 have hS:(s.heap.push (emL 0)).get? s.heap.objs.size=some (emL 0):=Heap.get?_push_size _ rfl
 refine⟨⟨_,hS,rfl⟩,F.args_list_init_2 _ _,?_⟩
 show wpAny _ A.in1.in1 (Builtin.List.listItems (.ref s.heap.objs.size) >>= fun old=>Builtin.List.listUpdate (.ref s.heap.objs.size) (fun _=>#[]) >>= fun _=>letGo old.toList.reverse >>= fun _=>Builtin.List.listExtendWith (.ref s.heap.objs.size) (.ref it) .none) _ _ _
 refine wpAny_bind ?_;unfold Builtin.List.listItems
 refine wpAny_bind (wpAny_seqItems hS rfl (wpAny_pure (wpAny_bind ?_)))
 show wpAny _ A.in1.in1 (updateSeq s.heap.objs.size (fun _=>#[])) _ _ _;refine wpAny_updateSeq hS rfl (wpAny_bind (wpAny_letGo ?_))
 have hS2:=Heap.get?_update_self (Obj.mapSeq (fun _=>(#[]:Array Value))) hS rfl
 have ot:∀b o,b≠s.heap.objs.size→s.heap.get? b=some o→((s.heap.push (emL 0)).update s.heap.objs.size (Obj.mapSeq (fun _=>(#[]:Array Value)))).get? b=some o:=fun b o hb e=>(Heap.get?_update_other _ _ (Ne.symm hb)).trans (Heap.get?_push_of_some _ e)
 refine yu (A:=A.in1) (c₀:=0) hh hS2 (hit.at fun o e=>ot _ o (Nat.ne_of_lt lt1) e) (hl.at fun o e=>ot _ o (Nat.ne_of_lt lt2) e) hne (Ne.symm (Nat.ne_of_lt lt1)) (Ne.symm (Nat.ne_of_lt lt2)) hz fun h' tk acc c kp e1 e2=>?_
 exact⟨rfl,hQ h' tk acc c (fun b o hb e=>kp b o (Nat.ne_of_lt (Heap.lt_size e)) hb (ot b o (Nat.ne_of_lt (Heap.lt_size e)) e)) e1 e2⟩
end
end PR
namespace PR
open PySem PySem.Spec L2
section
variable{X:Cx}{T:Tb}{W:Nat→St→Hp→Prop}{Z:Zn}{F F1 B L:Addr→Prop}{H H1:Hp}{σ:St}{env:En}{fp:Nat→List Addr}{pins:List (Addr×Obj)}{s:Shared}
def rLR(K:PySem.W.Frag):V→Hp→VK→Prop:=fun v H Q=>∃(p:Addr) (ns:List Int),v=.ref p∧SqL K H p (ns.map V.int)∧ns.length≤1000000∧∀l,H l=none→Q (.ref l) (upd H l (.lst (ns.reverse.map V.int)))
theorem yK:bootBuiltins "reversed" = some (.type "reversed"):=by decide +kernel
theorem pY{ns:List Int}{its:List Value}{acc:Array Value}(r:aC (ns.map V.int) its)(ha:ItemsOf (vz its.toArray) acc its.toArray.size):aC (ns.reverse.map V.int) acc.toList:=by
 have hl:its.length=ns.length:=by simpa using r.length.symm
 have hz:acc.size=ns.length:=by rw[ha.1];simpa using hl
 refine nK _ _ (by simp[hz]) fun i x y e1 e2=>?_
 have hi:i < ns.length:=by
  have:=(List.getElem?_eq_some_iff.mp e1).1
  simpa using this
 have:=ha.2 i y (by simpa using e2)
 unfold vz at this
 obtain⟨t,rfl⟩:=d8 r _ _ this
 rw[List.getElem?_map,List.getElem?_reverse hi]at e1
 have hk:ns.length - 1 - i < ns.length:=by omega
 rw[List.getElem?_eq_getElem hk]at e1
 cases e1
 refine⟨t,?_⟩
 have hs:its.toArray.size - 1 - i=ns.length - 1 - i:=by simp[hl]
 rw[hs]
 simp[hk]
theorem mL{e:Expr}{te:TE}{p p2 pos pos2:Pos}(hc:X.calm=true)(hg:Gl X "list")(hm:X.mg "list" = none)(hg2:Gl X "reversed")(hm2:X.mg "reversed" = none)(he:PE X e te)(hs:starEach [e] X.env=[(false,eval e X.env)]:=by rfl)
  (hs2:starEach [.Call (.Name "reversed" p2) [e] [] pos2] X.env=[(false,eval (.Call (.Name "reversed" p2) [e] [] pos2) X.env)]:=by rfl):PE X (.Call (.Name "list" p) [.Call (.Name "reversed" p2) [e] [] pos2] [] pos) (tUn (rLR X.K) te):=by
 intro pins s σ H Q I h
 refine PyProof.Rows.Call_ (fE I hg hm oO (PyProof.Rows.callWith_type1 ?_ (by rw[hs2];rfl) rfl))
 rw[hs2]
 refine Calls.spliced_cons (PyProof.Rows.Call_ (fE I hg2 hm2 yK (PyProof.Rows.callWith_type1 (thn (cC (te:=te) he fv (by rw[hs];rfl) pos2 pins s σ H (fun vs H1=>z1 vs fun v=>rLR X.K v H1 Q) I h) fun us s1 ⟨vs,H1,I1,r1,q1⟩=>?_) (by rw[hs];rfl) rfl)))
 obtain⟨v,rfl,a,ns,rfl,hq,hz,q⟩:=uz q1
 obtain⟨u,rfl,rx⟩:=eE r1
 cases rx
 obtain⟨its,rv,pl,_⟩:=I1.list hq
 have hl:its.length=ns.length:=by simpa using rv.length.symm
 have lt:a < s1.heap.objs.size:=by obtain⟨o,e,_⟩:=id pl.isList;exact Heap.lt_size e
 refine call_reversed_list pl.isList (Calls.spliced_nil ?_)
 have hsz:(s1.heap.push (revObj a ((its.toArray.size:Int) - 1))).objs.size=s1.heap.objs.size+1:=Heap.size_push ..
 refine l5 (it:=s1.heap.objs.size) (l:=a) (items:=its.toArray) (I1.ok.hd hc) ⟨_,Heap.get?_push_size _ rfl,rfl,rfl⟩ (pl.isList.push _) (Nat.ne_of_lt lt) (by simp[hl];omega) fun h' tk acc c kp e1 e2=>?_
 rw[hsz]at e1 ⊢
 refine⟨.ref (s1.heap.objs.size+1),_,I1.laid (t':=tk) (fun b o e=>kp b o (Nat.ne_of_lt (Heap.lt_size e)) (Heap.get?_push_of_some _ e)) (Nat.le_succ _) ?_,rfl,q _ (I1.hok.fresh (Nat.le_succ _))⟩
 exact⟨by rw[sizeLine_eq];simp;omega,acc.toList,c,pY rv e2,by simpa using e1⟩
def dM:PV→Res PV
 | .lst _ xs=>(match bC xs with
  | some ns=>if ns.length≤1000000 then .ok (.lst .own (ns.reverse.map .int))else .stuck
  | none=>.stuck)
 | _=>.stuck
theorem lz(hK:X.K=T.K):vn T W dM (rLR X.K):=by
 intro B F L σ H Q F' H' x v fx g rx nf nd new q
 cases x with
 | lst f xs =>
  unfold dM at q
  dsimp only at q
  cases e:bC xs with
  | none=>rw[e]at q;exact q.elim
  | some ns =>
   rw[e]at q
   dsimp only at q
   split at q
   case isFalse=>exact q.elim
   rename_i hz
   unfold Rel at rx
   obtain⟨a,vs,fp',rfl,hl,hr,hf⟩:=rx
   have hu:=db e hr
   subst hu
   exact⟨a,ns,rfl,by rw[hK];exact hl.sq,hz,GE.newL q g (nX _) (fun _ h=>by cases h) .nil (fun _ h=>by cases h)⟩
 | _=>exact q.elim
theorem mF{e:Expr}{m:ME}{p p2 pos pos2:Pos}(hK:X.K=T.K)(hc:X.calm=true)(hg:Gl X "list")(hm:X.mg "list" = none)(hg2:Gl X "reversed")(hm2:X.mg "reversed" = none)(he:SE X T W e m)(hs:starEach [e] X.env=[(false,eval e X.env)]:=by rfl)
  (hs2:starEach [.Call (.Name "reversed" p2) [e] [] pos2] X.env=[(false,eval (.Call (.Name "reversed" p2) [e] [] pos2) X.env)]:=by rfl):SE X T W (.Call (.Name "list" p) [.Call (.Name "reversed" p2) [e] [] pos2] [] pos) (mUn dM m) :=
 PE.wk (mL hc hg hm hg2 hm2 he hs hs2) fun _ _ _ h=>tE.mir1 (lz hK) h
end
end PR
namespace PR
open PySem PySem.Spec L2
section
variable{X:Cx}{T:Tb}{W:Nat→St→Hp→Prop}
def vJ(K:PySem.W.Frag):R2:=fun x y H Q=>∃l b xs zs,x=.ref l∧y=.ref b∧SqL K H l xs∧SqL K H b zs∧xs.length+zs.length≤sizeLine∧∀p,H p=none→Q (.ref p) (upd H p (.lst (xs++zs)))
theorem uy:OpR X (binaryOp .Add) (vJ X.K):=by
 intro pins s σ H x y v u Q I rx ry h
 obtain⟨l,b,xs,zs,rfl,rfl,hH,hB,hz,q⟩:=h
 cases rx
 cases ry
 obtain⟨its,r,pl,_⟩:=I.list hH
 obtain⟨its2,r2,pl2,_⟩:=I.list hB
 have hl:=r.length
 have hl2:=r2.length
 obtain⟨⟨cls,dd,data,sl⟩,n,ho,hc,hdd,hd⟩:=pl
 obtain⟨⟨cls2,dd2,data2,sl2⟩,n2,ho2,hc2,hdd2,hd2⟩:=pl2
 simp only at hc hdd hd hc2 hdd2 hd2
 subst hc hdd hd hc2 hdd2 hd2
 refine concat_meets ⟨_,ho,rfl⟩ ⟨_,ho2,rfl⟩ noFill_list_add seq_list_add PySem.F.slot_list_add PySem.F.entry_list_add (PySem.F.args_list_add_2 _ _) (PyProof.Rows.list_addW l b its.toArray its2.toArray n n2 none none sl sl2 (by rw[List.size_toArray,List.size_toArray];omega)) ⟨ho,ho2,?_⟩
 have ea:its.toArray++its2.toArray=(its++its2).toArray:=by simp
 rw[ea]
 exact⟨.ref _,_,I.lnew (t':=s.toks) (r.append r2) (by rw[List.length_append];omega),rfl,q _ I.fresh⟩
def fw:PV→PV→Res PV
 | .lst _ xs,.lst _ ys=>if xs.length+ys.length≤10000000 then .ok (.lst .own (xs++ys))else .stuck
 | _,_=>.stuck
theorem pC(hK:X.K=T.K):fK T W fw (vJ X.K):=by
 intro B F L σ H Q F' H' x y v u fx fy g rx ry nf nd new q
 cases x with
 | lst f xs =>
  cases y with
  | lst f' ys =>
   simp only[fw]at q
   by_cases h3:xs.length+ys.length≤10000000
   ·rw[if_pos h3]at q
    unfold Rel at rx ry
    obtain⟨a,vs,fp1,rfl,hl1,hr1,hf1⟩:=rx
    obtain⟨b,us,fp2,rfl,hl2,hr2,hf2⟩:=ry
    have sl:=List.Sublist.append hf1.sub hf2.sub
    refine⟨a,b,vs,us,rfl,rfl,by rw[hK];exact hl1.sq,by rw[hK];exact hl2.sq,by rw[← hr1.length,← hr2.length,sizeLine_eq];omega,?_⟩
    exact GE.newL q g (RelL.append hr1 hr2) (fun b hb=>nf b (sl.subset hb)) (nd.sublist sl) (fun b hb=>new b (sl.subset hb))
   ·rw[if_neg h3]at q;exact q.elim
  | _=>exact q.elim
 | _=>exact q.elim
theorem t6{a b:Expr}{ma mb:ME}{pos:Pos}(hK:X.K=T.K)(ha:SE X T W a ma)(hb:SE X T W b mb):SE X T W (.BinOp a .Add b pos) (mOp fw ma mb):=iE uy (pC hK) ha hb
end
end PR
namespace PR
open PySem PySem.Spec L2
section
variable{X:Cx}{T:Tb}{W:Nat→St→Hp→Prop}{Z:Zn}{F F1 F' B L:Addr→Prop}{H H1 H':Hp}{σ:St}{env:En}{fp:Nat→List Addr}{js:List Nat}{t:Nat}
def AL(js:List Nat)(t:Nat)(σ:St)(env:En):Prop:=∀j∈js,env[j]?=some none→σ[j]?=σ[t]?
theorem AL.set{i:Nat}{v:V}{pv:PV}(h:AL js t σ env)(hi:i≠t):AL js t (σ.set i (some v)) (env.set i (some pv)):=fun j hj e=>by
 by_cases q:i=j
 ·subst q
  exfalso
  rw[List.getElem?_set]at e
  by_cases z:i < env.length<;>simp[z]at e
 ·rw[List.getElem?_set_ne q]at e ⊢
  rw[List.getElem?_set_ne hi]
  exact h j hj e
def GSA(T:Tb)(W:Nat→St→Hp→Prop)(js:List Nat)(t:Nat)(Z:Zn)(D:Ends):Out→Prop
 | .next e=>∀F H σ fp,ap T Z F H σ e fp→AL js t σ e→D.nx σ H
 | .ret pv=>GS T W Z D (.ret pv)
 | .brk e=>GS T W Z D (.brk e)
 | .cont e=>GS T W Z D (.cont e)
 | .exc c e=>GS T W Z D (.exc c e)
 | .stuck=>False
theorem GSA.of{D:Ends}{o:Out}(h:GS T W Z D o):GSA T W js t Z D o:=by
 cases o with
 | next e=>exact fun F H σ fp S _=>h F H σ fp S
 | _=>exact h
end
end PR
namespace PR
open PySem PySem.Spec L2
section
variable{X:Cx}{T:Tb}{W:Nat→St→Hp→Prop}{Z:Zn}{F F1 B L:Addr→Prop}{H H1:Hp}{σ:St}{env:En}{fp:Nat→List Addr}
end
end PR
namespace PR
open PySem PySem.Spec L2
section
variable{X:Cx}{T:Tb}{W:Nat→St→Hp→Prop}{Z:Zn}{F F1 B L:Addr→Prop}{H H1:Hp}{σ:St}{env:En}{fp:Nat→List Addr}
end
end PR
namespace PR
open PySem PySem.Spec L2
section
variable{X:Cx}{T:Tb}{W:Nat→St→Hp→Prop}{Z:Zn}{F F1 B L:Addr→Prop}{H H1:Hp}{σ:St}{env:En}{fp:Nat→List Addr}
end
end PR
namespace PR
open PySem PySem.Spec L2
section
variable{prog:Program}{w:World}{A:Around}{E:Value→Shared→Prop}{s:Shared}
end
section
variable{X:Cx}{T:Tb}{W:Nat→St→Hp→Prop}{Z:Zn}{F F1 B L:Addr→Prop}{H H1:Hp}{σ:St}{env:En}{fp:Nat→List Addr}
section
variable{o k:Expr}{mo mk:ME}{apos cpos:Pos}
end
variable{d:Addr}{kvs:List (Str×Int)}
end
end PR
namespace L2
open PySem PySem.Spec PyProof.Rows
section
variable{X:Cx}{pins:List (Addr×Obj)}{σ:St}{H:Hp}{s:Shared}{E:Value→Shared→Prop}
end
end L2
namespace PR
open PySem PySem.Spec L2
section
variable{M:Model}{A:Around}{E:Value→Shared→Prop}{s:Shared}{B:Heap}{l:List Env}{e:Addr}{cls a0 fl:Value}
def A7(B:Heap)(l:List Env)(e:Addr)(cls a0 fl:Value)(h:Heap):Prop:=B.StaysIn h∧B.get? e=none∧h.FunFrames B l∧h.TracedAtW B e cls a0 fl
end
structure CQ(P:Program)(w:World)(outer:List Env)(H:Hp)(s:Shared)(cls:Value)(H':Hp)(e:Value)(s':Shared):Prop where
 os:s'.os=s.os
 bare:PyProof.Rows.AllBare s'.gens
 un:Un (frs outer) [] H H' s.heap s'.heap
 hok:HOk P w H' s'.heap
 fly:∃x a0 fl Bh,e=.ref x∧A7 Bh outer x cls a0 fl s'.heap∧(∀b o u,H' b=some u→s'.heap.get? b=some o→Bh.get? b=some o)∧
  (∀b o o',s'.heap.get? b=some o→s.heap.get? b=some o'→b∉frs outer→Bh.get? b=some o)
section
variable{P:Program}{w:World}{K:PySem.W.Frag}{mg:Str→Option Value}{base:Heap}{N:List Str}{qual:Str}{scope:Scope}{f:Addr}{cd:Value}{A:Around}{outer:List Env}{s:Shared}{H:Hp}{E:XK}{T:Tb}
end
section
variable{X:Cx}{T:Tb}{W:Nat→St→Hp→Prop}{pins:List (Addr×Obj)}{σ:St}{H2:Hp}{s2:Shared}{fpi:List Addr}{scope:Scope}{caps:List Nat}{N tn:List Str}{use:Option (Value→Sem Unit)}{Q':Value→Shared→Prop}{acc:Value}
end
end PR
namespace PR
open PySem PySem.Spec L2
section
variable{X:Cx}{T:Tb}{W:Nat→St→Hp→Prop}{Z:Zn}{F F1 B L:Addr→Prop}{H H1:Hp}{σ:St}{env:En}{fp:Nat→List Addr}{D:Ends}
end
end PR
namespace PR
open PySem PySem.Spec L2
section
variable{X:Cx}{T:Tb}{W:Nat→St→Hp→Prop}
end
end PR
namespace PR
open PySem PySem.Spec L2
section
variable{X:Cx}{T:Tb}{W:Nat→St→Hp→Prop}{Z:Zn}{F F1 B L:Addr→Prop}{H H1:Hp}{σ:St}{env:En}{fp:Nat→List Addr}{D:Ends}{ks:List Nat}
theorem ap.drop(S:ap T Z F H σ env fp){n:Nat}(h0:n≠0):ap T Z F H σ (env.set n none) (bA fp n []):=by
 refine⟨S.hp,by rw[List.length_set,S.len],fun i pv e=>?_,fun i=>?_,fun i j hij a ha hb=>?_,fun i a ha=>?_,fun i a ha=>?_,fun i a ha=>?_,fun v hv=>?_⟩
 ·by_cases hi:i=n
  ·subst hi
   rw[List.getElem?_set]at e
   simp at e
  ·rw[List.getElem?_set_ne (Ne.symm hi)]at e
   obtain⟨v,h1,h2⟩:=S.rel i pv e
   exact⟨v,h1,by unfold bA;rw[if_neg hi];exact h2⟩
 ·unfold bA;split;exact List.nodup_nil;exact S.nd i
 ·unfold bA at ha hb
  split at ha
  ·cases ha
  ·split at hb
   ·cases hb
   ·exact S.dj i j hij a ha hb
 ·unfold bA at ha;split at ha;cases ha;exact S.dis i a ha
 ·unfold bA at ha;split at ha;cases ha;exact S.new i a ha
 ·unfold bA at ha;split at ha;cases ha;exact S.ch i a ha
 ·obtain⟨h1,h2⟩:=S.pn v hv
  refine⟨h1,?_⟩
  unfold b9 at h2 ⊢
  rw[List.getElem?_set_ne h0];exact h2
structure Orp(Z:Zn)(F:Addr→Prop)(fp:Nat→List Addr)(f:List Addr):Prop where
 nd:f.Nodup
 nf:∀b∈f,¬F b
 new:∀b∈f,Z.H0 b=none∨Z.fp0 b
 dj:∀b∈f,∀j,b∉fp j
end
end PR
namespace PR
open PySem PySem.Spec L2
section
variable{P:Program}{w:World}{mg:Str→Option Value}{base:Heap}{T:Tb}{K:PySem.W.Frag}
end
section
variable{X:Cx}{T:Tb}{W:Nat→St→Hp→Prop}{Z:Zn}{F F1 B L:Addr→Prop}{H H1:Hp}{σ:St}{env:En}{fp:Nat→List Addr}
end
end PR
namespace PR
open PySem PySem.Spec L2
open AutoSeq1 (wpAny_loadPart')
section
variable{prog:Program}{w:World}{A:Around}{E:Value→Shared→Prop}{s:Shared}
end
end PR
namespace PR
open PySem PySem.Spec L2
section
variable{X:Cx}{T:Tb}{W:Nat→St→Hp→Prop}{Z:Zn}{F F1 B L:Addr→Prop}{H H1:Hp}{σ:St}{env:En}{pins:List (Addr×Obj)}{s:Shared}
end
section
variable{X:Cx}{T:Tb}{W:Nat→St→Hp→Prop}{Z:Zn}{F F1 B L:Addr→Prop}{H H1:Hp}{σ:St}{env:En}{fp:Nat→List Addr}
end
end PR
namespace PR
open PySem PySem.Spec L2
section
variable{X:Cx}{T:Tb}{W:Nat→St→Hp→Prop}{Z:Zn}{F F1 B L:Addr→Prop}{H H1:Hp}{σ:St}{env:En}{fp:Nat→List Addr}{D:Ends}
end
end PR
namespace PR
open PySem PySem.Spec L2
structure sZ(K:PySem.W.Frag)(x qual:Str)(st:Stmt)(f:Addr)(fd:FuncData)(dT:Addr)(ds:List Value):Prop where
 ex:∃(oc:Value) (od:Option Addr) (kV doc pm:Value) (an:Option Addr) (cdv ct:Value) (osl:Array (Option Value)),
  fd=PySem.W.fnOf x qual (bD st) (aQ st) (am st) (.ref dT) kV doc pm an cdv ct∧K.lookup f=some ⟨oc,od,.func fd,osl⟩∧PySem.W.codeIn K cdv qual=true
 kp:PySem.W.keepIn K (.ref f)=true
 dl:∃(o:Obj) (n:Nat),K.lookup dT=some o∧o.data=.seq ds.toArray n
section
variable{P:Program}{w:World}{mg:Str→Option Value}{base:Heap}{T:Tb}
theorem ya{x qual:Str}{st:Stmt}{f:Addr}{fd:FuncData}{dT:Addr}{ds:List Value}{N ps:List Str}{k:Nat}{m:MS}(F:sZ T.K x qual st f fd dT ds)(S:bV N ps (am st))
  (body:∀ (cdv:Value) (A:Around) (outer:List Env) (s:Shared) (H:Hp) (E:XK),Ctx (cj (CXP P w) P w T.K mg base N qual (am st) f cdv A outer s H E) T (WD T E) k →
   SSs (cj (CXP P w) P w T.K mg base N qual (am st) f cdv A outer s H E) T (WD T E) (aQ st) m):bR P w T.K mg base (CXP P w) (k+1) f fd ps (spM T ps.length (a9 N.length m)):=by
 obtain⟨oc,od,kV,doc,pm,an,cdv,ct,osl,rfl,lk,hcd⟩:=F.ex
 refine oz lk hcd S (fun vs H Q E h=>h.1) fun A outer s H vs Q E hr hsp=>⟨_,body cdv A outer s H E (kF hr),?_⟩
 obtain⟨_,pvs,F,B,fl,R,q⟩:=hsp
 obtain⟨fp,S0⟩:=gW N R none (fun _ h=>nomatch h)
 refine⟨_,F,_,fp,S0,?_⟩
 unfold a9 at q
 cases e:m (pvs.map some++List.replicate (N.length - pvs.length) none)with
 | next e'=>rw[e]at q;exact fun F' H' σ' fp' S'=>q F' H' .non [] S'.hp wJ List.nodup_nil (fun _ z=>(nomatch z)) (fun _ z=>(nomatch z))
 | ret v=>rw[e]at q;exact q
 | brk e'=>rw[e]at q;exact q.elim
 | cont e'=>rw[e]at q;exact q.elim
 | exc c e'=>rw[e]at q;exact fun F' H' σ' fp' S'=>q H' S'.hp.keep
 | stuck=>rw[e]at q;exact q.elim
theorem sZ.binds{K:PySem.W.Frag}{x qual:Str}{st:Stmt}{f:Addr}{fd:FuncData}{dT:Addr}{ds es:List Value}{ps:List Str}(F:sZ K x qual st f fd dT ds)
  (h:∀(kV doc pm:Value) (an:Option Addr) (cdv ct:Value) (us:List Value),(us++es).length=ps.length→∃k:Option (Array Value)→Sem (List (Str×Value)),bindArgs (PySem.W.fnOf x qual (bD st) (aQ st) (am st) (.ref dT) kV doc pm an cdv ct) ⟨us,[]⟩=seqItems? (.ref dT) >>= k∧k (some ds.toArray)=pure (ps.zip (us++es))):cH K fd ps es:=by
 obtain⟨oc,od,kV,doc,pm,an,cdv,ct,osl,rfl,lk,hcd⟩:=F.ex
 obtain⟨o,n,lo,hd⟩:=F.dl
 intro s us KI hl
 obtain⟨k,h1,h2⟩:=h kV doc pm an cdv ct us hl
 exact BindsTo.of_defaults rfl (KI _ _ lo) hd h1 h2
end
section
variable{X:Cx}{T:Tb}{W:Nat→St→Hp→Prop}{Z:Zn}{F F1 B L:Addr→Prop}{H H1:Hp}{σ:St}{env:En}{fp:Nat→List Addr}
def rp:ME:=fun _=>.stuck
theorem wu{e:Expr}:SE X T W e rp:=fun pins s σ H Q I h=>by
 obtain⟨_,_,_,_,_,z⟩:=h
 exact z.elim
end
end PR
namespace PR
open PySem PySem.Spec L2
section
variable{X:Cx}{T:Tb}{W:Nat→St→Hp→Prop}{Z:Zn}{F F1:Addr→Prop}{H H1:Hp}{σ:St}{env:En}{fp:Nat→List Addr}
end
end PR
namespace PR
open PySem PySem.Spec L2
section
variable{X:Cx}{T:Tb}{W:Nat→St→Hp→Prop}{Z:Zn}{F F1 B L:Addr→Prop}{H H1:Hp}{σ:St}{env:En}{fp:Nat→List Addr}{D:Ends}
end
end PR
namespace PR
open PySem PySem.Spec L2
section
variable{X:Cx}{T:Tb}{W:Nat→St→Hp→Prop}{Z:Zn}{F F1 B L:Addr→Prop}{H H1:Hp}{σ:St}{env:En}{fp:Nat→List Addr}{D:Ends}{ks:List Nat}
end
end PR
namespace PR
open PySem PySem.Spec L2
section
variable{X:Cx}{T:Tb}{W:Nat→St→Hp→Prop}{Z:Zn}{F F1 B L:Addr→Prop}{H H1:Hp}{σ:St}{env:En}{fp:Nat→List Addr}{D:Ends}{ks:List Nat}
end
end PR
namespace PR
open PySem PySem.Spec L2
open PySem.W (findIn fnOf keepIn nsIn codeIn isFn Frag)
structure FS where
 q:Str
 s:Stmt
 k:Nat
 N:List Str
 c:Option Nat
def aP(s:Stmt):Str:=match s with
 | .FunctionDef n _ _ _ _ _ _ _ _ _=>n
 | _ => ""
structure PT where
 F:List FS
 C:List Str
 X:List Str
 A:List Str
 M:List (Nat×Str×Nat)
 Mk:List (Nat×Nat)
 U:List (Nat×Nat)
 B:List Str
 I:List (Str×Int)
 KT:List (Option Nat×String×List Bool)
 HT:List (Nat×List Bool)
def fs0:FS:=⟨"", .Pass ⟨0,0,0,0⟩,0,[],none⟩
def pk{α:Type}(d:α)(l:List α)(i:Nat):α:=l.getD i (l.headD d)
theorem d4{α:Type}{d:α}{p:α→Prop}{l:List α}(hl:l≠[])(h:∀x∈l,p x)(i:Nat):p (pk d l i):=by
 unfold pk
 rw[List.getD_eq_getElem?_getD]
 cases e:l[i]? with
 | some C=>exact h C (List.mem_of_getElem? e)
 | none =>
  cases l with
  | nil=>exact absurd rfl hl
  | cons a l=>exact h a List.mem_cons_self
section
variable(p:PT)(K:Frag)
def gAt(x:Str):Addr:=match nsIn K mainGlobals x with
 | some (some (.ref a))=>a
 | _=>0
def mAt(c:Addr)(x:Str):Addr:=match findIn K (.ref c) x with
 | some (some (.ref a))=>a
 | _=>0
def dAt(f:Addr):FuncData:=match K.lookup f with
 | some ⟨_,_,.func d,_⟩=>d
 | _=>default
def PT.fs(i:Nat):FS:=pk fs0 p.F i
def PT.ps(i:Nat):List Str:=(p.fs i).N.take (p.fs i).k
def PT.ca(c:Nat):Addr:=gAt K (pk "" p.C c)
def PT.xa(c:Nat):Addr:=gAt K (pk "" p.X c)
def PT.fx(x:FS):Addr:=match x.c with
 | none=>gAt K (aP x.s)
 | some c=>mAt K (p.ca K c) (aP x.s)
def PT.fa(i:Nat):Addr:=p.fx K (p.fs i)
def lit(x:FS):Obj→Obj
 |⟨oc,od,.func d,sl⟩=>⟨oc,od,.func (fnOf (aP x.s) x.q (bD x.s) (aQ x.s) (am x.s) .none d.kwdefaults d.doc d.pyModule d.annotations d.code d.closureTuple),sl⟩
 | o=>o
def AB:Option Obj→Bool
 | some ⟨_,_,.func _,_⟩=>true
 | _=>false
def scB(x:FS):Bool:=decide ((am x.s).kind=.function)&&!(am x.s).isCoroutine&&!(am x.s).isGenerator&&decide x.N.Nodup&&decide (x.k≤x.N.length) &&
 (x.N.take x.k).all (fun y=>decide ((am x.s).names.lookup y=some .local ∨(am x.s).names.lookup y=some .cell))&&(am x.s).names.all (fun y=>decide (y.2≠.free))
def PT.chF(x:FS):Bool:=AB (K.lookup (p.fx K x))&&codeIn K (dAt K (p.fx K x)).code x.q&&keepIn K (.ref (p.fx K x))&&(match x.c with | none=>decide (nsIn K mainGlobals (aP x.s)=some (some (.ref (p.fx K x)))) | some _=>true)
def chC(A:List Str)(x:Str):Bool:=PySem.W.plainGet K (gAt K x) Str.empty&&PySem.W.hasDictIn K (gAt K x)&&PySem.W.plainOver K (gAt K x)&&decide (findIn K (.ref (gAt K x)) "__setattr__" = some (some (.builtin "object.__setattr__"))) &&
 decide (nsIn K mainGlobals x=some (some (.ref (gAt K x))))&&A.all (fun y=>decide (findIn K (.ref (gAt K x)) y=some none))
def PT.chM(x:Nat×Str×Nat):Bool:=decide (findIn K (.ref (p.ca K x.1)) x.2.1=some (some (.ref (p.fa K x.2.2))))&&isFn K (.ref (p.fa K x.2.2))&&keepIn K (.ref (p.fa K x.2.2))
def PT.chK(x:Nat×Nat):Bool:=PySem.W.makesIn K (p.ca K x.1)&&decide (findIn K (.ref (p.ca K x.1)) "__init__" = some (some (.ref (p.fa K x.2))))&&isFn K (.ref (p.fa K x.2))&&keepIn K (.ref (p.ca K x.1))
def vX(f:Addr):Option PySem.W.CFound→Bool
 | some (.val (.ref a))=>decide (a=f)
 | _=>false
def PT.chU(x:Nat×Nat):Bool:=decide (PySem.W.specialIn K (.ref (p.ca K x.1)) "__getattribute__" = some (some (.builtin "type.__getattribute__")))&&PySem.W.readsIn K (p.ca K x.1) (.type "type")&&vX (p.fa K x.2) (PySem.W.findCls K (.ref (p.ca K x.1)) (.type "type") "__init__")&&keepIn K (.ref (p.fa K x.2))
def tgV(y:Option Nat×String×List Bool):Value:=match y.1 with
 | some x=>.ref (p.xa K x)
 | none=>.type y.2.1
def chX(x:Str):Bool:=decide (nsIn K mainGlobals x=some (some (.ref (gAt K x))))&&pQ K (gAt K x)
def chI(x:Str×Int):Bool:=match nsIn K mainGlobals x.1 with
 | some (some (.int i _))=>decide (i=x.2)
 | _=>false
def PT.chT(y:Option Nat×String×List Bool):Bool:=decide (p.X.map (fun x=>PySem.W.kitOne K (.ref (gAt K x)) (tgV p K y))=y.2.2.map some)
def PT.chH(y:Nat×List Bool):Bool:=decide (p.X.map (fun x=>PySem.W.exmOne K (.ref (gAt K x)) (.ref (p.xa K y.1)))=y.2.map some)
def PT.ch1:Bool:=p.F.all (p.chF K)
def PT.ch2:Bool:=p.C.all (chC K p.A)&&p.Mk.all (p.chK K)&&p.U.all (p.chU K)&&p.X.all (chX K)&&p.B.all (fun x=>decide (nsIn K mainGlobals x=some none))&&p.I.all (chI K)&&p.KT.all (p.chT K)&&p.HT.all (p.chH K)
def PT.ch3:Bool:=p.M.all (p.chM K)
def PT.ob:List (Option Obj):=p.F.map fun x=>K.lookup (p.fx K x)
def PT.ol:List (Option Obj):=p.F.map fun x=>(K.lookup (p.fx K x)).map (lit x)
end
structure Tx(p:PT)(K:Frag)(mg:Str→Option Value):Prop where
 fn:∀i,Fun K (aP (p.fs i).s) (p.fs i).q (p.fs i).s (p.fa K i) (dAt K (p.fa K i))
 sc:∀i,bV (p.fs i).N (p.ps i) (am (p.fs i).s)
 bn:∀i,cH K (dAt K (p.fa K i)) (p.ps i) []
 gl:∀i,(p.fs i).c=none→mg (aP (p.fs i).s)=some (.ref (p.fa K i))
 cl:∀c,Cls K (p.ca K c)
 cg:∀c,mg (pk "" p.C c)=some (.ref (p.ca K c))
 cn:∀c,∀x∈p.A,cM K (p.ca K c) x
 me:∀x∈p.M,vp K (p.ca K x.1) x.2.1 (p.fa K x.2.2)
 mm:∀x∈p.Mk,Mk K (p.ca K x.1) (p.fa K x.2)
 su:∀x∈p.U,Sup K (p.ca K x.1) (p.fa K x.2)
 xg:∀c,mg (pk "" p.X c)=some (.ref (p.xa K c))
 xe:∀c,pQ K (p.xa K c)=true
 bi:∀x∈p.B,mg x=none
 ci:∀x∈p.I,∃tk,mg x.1=some (.int x.2 tk)
 kt:∀y∈p.KT,∀c,PySem.W.kitOne K (.ref (p.xa K c)) (tgV p K y)=some (bM y.2.2 c)
 ht:∀y∈p.HT,∀c,PySem.W.exmOne K (.ref (p.xa K c)) (.ref (p.xa K y.1))=some (bM y.2 c)
def Bnd(x:FS):Prop:=∀(kV doc pm:Value) (an:Option Addr) (cdv ct:Value) (us:List Value),us.length=(x.N.take x.k).length→bindArgs (fnOf (aP x.s) x.q (bD x.s) (aQ x.s) (am x.s) .none kV doc pm an cdv ct) ⟨us,[]⟩=pure ((x.N.take x.k).zip us)
def tj:List FS→Prop
 | []=>True
 | x::l=>Bnd x∧tj l
theorem tj.get:∀{l:List FS},tj l→∀x∈l,Bnd x
 | [],_,_,h=>nomatch h
 | y::l,⟨h1,h2⟩,x,h=>by
  rcases List.mem_cons.mp h with rfl | h
  ·exact h1
  ·exact h2.get x h
section
variable{x:FS}
theorem bn1(h:∀(kV doc pm:Value) (an:Option Addr) (cdv ct u1:Value),bindArgs (fnOf (aP x.s) x.q (bD x.s) (aQ x.s) (am x.s) .none kV doc pm an cdv ct) ⟨[u1],[]⟩=pure ((x.N.take x.k).zip [u1]):=by intros;rfl)(hk:(x.N.take x.k).length=1:=by rfl):Bnd x:=fun kV doc pm an cdv ct us hl=>by
 rw[hk]at hl
 match us,hl with
 | [_],_=>exact h ..
theorem bn2(h:∀(kV doc pm:Value) (an:Option Addr) (cdv ct u1 u2:Value),bindArgs (fnOf (aP x.s) x.q (bD x.s) (aQ x.s) (am x.s) .none kV doc pm an cdv ct) ⟨[u1,u2],[]⟩=pure ((x.N.take x.k).zip [u1,u2]):=by intros;rfl)(hk:(x.N.take x.k).length=2:=by rfl):Bnd x:=fun kV doc pm an cdv ct us hl=>by
 rw[hk]at hl
 match us,hl with
 | [_,_],_=>exact h ..
theorem bn3(h:∀(kV doc pm:Value) (an:Option Addr) (cdv ct u1 u2 u3:Value),bindArgs (fnOf (aP x.s) x.q (bD x.s) (aQ x.s) (am x.s) .none kV doc pm an cdv ct) ⟨[u1,u2,u3],[]⟩=pure ((x.N.take x.k).zip [u1,u2,u3]):=by intros;rfl)(hk:(x.N.take x.k).length=3:=by rfl):Bnd x:=fun kV doc pm an cdv ct us hl=>by
 rw[hk]at hl
 match us,hl with
 | [_,_,_],_=>exact h ..
theorem bn4(h:∀(kV doc pm:Value) (an:Option Addr) (cdv ct u1 u2 u3 u4:Value),bindArgs (fnOf (aP x.s) x.q (bD x.s) (aQ x.s) (am x.s) .none kV doc pm an cdv ct) ⟨[u1,u2,u3,u4],[]⟩=pure ((x.N.take x.k).zip [u1,u2,u3,u4]):=by intros;rfl)(hk:(x.N.take x.k).length=4:=by rfl):Bnd x:=fun kV doc pm an cdv ct us hl=>by
 rw[hk]at hl
 match us,hl with
 | [_,_,_,_],_=>exact h ..
theorem bn5(h:∀(kV doc pm:Value) (an:Option Addr) (cdv ct u1 u2 u3 u4 u5:Value),bindArgs (fnOf (aP x.s) x.q (bD x.s) (aQ x.s) (am x.s) .none kV doc pm an cdv ct) ⟨[u1,u2,u3,u4,u5],[]⟩=pure ((x.N.take x.k).zip [u1,u2,u3,u4,u5]):=by intros;rfl)(hk:(x.N.take x.k).length=5:=by rfl):Bnd x:=fun kV doc pm an cdv ct us hl=>by
 rw[hk]at hl
 match us,hl with
 | [_,_,_,_,_],_=>exact h ..
theorem bn6(h:∀(kV doc pm:Value) (an:Option Addr) (cdv ct u1 u2 u3 u4 u5 u6:Value),bindArgs (fnOf (aP x.s) x.q (bD x.s) (aQ x.s) (am x.s) .none kV doc pm an cdv ct) ⟨[u1,u2,u3,u4,u5,u6],[]⟩=pure ((x.N.take x.k).zip [u1,u2,u3,u4,u5,u6]):=by intros;rfl)(hk:(x.N.take x.k).length=6:=by rfl):Bnd x:=fun kV doc pm an cdv ct us hl=>by
 rw[hk]at hl
 match us,hl with
 | [_,_,_,_,_,_],_=>exact h ..
end
theorem qe{K:Frag}{l:List Str}{α:Type}{f:Addr→Option Bool}{bs:List Bool}(hl:l≠[])(h:l.map (fun x=>f (gAt K x))=bs.map some)(c:Nat):f (gAt K (pk "" l c))=some (bM bs c):=by
 have e:gAt K (pk "" l c)=uo (l.map (gAt K)) c:=by
  unfold pk uo
  cases l with
  | nil=>exact absurd rfl hl
  | cons a l =>
   rw[List.getD_eq_getElem?_getD,List.getD_eq_getElem?_getD,List.getElem?_map]
   cases(a::l)[c]?<;>rfl
 rw[e]
 exact qI (g:=id) (by simpa using hl) (by rw[List.map_map];exact h) c
theorem Tx.of{p:PT}{K:Frag}{h:Heap}{mg:Str→Option Value}(X:K.In h)(N:h.Ns mainGlobals mg)(hb:tj p.F)(hs:p.F.all scB=true)(hF:p.F≠[])(hC:p.C≠[])(hX:p.X≠[])
  (e:p.ob K=p.ol K) (h1:p.ch1 K=true) (h2:p.ch2 K=true) (h3:p.ch3 K=true):Tx p K mg:=by
 simp only[PT.ch2,Bool.and_eq_true,List.all_eq_true,decide_eq_true_eq]at h2
 obtain⟨⟨⟨⟨⟨⟨⟨c1,c2⟩,c3⟩,c4⟩,c5⟩,c6⟩,c7⟩,c8⟩:=h2
 simp only[PT.ch1,PT.ch3,List.all_eq_true]at h1 h3 hs
 have fnx:∀x∈p.F,Fun K (aP x.s) x.q x.s (p.fx K x) (dAt K (p.fx K x)):=fun x hx=>by
  have q:=h1 x hx
  simp only[PT.chF,Bool.and_eq_true]at q
  obtain⟨⟨⟨q1,q2⟩,q3⟩,_⟩:=q
  have e1:K.lookup (p.fx K x)=(K.lookup (p.fx K x)).map (lit x):=List.map_inj_left.mp e x hx
  cases eo:K.lookup (p.fx K x)with
  | none=>rw[eo]at q1;cases q1
  | some o =>
   rw[eo]at e1 q1
   obtain⟨oc,od,dt,sl⟩:=o
   cases dt with
   | func d =>
    have e2:(⟨oc,od,.func d,sl⟩:Obj)=lit x ⟨oc,od,.func d,sl⟩:=Option.some.inj e1
    simp only[lit,Obj.mk.injEq,Data.func.injEq,true_and,and_true]at e2
    have ed:dAt K (p.fx K x)=d:=by unfold dAt;rw[eo]
    rw[ed]at q2 ⊢
    exact⟨⟨oc,od,d.kwdefaults,d.doc,d.pyModule,d.annotations,d.code,d.closureTuple,sl,e2,eo,q2⟩,q3⟩
   | _=>cases q1
 have scx:∀x∈p.F,bV x.N (x.N.take x.k) (am x.s):=fun x hx=>by
  have q:=hs x hx
  simp only[scB,Bool.and_eq_true,decide_eq_true_eq,List.all_eq_true,Bool.not_eq_true']at q
  obtain⟨⟨⟨⟨⟨⟨q1,q2⟩,q3⟩,q4⟩,q5⟩,q6⟩,q7⟩:=q
  exact⟨q1,q2,q3,q4,by rw[List.length_take,Nat.min_eq_left q5],q6,q7⟩
 have clx:∀x∈p.C,(Cls K (gAt K x)∧mg x=some (.ref (gAt K x)))∧∀y∈p.A,cM K (gAt K x) y:=fun x hx=>by
  have q:=c1 x hx
  simp only[chC,Bool.and_eq_true,decide_eq_true_eq,List.all_eq_true]at q
  obtain⟨⟨⟨⟨⟨q1,q2⟩,q3⟩,q4⟩,q5⟩,q6⟩:=q
  exact⟨⟨⟨q1,q2,q3,q4⟩,PySem.W.mg_of X N q5⟩,q6⟩
 have xx:∀x∈p.X,mg x=some (.ref (gAt K x))∧pQ K (gAt K x)=true:=fun x hx=>by
  have q:=c4 x hx
  simp only[chX,Bool.and_eq_true,decide_eq_true_eq]at q
  exact⟨PySem.W.mg_of X N q.1,q.2⟩
 refine ⟨d4 (p:=fun x=>Fun K (aP x.s) x.q x.s (p.fx K x) (dAt K (p.fx K x))) hF fnx,d4 (p:=fun x=>bV x.N (x.N.take x.k) (am x.s)) hF scx,d4 (p:=fun x=>cH K (dAt K (p.fx K x)) (x.N.take x.k) []) hF fun x hx=>(fnx x hx).binds (hb.get x hx),
  d4 (p:=fun x=>x.c=none→mg (aP x.s)=some (.ref (p.fx K x))) hF fun x hx hc=>?_,d4 (p:=fun x=>Cls K (gAt K x)) hC fun x hx=>(clx x hx).1.1,d4 (p:=fun x=>mg x=some (.ref (gAt K x))) hC fun x hx=>(clx x hx).1.2,
  d4 (p:=fun x=>∀y∈p.A,cM K (gAt K x) y) hC fun x hx=>(clx x hx).2,fun x hx=>?_,fun x hx=>?_,fun x hx=>?_,d4 (p:=fun x=>mg x=some (.ref (gAt K x))) hX fun x hx=>(xx x hx).1,d4 (p:=fun x=>pQ K (gAt K x)=true) hX fun x hx=>(xx x hx).2,
  fun x hx=>PySem.W.mg_none_of X N (c5 x hx),fun x hx=>?_,fun y hy c=>?_,fun y hy c=>?_⟩
 ·have q:=h1 x hx
  simp only[PT.chF,Bool.and_eq_true]at q
  have q:=q.2
  rw[hc]at q
  exact PySem.W.mg_of X N (of_decide_eq_true q)
 ·have q:=h3 x hx
  simp only[PT.chM,Bool.and_eq_true,decide_eq_true_eq]at q
  exact⟨q.1.1,q.1.2,q.2⟩
 ·have q:=c2 x hx
  simp only[PT.chK,Bool.and_eq_true,decide_eq_true_eq]at q
  exact⟨q.1.1.1,q.1.1.2,q.1.2,q.2⟩
 ·have q:=c3 x hx
  simp only[PT.chU,Bool.and_eq_true,decide_eq_true_eq]at q
  refine⟨q.1.1.1,q.1.1.2,?_,q.2⟩
  have q:=q.1.2
  unfold vX at q
  split at q
  ·rename_i a e
   rw[e,of_decide_eq_true q]
  ·cases q
 ·have q:=c6 x hx
  unfold chI at q
  split at q
  ·rename_i i tk e
   exact⟨tk,by rw[← of_decide_eq_true q];exact PySem.W.mg_of X N e⟩
  ·cases q
 ·exact qe (α:=Bool) (f:=fun a=>PySem.W.kitOne K (.ref a) (tgV p K y)) hX (of_decide_eq_true (c7 y hy)) c
 ·exact qe (α:=Bool) (f:=fun a=>PySem.W.exmOne K (.ref a) (.ref (p.xa K y.1))) hX (of_decide_eq_true (c8 y hy)) c
def PT.attOk(p:PT):Prop:=p.A.Nodup∧p.A.all gH=true
@[reducible] def PT.T(p:PT)(h:p.attOk)(K:Frag):Tb where
 K:=K
 nc:=p.C.length
 cls:=p.ca K
 att:=gw p.A
 inj:=pZ h.1 h.2
 xcl:=p.xa K
section
variable{p:PT}{K:Frag}{mg:Str→Option Value}
theorem Tx.cls(t:Tx p K mg)(n:Nat):∀c < n,Cls K (p.ca K c):=fun c _=>t.cl c
theorem Tx.xc(t:Tx p K mg)(c:Nat):kS K (p.xa K c):=(oG (t.xe c)).1
theorem Tx.b(t:Tx p K mg)(j:Nat){x:Str}(h:p.B[j]?=some x:=by rfl):mg x=none:=t.bi x (List.mem_of_getElem? h)
theorem Tx.c(t:Tx p K mg)(j:Nat){x:Str}{i:Int}(h:p.I[j]?=some (x,i):=by rfl):∃tk,mg x=some (.int i tk):=t.ci (x,i) (List.mem_of_getElem? h)
theorem Tx.k(t:Tx p K mg)(j:Nat){y:Option Nat×String×List Bool}(h:p.KT[j]?=some y:=by rfl)(c:Nat):PySem.W.kitOne K (.ref (p.xa K c)) (tgV p K y)=some (bM y.2.2 c):=t.kt y (List.mem_of_getElem? h) c
end
end PR
namespace PR
open PySem PySem.Spec L2
open PySem.W (keepIn Frag)
section
variable{P:Program}{w:World}{K:Frag}{mg:Str→Option Value}{base:Heap}{p:PT}{hA:p.attOk}
abbrev OkF(p:PT)(hA:p.attOk)(P:Program)(w:World)(K:Frag)(mg:Str→Option Value)(base:Heap)(k i:Nat)(m:List PV→Res PV):Prop:=bR P w K mg base (CXP P w) k (p.fa K i) (dAt K (p.fa K i)) (p.ps i) (spM (p.T hA K) (p.ps i).length m)
abbrev OkI(p:PT)(hA:p.attOk)(P:Program)(w:World)(K:Frag)(mg:Str→Option Value)(base:Heap)(k i:Nat)(m:List PV→Res PV):Prop:=bR P w K mg base (CXP P w) k (p.fa K i) (dAt K (p.fa K i)) (p.ps i) (spI (p.T hA K) (p.ps i).length m)
theorem okC(i:Nat){k:Nat}{m:MS}(t:Tx p K mg)(body:∀ (cdv:Value) (A:Around) (outer:List Env) (s:Shared) (H:Hp) (E:XK),Ctx (cj (CXP P w) P w K mg base (p.fs i).N (p.fs i).q (am (p.fs i).s) (p.fa K i) cdv A outer s H E) (p.T hA K) (WD (p.T hA K) E) k→(p.fs i).N.Nodup →
  SSs (cj (CXP P w) P w K mg base (p.fs i).N (p.fs i).q (am (p.fs i).s) (p.fa K i) cdv A outer s H E) (p.T hA K) (WD (p.T hA K) E) (aQ (p.fs i).s) m):OkF p hA P w K mg base (k+1) i (a9 (p.fs i).N.length m) :=
 yb (T:=p.T hA K) (t.fn i) (t.sc i) fun a b c d e f g=>body a b c d e f g (t.sc i).nd
theorem okI(i:Nat){k:Nat}{m:MS}(t:Tx p K mg)(body:∀ (cdv:Value) (A:Around) (outer:List Env) (s:Shared) (H:Hp) (E:XK),Ctx (cj (CXP P w) P w K mg base (p.fs i).N (p.fs i).q (am (p.fs i).s) (p.fa K i) cdv A outer s H E) (p.T hA K) (WD (p.T hA K) E) k→(p.fs i).N.Nodup →
  SSs (cj (CXP P w) P w K mg base (p.fs i).N (p.fs i).q (am (p.fs i).s) (p.fa K i) cdv A outer s H E) (p.T hA K) (WD (p.T hA K) E) (aQ (p.fs i).s) m):OkI p hA P w K mg base (k+1) i (ie (p.fs i).N.length m) :=
 uY (T:=p.T hA K) (t.fn i) (t.sc i) fun a b c d e f g=>body a b c d e f g (t.sc i).nd
theorem dm{X:Cx}{k k2 i c:Nat}{mn:Str}{m m':List PV→Res PV}{ps:List Str}(j:Nat)(t:Tx p X.K X.mg)(G:bR X.prog X.w X.K X.mg X.base (CXP X.prog X.w) k (p.fa X.K i) (dAt X.K (p.fa X.K i)) ps (spM (p.T hA X.K) ps.length m))(e:some m=some m')(hj:p.M[j]?=some (c,mn,i):=by rfl)(hp:p.ps i=ps:=by rfl)(hk:k≤k2:=by decide) :
  ∃f fd,vp X.K (p.ca X.K c) mn f∧cH X.K fd ps []∧bR X.prog X.w X.K X.mg X.base (CXP X.prog X.w) k2 f fd ps (spM (p.T hA X.K) ps.length m'):=by
 cases e
 exact⟨_,_,t.me _ (List.mem_of_getElem? hj),hp▸t.bn i,G.mono hk⟩
end
theorem dno{n c:Nat}{q:Prop}(h:c < n)(hc:n≤c:=by exact Nat.le_add_left _ _):q:=absurd h (Nat.not_lt.mpr hc)
section
variable{X:Cx}{W:Nat→St→Hp→Prop}{p:PT}{hA:p.attOk}
theorem a6{i k kk n:Nat}{m:List PV→Res PV}{x:Str}{np pos:Pos}{e:Expr}{es:List Expr}{ms:MA}(t:Tx p X.K X.mg)
  (G:bR X.prog X.w X.K X.mg X.base (CXP X.prog X.w) k (p.fa X.K i) (dAt X.K (p.fa X.K i)) (p.ps i) (spM (p.T hA X.K) (p.ps i).length m)) (cx:Ctx X (p.T hA X.K) W kk) (ha:SA X (p.T hA X.K) W (e::es) ms)
  (hk:k≤kk:=by decide) (hx:aP (p.fs i).s=x:=by rfl) (hc:(p.fs i).c=none:=by rfl) (hg:Gl X x:=by rfl) (hn:ee ms n:=by repeat' first | exact cG | apply b0) (hps:n=(p.ps i).length:=by rfl)
  (hdb:(x ==("__debug__" : Str))=false:=by decide) (he:starEach (e::es) X.env=(false,eval e X.env)::starEach es X.env:=by rfl) (hpl:(backTo pos (starEach es X.env)).any (·.1)=false:=by rfl) :
  SE X (p.T hA X.K) W (.Call (.Name x np) (e::es) [] pos) (ao (aA m) ms) :=
 k8 G cx hk hg (by subst hx;exact t.gl i hc) (t.fn i).kp (t.bn i) hn hps ha hdb he hpl
theorem iF{k kk n:Nat}{mn:Str}{ps:List Str}{disp:Nat→Option (List PV→Res PV)}{o e:Expr}{es:List Expr}{mo:ME}{ms:MA}{apos pos:Pos}{pl:Sem Bool}(t:Tx p X.K X.mg)
  (D:jA X (p.T hA X.K) k mn ps [] disp) (cx:Ctx X (p.T hA X.K) W kk) (ho:SE X (p.T hA X.K) W o mo) (ha:SA X (p.T hA X.K) W (e::es) ms)
  (hm:∀k,gw p.A k≠mn:=by exact sV (by decide +kernel) (by decide +kernel)) (hk:k≤kk:=by decide) (hn:ee ms n:=by repeat' first | exact cG | apply b0) (hps:n+1=ps.length:=by rfl)
  (hst:starEach (e::es) X.env=(false,eval e X.env)::starEach es X.env:=by rfl) (hpl:(backTo pos (starEach es X.env)).any (·.1)=false:=by rfl)
  (ht:eval (.Call (.Attribute o mn apos) (e::es) [] pos) X.env=(do
   let ov ← eval o X.env
   standAt apos.atName
   let(f,first) ← holding [ov] (getMethod ov mn pl)
   callWith pos f first (backTo pos (starEach (e::es) X.env)) (backToKw pos (keywordEach [] X.env))):=by rfl) :
  SE X (p.T hA X.K) W (.Call (.Attribute o mn apos) (e::es) [] pos) (eB disp mo ms) :=
 wz (pl:=pl) cx (t.cls _) hm D hk hn hps ho ha hst hpl ht
theorem qp{i k kk n:Nat}{m:List PV→Res PV}{x:Str}{np pos:Pos}{e:Expr}{es:List Expr}{ms:MA}(c:Nat)(t:Tx p X.K X.mg)
  (G:bR X.prog X.w X.K X.mg X.base (CXP X.prog X.w) k (p.fa X.K i) (dAt X.K (p.fa X.K i)) (p.ps i) (spI (p.T hA X.K) (p.ps i).length m)) (cx:Ctx X (p.T hA X.K) W kk) (ha:SA X (p.T hA X.K) W (e::es) ms)
  (hM:(c,i)∈ p.Mk:=by decide) (hcn:c < p.C.length:=by decide) (hk:k+1≤kk:=by decide) (hx:pk ("" : Str) p.C c=x:=by rfl) (hg:Gl X x:=by rfl) (hn:ee ms n:=by repeat' first | exact cG | apply b0) (hps:n+1=(p.ps i).length:=by rfl)
  (hdb:(x ==("__debug__" : Str))=false:=by decide) (he:starEach (e::es) X.env=(false,eval e X.env)::starEach es X.env:=by rfl) (hpl:(backTo pos (starEach es X.env)).any (·.1)=false:=by rfl) :
  SE X (p.T hA X.K) W (.Call (.Name x np) (e::es) [] pos) (jp c m ms) :=
 wy (t.mm _ hM) hcn G cx hk hg (by subst hx;exact t.cg c) (t.bn i) hn hps ha hdb he hpl
theorem aT{kk:Nat}{e:Expr}{m:ME}{f:Str}{pos:Pos}(k:Nat)(t:Tx p X.K X.mg)(cx:Ctx X (p.T hA X.K) W kk)(he:SE X (p.T hA X.K) W e m)(hf:gw p.A k=f:=by rfl)(hm:f∈p.A:=by decide)(hb:attributeBase e f X.env (eval e X.env)=eval e X.env:=by rfl) :
  SE X (p.T hA X.K) W (.Attribute e f pos) (mUn (ar k) m):=t5 cx.hK hf (t.cls _) (fun c _=>t.cn c f hm) he hb
theorem gC{es:List Expr}{ms:MA}{n:Nat}{pos:Pos}{T:Tb}(ha:SA X T W es ms)(hn:ee ms n:=by repeat' first | exact cG | apply b0)(hs:n≤1000:=by decide):SE X T W (.List es pos) (da ms):=wA ha hn hs
theorem ic{es:List Expr}{ms:MA}{n:Nat}{x1}{pos:Pos}{T:Tb}(ha:SA X T W es ms)(hn:ee ms n:=by repeat' first | exact cG | apply b0)(hs:n≤1000:=by decide):SE X T W (.Tuple es x1 pos) (fg ms):=ww ha hn hs
theorem bQ{a b:Expr}{ma mb:ME}{pos:Pos}{kk:Nat}{T:Tb}(cx:Ctx X T W kk)(ha:SE X T W a ma)(hb:SE X T W b mb)(hs:fb b:=by exact fun _ _=>rfl):SE X T W (.Subscript a b pos) (mOp aK ma mb):=wC cx.hK ha hb hs
theorem aZ{i:Nat}{x:Str}{e:Expr}{m:ME}{pos pos':Pos}{T:Tb}(hN:X.N.Nodup)(he:SE X T W e m)(hi:X.N[i]?=some x:=by rfl)(hx:Loc X.env.scope x:=by first | exact .inl rfl | exact .inr rfl)(hs:swapsWith e (some (.Name x pos')) pos.line X.env=pure false:=by rfl)
  (hf:X.fn x=true∨X.env.scope.names.lookup x=some .local:=by first | exact .inl rfl | exact .inr rfl | assumption):SS X T W (.Assign [.Name x pos'] e pos) (aE i m):=wo hN hi hx he hs hf
theorem sgN{i:Nat}{x:Str}{pos:Pos}{T:Tb}(hN:X.N.Nodup)(hi:X.N[i]?=some x:=by rfl)(hx:Loc X.env.scope x:=by first | exact .inl rfl | exact .inr rfl)(hf:X.fn x=true∨X.env.scope.names.lookup x=some .local:=by first | exact .inl rfl | exact .inr rfl | assumption):SG X T (.Name x pos) (tgN i):=tR hN hi hx hf
theorem cY{i k:Nat}(h:k≤i:=by decide):fJ (tgN i) k:=qd h
theorem wE{i kk:Nat}{x:Str}{e:Expr}{m:ME}{pos px apos cpos:Pos}{T:Tb}(cx:Ctx X T W kk)(he:SE X T W e m)(hN:X.N[i]?=some x:=by rfl)(hv:Vis X.env.scope x:=by first | exact Or.inl rfl | exact Or.inr (Or.inl rfl) | exact Or.inr (Or.inr rfl))
  (hs:swapsWith (.Call (.Attribute (.Name x px) "append" apos) [e] [] cpos) none pos.line X.env=pure false:=by rfl) (hst:starEach [e] X.env=[(false,eval e X.env)]:=by rfl)
  (hfew:((backTo cpos (starEach [e] X.env)).all (fun x=>!x.1)&&(backToKw cpos (keywordEach [] X.env)).all (fun x=>x.1.isSome)&&decide ([e].length+([]:List Keyword).length+(if([]:List Keyword).isEmpty then 0 else 1) < 30))=true:=by rfl)
  (hline:(apos.endLine==cpos.line)=true:=by rfl) (hd:(x ==("__debug__" : Str))=false:=by decide) (hcd:(x ==("__classdict__" : Str))=false:=by decide) :
  SS X T W (.Expr (.Call (.Attribute (.Name x px) "append" apos) [e] [] cpos) pos) (dB i m):=o4 cx.hK hN hv he hs hst hfew hline hd hcd
theorem sFld{i kk:Nat}{x f:Str}{e:Expr}{m:ME}{pos pos' px:Pos}(k:Nat)(t:Tx p X.K X.mg)(cx:Ctx X (p.T hA X.K) W kk)(he:SE X (p.T hA X.K) W e m)(hf:gw p.A k=f:=by rfl)(hm:f∈p.A:=by decide)(hN:X.N[i]?=some x:=by rfl)
  (hv:Vis X.env.scope x:=by first | exact Or.inl rfl | exact Or.inr (Or.inl rfl) | exact Or.inr (Or.inr rfl))
  (hs:swapsWith e (some (.Attribute (.Name x px) f pos')) pos.line X.env=pure false:=by rfl) (hd:(x ==("__debug__" : Str))=false:=by decide) (hcd:(x ==("__classdict__" : Str))=false:=by decide) :
  SS X (p.T hA X.K) W (.Assign [.Attribute (.Name x px) f pos'] e pos) (eC i k m):=wp cx.hK hf (t.cls _) (fun c _=>t.cn c f hm) hN hv he hs hd hcd
theorem bp{k n:Nat}{x:Str}{e:Expr}{es:List Expr}{ms:MA}{np cpos pos:Pos}(c:Nat)(t:Tx p X.K X.mg)(cx:Ctx X (p.T hA X.K) W k)(hB:X.K.In X.base)(hx:XM X (p.T hA X.K) W)(ha:SA X (p.T hA X.K) W (e::es) ms)
  (hm:pk ("" : Str) p.X c=x:=by rfl) (hg:Gl X x:=by rfl) (hn:ee ms n:=by repeat' first | exact cG | apply b0) (hn2:n≤100:=by decide) (hd:(x ==("__debug__" : Str))=false:=by decide)
  (he:starEach (e::es) X.env=(false,eval e X.env)::starEach es X.env:=by rfl) (hpl:(backTo cpos (starEach es X.env)).any (·.1)=false:=by rfl) :
  SS X (p.T hA X.K) W (.Raise (some (.Call (.Name x np) (e::es) [] cpos)) none pos) (aM c ms) :=
 o3 cx (by subst hm;exact t.xg c) hB (oG (t.xe c)).2 hx hg hn hn2 ha hd he hpl
theorem t7{i k kk n:Nat}{m:List PV→Res PV}{x y:Str}{q px apos pos pos':Pos}{es:List Expr}{ms:MA}{pl:Sem Bool}(c:Nat)(t:Tx p X.K X.mg)
  (G:bR X.prog X.w X.K X.mg X.base (CXP X.prog X.w) k (p.fa X.K i) (dAt X.K (p.fa X.K i)) (p.ps i) (spI (p.T hA X.K) (p.ps i).length m)) (cx:Ctx X (p.T hA X.K) W kk) (ha:SA X (p.T hA X.K) W es ms)
  (hU:(c,i)∈ p.U:=by decide) (hk:k≤kk:=by decide) (hx:pk ("" : Str) p.C c=x:=by rfl) (hg:Gl X x:=by rfl) (hN:X.N[0]?=some y:=by rfl) (hv:Vis X.env.scope y:=by first | exact Or.inl rfl | exact Or.inr (Or.inl rfl) | exact Or.inr (Or.inr rfl))
  (hn:ee ms n:=by repeat' first | exact cG | apply b0) (hps:n+1=(p.ps i).length:=by rfl)
  (hdb:(x ==("__debug__" : Str))=false:=by decide) (hdy:(y ==("__debug__" : Str))=false:=by decide) (hcy:(y ==("__classdict__" : Str))=false:=by decide)
  (hst:starEach (.Name y px::es) X.env=(false,eval (.Name y px) X.env)::starEach es X.env:=by rfl) (hpl:(backTo pos (starEach es X.env)).any (·.1)=false:=by rfl)
  (ht:eval (.Call (.Attribute (.Name x q) "__init__" apos) (.Name y px::es) [] pos) X.env=(do
   let ov ← eval (.Name x q) X.env
   standAt apos.atName
   let(f,first) ← holding [ov] (getMethod ov "__init__" pl)
   callWith pos f first (backTo pos (starEach (.Name y px::es) X.env)) (backToKw pos (keywordEach [] X.env))):=by rfl)
  (hs:swapsWith (.Call (.Attribute (.Name x q) "__init__" apos) (.Name y px::es) [] pos) none pos'.line X.env=pure false:=by rfl) :
  SS X (p.T hA X.K) W (.Expr (.Call (.Attribute (.Name x q) "__init__" apos) (.Name y px::es) [] pos) pos') (f9 m ms) :=
 wm (pl:=pl) cx (t.su _ hU) G hk hg (by subst hx;exact t.cg c) (t.bn i) hN hv hn hps ha hdb hdy hcy hst hpl ht hs
end
section
variable{X:Cx}{W:Nat→St→Hp→Prop}{T:Tb}
abbrev nmC(X:Cx)(caps:List Nat)(tn:List Str):List Str:=caps.map (fun i=>X.N.getD i "")++ tn
theorem cOf{scope:Scope}{caps:List Nat}{tn:List Str}(h:jb X.env.scope scope X.N caps (nmC X caps tn) tn=true):cA X scope caps (nmC X caps tn) tn:=vg h rfl rfl
theorem el{elt iter tg:Expr}{ifs:List Expr}{scope:Scope}{pos:Pos}{caps:List Nat}{kk:Nat}{mi:MI}{g:TgM}{mc:MT}{me:ME}(tn:List Str)(cx:Ctx X T W kk)(hi:SIc X T W tg iter mi)(hk:fJ g caps.length)
  (hb:∀C s H ex,(nmC X caps tn).Nodup→SG (cxC X scope C (nmC X caps tn) s H ex) T tg g∧STs (cxC X scope C (nmC X caps tn) s H ex) T WF ifs mc∧SE (cxC X scope C (nmC X caps tn) s H ex) T WF elt me)
  (h:jb X.env.scope scope X.N caps (nmC X caps tn) tn=true:=by kernel_rfl) (hs:∀x,foldedSetIterable iter X.env x=pure x:=by intro _;rfl):SE X T W (.ListComp elt [⟨tg,iter,ifs,0⟩] scope pos) (aR caps tn.length mi g mc me) :=
 t0 (cOf h) cx.calm hi hk (fun C s H ex=>hb C s H ex (cOf h).nd) hs
theorem eK{i:Nat}{y:Str}{elt iter tg:Expr}{ifs:List Expr}{scope:Scope}{pos py spos:Pos}{caps:List Nat}{kk:Nat}{mi:MI}{g:TgM}{mc:MT}{me:ME}(tn:List Str)(cx:Ctx X T W kk)(hN:X.N.Nodup)(hi:SIc X T W tg iter mi)(hk:fJ g caps.length)
  (hb:∀C s H ex,(nmC X caps tn).Nodup→SG (cxC X scope C (nmC X caps tn) s H ex) T tg g∧STs (cxC X scope C (nmC X caps tn) s H ex) T WF ifs mc∧SE (cxC X scope C (nmC X caps tn) s H ex) T WF elt me)
  (h:jb X.env.scope scope X.N caps (nmC X caps tn) tn=true:=by kernel_rfl) (hy:X.N[i]?=some y:=by rfl) (hx:Loc X.env.scope y:=by first | exact .inl rfl | exact .inr rfl)
  (hsw:swapsWith (.ListComp elt [⟨tg,iter,ifs,0⟩] scope pos) (some (.Name y py)) spos.line X.env=pure true:=by rfl)
  (hs:∀x,foldedSetIterable iter X.env x=pure x:=by intro _;rfl)
  (hf:X.fn y=true∨X.env.scope.names.lookup y=some .local:=by first | exact .inl rfl | exact .inr rfl | assumption) :
  SS X T W (.Assign [.Name y py] (.ListComp elt [⟨tg,iter,ifs,0⟩] scope pos) spos) (aE i (aR caps tn.length mi g mc me)) :=
 tN (cOf h) cx.calm hN hy hx hi hk (fun C s H ex=>hb C s H ex (cOf h).nd) hsw hs hf
end
end PR
namespace PR
open PySem PySem.Spec L2 PyProof.Rows
section
variable{X:Cx}{tg:Expr}
end
section
variable{X:Cx}{T:Tb}{W:Nat→L2.St→Hp→Prop}{F1 B:Addr→Prop}{H1:Hp}
end
end PR
namespace PR
open PySem PySem.Spec L2
section
variable{X:Cx}{T:Tb}{W:Nat→St→Hp→Prop}{Z:Zn}{F:Addr→Prop}{H:Hp}{σ:St}{env:En}{fp:Nat→List Addr}
inductive oS(X:Cx)(T:Tb)(n:Str)(c:Nat)(mh:MS):List ExceptHandler→Prop
 | hit {cn:Str}{CC:Addr}{pc hp:Pos}{b₀:Stmt}{suite:List Stmt}{bw:List ExceptHandler} (hg:Gl X cn) (hm:X.mg cn=some (.ref CC)) (hh:PySem.W.exmOne T.K (.ref (T.xcl c)) (.ref CC)=some true)
   (hs:∀e,SSs (X.hanX e) T WF (b₀::suite) mh) (hd:(cn ==("__debug__" : Str))=false):oS X T n c mh (.ExceptHandler (some (.Name cn pc)) (some n) (b₀::suite) hp::bw)
 | miss {cn:Str}{CC:Addr}{pc hp:Pos}{nm:Option Str}{bd:List Stmt}{bw:List ExceptHandler} (hg:Gl X cn) (hm:X.mg cn=some (.ref CC)) (hh:PySem.W.exmOne T.K (.ref (T.xcl c)) (.ref CC)=some false)
   (hd:(cn ==("__debug__" : Str))=false) (r:oS X T n c mh bw):oS X T n c mh (.ExceptHandler (some (.Name cn pc)) nm bd hp::bw)
def jQ(mb:MS)(hit:Nat→Bool)(n:Nat)(mh:Nat→MS)(mo:MS):MS:=fun env=>match mb env with
 | .exc c e=>if hit c then p_ n (mh c (e.set n (some (.exc c))))else .stuck
 | .next e=>mo e
 | o=>o
theorem tK{body orelse:List Stmt}{hs:List ExceptHandler}{n:Str}{i k:Nat}{mb mo:MS}{mh:Nat→MS}{hit:Nat→Bool}{pos:Pos}(cx:Ctx X T W k)
  (hst:X.stack=X.env::X.outer) (hfr:X.env.frame=some X.env.locals) (hN:X.N.Nodup) (hi:X.N[i]?=some n) (hl:X.env.scope.names.lookup n=some .local) (h0:i≠0)
  (hh:∀c,hit c=true→oS X T n c (mh c) hs)
  (hb:∀E pn Wb,Ctx (X.tryX E pn) T Wb k→SSs (X.tryX E pn) T Wb body mb) (ho:SSs X T W orelse mo) (h1:hs≠[]) :
  SS X T W (.Try body hs orelse [] pos) (jQ mb hit i mh mo):=by
 intro pins s σ H D I h
 obtain⟨Z,F,env,fp,S,q⟩:=h
 unfold jQ at q
 obtain⟨h₀,ht,rfl⟩:=List.exists_cons_of_ne_nil h1
 refine wpAny_Try_except ?_
 generalize hEb:(fun (e:Value) (s₁:Shared)=>wpAny (model X.prog X.w) X.A (noteFrame e X.env) (fun _ s₂=>wpAny (model X.prog X.w) X.A (setFlight e none) (fun _ s₃ =>
  wpAny (model X.prog X.w) X.A (handleBy e X.env (h₀::ht)) (SP X pins D) X.xe s₃) X.xe s₂) X.xe s₁)=Eb
 have po:PassesOwn (model X.prog X.w) X.A X.env Eb:=by rw[← hEb];exact PassesOwn.looking
 have ctx:Ctx (X.tryX Eb (X.pn++pins)) T (fun c σ' H'=>∃Z F env fp,ap T Z F H' σ' env fp∧hit c=true∧GS T W Z D (p_ i (mh c (env.set i (some (.exc c)))))) k:=by
  refine⟨cx.hK,cx.calm,cx.room,?_,po⟩
  intro pins' σ1 H1 s1 c H2 e s2 I1 fl hW
  have I1:=I1.untry
  obtain⟨Z,F,env,fp,S,hc,q⟩:=hW
  obtain⟨x,a0,Bh,rfl,f0,tr,ol⟩:=fl.fly
  show Eb (.ref x) s2
  rw[← hEb]
  have f0':=f0
  rw[show(X.tryX Eb (X.pn++pins)).stack=X.env::X.outer from hst]at f0'
  refine wpAny_looks_onW (hst▸I1.ok.frames) hfr f0' fun h4 held4 up4=>wpAny_landsW held4 fun h5 f5 up5=>?_
  have f5':Heap.FlyingW Bh X.stack x (.ref (T.xcl c)) a0 h5:=by rw[hst];exact f5
  obtain⟨I5,nx,_⟩:=ir (g:=s2.gens) (d:=s2.drawn) (t:=s2.toks) I1 fl f0 tr ol f5' (up4.trans up5) fl.bare
  obtain⟨o5,ho5,hc5⟩:=f5.there
  have lt:PySem.W.Looks (model X.prog X.w) h5 (typeOf (.ref x)) (.ref (T.xcl c)):=hc5 ▸(PySem.W.Looks.ld ho5).andThen .now
  have kin:T.K.In h5:=by rw[← cx.hK];exact I5.kIn
  have hH:=hh c hc
  generalize h₀::ht=hs at hH
  induction hH with
  | miss hg hm he hd r ih =>
   refine wpAny_handleBy_cons (codeAny_handlers_test ?_) (by intro z;cases z)
   refine dD (X:=X.hanX (.ref x)) (pins:=pins) (I:=I5.hanX) hg hm ?_ hd
   refine(PySem.W.exm_one kin lt he).at ?_
   exact ih
  | hit hg hm he hs hd =>
   refine wpAny_handleBy_cons (codeAny_handlers_test ?_) (by intro z;cases z)
   refine dD (X:=X.hanX (.ref x)) (pins:=pins) (I:=I5.hanX) hg hm ?_ hd
   refine(PySem.W.exm_one kin lt he).at ?_
   refine codeAny_handlers_suite_as ?_
   refine PyProof.Rows.lands_againW f5 fun h6 f6 up6=>?_
   have f6':Heap.FlyingW Bh X.stack x (.ref (T.xcl c)) a0 h6:=by rw[hst];exact f6
   obtain⟨I6,_,_⟩:=ir (g:=s2.gens) (d:=s2.drawn) (t:=s2.toks) I1 fl f0 tr ol f6' ((up4.trans up5).trans up6) fl.bare
   refine iz (X:=X.hanX (.ref x)) (I:=I6.hanX) hN hi (.inl hl) (v:=.ref x) rfl (fun s7 I7=>?_) (.inr hl)
   have S7:=S.caught (c:=c) h0 nx
   refine wpAny_mono (hs (.ref x) pins s7 _ _ ⟨fun σ' H'=>D.nx (σ'.set i none) H',D.rt,fun σ' H'=>D.bk (σ'.set i none) H',fun σ' H'=>D.ct (σ'.set i none) H'⟩ I7 ⟨Z,F,_,_,S7,?_⟩) (fun f s8 h8=>?_) fun _ _ z=>z.elim
   ·cases e:mh c (env.set i (some (.exc c)))with
    | next e'=>rw[e]at q;exact fun F' H' σ' fp' S'=>q F' H' _ fp' (S'.unset h0)
    | brk e'=>rw[e]at q;exact fun F' H' σ' fp' S'=>q F' H' _ fp' (S'.unset h0)
    | cont e'=>rw[e]at q;exact fun F' H' σ' fp' S'=>q F' H' _ fp' (S'.unset h0)
    | ret v=>rw[e]at q;exact q
    | exc c' e'=>rw[e]at q;exact q.elim
    | stuck=>rw[e]at q;exact q.elim
   ·cases f with
    | next=>obtain⟨σ',H',I8,q8⟩:=h8;exact iu (I8.unhan I.ok) hN hi hl fun s9 I9=>⟨_,H',I9,q8⟩
    | brk=>obtain⟨σ',H',I8,q8⟩:=h8;exact iu (I8.unhan I.ok) hN hi hl fun s9 I9=>⟨_,H',I9,q8⟩
    | cont=>obtain⟨σ',H',I8,q8⟩:=h8;exact iu (I8.unhan I.ok) hN hi hl fun s9 I9=>⟨_,H',I9,q8⟩
    | ret u=>obtain⟨v,σ',H',I8,r8,q8⟩:=h8;exact iu (I8.unhan I.ok) hN hi hl fun s9 I9=>⟨v,_,H',I9,r8,q8⟩
 have r:=hb Eb (X.pn ++ pins) _ ctx [] s σ H ⟨fun σ' H'=>tS T W mo D σ' H',D.rt,D.bk,D.ct⟩ I.tryX ⟨Z,F,env,fp,S,by
  cases e:mb env with
  | next e'=>rw[e]at q;exact fun F' H' σ' fp' S'=>⟨Z,F',e',fp',S',q⟩
  | brk e'=>rw[e]at q;exact q
  | cont e'=>rw[e]at q;exact q
  | ret v=>rw[e]at q;exact q
  | exc c e' =>
   rw[e]at q
   dsimp only at q
   intro F' H' σ' fp' S'
   by_cases hh:hit c=true
   ·rw[if_pos hh]at q;exact⟨Z,F',e',fp',S',hh,q⟩
   ·rw[if_neg hh]at q;exact q.elim
  | stuck=>rw[e]at q;exact q.elim⟩
 refine wpAny_mono r (fun f s1 h1=>?_) fun e s1 h1=>?_
 ·cases f with
  | next=>obtain⟨σ',H',I1,q1⟩:=h1;exact ho pins s1 σ' H' D I1.untry q1
  | brk=>obtain⟨σ',H',I1,q1⟩:=h1;exact⟨σ',H',I1.untry,q1⟩
  | cont=>obtain⟨σ',H',I1,q1⟩:=h1;exact⟨σ',H',I1.untry,q1⟩
  | ret u=>obtain⟨v,σ',H',I1,r1,q1⟩:=h1;exact⟨v,σ',H',I1.untry,r1,q1⟩
 ·exact h1
def g7(mb:MS)(h1 h2:Nat→Bool)(n:Nat)(m1 m2 mo:MS):MS:=jQ mb (fun c=>h1 c||h2 c) n (fun c=>if h1 c then m1 else m2) mo
theorem tL{body s1 s2 orelse:List Stmt}{b1 b2:Stmt}{c1 c2 n:Str}{i k:Nat}{mb m1 m2 mo:MS}{h1 h2:Nat→Bool}{C1 C2:Addr}{pc1 hp1 pc2 hp2 pos:Pos}(cx:Ctx X T W k)
  (hst:X.stack=X.env::X.outer) (hfr:X.env.frame=some X.env.locals) (hN:X.N.Nodup) (hi:X.N[i]?=some n) (hl:X.env.scope.names.lookup n=some .local) (h0:i≠0)
  (g1:Gl X c1) (e1:X.mg c1=some (.ref C1)) (t1:∀c,PySem.W.exmOne T.K (.ref (T.xcl c)) (.ref C1)=some (h1 c)) (g2:Gl X c2) (e2:X.mg c2=some (.ref C2)) (t2:∀c,PySem.W.exmOne T.K (.ref (T.xcl c)) (.ref C2)=some (h2 c))
  (hb:∀E pn Wb,Ctx (X.tryX E pn) T Wb k→SSs (X.tryX E pn) T Wb body mb) (a1:∀e,SSs (X.hanX e) T WF (b1::s1) m1) (a2:∀e,SSs (X.hanX e) T WF (b2::s2) m2) (ho:SSs X T W orelse mo)
  (d1:(c1 ==("__debug__" : Str))=false:=by decide) (d2:(c2 ==("__debug__" : Str))=false:=by decide) :
  SS X T W (.Try body [.ExceptHandler (some (.Name c1 pc1)) (some n) (b1::s1) hp1,.ExceptHandler (some (.Name c2 pc2)) (some n) (b2::s2) hp2] orelse [] pos) (g7 mb h1 h2 i m1 m2 mo) :=
 tK cx hst hfr hN hi hl h0 (fun c hc=>by
  cases e:h1 c with
  | true=>exact .hit g1 e1 (by rw[t1,e]) (by simpa[e]using a1) d1
  | false =>
   refine .miss g1 e1 (by rw[t1,e]) d1 (.hit g2 e2 ?_ (by simpa[e]using a2) d2)
   rw[t2]
   simpa[e]using hc) hb ho (by simp)
end
end PR
namespace PR
open PySem PySem.Spec L2
open PySem.W (findIn fnOf keepIn nsIn codeIn isFn Frag)
structure PE where
 D:List (FS×Bool)
 G:List (Str×List (Str×Int))
def PE.at(q:PE)(j:Nat):FS×Bool:=q.D.getD j (fs0,false)
def PT.hk(p:PT)(j:Nat):Nat×List Bool:=p.HT.getD j (0,[])
def PT.kk(p:PT)(j:Nat):Option Nat×String×List Bool:=p.KT.getD j (none, "", [])
def PE.gk(q:PE)(j:Nat):Str×List (Str×Int):=q.G.getD j ("", [])
theorem PE.gk_mem(q:PE){j:Nat}(h:j < q.G.length):q.gk j∈q.G:=by unfold PE.gk;rw[List.getD_eq_getElem?_getD,List.getElem?_eq_getElem h];exact List.getElem_mem h
def dfA(K:Frag)(f:Addr):Addr:=match (dAt K f).defaults with
 | .ref a=>a
 | _=>0
def uO(x:FS)(a:Addr):Obj→Obj
 |⟨oc,od,.func d,sl⟩=>⟨oc,od,.func (fnOf (aP x.s) x.q (bD x.s) (aQ x.s) (am x.s) (.ref a) d.kwdefaults d.doc d.pyModule d.annotations d.code d.closureTuple),sl⟩
 | o=>o
def zJ(b:Bool):Option Obj→Bool
 | some ⟨_,_,.seq a _,_⟩=>decide (a.toList=[.bool b])
 | _=>false
def nt(P:Params):List DictEntry→List (Str×Int)→List DictEntry
 |⟨_,.str _ t,.int _ u⟩::es,(k,v)::kvs=>⟨PyData.keyHash P k,.str k t,.int v u⟩::nt P es kvs
 | _,_=>[]
theorem vb{P:Params}{es:List DictEntry}{kvs:List (Str×Int)}:(nt P es kvs).length=kvs.length→lV P (nt P es kvs) kvs:=by
 fun_induction nt P es kvs with
 | case1=>rename_i ih;exact fun e=>⟨⟨_,_,rfl⟩,ih (by simpa using e)⟩
 | case2 =>
  intro e
  have e:=List.eq_nil_of_length_eq_zero e.symm
  subst e;trivial
def Av(P:Params)(kvs:List (Str×Int)):Obj→Obj
 |⟨_,_,.dict es ep,_⟩=>{ cls:=.type "dict", dict:=none,data:=.dict (nt P es.toList kvs).toArray ep,slots:=#[] }
 | o=>o
def okG(P:Params)(kvs:List (Str×Int)):Option Obj→Bool
 | some ⟨_,_,.dict es _,_⟩=>decide ((nt P es.toList kvs).length=kvs.length)
 | _=>false
structure FD(p:PT)(K:Frag)(mg:Str→Option Value)(y:FS×Bool):Prop where
 fn:sZ K (aP y.1.s) y.1.q y.1.s (p.fx K y.1) (dAt K (p.fx K y.1)) (dfA K (p.fx K y.1)) [.bool y.2]
 sc:bV y.1.N (y.1.N.take y.1.k) (am y.1.s)
 bn:cH K (dAt K (p.fx K y.1)) (y.1.N.take y.1.k) []
 gl:mg (aP y.1.s)=some (.ref (p.fx K y.1))
structure Ty(p:PT)(q:PE)(w:World)(K:Frag)(mg:Str→Option Value):Prop where
 tx:Tx p K mg
 fd:∀y∈q.D,FD p K mg y
 dc:∀y∈q.G,mg y.1=some (.ref (gAt K y.1))∧ib w K (gAt K y.1) y.2
section
variable{p:PT}{q:PE}{w:World}{K:Frag}{mg:Str→Option Value}
theorem Ty.d(t:Ty p q w K mg)(j:Nat)(h:j < q.D.length:=by decide):FD p K mg (q.at j):=t.fd _ (by unfold PE.at;rw[List.getD_eq_getElem?_getD,List.getElem?_eq_getElem h];exact List.getElem_mem h)
theorem Ty.gm(t:Ty p q w K mg)(j:Nat)(h:j < q.G.length:=by decide):mg (q.gk j).1=some (.ref (gAt K (q.gk j).1)):=(t.dc _ (q.gk_mem h)).1
theorem Ty.gd(t:Ty p q w K mg)(j:Nat)(h:j < q.G.length:=by decide):ib w K (gAt K (q.gk j).1) (q.gk j).2:=(t.dc _ (q.gk_mem h)).2
theorem Tx.kO(t:Tx p K mg)(j:Nat)(h:j < p.KT.length:=by decide){c0:Nat}(e:(p.kk j).1=some c0:=by rfl)(c:Nat):PySem.W.kitOne K (.ref (p.xa K c)) (.ref (p.xa K c0))=some (bM (p.kk j).2.2 c):=by
 have q:=t.kt (p.kk j) (by unfold PT.kk;rw[List.getD_eq_getElem?_getD,List.getElem?_eq_getElem h];exact List.getElem_mem h) c
 unfold tgV at q
 rw[e]at q
 exact q
theorem Tx.g(t:Tx p K mg)(j:Nat)(h:j < p.HT.length:=by decide)(c:Nat):PySem.W.exmOne K (.ref (p.xa K c)) (.ref (p.xa K (p.hk j).1))=some (bM (p.hk j).2 c):=t.ht _ (by unfold PT.hk;rw[List.getD_eq_getElem?_getD,List.getElem?_eq_getElem h];exact List.getElem_mem h) c
theorem Tx.hO(t:Tx p K mg)(j:Nat)(h:j < p.HT.length:=by decide)(c:Nat)(hc:bM (p.hk j).2 c=true):PySem.W.exmOne K (.ref (p.xa K c)) (.ref (p.xa K (p.hk j).1))=some true:=hc▸t.g j h c
end
def vy(y:FS×Bool):Prop:=∀(dT:Addr) (kV doc pm:Value) (an:Option Addr) (cdv ct:Value) (us:List Value),(us++[]).length=(y.1.N.take y.1.k).length →
 ∃k:Option (Array Value)→Sem (List (Str×Value)),bindArgs (fnOf (aP y.1.s) y.1.q (bD y.1.s) (aQ y.1.s) (am y.1.s) (.ref dT) kV doc pm an cdv ct) ⟨us,[]⟩=seqItems? (.ref dT) >>= k∧k (some [Value.bool y.2].toArray)=pure ((y.1.N.take y.1.k).zip (us++[]))
theorem bd2{y:FS×Bool}(h:∀(dT:Addr) (kV doc pm:Value) (an:Option Addr) (cdv ct u1 u2:Value),∃k:Option (Array Value)→Sem (List (Str×Value)),bindArgs (fnOf (aP y.1.s) y.1.q (bD y.1.s) (aQ y.1.s) (am y.1.s) (.ref dT) kV doc pm an cdv ct) ⟨[u1,u2],[]⟩=seqItems? (.ref dT) >>= k∧k (some [Value.bool y.2].toArray)=pure ((y.1.N.take y.1.k).zip [u1,u2]):=by intros;exact⟨_,rfl,rfl⟩)
  (hk:(y.1.N.take y.1.k).length=2:=by rfl):vy y:=fun dT kV doc pm an cdv ct us hl=>by
 rw[hk]at hl
 match us,hl with
 | [_,_],_=>exact h ..
theorem bd3{y:FS×Bool}(h:∀(dT:Addr) (kV doc pm:Value) (an:Option Addr) (cdv ct u1 u2 u3:Value),∃k:Option (Array Value)→Sem (List (Str×Value)),bindArgs (fnOf (aP y.1.s) y.1.q (bD y.1.s) (aQ y.1.s) (am y.1.s) (.ref dT) kV doc pm an cdv ct) ⟨[u1,u2,u3],[]⟩=seqItems? (.ref dT) >>= k∧k (some [Value.bool y.2].toArray)=pure ((y.1.N.take y.1.k).zip [u1,u2,u3]):=by intros;exact⟨_,rfl,rfl⟩)
  (hk:(y.1.N.take y.1.k).length=3:=by rfl):vy y:=fun dT kV doc pm an cdv ct us hl=>by
 rw[hk]at hl
 match us,hl with
 | [_,_,_],_=>exact h ..
def tf:List (FS×Bool)→Prop
 | []=>True
 | x::l=>vy x∧tf l
theorem tf.get:∀{l:List (FS×Bool)},tf l→∀x∈l,vy x
 | [],_,_,h=>nomatch h
 | y::l,⟨h1,h2⟩,x,h=>by
  rcases List.mem_cons.mp h with rfl | h
  ·exact h1
  ·exact h2.get x h
section
variable(p:PT)(q:PE)(P:Params)(K:Frag)
def PE.ob:List (Option Obj):=q.D.map fun y=>K.lookup (p.fx K y.1)
def PE.ol:List (Option Obj):=q.D.map fun y=>(K.lookup (p.fx K y.1)).map (uO y.1 (dfA K (p.fx K y.1)))
def PE.ch:Bool:=q.D.all fun y=>p.chF K y.1&&y.1.c.isNone&&zJ y.2 (K.lookup (dfA K (p.fx K y.1)))
def PE.gb:List (Option Obj):=q.G.map fun y=>K.lookup (gAt K y.1)
def PE.gl:List (Option Obj):=q.G.map fun y=>(K.lookup (gAt K y.1)).map (Av P y.2)
def PE.cg:Bool:=q.G.all fun y=>decide (nsIn K mainGlobals y.1=some (some (.ref (gAt K y.1))))&&!(gAt K y.1==sysModules)&&okG P y.2 (K.lookup (gAt K y.1))
end
theorem Ty.of{p:PT}{q:PE}{w:World}{K:Frag}{h:Heap}{mg:Str→Option Value}(X:K.In h)(N:h.Ns mainGlobals mg)(t:Tx p K mg)(hb:tf q.D)(hs:q.D.all (fun y=>scB y.1)=true)
  (e:q.ob p K=q.ol p K) (h1:q.ch p K=true) (e2:q.gb K=q.gl w.params K) (h2:q.cg w.params K=true):Ty p q w K mg:=by
 simp only[PE.ch,PE.cg,Bool.and_eq_true,List.all_eq_true,decide_eq_true_eq]at h1 h2 hs
 refine⟨t,fun y hy=>?_,fun y hy=>?_⟩
 ·obtain⟨⟨a1,a2⟩,a3⟩:=h1 y hy
  simp only[PT.chF,Bool.and_eq_true]at a1
  obtain⟨⟨⟨q1,q2⟩,q3⟩,q4⟩:=a1
  have e1:K.lookup (p.fx K y.1)=(K.lookup (p.fx K y.1)).map (uO y.1 (dfA K (p.fx K y.1))):=List.map_inj_left.mp e y hy
  have F:sZ K (aP y.1.s) y.1.q y.1.s (p.fx K y.1) (dAt K (p.fx K y.1)) (dfA K (p.fx K y.1)) [.bool y.2]:=by
   have dl:∃(o:Obj) (n:Nat),K.lookup (dfA K (p.fx K y.1))=some o∧o.data=.seq [Value.bool y.2].toArray n:=by
    unfold zJ at a3
    split at a3
    ·rename_i a n _ eo
     exact⟨_,n,eo,by rw[← of_decide_eq_true a3]⟩
    ·cases a3
   generalize dfA K (p.fx K y.1)=dT at e1 dl
   cases eo:K.lookup (p.fx K y.1)with
   | none=>rw[eo]at q1;cases q1
   | some o =>
    rw[eo]at e1 q1
    obtain⟨oc,od,dt,sl⟩:=o
    cases dt with
    | func d =>
     have e2:(⟨oc,od,.func d,sl⟩:Obj)=uO y.1 dT ⟨oc,od,.func d,sl⟩:=Option.some.inj e1
     simp only[uO,Obj.mk.injEq,Data.func.injEq,true_and,and_true]at e2
     have ed:dAt K (p.fx K y.1)=d:=by unfold dAt;rw[eo]
     rw[ed]at q2 ⊢
     exact⟨⟨oc,od,d.kwdefaults,d.doc,d.pyModule,d.annotations,d.code,d.closureTuple,sl,e2,eo,q2⟩,q3,dl⟩
    | _=>cases q1
  have sc:bV y.1.N (y.1.N.take y.1.k) (am y.1.s):=by
   have q:=hs y hy
   simp only[scB,Bool.and_eq_true,decide_eq_true_eq,List.all_eq_true,Bool.not_eq_true']at q
   obtain⟨⟨⟨⟨⟨⟨q1,q2⟩,q3⟩,q4⟩,q5⟩,q6⟩,q7⟩:=q
   exact⟨q1,q2,q3,q4,by rw[List.length_take,Nat.min_eq_left q5],q6,q7⟩
  refine⟨F,sc,F.binds (es:=[]) (hb.get y hy _),?_⟩
  rw[Option.isNone_iff_eq_none.mp a2]at q4
  exact PySem.W.mg_of X N (of_decide_eq_true q4)
 ·obtain⟨⟨a1,a2⟩,a3⟩:=h2 y hy
  refine⟨PySem.W.mg_of X N a1,by simpa using a2,?_⟩
  have e1:K.lookup (gAt K y.1)=(K.lookup (gAt K y.1)).map (Av w.params y.2):=List.map_inj_left.mp e2 y hy
  unfold okG at a3
  split at a3
  ·rename_i a b es ep sl eo
   rw[eo]at e1
   exact⟨nt w.params es.toList y.2,ep,by rw[eo];exact e1,vb (of_decide_eq_true a3)⟩
  ·cases a3
section
variable{P:Program}{w:World}{K:Frag}{mg:Str→Option Value}{base:Heap}{p:PT}{hA:p.attOk}{q:PE}
abbrev OkD(p:PT)(hA:p.attOk)(P:Program)(w:World)(K:Frag)(mg:Str→Option Value)(base:Heap)(k:Nat)(x:FS)(m:List PV→Res PV):Prop :=
 bR P w K mg base (CXP P w) k (p.fx K x) (dAt K (p.fx K x)) (x.N.take x.k) (spM (p.T hA K) (x.N.take x.k).length m)
theorem okD{y:FS × Bool}{k:Nat}{m:MS}(F:FD p K mg y)(body:∀ (cdv:Value) (A:Around) (outer:List Env) (s:Shared) (H:Hp) (E:XK),Ctx (cj (CXP P w) P w K mg base y.1.N y.1.q (am y.1.s) (p.fx K y.1) cdv A outer s H E) (p.T hA K) (WD (p.T hA K) E) k→y.1.N.Nodup →
  SSs (cj (CXP P w) P w K mg base y.1.N y.1.q (am y.1.s) (p.fx K y.1) cdv A outer s H E) (p.T hA K) (WD (p.T hA K) E) (aQ y.1.s) m):OkD p hA P w K mg base (k+1) y.1 (a9 y.1.N.length m) :=
 ya (T:=p.T hA K) F.fn F.sc fun a b c d e f g=>body a b c d e f g F.sc.nd
theorem mG{X:Cx}{W:Nat→St→Hp→Prop}{y:FS×Bool}{k kk n:Nat}{m:List PV→Res PV}{x:Str}{np pos:Pos}{e:Expr}{es:List Expr}{ms:MA}(F:FD p X.K X.mg y)
  (G:OkD p hA X.prog X.w X.K X.mg X.base k y.1 m) (cx:Ctx X (p.T hA X.K) W kk) (ha:SA X (p.T hA X.K) W (e::es) ms)
  (hk:k≤kk:=by decide) (hx:aP y.1.s=x:=by rfl) (hg:Gl X x:=by rfl) (hn:ee ms n:=by repeat' first | exact cG | apply b0) (hps:n=(y.1.N.take y.1.k).length:=by rfl)
  (hdb:(x ==("__debug__" : Str))=false:=by decide) (he:starEach (e::es) X.env=(false,eval e X.env)::starEach es X.env:=by rfl) (hpl:(backTo pos (starEach es X.env)).any (·.1)=false:=by rfl) :
  SE X (p.T hA X.K) W (.Call (.Name x np) (e::es) [] pos) (ao (aA m) ms) :=
 k8 G cx hk hg (by subst hx;exact F.gl) F.fn.kp F.bn hn hps ha hdb he hpl
end
end PR
namespace PR
open PySem PySem.Spec L2
section
variable{env e e':En}{v:PV}{i:Nat}{r:Out}
@[simp] theorem sh:mC v env=.ok v:=rfl
@[simp] theorem nr:ai env=.ok []:=rfl
@[simp] theorem iw{a:ME}{m:MA}:ad a m env=(a env).bind fun x=>(m env).bind fun xs=>.ok (x::xs):=rfl
@[simp] theorem CL{f:PV→Res PV}{a:ME}:mUn f a env=(a env).bind f:=rfl
@[simp] theorem jW{f:PV→PV→Res PV}{a b:ME}:mOp f a b env=(a env).bind fun x=>(b env).bind fun y=>f x y:=rfl
@[simp] theorem kD{f:List PV→Res PV}{m:MA}:ao f m env=(m env).bind f:=rfl
@[simp] theorem yz{m:MA}:da m env=(m env).bind fun xs=>.ok (.lst .own xs):=rfl
@[simp] theorem yw{m:MA}:fg m env=(m env).bind fun xs=>.ok (.tup xs):=rfl
@[simp] theorem BF{a:MT}:f_ a env=(a env).bind fun b=>.ok (!b):=rfl
@[simp] theorem lS{a:ME}:aV a env=(a env).bind kf:=rfl
@[simp] theorem Cd{a:ME}{c:String}:tD a c env=(a env).bind (kh c):=rfl
@[simp] theorem pR:gc env=.ok none:=rfl
@[simp] theorem u_:bc env=.ok true:=rfl
def zR:Option (Option PV)→Res PV
 | some (some v)=>.ok (v.mapF Fl.lend)
 | _=>.stuck
@[simp] theorem gI(v:PV):zR (some (some v))=.ok (v.mapF Fl.lend):=rfl
@[simp] theorem kC:ac i env=zR env[i]?:=by
 unfold ac
 cases env[i]? with
 | none=>rfl
 | some w=>cases w<;>rfl
def pBl:PV→Res Bool
 | .bl b=>.ok b
 | _=>.stuck
@[simp] theorem BY(b:Bool):pBl (.bl b)=.ok b:=rfl
@[simp] theorem oH{a:ME}:aq a env=(a env).bind pBl:=by
 rfl
def zT:PV→Res PV
 | .bl b=>.ok (.bl (!b))
 | _=>.stuck
@[simp] theorem Be(b:Bool):zT (.bl b)=.ok (.bl (!b)):=rfl
@[simp] theorem BG{a:ME}:As a env=(a env).bind zT:=by
 rfl
def xi(r:Res PV):PV→Res PV
 | .bl b=>if b then r else .ok (.bl false)
 | _=>.stuck
@[simp] theorem Bg(r:Res PV)(b:Bool):xi r (.bl b)=if b then r else .ok (.bl false):=rfl
@[simp] theorem BH{a b:ME}:lG a b env=(a env).bind (xi (b env)):=by
 unfold lG
 congr 1
 funext x
 cases x with
 | bl b=>cases b<;>rfl
 | _=>rfl
def pOr(r:Res PV):PV→Res PV
 | .bl b=>if b then .ok (.bl true)else r
 | _=>.stuck
@[simp] theorem BV(r:Res PV)(b:Bool):pOr r (.bl b)=if b then .ok (.bl true)else r:=rfl
@[simp] theorem Cb{a b:ME}:Ar a b env=(a env).bind (pOr (b env)):=by
 unfold Ar
 congr 1
 funext x
 cases x with
 | bl b=>cases b<;>rfl
 | _=>rfl
@[simp] theorem AX{f g:PV→PV→Res PV}{a b c:ME}:rz f g a b c env=(a env).bind fun x=>(b env).bind fun y=>(f x y).bind (xi ((c env).bind fun z=>g y z)):=by
 unfold rz
 congr 1
 funext x
 congr 1
 funext y
 congr 1
 funext z
 cases z with
 | bl b=>cases b<;>rfl
 | _=>rfl
@[simp] theorem AG(g:Int→Int→PV)(i j:Int):iS g (.int i) (.int j)=.ok (g i j):=rfl
def vN:PV→Res (Option Int)
 | .int i=>.ok (some i)
 | _=>.stuck
@[simp] theorem y_(i:Int):vN (.int i)=.ok (some i):=rfl
@[simp] theorem va{a:ME}:jR a env=(a env).bind vN:=by
 rfl
def zW(l h:Option Int):PV→Res PV
 | .lst _ xs=>.ok (.lst .own (kE xs l h))
 | _=>.stuck
@[simp] theorem zV(l h:Option Int)(f:Fl)(xs:List PV):zW l h (.lst f xs)=.ok (.lst .own (kE xs l h)):=rfl
@[simp] theorem sf{o:ME}{lo hi:MO}:gL o lo hi env=(o env).bind fun x=>(lo env).bind fun l=>(hi env).bind fun h=>zW l h x:=by
 rfl
def aJ(v:PV):Res PV:=if v.has Fl.isBor then .stuck else .ok v
@[simp] theorem l4{f:List PV→Res PV}{xs:List PV}:aA f xs=(f (mapL Fl.toBor xs)).bind aJ:=by
 unfold aA
 cases f (mapL Fl.toBor xs)<;>rfl
def pq(disp:Nat→Option (List PV→Res PV))(r:Res (List PV)):PV→Res PV
 | .obj fl c ks vs=>match disp c with
  | some m=>r.bind fun xs=>aA m (.obj fl c ks vs::xs)
  | none=>.stuck
 | _=>.stuck
@[simp] theorem zU(disp:Nat→Option (List PV→Res PV))(r:Res (List PV))(fl:Fl)(c:Nat)(ks:List Nat)(vs:List PV):pq disp r (.obj fl c ks vs)=match disp c with
  | some m=>r.bind fun xs=>aA m (.obj fl c ks vs::xs)
  | none=>.stuck:=rfl
@[simp] theorem Cc{disp:Nat→Option (List PV→Res PV)}{o:ME}{ms:MA}:eB disp o ms env=(o env).bind (pq disp (ms env)):=by
 unfold eB
 congr 1
 funext x
 cases x<;>rfl
@[simp] theorem BD{m:ME}:dz m env=(m env).bind fun x=>match x with
 | .lst f xs=>if !f.isLnt&&ff xs then .ok xs else .stuck
 | .tup xs=>if ff xs then .ok xs else .stuck
 | _=>.stuck:=rfl
def qO(x:PV):Res (List PV):=match bf x with
 | some xs=>.ok xs
 | none=>.stuck
@[simp] theorem zb(f:Fl)(xs:List PV):qO (.lst f xs)=.ok xs:=rfl
@[simp] theorem za(xs:List PV):qO (.tup xs)=.ok xs:=rfl
@[simp] theorem BE{m:ME}:bx m env=(m env).bind qO:=rfl
@[simp] theorem oI{a b:MT}:dC a b env=(a env).bind fun x=>if x then b env else .ok false:=rfl
@[simp] theorem Ca{a b:MT}:dh a b env=(a env).bind fun x=>if x then .ok true else b env:=rfl
@[simp] theorem sg{c:MT}{a b:ME}:jq c a b env=(c env).bind fun x=>if x then a env else b env:=rfl
@[simp] theorem yx{c:Nat}{f:List PV→Res PV}{m:MA}:jp c f m env=(m env).bind fun xs=>aA f (.obj .own c [] []::xs):=rfl
theorem aj{a b:MS}(h1:a env=.next e)(h2:b e=r):ak a b env=r:=by unfold ak;rw[h1];exact h2
theorem dq{a b:MS}(h1:a env=.ret v):ak a b env=.ret v:=by unfold ak;rw[h1]
theorem kc{a b:MS}{c:Nat}(h1:a env=.exc c e):ak a b env=.exc c e:=by unfold ak;rw[h1]
theorem dR{c:MT}{a b:MS}(h:c env=.ok true)(h2:a env=r):mBr c a b env=r:=by unfold mBr;rw[h];exact h2
theorem bB{c:MT}{a b:MS}(h:c env=.ok false)(h2:b env=r):mBr c a b env=r:=by unfold mBr;rw[h];exact h2
theorem aw{m:ME}(h:m env=.ok v)(hl:v.noLnt=true)(ho:bq i env=true):aE i m env=.next (env.set i (some v)):=by
 unfold aE;rw[h];simp[hl,ho]
theorem bH{m:ME}(h:m env=.ok v)(hl:v.noLnt=true):bG m env=.ret v:=by unfold bG;rw[h];simp[hl]
theorem cr(h:env[i]?=some (some v)):dA i env=.ret v:=by unfold dA;rw[h]
theorem gs{m:ME}(h:m env=.ok v):cq m env=.next env:=by unfold cq;rw[h]
theorem ja{m:ME}{c:Nat}(h:m env=.exc c):cq m env=.exc c env:=by unfold cq;rw[h]
theorem nS{m:ME}{c:Nat}(h:m env=.exc c):aE i m env=.exc c env:=by unfold aE;rw[h]
theorem gE{c:Nat}{m:MA}{xs:List PV}(h:m env=.ok xs):aM c m env=.exc c env:=by unfold aM;rw[h]
theorem av:aB env=.next env:=rfl
theorem nq{m:ME}{k c:Nat}{ks:List Nat}{vs:List PV}(h:m env=.ok v)(ho:env[i]?=some (some (.obj .own c ks vs)))(hl:v.noLnt=true)(hk:ks.contains k=false)(hn:ks.length < 900) :
  eC i k m env=.next (env.set i (some (.obj .own c (ks++[k]) (vs++[v])))):=by
 unfold eC;rw[h,ho];simp only[hl,hk];simp[hn]
theorem p0{m:ME}{xs:List PV}(h:m env=.ok v)(ho:env[i]?=some (some (.lst .own xs)))(hl:v.noLnt=true)(hn:xs.length < 10000000):dB i m env=.next (env.set i (some (.lst .own (xs++[v])))):=by
 unfold dB;rw[h,ho];simp[hl,hn]
theorem qk{mk m:ME}{xs:List PV}{j:Int}{n:Nat}(h:m env=.ok v)(ho:env[i]?=some (some (.lst .own xs)))(hk:mk env=.ok (.int j))(hj:ixN xs.length j=some n)(hl:v.noLnt=true) :
  eQ i mk m env=.next (env.set i (some (.lst .own (xs.set n v)))):=by
 unfold eQ;rw[h,ho,hk];simp[hj,hl]
theorem gT(h:env[i]?=some (some v)):fD i env=.next (env.set i (some (v.mapF Fl.freeze))):=by unfold fD;rw[h]
theorem yY{m:ME}{g:TgM}(h:m env=.ok v)(hl:v.noLnt=true)(hg:g v env=some e):rA g m env=.next e:=by
 unfold rA;rw[h];simp[hl,hg]
theorem aG{n:Nat}{m:MS}{args:List PV}(h:m (args.map some++List.replicate (n - args.length) none)=.ret v):a9 n m args=.ok v:=by unfold a9;rw[h]
theorem fQ{n:Nat}{m:MS}{args:List PV}{c:Nat}(h:m (args.map some++List.replicate (n - args.length) none)=.exc c e):a9 n m args=.exc c:=by unfold a9;rw[h]
theorem o8{n:Nat}{m:MS}{args:List PV}(h:m (args.map some++List.replicate (n - args.length) none)=.next e):a9 n m args=.ok .non:=by unfold a9;rw[h]
theorem nW{n:Nat}{m:MS}{args:List PV}(h:m (args.map some++List.replicate (n - args.length) none)=.next e)(ho:e[0]?=some (some v)):ie n m args=.ok v:=by unfold ie;rw[h];simp[ho]
theorem gn{it:MI}{g:TgM}{body:MS}{xs:List PV}(P:Nat→En→Prop)(h:it env=.ok xs)(h0:P 0 env)
  (step:∀(k:Nat) (x:PV) (e:En),xs[k]?=some x→P k e→∃e1 e2,g x e=some e1∧(body e1=.next e2∨body e1=.cont e2)∧P (k+1) e2):∃e2,bW it g body env=.next e2∧P xs.length e2:=by
 unfold bW
 rw[h]
 dsimp only
 have key:∀ (ys pre:List PV) (e:En),pre ++ ys=xs→P pre.length e→∃ e2,jt (fun x e=>match g x e with
  | some e'=>body e'
  | none=>.stuck) ys e=.next e2∧P xs.length e2:=by
  intro ys
  induction ys with
  | nil=>intro pre e hp hP;simp at hp;subst hp;exact⟨e,rfl,hP⟩
  | cons y ys ih =>
   intro pre e hp hP
   obtain⟨e1,e2,h1,h2,h3⟩:=step pre.length y e (by rw[← hp];simp) hP
   obtain⟨e3,h4,h5⟩:=ih (pre++[y]) e2 (by rw[← hp];simp) (by simpa using h3)
   refine⟨e3,?_,h5⟩
   unfold jt
   simp only[h1]
   rcases h2 with h2 | h2<;>rw[h2]<;>exact h4
 exact key xs [] env rfl h0
theorem kA{it:MI}{g:TgM}{body:MS}{xs:List PV}(P:Nat→En→Prop)(R:Out→Prop)(h:it env=.ok xs)(h0:P 0 env)
  (step:∀(k:Nat) (x:PV) (e:En),xs[k]?=some x→P k e→∃e1,g x e=some e1∧((∃e2,(body e1=.next e2∨body e1=.cont e2)∧P (k+1) e2)∨(∃e2,body e1=.brk e2∧R (.next e2))∨(∃v,body e1=.ret v∧R (.ret v))∨ ∃c e2,body e1=.exc c e2∧R (.exc c e2)))
  (fin:∀e,P xs.length e→R (.next e)):R (bW it g body env):=by
 unfold bW
 rw[h]
 dsimp only
 have key:∀ (ys pre:List PV) (e:En),pre ++ ys=xs→P pre.length e→R (jt (fun x e=>match g x e with
  | some e'=>body e'
  | none=>.stuck) ys e):=by
  intro ys
  induction ys with
  | nil=>intro pre e hp hP;simp at hp;subst hp;exact fin e hP
  | cons y ys ih =>
   intro pre e hp hP
   obtain⟨e1,h1,h2⟩:=step pre.length y e (by rw[← hp];simp) hP
   unfold jt
   simp only[h1]
   rcases h2 with⟨e2,h2,h3⟩ |⟨e2,h2,h3⟩ |⟨v,h2,h3⟩ |⟨c,e2,h2,h3⟩
   ·have:=ih (pre++[y]) e2 (by rw[← hp];simp) (by simpa using h3)
    rcases h2 with h2 | h2<;>rw[h2]<;>exact this
   ·rw[h2];exact h3
   ·rw[h2];exact h3
   ·rw[h2];exact h3
 exact key xs [] env rfl h0
theorem bY{caps:List Nat}{k:Nat}{mi:MI}{g:TgM}{mc:MT}{me:ME}{xs ys:List PV}(h:mi env=.ok xs)(hl:xs.length≤10000000)(hc:de g mc me (ce caps k env) xs=.ok ys):aR caps k mi g mc me env=.ok (.lst .own ys):=by
 unfold aR;rw[h];simp only[Res.ok_bind,hl,if_true,hc]
theorem bu{g:TgM}{me:ME}{α:Type}{a:α→PV}{f:α→PV}:∀(xs:List α),(∀x∈xs,∃e1,g (a x).borrow env=some e1∧me e1=.ok (f x)∧(f x).has Fl.isBor=false∧(f x).has Fl.isLnt=false)→
  de g bc me env (xs.map a)=.ok (xs.map f)
 | [],_=>rfl
 | x::xs,h=>by
  obtain⟨e1,h1,h2,h3,h4⟩:=h x List.mem_cons_self
  rw[List.map_cons,de,h1]
  simp only[u_,Res.ok_bind,if_true,h2,h3,h4,Bool.or_self,Bool.false_eq_true,if_false,bu xs fun y hy=>h y (List.mem_cons_of_mem _ hy)]
  rfl
theorem gu{g:TgM}{mc:MT}{me:ME}{α:Type}{a:α→PV}{f:α→PV}{p:α→Bool}:∀(xs:List α),(∀x∈xs,∃e1,g (a x).borrow env=some e1∧mc e1=.ok (p x)∧(p x=true→me e1=.ok (f x)∧(f x).has Fl.isBor=false∧(f x).has Fl.isLnt=false))→
  de g mc me env (xs.map a)=.ok ((xs.filter p).map f)
 | [],_=>rfl
 | x::xs,h=>by
  obtain⟨e1,h1,h2,h3⟩:=h x List.mem_cons_self
  have ih:=gu (g:=g) (mc:=mc) (me:=me) (a:=a) (f:=f) (p:=p) xs fun y hy=>h y (List.mem_cons_of_mem _ hy)
  rw[List.map_cons,de,h1]
  cases hp:p x with
  | true =>
   obtain⟨h4,h5,h6⟩:=h3 hp
   simp only[h2,hp,Res.ok_bind,if_true,h4,h5,h6,Bool.or_self,Bool.false_eq_true,if_false,ih]
   rw[List.filter_cons_of_pos hp]
   rfl
  | false =>
   simp only[h2,hp,Res.ok_bind,Bool.false_eq_true,if_false,ih]
   rw[List.filter_cons_of_neg (by simp[hp])]
end
def iL(ns:List Int):List PV:=ns.map .int
theorem rJ(ns:List Int):ns.map PV.int=iL ns:=rfl
section
variable(ns ms:List Int)(g:Fl→Fl)(p:Fl→Bool)
@[simp] theorem AD:iL []=[]:=rfl
@[simp] theorem eZ(n:Int):iL (n::ns)=.int n::iL ns:=rfl
@[simp] theorem gg:(iL ns).length=ns.length:=by simp[iL]
@[simp] theorem AF:iL ns++iL ms=iL (ns++ms):=by simp[iL]
@[simp] theorem pK(k:Nat):(iL ns).drop k=iL (ns.drop k):=by simp[iL]
@[simp] theorem pJ(k:Nat):(iL ns).take k=iL (ns.take k):=by simp[iL]
@[simp] theorem AE(k:Nat):(iL ns)[k]?=(ns[k]?).map .int:=by simp[iL]
@[simp] theorem AC(k:Nat)(n:Int):(iL ns).set k (.int n)=iL (ns.set k n):=by simp[iL,List.map_set]
@[simp] theorem jP:mapL g (iL ns)=iL ns:=by
 induction ns with
 | nil=>rfl
 | cons n ns ih=>simp[mapL,PV.mapF,ih]
@[simp] theorem zp:hasL p (iL ns)=false:=by
 induction ns with
 | nil=>rfl
 | cons n ns ih=>simp[hasL,PV.has,ih]
@[simp] theorem zr:PyData.canLayAll0 (dataL (iL ns))=true:=by
 induction ns with
 | nil=>rfl
 | cons n ns ih=>simp only[eZ,dataL,PV.data,PyData.canLayAll0,ih];rfl
@[simp] theorem zq:PyData.depthAll (dataL (iL ns))=0:=by
 induction ns with
 | nil=>rfl
 | cons n ns ih=>simp only[eZ,dataL,PV.data,PyData.depthAll,ih];rfl
@[simp] theorem fO(i:Int):shp (.int i)=true:=rfl
@[simp] theorem BT(b:Bool):shp (.bl b)=true:=rfl
@[simp] theorem nR:shp .non=true:=rfl
@[simp] theorem kZ(f:Fl):shp (.lst f (iL ns))=true:=by
 simp[shp,SeqAt.shaped,PV.data,PyData.canLay0,PyData.depth]
@[simp] theorem jF:(iL ns).all shp=true:=by
 induction ns with
 | nil=>rfl
 | cons n ns ih=>simp only[eZ,List.all_cons,fO,ih];rfl
@[simp] theorem Cf(i j:Int):pEq (.int i) (.int j)=.ok (.bl (decide (i=j))):=by
 unfold pEq
 simp only[fO,Bool.and_self,if_true,PV.data,PyData.eqv]
 congr 2
@[simp] theorem B0(i j:Int):pNe (.int i) (.int j)=.ok (.bl (!decide (i=j))):=by
 unfold pNe
 simp only[fO,Bool.and_self,if_true,PV.data,PyData.eqv]
 congr 2
@[simp] theorem CM(i j:Bool):pEq (.bl i) (.bl j)=.ok (.bl (decide (i=j))):=by cases i<;>cases j<;>rfl
@[simp] theorem CI(i j:Bool):pNe (.bl i) (.bl j)=.ok (.bl (!decide (i=j))):=by cases i<;>cases j<;>rfl
theorem jX:PyData.eqvAll (dataL (iL ns)) (dataL (iL ms))=decide (ns=ms):=by
 induction ns generalizing ms with
 | nil=>cases ms<;>simp[dataL,PyData.eqvAll]
 | cons n ns ih =>
  cases ms with
  | nil=>simp[dataL,PyData.eqvAll]
  | cons m ms=>simp only[eZ,dataL,PV.data,PyData.eqvAll,PyData.eqv,ih];by_cases h:n=m<;>simp[h]
@[simp] theorem BI(f f':Fl):pEq (.lst f (iL ns)) (.lst f' (iL ms))=.ok (.bl (decide (ns=ms))):=by
 unfold pEq
 simp only[kZ,Bool.and_self,if_true,PV.data,PyData.eqv,jX]
@[simp] theorem Bl(f f':Fl):pNe (.lst f (iL ns)) (.lst f' (iL ms))=.ok (.bl (!decide (ns=ms))):=by
 unfold pNe
 simp only[kZ,Bool.and_self,if_true,PV.data,PyData.eqv,jX]
@[simp] theorem lt_int(i j:Int):pLt (.int i) (.int j)=.ok (.bl (decide (i < j))):=rfl
@[simp] theorem B3(i j:Int):pLe (.int i) (.int j)=.ok (.bl (decide (i≤j))):=rfl
@[simp] theorem gt_int(i j:Int):pGt (.int i) (.int j)=.ok (.bl (decide (j < i))):=rfl
@[simp] theorem ge_int(i j:Int):pGe (.int i) (.int j)=.ok (.bl (decide (j≤i))):=rfl
@[simp] theorem zN(i j:Int):aL (.int i) (.int j)=.ok (.int (i+j)):=rfl
@[simp] theorem sub_int(i j:Int):ll (.int i) (.int j)=.ok (.int (i - j)):=rfl
@[simp] theorem Bk(i:Int):BW (.int i)=.ok (.int (-i)):=rfl
theorem a5{i j:Int}(h:0 < j):bL (.int i) (.int j)=.ok (.int (i % j)):=by simp[bL,dG,h]
theorem nu{i j:Int}(h:0 < j)(h2:j < 1073741824):cE (.int i) (.int j)=.ok (.int (i / j)):=by simp[cE,dG,h,h2]
theorem fC{i j:Int}(h:(-(2 ^ 64) < i∧i < 2 ^ 64)∨(-(2 ^ 64) < j∧j < 2 ^ 64)):cf (.int i) (.int j)=.ok (.int (i * j)):=by
 unfold cf dG
 dsimp only
 rw[if_pos (by simpa using h)]
theorem mK{i j:Int}(h0:0≤j)(h1:j≤1000000)(h2:i.natAbs < 2 ^ 64):lm (.int i) (.int j)=.ok (.int (i ^ j.toNat)):=by
 unfold lm dG
 dsimp only
 rw[if_pos (by simp only[decide_eq_true_eq];exact⟨h0,h1,h2⟩)]
@[simp] theorem CG:lm (.int 10) (.int 60)=.ok (.int (10 ^ 60)):=mK (by decide) (by decide) (by decide)
@[simp] theorem Bp(f:Fl)(xs:List PV):fA (.lst f xs)=.ok (.int xs.length):=rfl
@[simp] theorem Bo(xs:List PV):fA (.tup xs)=.ok (.int xs.length):=rfl
@[simp] theorem Aw(f:Fl)(xs:List PV):lq (.lst f xs)=.ok (.lst .own xs):=rfl
@[simp] theorem BZ(f:PV→Res PV)(x:PV):p1 f [x]=f x:=by simp only[p1]
@[simp] theorem Bu(c:String)(i:Int):kh c (.int i)=.ok (.bl (jr "int" c)):=rfl
@[simp] theorem B5(c:String)(i:Bool):kh c (.bl i)=.ok (.bl (jr "bool" c)):=rfl
@[simp] theorem Bs(c:String):kh c .non=.ok (.bl (jr "NoneType" c)):=rfl
@[simp] theorem Bt(c:String)(f:Fl)(xs:List PV):kh c (.lst f xs)=.ok (.bl (jr "list" c)):=rfl
@[simp] theorem Br(c:String)(xs:List PV):kh c (.tup xs)=.ok (.bl (jr "tuple" c)):=rfl
@[simp] theorem kT(b:Bool):kf (.bl b)=.ok b:=rfl
@[simp] theorem y6(i:Int):kf (.int i)=.ok (i != 0):=rfl
@[simp] theorem lF(i:Int):(PV.int i).mapF g=.int i:=by simp[PV.mapF]
@[simp] theorem ko(b:Bool):(PV.bl b).mapF g=.bl b:=by simp[PV.mapF]
@[simp] theorem Ap:PV.non.mapF g=.non:=by simp[PV.mapF]
@[simp] theorem Ao(x:Str):(PV.str x).mapF g=.str x:=by simp[PV.mapF]
@[simp] theorem Aq(x:Nat):(PV.exc x).mapF g=.exc x:=by simp[PV.mapF]
@[simp] theorem c_(f:Fl)(xs:List PV):(PV.lst f xs).mapF g=.lst (g f) (mapL g xs):=by simp[PV.mapF]
@[simp] theorem rl(xs:List PV):(PV.tup xs).mapF g=.tup (mapL g xs):=by simp[PV.mapF]
@[simp] theorem rm(f:Fl)(c:Nat)(ks:List Nat)(xs:List PV):(PV.obj f c ks xs).mapF g=.obj (g f) c ks (mapL g xs):=by simp[PV.mapF]
@[simp] theorem lD:mapL g []=[]:=by simp[mapL]
@[simp] theorem gK(x:PV)(xs:List PV):mapL g (x::xs)=x.mapF g::mapL g xs:=by simp[mapL]
@[simp] theorem BB(i:Int):(PV.int i).has p=false:=by simp[PV.has]
@[simp] theorem B7(b:Bool):(PV.bl b).has p=false:=by simp[PV.has]
@[simp] theorem BA:PV.non.has p=false:=by simp[PV.has]
@[simp] theorem By(x:Str):(PV.str x).has p=false:=by simp[PV.has]
@[simp] theorem BC(x:Nat):(PV.exc x).has p=false:=by simp[PV.has]
@[simp] theorem d9(f:Fl)(xs:List PV):(PV.lst f xs).has p=(p f||hasL p xs):=by simp[PV.has]
@[simp] theorem uW(xs:List PV):(PV.tup xs).has p=hasL p xs:=by simp[PV.has]
@[simp] theorem Bz(f:Fl)(c:Nat)(ks:List Nat)(xs:List PV):(PV.obj f c ks xs).has p=(p f||hasL p xs):=by simp[PV.has]
@[simp] theorem AM:hasL p []=false:=by simp[hasL]
@[simp] theorem gS(x:PV)(xs:List PV):hasL p (x::xs)=(x.has p||hasL p xs):=by simp[hasL]
@[simp] theorem c9(x:PV):x.noLnt=!x.has Fl.isLnt:=rfl
@[simp] theorem zt(x:PV):x.borrow=x.mapF Fl.borrow:=rfl
@[simp] theorem rC:Fl.own.lend=.lnt:=rfl
@[simp] theorem Ay:Fl.frz.lend=.frz:=rfl
@[simp] theorem Az:Fl.bor.lend=.bor:=rfl
@[simp] theorem Ax:Fl.lnt.lend=.lnt:=rfl
@[simp] theorem y7:Fl.own.toBor=.own:=rfl
@[simp] theorem y8:Fl.frz.toBor=.frz:=rfl
@[simp] theorem y9:Fl.bor.toBor=.bor:=rfl
@[simp] theorem oY:Fl.lnt.toBor=.bor:=rfl
@[simp] theorem v6:Fl.own.borrow=.bor:=rfl
@[simp] theorem yG:Fl.frz.borrow=.frz:=rfl
@[simp] theorem yH:Fl.bor.borrow=.bor:=rfl
@[simp] theorem yF:Fl.lnt.borrow=.bor:=rfl
@[simp] theorem zd:Fl.own.isOwn=true:=rfl
@[simp] theorem zf:Fl.frz.isOwn=false:=rfl
@[simp] theorem zg:Fl.bor.isOwn=false:=rfl
@[simp] theorem ze:Fl.lnt.isOwn=false:=rfl
@[simp] theorem zh:Fl.own.isLnt=false:=rfl
@[simp] theorem zj:Fl.frz.isLnt=false:=rfl
@[simp] theorem zk:Fl.bor.isLnt=false:=rfl
@[simp] theorem zi:Fl.lnt.isLnt=true:=rfl
@[simp] theorem zl:Fl.own.isBor=false:=rfl
@[simp] theorem zn:Fl.frz.isBor=false:=rfl
@[simp] theorem zo:Fl.bor.isBor=true:=rfl
@[simp] theorem zm:Fl.lnt.isBor=false:=rfl
@[simp] theorem cw:Fl.own.freeze=.frz:=rfl
@[simp] theorem xZ:Fl.frz.freeze=.frz:=rfl
@[simp] theorem x_:Fl.bor.freeze=.bor:=rfl
@[simp] theorem xY:Fl.lnt.freeze=.lnt:=rfl
theorem rP{f:Fl}{i:Int}{n:Int}(h0:0≤i)(h:ns[i.toNat]?=some n):aK (.lst f (iL ns)) (.int i)=.ok (.int n):=by
 have hl:i.toNat < ns.length:=(List.getElem?_eq_some_iff.mp h).1
 unfold aK
 simp only[bf,atI,ixN,gg,h0,if_true]
 rw[if_pos (by omega)]
 simp[h]
end
section
variable{env:En}{r:Out}
def jl(o:Out)(Q:En→Prop):Prop:=∃e,(o=.next e∨o=.cont e)∧Q e
theorem cb{a b:MS}{e:En}{Q:En→Prop}(h1:a env=.next e)(h2:jl (b e) Q):jl (ak a b env) Q:=by
 obtain⟨e2,h3,h4⟩:=h2
 refine⟨e2,?_,h4⟩
 unfold ak
 rw[h1]
 exact h3
theorem bN{o:Out}{e:En}{Q:En→Prop}(h1:o=.next e)(h2:Q e):jl o Q:=⟨e,.inl h1,h2⟩
theorem pO{it:MI}{g:TgM}{body:MS}{xs:List PV}(P:Nat→En→Prop){Q:En→Prop}(h:it env=.ok xs)(h0:P 0 env)
  (step:∀(k:Nat) (x:PV) (e:En),xs[k]?=some x→P k e→∃e1,g x e=some e1∧jl (body e1) (P (k+1))) (fin:∀e,P xs.length e→Q e):jl (bW it g body env) Q:=by
 obtain⟨e2,h1,h2⟩:=gn P h h0 fun k x e h1 h2=>by
  obtain⟨e1,h3,e2,h4,h5⟩:=step k x e h1 h2
  exact⟨e1,e2,h3,h4,h5⟩
 exact⟨e2,.inl h1,fin e2 h2⟩
theorem eW{it:MI}{g:TgM}{body bw:MS}{xs:List PV}(P:Nat→En→Prop)(h:it env=.ok xs)(h0:P 0 env)
  (step:∀(k:Nat) (x:PV) (e:En),xs[k]?=some x→P k e→∃e1,g x e=some e1∧jl (body e1) (P (k+1))) (fin:∀e,P xs.length e→bw e=r):ak (bW it g body) bw env=r:=by
 obtain⟨e2,h1,h2⟩:=gn P h h0 fun k x e h1 h2=>by
  obtain⟨e1,h3,e2,h4,h5⟩:=step k x e h1 h2
  exact⟨e1,e2,h3,h4,h5⟩
 exact aj h1 (fin e2 h2)
theorem xX{i:Int}(h:-1000000≤i∧i≤1000000):inR i=true:=by
 have e:(2:Int) ^ 62=4611686018427387904:=by decide
 unfold inR
 rw[decide_eq_true_eq,e]
 omega
theorem t_{n:Int}(hi:inR n=true){ms:MA}(h:ms env=.ok [.int n]):bO ms env=.ok (cJ 0 n.toNat):=by
 unfold bO
 rw[h,Res.ok_bind]
 dsimp only
 rw[if_pos hi]
theorem qr{n:Nat}(hi:inR (n:Int)=true){ms:MA}(h:ms env=.ok [.int n]):bO ms env=.ok (cJ 0 n):=by
 have:=t_ hi h
 rw[Int.toNat_natCast]at this
 exact this
theorem xO{n:Nat}(hn:n≤1000000):-1000000 ≤(n:Int)∧(n:Int)≤ 1000000:=by omega
theorem dw{ms:MA}{n:Nat}(h:ms env=.ok [.int n])(hn:n≤1000000):bO ms env=.ok (cJ 0 n):=qr (xX (xO hn)) h
theorem cD(lo:Int)(n:Nat):(cJ lo n).length=n:=by simp[cJ]
theorem iG{lo:Int}{n k:Nat}{x:PV}(h:(cJ lo n)[k]?=some x):k < n∧x=.int (lo+k):=by
 have hk:k < n:=by
  have:=(List.getElem?_eq_some_iff.mp h).1
  rwa [cD]at this
 refine⟨hk,?_⟩
 simp[cJ,hk]at h
 exact h.symm
theorem kx{ns:List Int}{k:Nat}{x:PV}(h:(iL ns)[k]?=some x):∃n,ns[k]?=some n∧x=.int n:=by
 simp at h
 obtain⟨n,h1,h2⟩:=h
 exact⟨n,h1,h2.symm⟩
theorem eG{i:Nat}{v:PV}{e:En}(h:bq i e=true):tgN i v e=some (e.set i (some v)):=by simp[tgN,h]
end
theorem yC(ns:List Int)(lo hi:Nat){l h:Int}(hl:l=lo)(hh:h=hi):kE (iL ns) (some l) (some h)=iL ((ns.take hi).drop lo):=by
 subst hl hh
 unfold kE
 rw[HT.sIx_nat,HT.sIx_nat]
 simp only[gg,pK,pJ]
 congr 1
 rw[List.drop_take]
 rcases Nat.le_total lo ns.length with h1 | h1
 ·rw[Nat.min_eq_left h1]
  rcases Nat.le_total hi ns.length with h2 | h2
  ·rw[Nat.min_eq_left h2]
  ·rw[Nat.min_eq_right h2,List.take_of_length_le (by simp),List.take_of_length_le (by simp;omega)]
 ·rw[Nat.min_eq_right h1,List.drop_eq_nil_of_le (Nat.le_refl _),List.drop_eq_nil_of_le h1]
  simp
theorem lj{f g:Fl}{xs ys:List PV}(hf:f≠.mod)(hg:g≠.mod)(h:xs.length+ys.length≤10000000):aL (.lst f xs) (.lst g ys)=.ok (.lst .own (xs++ys)):=by
 unfold aL
 dsimp only
 rw[if_neg (by simp only[hf,hg,h,not_true_eq_false,or_self,not_false_eq_true])]
theorem ox{n k:Nat}(h:k < n):ixN n (k:Int)=some k:=by
 unfold ixN
 rw[if_pos (by omega),if_pos (by omega),Int.toNat_natCast]
end PR
namespace PR
open PySem PySem.Spec L2
def llL(f:Fl)(xss:List (List Int)):List PV:=xss.map fun xs=>.lst f (iL xs)
section
variable(xss yss:List (List Int))(g:Fl→Fl)(p:Fl→Bool)(f:Fl)
@[simp] theorem Bm:llL f []=[]:=rfl
@[simp] theorem Au(xs:List Int):llL f (xs::xss)=.lst f (iL xs)::llL f xss:=rfl
@[simp] theorem oq:(llL f xss).length=xss.length:=by simp[llL]
@[simp] theorem uN:llL f xss++llL f yss=llL f (xss++yss):=by simp[llL]
@[simp] theorem iW:mapL g (llL f xss)=llL (g f) xss:=by
 induction xss with
 | nil=>rfl
 | cons n ns ih=>simp[ih]
theorem b_(h:p f=false):hasL p (llL f xss)=false:=by
 induction xss with
 | nil=>rfl
 | cons n ns ih=>simp[ih,h]
theorem uL{k:Nat}{x:PV}(h:(llL f xss)[k]?=some x):∃xs,xss[k]?=some xs∧x=.lst f (iL xs):=by
 simp[llL]at h
 obtain⟨n,h1,h2⟩:=h
 exact⟨n,h1,h2.symm⟩
end
theorem wI(lo:Int)(n:Nat):cJ lo n=iL ((List.range n).map fun k=>lo+(k:Nat)):=by simp[cJ,iL]
def p9(n:Nat):List Int:=(List.range n).map fun(k:Nat)=>(k:Int)
@[simp] theorem zv(n:Nat):(p9 n).length=n:=by simp[p9]
theorem qq(n:Nat):cJ 0 n=iL (p9 n):=by rw[wI];simp[p9]
@[simp] theorem zc{n:Nat}(h:n≤1000000):n5 [.int n]=.ok (.lst .own (iL (p9 n))):=by
 unfold n5
 dsimp only
 rw[if_pos (by simp;omega),Int.toNat_natCast,qq]
@[simp] theorem B6(b c:Bool):BX (.bl b) (.bl c)=.ok (.bl (b==c)):=rfl
@[simp] theorem Bj(b c:Bool):zS (.bl b) (.bl c)=.ok (.bl (!(b==c))):=rfl
@[simp] theorem gP(ns:List Int):bC (iL ns)=some ns:=by
 induction ns with
 | nil=>rfl
 | cons n ns ih=>simp[bC,ih]
theorem pF{ns:List Int}{f:Fl}(h:ns.length≤1000):fV (.lst f (iL ns))=.ok (.int (jY ns)):=by
 unfold fV
 simp only[gP]
 rw[if_pos (by simpa using h)]
theorem oN:∀(l acc:List Int),(acc++l).Nodup→l.foldl PyProof.Rows.step_dedup acc=acc++l
 | [],acc,_=>by simp
 | x::l,acc,h=>by
  have h':((acc++[x])++ l).Nodup:=by simpa using h
  rw[List.foldl_cons]
  have hx:x∉acc:=fun hm=>by
   rw[List.nodup_append]at h
   exact h.2.2 x hm x List.mem_cons_self rfl
  have:PyProof.Rows.step_dedup acc x=acc++[x]:=by
   unfold PyProof.Rows.step_dedup
   rw[if_neg]
   simpa using hx
  rw[this,oN l _ h']
  simp
theorem vf(ns:List Int):(List.range ns.length).map (fun i=>ns.getD i 0)=ns:=by
 apply List.ext_getElem?
 intro i
 by_cases h:i < ns.length
 ·simp[h]
 ·simp[h]
theorem sm{ns:List Int}(h:ns.Nodup):jY ns=ns.length:=by
 unfold jY PyProof.Rows.firstMet
 rw[vf,oN ns [] (by simpa using h)]
 rfl
theorem oy(i:Int)(ns:List Int):inL (.int i) (iL ns)=ns.contains i:=by
 induction ns with
 | nil=>rfl
 | cons n ns ih =>
  have e:inL (.int i) (iL (n::ns))=(PyData.eqv (PV.int n).data (PV.int i).data||inL (.int i) (iL ns)):=rfl
  rw[e,ih,List.contains_cons]
  congr 1
  simp only[PV.data,PyData.eqv]
  exact Bool.beq_comm
@[simp] theorem CK(i:Int)(ns:List Int)(f:Fl):pIn (.int i) (.lst f (iL ns))=.ok (.bl (ns.contains i)):=by
 unfold pIn
 simp only[bf,fO,jF,Bool.and_self,if_true,oy]
@[simp] theorem Al(i:Int)(ns:List Int)(f:Fl):cK (.int i) (.lst f (iL ns))=.ok (.bl (!ns.contains i)):=by
 unfold cK
 simp only[bf,fO,jF,Bool.and_self,if_true,oy]
def Ends(o:Out):Prop:=∃e,o=.next e
section
variable{env e:En}
theorem eX{n:Nat}{m:MS}{args:List PV}(h:Ends (m (args.map some++List.replicate (n - args.length) none))):a9 n m args=.ok .non:=by
 obtain⟨e,h⟩:=h
 exact o8 h
theorem i_{a b:MS}(h1:a env=.next e)(h2:Ends (b e)):Ends (ak a b env):=by
 obtain⟨e2,h2⟩:=h2
 exact⟨e2,aj h1 h2⟩
theorem e9{o:Out}(h:o=.next e):Ends o:=⟨e,h⟩
theorem si{it:MI}{g:TgM}{body bw:MS}{xs:List PV}(P:Nat→En→Prop)(h:it env=.ok xs)(h0:P 0 env)
  (step:∀(k:Nat) (x:PV) (e:En),xs[k]?=some x→P k e→∃e1,g x e=some e1∧jl (body e1) (P (k+1))) (fin:∀e,P xs.length e→Ends (bw e)):Ends (ak (bW it g body) bw env):=by
 obtain⟨e2,h1,h2⟩:=gn P h h0 fun k x e h1 h2=>by
  obtain⟨e1,h3,e2,h4,h5⟩:=step k x e h1 h2
  exact⟨e1,e2,h3,h4,h5⟩
 exact i_ h1 (fin e2 h2)
end
theorem eH{m:ME}{env:En}{f:Fl}{xs:List PV}(h:m env=.ok (.lst f xs))(hf:f.isLnt=false)(h1:hasL Fl.isOwn xs=false)(h2:hasL Fl.isLnt xs=false):dz m env=.ok xs:=by
 unfold dz
 rw[h]
 simp[hf,ff,h1,h2]
end PR
namespace PR
section
variable{n r s k o:Nat}{adj:Nat→Nat→Prop}{far:List Int}
def gt(far:List Int)(i:Nat):Int:=far.getD i 0
structure Far(n r:Nat)(adj:Nat→Nat→Prop)(s k:Nat)(d:Nat→Prop)(far:List Int):Prop where
 len:far.length=n
 rt:gt far r=0
 rng:∀i < n,0≤gt far i∧(gt far i≤s+1∨gt far i=n)
 top:∀i < n,gt far i≤n
 up:∀i < n,∀j < n,gt far i < s→adj i j→gt far j≤gt far i+1
 upk:∀i < k,∀j < n,gt far i=s→adj i j→gt far j≤s+1
 upd:∀j < n,d j→gt far j≤s+1
 dn:∀i < n,i≠r→gt far i < n→1≤gt far i∧∃j < n,adj i j∧gt far j=gt far i - 1
theorem Far.none{d:Nat→Prop}(F:Far n r adj s k (fun _=>False) far)(hd:∀j,¬d j):Far n r adj s k d far where
 len:=F.len
 rt:=F.rt
 rng:=F.rng
 top:=F.top
 up:=F.up
 upk:=F.upk
 upd:=fun j _ z=>absurd z (hd j)
 dn:=F.dn
theorem Far.next(F:Far n r adj s n (fun _=>False) far):Far n r adj (s+1) 0 (fun _=>False) far where
 len:=F.len
 rt:=F.rt
 rng:=fun i hi=>by have:=F.rng i hi;omega
 top:=F.top
 up:=fun i hi j hj hv a=>by
  by_cases h:gt far i < s
  ·exact F.up i hi j hj h a
  ·have e:gt far i=s:=by omega
   have:=F.upk i hi j hj e a
   omega
 upk:=fun i hi=>absurd hi (Nat.not_lt_zero _)
 upd:=fun _ _ z=>z.elim
 dn:=F.dn
structure vx(n r:Nat)(adj:Nat→Nat→Prop)(far:List Int):Prop where
 len:far.length=n
 rt:gt far r=0
 rng:∀i < n,0≤gt far i∧gt far i≤n
 up:∀i < n,∀j < n,adj i j→gt far j≤gt far i+1
 dn:∀i < n,i≠r→gt far i < n→1≤gt far i∧∃j < n,adj i j∧gt far j=gt far i - 1
theorem oh:∀{l l':List Int},l.Nodup→(∀x∈l,x∈l')→l.length≤l'.length
 | [],_,_,_=>Nat.zero_le _
 | x::l,l',nd,sub=>by
  obtain⟨h1,h2⟩:=List.nodup_cons.mp nd
  have hx:=sub x List.mem_cons_self
  have:=oh (l':=l'.erase x) h2 fun y hy=>(List.mem_erase_of_ne (show y≠x from fun z=>h1 (z▸hy))).mpr (sub y (List.mem_cons_of_mem _ hy))
  rw[List.length_erase_of_mem hx]at this
  have:=List.length_pos_of_mem hx
  rw[List.length_cons]
  omega
theorem vx.below(D:vx n r adj far)(hr:r < n):∀(m:Nat),(∃i < n,gt far i=m)→m < n→∀v,v≤m→∃i < n,gt far i=v
 | 0,h,_,v,hv=>by
  have:v=0:=by omega
  subst this;exact h
 | m+1,⟨i,hi,e⟩,hm,v,hv=>by
  rcases Nat.lt_or_ge v (m+1)with h | h
  ·have hir:i≠r:=fun z=>by subst z;have:=D.rt;omega
   obtain⟨_,j,hj,_,ej⟩:=D.dn i hi hir (by omega)
   exact D.below hr m ⟨j,hj,by omega⟩ (by omega) v (by omega)
  ·have:v=m+1:=by omega
   subst this
   exact⟨i,hi,e⟩
theorem kz{far:List Int}{i:Nat}(h:i < far.length):gt far i∈far:=by
 simp[gt,h]
theorem vx.all(D:vx n r adj far)(hr:r < n)(conn:∀S:Nat→Prop,S r→(∀i < n,∀j < n,adj i j→S i→S j)→∀i < n,S i):∀i < n,gt far i < n:=by
 refine conn (fun i=>gt far i < n) (by show gt far r < n;rw[D.rt];omega) fun i hi j hj a hv=>?_
 show gt far j < n
 rcases Int.lt_or_le (gt far j) n with h | h
 ·exact h
 exfalso
 have h1:=D.up i hi j hj a
 have h2:=(D.rng j hj).2
 have e:gt far i=((n - 1:Nat):Int):=by omega
 have all:∀v:Nat,v < n+1→(v:Int)∈ far:=fun v hv=>by
  rcases Nat.lt_or_ge v n with h | h
  ·obtain⟨x,hx,ex⟩:=D.below hr (n - 1) ⟨i,hi,e⟩ (by omega) v (by omega)
   rw[← ex]
   exact kz (by rw[D.len];exact hx)
  ·have:(v:Int)=gt far j:=by omega
   rw[this]
   exact kz (by rw[D.len];exact hj)
 have:=oh (l:=(List.range (n+1)).map fun k:Nat=>(k:Int)) (l':=far) (List.Pairwise.map _ (fun a b h z=>h (by omega)) List.nodup_range) fun x hx=>by
  obtain⟨v,hv,rfl⟩:=List.mem_map.mp hx
  exact all v (List.mem_range.mp hv)
 rw[List.length_map,List.length_range,D.len]at this
 omega
end
end PR
namespace PR
open PySem PySem.Spec L2
def prL(ps:List (Int×Int)):List PV:=ps.map prV
section
variable{ps qs:List (Int×Int)}{x:Int×Int}{f:Fl}{g:Fl→Fl}{p:Fl→Bool}
@[simp] theorem Ba:prL []=[]:=rfl
@[simp] theorem qG:prL (x::ps)=prV x::prL ps:=rfl
@[simp] theorem Bb:(prL ps).length=ps.length:=by simp[prL]
@[simp] theorem Bd:prL ps++prL qs=prL (ps++qs):=by simp[prL]
@[simp] theorem Bc(k:Nat):(prL ps)[k]?=(ps[k]?).map prV:=by simp[prL]
@[simp] theorem A9:PV.mapF g (prV x)=prV x:=rfl
@[simp] theorem A_:(prV x).has p=false:=rfl
@[simp] theorem An:mapL g (prL ps)=prL ps:=by
 induction ps with
 | nil=>rfl
 | cons n ns ih=>simp[mapL,ih]
@[simp] theorem AK:hasL p (prL ps)=false:=by
 induction ps with
 | nil=>rfl
 | cons n ns ih=>simp[hasL,ih]
@[simp] theorem mz:shp (prV x)=true:=rfl
@[simp] theorem k6:(prL ps).all shp=true:=by
 induction ps with
 | nil=>rfl
 | cons n ns ih=>simp only[qG,List.all_cons,mz,ih];rfl
theorem yA(x y:Int×Int):PyData.eqv (prV x).data (prV y).data=decide (x=y):=by
 obtain⟨a,b⟩:=x
 obtain⟨c,d⟩:=y
 simp only[prV,PV.data,dataL,PyData.eqv,PyData.eqvAll]
 by_cases h1:a=c<;>by_cases h2:b=d<;>simp[h1,h2]
theorem rK:inL (prV x) (prL ps)=ps.contains x:=by
 induction ps with
 | nil=>rfl
 | cons n ns ih =>
  have e:inL (prV x) (prL (n::ns))=(PyData.eqv (prV n).data (prV x).data||inL (prV x) (prL ns)):=rfl
  rw[e,ih,List.contains_cons,yA]
  congr 1
  by_cases h:n=x
  ·subst h;simp
  ·rw[decide_eq_false h]
   exact(beq_eq_false_iff_ne.mpr (Ne.symm h)).symm
@[simp] theorem CJ:pIn (prV x) (.lst f (prL ps))=.ok (.bl (ps.contains x)):=by
 unfold pIn
 simp only[bf,mz,k6,Bool.and_self,if_true,rK]
@[simp] theorem Ak:cK (prV x) (.lst f (prL ps))=.ok (.bl (!ps.contains x)):=by
 unfold cK
 simp only[bf,mz,k6,Bool.and_self,if_true,rK]
@[simp] theorem Bw:aK (prV x) (.int 0)=.ok (.int x.1):=rfl
@[simp] theorem Bv:aK (prV x) (.int 1)=.ok (.int x.2):=rfl
@[simp] theorem B1:dy ij (prV x)=.ok (.int (min x.1 x.2)):=rfl
@[simp] theorem B2:dy eA (prV x)=.ok (.int (max x.1 x.2)):=rfl
@[simp] theorem xh:eO (prL ps)=some ps:=by
 induction ps with
 | nil=>rfl
 | cons n ns ih =>
  have:iR (prV n)=some n:=rfl
  simp[eO,ih,this]
end
theorem fG{x:PV}{xs:List PV}{k:Nat}{y:PV}(hs:bf x=some xs)(h:xs[k]?=some y)(ho:y.has Fl.isOwn=false):aK x (.int k)=.ok y:=by
 have hl:k < xs.length:=(List.getElem?_eq_some_iff.mp h).1
 unfold aK
 simp only[hs,atI]
 rw[ox hl]
 simp[h,ho]
def mm(w:Int×Int):Int×Int:=(min w.1 w.2,max w.1 w.2)
structure CP(n:Nat)(ws:List (Int×Int)):Prop where
 rg:∀w∈ws,0≤w.1∧w.1 < n∧0≤w.2∧w.2 < n∧w.1≠w.2
 nd:(ws.map mm).Nodup
 sz:ws.length < 64
end PR
namespace PR
structure CO(n:Nat)(od:List Int)(k:Nat)(ws:List (Int×Int)):Prop where
 rg:∀w∈ws,w.1∈od.take k∧w.2∈od.take k∧w.1≠w.2
 nd:(ws.map mm).Nodup
 ln:ws.length+1=k
 cn:∀S:Int→Prop,(∀w∈ws,(S w.1↔S w.2))→∀a∈od.take k,(S a↔S (od.getD 0 0))
structure CN(n m:Nat)(ws:List (Int×Int)):Prop where
 rg:∀w∈ws,0≤w.1∧w.1 < n∧0≤w.2∧w.2 < n∧w.1≠w.2
 nd:(ws.map mm).Nodup
 ln:ws.length≤m
 cn:∀S:Int→Prop,(∀w∈ws,(S w.1↔S w.2))→∀i j:Nat,i < n→j < n→S i→S j
open PySem L2 in
def cL(o:Out)(Q:PV→Prop):Prop:=∃v,o=.ret v∧Q v
section
open PySem L2
variable{env e:En}{Q:PV→Prop}
theorem ax{a b:MS}(h1:a env=.next e)(h2:cL (b e) Q):cL (ak a b env) Q:=by
 obtain⟨v,h,q⟩:=h2
 exact⟨v,aj h1 h,q⟩
theorem iH{c:MT}{a b bw:MS}(hc:c env=.ok true)(h:cL (a env) Q):cL (ak (mBr c a b) bw env) Q:=by
 obtain⟨v,h1,h2⟩:=h
 exact⟨v,dq (dR hc h1),h2⟩
theorem bt{o:Out}{v:PV}(h:o=.ret v)(q:Q v):cL o Q:=⟨v,h,q⟩
end
end PR
namespace PR
open PySem L2
section
variable{env:En}
theorem wf{m:List PV→Res PV}{ms:MA}{xs:List PV}{c:Nat}{ks:List Nat}{vs:List PV}{fl:Fl}{c':Nat}{ks':List Nat}{vs':List PV}(ho:env[0]?=some (some (.obj .own c ks vs)))(ha:ms env=.ok xs)(hl:hasL Fl.isLnt xs=false)
  (hm:m (.obj .own c ks vs::mapL Fl.toBor xs)=.ok (.obj fl c' ks' vs')) (hb:(PV.obj fl c' ks' vs').has Fl.isBor=false):f9 m ms env=.next (env.set 0 (some (.obj fl c' ks' vs'))):=by
 unfold f9
 rw[ho]
 dsimp only
 rw[ha]
 dsimp only
 rw[hl,if_neg (by decide),hm]
 dsimp only
 rw[hb,if_neg (by decide)]
end
@[simp] theorem CH:lm (.int 10) (.int 59)=.ok (.int (10 ^ 59)):=mK (by decide) (by decide) (by decide)
section
variable{env:En}{g:TgM}{me:ME}
theorem pS(lo:Int)(f:Nat→Int)(n:Nat)(h:∀k < n,∃e1,g (.int (lo+(k:Int))) env=some e1∧me e1=.ok (.int (f k))):de g bc me env (cJ lo n)=.ok (iL ((List.range n).map f)):=by
 rw[show iL ((List.range n).map f)=(List.range n).map fun k=>PV.int (f k) by simp[iL]]
 exact bu (a:=fun k:Nat=>PV.int (lo+(k:Int))) (f:=fun k=>.int (f k)) (List.range n) fun k hk=>let⟨e1,h1,h2⟩:=h k (List.mem_range.mp hk);⟨e1,h1,h2,rfl,rfl⟩
theorem nw{mc:MT}(p:Nat→Bool)(f:Nat→Int)(n:Nat)(h:∀k < n,∃e1,g (.int (0+(k:Int))) env=some e1∧mc e1=.ok (p k)∧(p k=true→me e1=.ok (.int (f k)))):de g mc me env (cJ 0 n)=.ok (iL (((List.range n).filter p).map f)):=by
 rw[show iL (((List.range n).filter p).map f)=((List.range n).filter p).map fun k=>PV.int (f k) by simp[iL]]
 exact gu (a:=fun k:Nat=>PV.int (0+(k:Int))) (f:=fun k=>.int (f k)) (p:=p) (List.range n) fun k hk=>let⟨e1,h1,h2,h3⟩:=h k (List.mem_range.mp hk);⟨e1,h1,h2,fun z=>⟨h3 z,rfl,rfl⟩⟩
end
theorem eR{f:Fl}{cs:List Int}{i:Int}(h0:0≤i)(h:i < cs.length):aK (.lst f (iL cs)) (.int i)=.ok (.int (gt cs i.toNat)):=by
 have:i.toNat < cs.length:=by omega
 exact rP _ h0 (by simp[gt,this])
theorem sr(xs:List PV)(k:Nat)(h:k≤xs.length):kE xs (some (k:Int)) none=xs.drop k:=by
 unfold kE
 rw[HT.sIx_nat,HT.sIx_none]
 rw[Nat.min_eq_left h,List.take_of_length_le (by simp)]
end PR
namespace PR
open PySem L2
theorem nJ{c:MT}{b:MS}{Fin:En→Prop}(P:Nat→En→Prop)(step:∀m e,P m e→(c e=.ok false∧Fin e)∨(c e=.ok true∧∃m' e',m' < m∧(b e=.next e'∨b e=.cont e')∧P m' e')) :
  ∀(k m:Nat) (env:En),m < k→P m env→∃e',whL c b k env=.next e'∧Fin e'
 | 0,m,_,h,_=>absurd h (Nat.not_lt_zero m)
 | k+1,m,env,h,hP=>by
  unfold whL
  rcases step m env hP with⟨h1,h2⟩ |⟨h1,m',e',h2,h3,h4⟩
  ·rw[h1];exact⟨env,rfl,h2⟩
  ·obtain⟨e2,h5,h6⟩:=nJ P step k m' e' (by omega) h4
   rw[h1]
   rcases h3 with h3 | h3<;>rw[h3]<;>exact⟨e2,h5,h6⟩
section
variable{env:En}{r:Out}
theorem mH{Q:PV→Prop}{c:MT}{b bw:MS}{Fin:En→Prop}(P:Nat→En→Prop)(m:Nat)(hm:m < 100000)(h0:P m env)(step:∀m e,P m e→(c e=.ok false∧Fin e)∨(c e=.ok true∧∃m' e',m' < m∧(b e=.next e'∨b e=.cont e')∧P m' e'))(fin:∀e,Fin e→cL (bw e) Q):cL (ak (iY c b) bw env) Q:=by
 obtain⟨e',h1,h2⟩:=nJ P step 100000 m env hm h0
 exact ax h1 (fin e' h2)
end
@[simp] theorem zu(bs:List Bool):sA (bs.map .bl)=some bs:=by
 induction bs with
 | nil=>rfl
 | cons b bs ih=>simp[sA,ih]
end PR
namespace G
open PySem L2 PR
def bT:Nat→Bool:=bM [true,true,true,true,true,true,true,true]
def cu:Nat→Bool:=bM [false,false,false,false,false,false,true,false]
def pN:Nat→Bool:=bM [false,false,false,false,true,false,false,false]
def cv:Nat→Bool:=bM [false,false,false,true,false,false,false,false]
def dO:Nat→Bool:=bM [false,true,false,false,false,false,false,false]
def cX:Nat→Bool:=bM [false,false,true,false,false,false,false,false]
def cV:Nat→Bool:=bM [false,false,false,false,true,false,false,false]
def b3:Nat→Bool:=bM [false,false,false,false,false,false,false,true]
def cW:Nat→Bool:=bM [false,false,false,false,false,true,false,false]
def m9:Nat→Bool:=bM [false,false,false,false,false,false,true,false]
def h_:Nat→Bool:=bM [true,true,true,true,true,true,true,true]
def sQ:MS :=
 (ak (aE 1 (mC (.int (1))))
 (ak (iY (aq (mOp pLt (ac 1) (mC (.int (257)))))
  (ak (aE 2 (mC (.int (1))))
 (ak (bW (bO (ad (ac 0) ai)) (tgN 3)
  (aE 2 (ao (b8 min) (ad (mOp cf (ac 2) (mOp aL (ac 1) (mC (.int (1))))) (ad (mC (.int (300))) ai)))))
 (ak (mBr (aq (mOp pGt (ac 2) (mC (.int (256)))))
  (dA 1)
  aB)
 (aE 1 (mOp aL (ac 1) (mC (.int (1)))))))))
 (dA 1)))
def oF:List PV→Res PV:=a9 4 sQ
def sS:MS :=
 (ak (eC 0 0 (ac 1))
 (ak (eC 0 7 (ac 2))
 (eC 0 8 (ac 3))))
def i8:List PV→Res PV:=ie 4 sS
def yT:MS :=
 (ak (mBr ((dh (aq (mOp pLt (ac 1) (mC (.int (2))))) (aq (mOp pGt (ac 1) (mC (.int (20)))))))
  (aM 2 (ad (mC (.str "the number of machines is out of bounds")) ai))
  aB)
 (ak (mBr (aq (mOp pLt (ac 2) (ac 1)))
  (aM 2 (ad (mC (.str "the span is less than the size")) ai))
  aB)
 (f9 i8 (ad (ac 1) (ad (ac 2) (ad (mC (.bl false)) ai))))))
def yp:List PV→Res PV:=ie 3 yT
def Co:MS :=
 (ak (mBr (aq (mOp pNe (ao (p1 fA) (ad (ac 0) ai)) (mOp cf (mOp cf (ac 1) (ac 1)) (ac 1))))
  (aM 2 (ad (mC (.str "a table has not an entry for each own, left and right cell")) ai))
  aB)
 (bW (dz (ac 0)) (tgN 2)
  (mBr ((dh (aq (mOp pLt (ac 2) (mC (.int (0))))) (aq (mOp pGe (ac 2) (ac 1)))))
  (aM 2 (ad (mC (.str "an entry of a table is out of bounds")) ai))
  aB)))
def yk:List PV→Res PV:=a9 3 Co
def Cs:MS :=
 (ak (mBr ((dh (aq (mOp pLt (ac 1) (mC (.int (2))))) (aq (mOp pGt (ac 1) (mC (.int (8)))))))
  (aM 2 (ad (mC (.str "the number of machines is out of bounds")) ai))
  aB)
 (ak (mBr ((dh (aq (mOp pLt (ac 2) (mC (.int (2))))) (aq (mOp pGt (ac 2) (mC (.int (4)))))))
  (aM 2 (ad (mC (.str "the span is out of bounds")) ai))
  aB)
 (ak (mBr (aq (mUn (kg [("none", (0)),("one", (1))]) (ac 3)))
  (aM 2 (ad (mC (.str "the word is another one than none and one")) ai))
  aB)
 (ak (cq (ao (aA yk) (ad (ac 4) (ad (ac 2) ai))))
 (ak (cq (ao (aA yk) (ad (ac 5) (ad (ac 2) ai))))
 (ak (eC 0 9 (mUn (n9 [("none", (0)),("one", (1))]) (ac 3)))
 (ak (eC 0 10 (ao (p1 d5) (ad (ac 4) ai)))
 (ak (eC 0 11 (ao (p1 d5) (ad (ac 5) ai)))
 (f9 i8 (ad (ac 1) (ad (ac 2) (ad (mC (.bl false)) ai))))))))))))
def AU:List PV→Res PV:=ie 6 Cs
def A0:MS :=
 (ak (aE 3 (aR [1] 1 (bO (ad (mOp cf (mOp cf (ac 1) (ac 1)) (ac 1)) ai)) (tgN 1) bc (mOp cE (ac 1) (mOp cf (ac 0) (ac 0)))))
 (bG (jp 5 AU (ad (ac 0) (ad (ac 1) (ad (ac 2) (ad (ac 3) (ad (ac 3) ai))))))))
def rZ:List PV→Res PV:=a9 4 A0
def Cm:MS :=
 (mBr ((dh (aq (mOp pLt (ac 0) (ac 1))) (aq (mOp pGt (ac 0) (mC (.int (10)))))))
  (aM 1 (ad (mC (.str "the number of machines is out of bounds")) ai))
  aB)
def yi:List PV→Res PV:=a9 2 Cm
def Cq:MS :=
 (ak (aE 2 (da ai))
 (ak (bW (dz (ac 1)) (tgN 3)
  (ak (aE 4 (fg (ad (ao (p1 (dy ij)) (ad (ac 3) ai)) (ad (ao (p1 (dy eA)) (ad (ac 3) ai)) ai))))
 (ak (mBr ((dh (aq (mOp pLt (mOp aK (ac 4) (mC (.int (0)))) (mC (.int (0))))) (aq (mOp pGe (mOp aK (ac 4) (mC (.int (1)))) (ac 0)))))
  (aM 1 (ad (mC (.str "a way has a number that is no machine")) ai))
  aB)
 (ak (mBr (aq (mOp pEq (mOp aK (ac 4) (mC (.int (0)))) (mOp aK (ac 4) (mC (.int (1))))))
  (aM 1 (ad (mC (.str "a way has twice the same machine")) ai))
  aB)
 (ak (mBr (aq (mOp pIn (ac 4) (ac 2)))
  (aM 1 (ad (mC (.str "a way is told twice")) ai))
  aB)
 (dB 2 (ac 4)))))))
 (bG (ao (p1 fU) (ad (ac 2) ai)))))
def AT:List PV→Res PV:=a9 5 Cq
def A3:MS :=
 (ak (aE 2 (aR [1] 1 (bx (ac 0)) (tgN 1) (aq (mOp pEq (mOp aK (ac 1) (mC (.int (1)))) (ac 0))) (mOp aK (ac 1) (mC (.int (0))))))
 (ak (aE 3 (aR [1] 1 (bx (ac 0)) (tgN 1) (aq (mOp pEq (mOp aK (ac 1) (mC (.int (0)))) (ac 0))) (mOp aK (ac 1) (mC (.int (1))))))
 (bG (ao (p1 fU) (ad (mOp aL (ac 2) (ac 3)) ai)))))
def v4:List PV→Res PV:=a9 4 A3
def Cj:MS :=
 (bG (ao (p1 lq) (ad (mOp aK (mUn (ar 2) (ac 0)) (ac 1)) ai)))
def AR:List PV→Res PV:=a9 2 Cj
def d_:Nat→Option (List PV→Res PV)
 | 3=>some AR
 | _=>none
def A1:MS :=
 (ak (aE 2 (aR [0] 1 (bO (ad (mUn (ar 0) (ac 0)) ai)) (tgN 1) bc (mUn (ar 0) (ac 0))))
 (ak (eQ 2 (ac 1) (mC (.int (0))))
 (ak (bW (bO (ad (mUn (ar 0) (ac 0)) ai)) (tgN 3)
  (bW (bO (ad (mUn (ar 0) (ac 0)) ai)) (tgN 4)
  (mBr (aq (mOp pEq (mOp aK (ac 2) (ac 4)) (ac 3)))
  (bW (dz (eB d_ (ac 0) (ad (ac 4) ai))) (tgN 5)
  (eQ 2 (ac 5) (ao (b8 min) (ad (mOp aK (ac 2) (ac 5)) (ad (mOp aL (ac 3) (mC (.int (1)))) ai)))))
  aB)))
 (dA 2))))
def vZ:List PV→Res PV:=a9 6 A1
def A2:MS :=
 (ak (cq (ao (aA yi) (ad (ac 1) (ad (mC (.int (1))) ai))))
 (ak (eC 0 0 (ac 1))
 (ak (eC 0 1 (ao (p1 d5) (ad (ao (aA AT) (ad (ac 1) (ad (ac 2) ai))) ai)))
 (ak (eC 0 2 (ao (p1 d5) (ad (aR [0] 1 (bO (ad (ac 1) ai)) (tgN 1) bc (ao (p1 d5) (ad (ao (aA v4) (ad (mUn (ar 1) (ac 0)) (ad (ac 1) ai))) ai))) ai)))
 (mBr (aq (mOp pEq (ao (p1 (dy eA)) (ad (ao (aA vZ) (ad (ac 0) (ad (mC (.int (0))) ai))) ai)) (ac 1)))
  (aM 1 (ad (mC (.str "not every machine can be come to from machine 0")) ai))
  aB)))))
def v3:List PV→Res PV:=ie 3 A2
def AZ:MS :=
 (ak (cq (ao (aA yi) (ad (ac 0) (ad (mC (.int (1))) ai))))
 (bG (jp 3 v3 (ad (ac 0) (ad (aR [] 1 (bO (ad (mOp ll (ac 0) (mC (.int (1)))) ai)) (tgN 0) bc (fg (ad (ac 0) (ad (mOp aL (ac 0) (mC (.int (1)))) ai)))) ai)))))
def oB:List PV→Res PV:=a9 1 AZ
def Ck:MS :=
 (mBr ((dh (aq (mOp pLt (ac 0) (mC (.int (1))))) (aq (mOp pGt (ac 0) (mC (.int (10)))))))
  (aM 2 (ad (mC (.str "the stretch or the number of blocks is out of bounds")) ai))
  aB)
def ye:List PV→Res PV:=a9 1 Ck
def Cp:MS :=
 (ak (mBr (aq (mOp pNe (ao (p1 fA) (ad (ac 1) ai)) (mUn (ar 0) (ac 0))))
  (aM 2 (ad (mC (.str "there are not as many starts as machines")) ai))
  aB)
 (bW (dz (ac 1)) (tgN 3)
  (mBr ((dC (aq (mOp jL (ac 3) (mC .non))) ((dh (aq (mOp pLt (ac 3) (mC (.int (0))))) (aq (mOp pGe (ac 3) (ac 2)))))))
  (aM 2 (ad (mC (.str "a start is out of bounds")) ai))
  aB)))
def AS:List PV→Res PV:=a9 4 Cp
def Ct:MS :=
 (ak (cq (ao (aA ye) (ad (ac 3) ai)))
 (ak (cq (ao (aA ye) (ad (ac 4) ai)))
 (ak (eC 0 3 (mOp cf (ac 3) (ac 4)))
 (ak (cq (ao (aA AS) (ad (ac 1) (ad (ac 2) (ad (mUn (ar 3) (ac 0)) ai)))))
 (ak (fD 1) (ak (eC 0 4 (ac 1))
 (ak (eC 0 5 (ao (p1 d5) (ad (ac 2) ai)))
 (ak (eC 0 6 (ac 3))
 (f9 i8 (ad (mUn (ar 0) (ac 1)) (ad (mOp aL (mUn (ar 3) (ac 0)) (mC (.int (1)))) (ad (mC (.bl true)) ai))))))))))))
def AV:List PV→Res PV:=ie 5 Ct
def Cn:MS :=
 (ak (mBr ((dh (aq (mOp pLt (ac 2) (mC (.int (0))))) (aq (mOp pGe (ac 2) (mUn (ar 0) (ac 1))))))
  (aM 2 (ad (mC (.str "the root is no machine")) ai))
  aB)
 (ak (aE 3 (aR [2] 1 (bO (ad (mUn (ar 0) (ac 1)) ai)) (tgN 1) bc (jq (aq (mOp pEq (ac 1) (ac 0))) (mC (.int (0))) (mC .non))))
 (ak (fD 3) (ak (fD 1) (f9 AV (ad (ac 1) (ad (ac 3) (ad (mUn (ar 0) (ac 1)) (ad (mC (.int (1))) ai)))))))))
def uZ:List PV→Res PV:=ie 4 Cn
def sP:MS :=
 (ak (aE 1 (mOp bL (ac 0) (mC (.int (4)))))
 (ak (aE 0 (mOp cE (ac 0) (mC (.int (4)))))
 (ak (mBr (aq (mOp pEq (ac 1) (mC (.int (0)))))
  (ak (aE 2 (mOp aL (mC (.int (2))) (mOp bL (ac 0) (mC (.int (19))))))
 (ak (mBr (aq (mOp pEq (mOp bL (mOp cE (ac 0) (mC (.int (19)))) (mC (.int (2)))) (mC (.int (0)))))
  (aE 2 (mOp aL (mC (.int (2))) (mOp bL (ac 0) (mC (.int (3))))))
  aB)
 (ak (aE 3 (ao (b8 max) (ad (ac 2) (ad (mOp ll (mOp aL (ao (aA oF) (ad (ac 2) ai)) (mOp bL (mOp cE (ac 0) (mC (.int (38)))) (mC (.int (3))))) (mC (.int (1)))) ai))))
 (ak (mBr (aq (mOp pEq (mOp bL (mOp cE (ac 0) (mC (.int (114)))) (mC (.int (4)))) (mC (.int (1)))))
  (aE 3 (mOp aL (ac 3) (mOp bL (mOp cE (ac 0) (mC (.int (456)))) (mOp lm (mC (.int (10))) (mC (.int (50)))))))
  aB)
 (bG (fg (ad (jp 4 yp (ad (ac 2) (ad (ac 3) ai))) (ad (ac 2) (ad (ac 3) (ad (mC (.bl false)) ai))))))))))
  aB)
 (ak (mBr (aq (mOp pEq (ac 1) (mC (.int (1)))))
  (ak (aE 2 (mOp aL (mC (.int (2))) (mOp bL (ac 0) (mC (.int (7))))))
 (ak (aE 3 (mOp aL (mC (.int (2))) (mOp bL (mOp cE (ac 0) (mC (.int (7)))) (mC (.int (3))))))
 (bG (fg (ad (ao (aA rZ) (ad (ac 2) (ad (ac 3) (ad (mOp aK (da (ad (mC (.str "none")) (ad (mC (.str "one")) ai))) (mOp bL (mOp cE (ac 0) (mC (.int (21)))) (mC (.int (2))))) ai)))) (ad (ac 2) (ad (ac 3) (ad (mC (.bl false)) ai))))))))
  aB)
 (ak (mBr (aq (mOp pEq (ac 1) (mC (.int (2)))))
  (ak (aE 2 (mOp fW (da (ad (mOp aL (mC (.int (1))) (mOp bL (mOp cE (ac 0) (mC (.int (4)))) (mC (.int (10))))) (ad (mOp aL (mC (.int (1))) (mOp bL (mOp cE (ac 0) (mC (.int (4)))) (mC (.int (300))))) (ad (mOp aL (mC (.int (1))) (mOp bL (mOp cE (ac 0) (mC (.int (4)))) (mC (.int (4))))) (ad (mC (.int (8))) ai))))) (mOp bL (ac 0) (mC (.int (4))))))
 (ak (aE 3 (mOp fW (da (ad (mC (.int (1))) (ad (mC (.int (2))) (ad (mC (.int (3))) (ad (ao (b8 max) (ad (mC (.int (1))) (ad (mOp ll (mOp aL (ao (aA oF) (ad (ac 2) ai)) (mOp bL (mOp cE (ac 0) (mC (.int (9)))) (mC (.int (3))))) (mC (.int (1)))) ai))) (ad (mOp aL (mC (.int (1))) (mOp bL (mOp cE (ac 0) (mC (.int (9)))) (mOp lm (mC (.int (10))) (mC (.int (50)))))) ai)))))) (mOp bL (mOp cE (ac 0) (mC (.int (16)))) (mC (.int (5))))))
 (bG (fg (ad (jp 0 i8 (ad (ac 2) (ad (ac 3) (ad (mOp pEq (mOp bL (mOp cE (ac 0) (mC (.int (80)))) (mC (.int (2)))) (mC (.int (0)))) ai)))) (ad (ac 2) (ad (ac 3) (ad (mOp pEq (mOp bL (mOp cE (ac 0) (mC (.int (80)))) (mC (.int (2)))) (mC (.int (0)))) ai))))))))
  aB)
 (ak (aE 2 (mOp aL (mC (.int (1))) (mOp bL (ac 0) (mC (.int (10))))))
 (ak (mBr (aq (mOp pEq (mOp bL (mOp cE (ac 0) (mC (.int (10)))) (mC (.int (2)))) (mC (.int (0)))))
  (aE 2 (mOp aL (mC (.int (1))) (mOp bL (ac 0) (mC (.int (4))))))
  aB)
 (bG (fg (ad (jp 2 uZ (ad (ao (aA oB) (ad (ac 2) ai)) (ad (mOp bL (mOp cE (ac 0) (mC (.int (20)))) (ac 2)) ai))) (ad (ac 2) (ad (mOp aL (ac 2) (mC (.int (1)))) (ad (mC (.bl true)) ai)))))))))))))
def sd:List PV→Res PV:=a9 4 sP
def sL:MS :=
 (ak (mBr ((dC (aV (ac 3)) (aV (ac 2))))
  (bG (mC (.str "turn")))
  aB)
 (ak (aE 4 (mC (.int (1))))
 (ak (bW (bO (ad (ac 0) ai)) (tgN 5)
  (aE 4 (ao (b8 min) (ad (mOp cf (ac 4) (ac 1)) (ad (mC (.int (300))) ai)))))
 (ak (mBr ((dh (aq (mOp pGt (ac 4) (mC (.int (256))))) ((dC (aV (ac 3)) (aq (mOp pGt (ac 0) (mC (.int (4)))))))))
  (bG (mC (.str "great")))
  aB)
 (bG (mC (.str "told")))))))
def r6:List PV→Res PV:=a9 6 sL
def nC:MS :=
 (mBr ((dC (aV (ac 1)) (aV (mUn (ar 8) (ac 0)))))
  (aM 4 (ad (mC (.str "a rule that is alone gets one machine at a turn")) ai))
  aB)
def pP:List PV→Res PV:=a9 2 nC
def l6:MS :=
 (ak (aE 1 (mC (.int (1))))
 (ak (bW (bO (ad (mUn (ar 0) (ac 0)) ai)) (tgN 2)
  (ak (aE 1 (mOp cf (ac 1) (mUn (ar 7) (ac 0))))
 (mBr (aq (mOp pGt (ac 1) (mC (.int (256)))))
  (mV)
  aB)))
 (dA 1)))
def jU:List PV→Res PV:=a9 3 l6
def sG:MS :=
 (ak (mBr (aq (mOp pGt (ao (aA jU) (ad (ac 0) ai)) (mC (.int (256)))))
  (aM 6 (ad (mC (.str "the rule has too many states")) ai))
  aB)
 (mBr ((dC (aV (ac 1)) (aq (mOp pGt (mUn (ar 0) (ac 0)) (mC (.int (4)))))))
  (aM 6 (ad (mC (.str "the rule has too many machines for many at once")) ai))
  aB))
def u7:List PV→Res PV:=a9 2 sG
def sM:MS :=
 (ak (aE 2 (da ai))
 (ak (aE 3 (ac 1))
 (ak (bW (bO (ad (mUn (ar 0) (ac 0)) ai)) (tgN 4)
  (ak (dB 2 (mOp bL (ac 3) (mUn (ar 7) (ac 0))))
 (aE 3 (mOp cE (ac 3) (mUn (ar 7) (ac 0))))))
 (bG (mUn dM (ac 2))))))
def i6:List PV→Res PV:=a9 5 sM
def sN:MS :=
 (bG (mOp aK (ac 1) (ac 2)))
def r9:List PV→Res PV:=a9 3 sN
def Cu:MS :=
 (bG ((lG (mOp pNe (ac 1) (mUn (ar 3) (ac 0))) (mOp pNe (mOp bL (mOp aL (ac 1) (mC (.int (1)))) (mUn (ar 6) (ac 0))) (mC (.int (0)))))))
def yt:List PV→Res PV:=a9 2 Cu
def dE:Nat→Option (List PV→Res PV)
 | 1=>some yt
 | 2=>some yt
 | _=>none
def Cr:MS :=
 (ak (aE 3 (aR [1] 1 (bx (eB d_ (mUn (ar 4) (ac 0)) (ad (ac 2) ai))) (tgN 1) bc (mOp aK (ac 0) (ac 1))))
 (ak (aE 4 (aR [0] 1 (bx (ac 3)) (tgN 1) (aV (eB dE (ac 0) (ad (ac 1) ai))) (mOp aL (ac 1) (mC (.int (1))))))
 (ak (mBr (aq (mOp jL (mOp aK (mUn (ar 5) (ac 0)) (ac 2)) (mC .non)))
  (dB 4 (mOp aK (mUn (ar 5) (ac 0)) (ac 2)))
  aB)
 (bG (ao (p1 (dy ij)) (ad (mOp aL (ac 4) (da (ad (mUn (ar 3) (ac 0)) ai))) ai))))))
def yo:List PV→Res PV:=a9 5 Cr
def yQ:MS :=
 (ak (mBr (aq (mOp pNe (ac 2) (mC (.int (0)))))
  (bG (mOp aK (ac 1) (mOp ll (ac 2) (mC (.int (1))))))
  aB)
 (ak (mBr (aq (mOp pEq (mOp aK (ac 1) (mC (.int (0)))) (mOp aK (ac 1) (mOp ll (mUn (ar 0) (ac 0)) (mC (.int (1)))))))
  (bG (mOp bL (mOp aL (mOp aK (ac 1) (mC (.int (0)))) (mC (.int (1)))) (mUn (ar 7) (ac 0))))
  aB)
 (bG (mOp aK (ac 1) (mC (.int (0)))))))
def yj:List PV→Res PV:=a9 3 yQ
def yS:MS :=
 (ak (aE 3 (mOp aK (ac 1) (mOp bL (mOp ll (ac 2) (mC (.int (1)))) (mUn (ar 0) (ac 0)))))
 (ak (aE 4 (mOp aK (ac 1) (mOp bL (mOp aL (ac 2) (mC (.int (1)))) (mUn (ar 0) (ac 0)))))
 (ak (aE 5 (mOp aL (mOp aL (mOp cf (mOp cf (mOp aK (ac 1) (ac 2)) (mUn (ar 7) (ac 0))) (mUn (ar 7) (ac 0))) (mOp cf (ac 3) (mUn (ar 7) (ac 0)))) (ac 4)))
 (bG (jq (aq (mOp pEq (ac 2) (mC (.int (0))))) (mOp aK (mUn (ar 10) (ac 0)) (ac 5)) (mOp aK (mUn (ar 11) (ac 0)) (ac 5)))))))
def yn:List PV→Res PV:=a9 6 yS
def aX:Nat→Option (List PV→Res PV)
 | 0=>some r9
 | 1=>some yo
 | 2=>some yo
 | 4=>some yj
 | 5=>some yn
 | _=>none
def yN:MS :=
 (bG (aR [0,1] 1 (bO (ad (mUn (ar 0) (ac 0)) ai)) (tgN 2) (aq (mOp pNe (eB aX (ac 0) (ad (ac 1) (ad (ac 2) ai))) (mOp aK (ac 1) (ac 2)))) (ac 2)))
def lQ:List PV→Res PV:=a9 2 yN
def au:Nat→Option (List PV→Res PV)
 | 0=>some lQ
 | 1=>some lQ
 | 2=>some lQ
 | 4=>some lQ
 | 5=>some lQ
 | _=>none
def sR:MS :=
 (bG (mOp pEq (ao (p1 fA) (ad (eB au (ac 0) (ad (ac 1) ai)) ai)) (mC (.int (0)))))
def lR:List PV→Res PV:=a9 2 sR
def yR:MS :=
 (bG (mOp pEq (ao (p1 fA) (ad (eB au (ac 0) (ad (ac 1) ai)) ai)) (mC (.int (1)))))
def ym:List PV→Res PV:=a9 2 yR
def yU:MS :=
 (bG (mOp pEq (ao (p1 fA) (ad (eB au (ac 0) (ad (ac 1) ai)) ai)) (mUn (ar 9) (ac 0))))
def yq:List PV→Res PV:=a9 2 yU
def aS:Nat→Option (List PV→Res PV)
 | 0=>some lR
 | 1=>some lR
 | 2=>some lR
 | 4=>some ym
 | 5=>some yq
 | _=>none
def sJ:MS :=
 (ak (aE 1 (da (ad (da ai) ai)))
 (ak (bW (dz (ac 0)) (tgN 2)
  (ak (fD 1) (aE 1 (mOp aL (ac 1) (aR [2] 1 (bx (ac 1)) (tgN 1) bc (mOp aL (ac 1) (da (ad (ac 0) ai))))))))
 (ak (fD 1) (bG (gL (ac 1) (jR (mC (.int (1)))) gc)))))
def oE:List PV→Res PV:=a9 3 sJ
def yM:MS :=
 (ak (mBr ((dC (aV (mUn (ar 8) (ac 0))) (aq (mOp pGt (ao (p1 fA) (ad (ac 1) ai)) (mC (.int (1)))))))
  (aM 4 (ad (mC (.str "a rule that is alone gets one machine at a turn")) ai))
  aB)
 (ak (bW (dz (ac 1)) (tgN 2)
  (mBr ((dh (aq (mOp pLt (ac 2) (mC (.int (0))))) (aq (mOp pGe (ac 2) (mUn (ar 0) (ac 0))))))
  (aM 4 (ad (mC (.str "a name is no machine")) ai))
  aB))
 (mBr (aq (mOp pNe (mUn fV (ac 1)) (ao (p1 fA) (ad (ac 1) ai))))
  (aM 4 (ad (mC (.str "a machine is named twice")) ai))
  aB)))
def yf:List PV→Res PV:=a9 3 yM
def yL:MS :=
 (ak (cq (ao (aA yf) (ad (ac 0) (ad (ac 2) ai))))
 (bG (aR [2,0,1] 1 (bO (ad (mUn (ar 0) (ac 0)) ai)) (tgN 3) bc (jq (aq (mOp pIn (ac 3) (ac 0))) (eB aX (ac 1) (ad (ac 2) (ad (ac 3) ai))) (mOp aK (ac 2) (ac 3))))))
def lP:List PV→Res PV:=a9 3 yL
def aU:Nat→Option (List PV→Res PV)
 | 0=>some lP
 | 1=>some lP
 | 2=>some lP
 | 4=>some lP
 | 5=>some lP
 | _=>none
def sI:MS :=
 (ak (cq (ao (aA pP) (ad (ac 0) (ad (ac 2) ai))))
 (ak (aE 3 (eB au (ac 0) (ad (ac 1) ai)))
 (ak (aE 4 (jq (aV (ac 2)) (ao (aA oE) (ad (ac 3) ai)) (aR [] 1 (bx (ac 3)) (tgN 0) bc (da (ad (ac 0) ai)))))
 (ak (fD 4) (bG (aR [0,1] 1 (bx (ac 4)) (tgN 2) bc (fg (ad (ac 2) (ad (eB aU (ac 0) (ad (ac 1) (ad (ac 2) ai))) ai)))))))))
def oC:List PV→Res PV:=a9 5 sI
def sT:MS :=
 (ak (aE 2 (mC (.int (0))))
 (ak (bW (dz (ac 1)) (tgN 3)
  (aE 2 (mOp aL (mOp cf (ac 2) (mUn (ar 7) (ac 0))) (ac 3))))
 (dA 2)))
def jV:List PV→Res PV:=a9 4 sT
def sK:MS :=
 (ak (bW (et (ac 2)) (tgT 2 (bI (tgN 3) (bI (tgN 4) gX)))
  (bW (dz (ac 4)) (tgT 2 (bI (tgN 5) (bI (tgN 6) gX)))
  (mBr ((dC (aV (mOp aK (ac 1) (ac 3))) (f_ (aV (mOp aK (ac 1) (ao (aA jV) (ad (ac 0) (ad (ac 6) ai))))))))
  (bG (fg (ad (mC (.str "leaves")) (ad (ao (aA i6) (ad (ac 0) (ad (ac 3) ai))) (ad (ac 5) ai)))))
  aB)))
 (bG (mC .non)))
def rY:List PV→Res PV:=a9 7 sK
def sH:MS :=
 (ak (bW (et (ac 2)) (tgT 2 (bI (tgN 3) (bI (tgN 4) gX)))
  (mBr ((dC (f_ (aV (mOp aK (ac 1) (ac 3)))) (aq (mOp pEq (ao (p1 fA) (ad (ac 4) ai)) (mC (.int (0)))))))
  (bG (fg (ad (mC (.str "stuck")) (ad (ao (aA i6) (ad (ac 0) (ad (ac 3) ai))) ai))))
  aB))
 (bG (mC .non)))
def rX:List PV→Res PV:=a9 5 sH
def yP:MS :=
 (ak (aE 2 (aR [] 1 (bx (ac 0)) (tgN 0) bc (jq (aV (ac 0)) (mC (.int (0))) (mC .non))))
 (ak (aE 3 (mC (.bl true)))
 (ak (iY (aV (ac 3))
  (ak (aE 3 (mC (.bl false)))
 (bW (et (ac 1)) (tgT 2 (bI (tgN 4) (bI (tgN 5) gX)))
  (mBr ((dC (aq (mOp fe (mOp aK (ac 2) (ac 4)) (mC .non))) (aq (mOp cK (mC .non) (aR [2] 1 (bx (ac 5)) (tgN 1) bc (mOp aK (ac 0) (ac 1)))))))
  (ak (eQ 2 (ac 4) (mOp aL (mC (.int (1))) (ao (p1 (dy eA)) (ad (aR [2] 1 (bx (ac 5)) (tgN 1) bc (mOp aK (ac 0) (ac 1))) ai))))
 (aE 3 (mC (.bl true))))
  aB))))
 (dA 2))))
def yh:List PV→Res PV:=a9 6 yP
def yV:MS :=
 (ak (aE 3 (aR [0] 1 (bx (ac 2)) (tgN 1) bc (aR [0] 1 (bx (ac 1)) (tgN 1) bc (ao (aA jV) (ad (ac 0) (ad (mOp aK (ac 1) (mC (.int (1)))) ai))))))
 (ak (aE 4 (ao (aA yh) (ad (ac 1) (ad (ac 3) ai))))
 (ak (mBr (aq (mOp pIn (mC .non) (ac 4)))
  (bG (fg (ad (mC (.str "round")) (ad (aR [0] 1 (bx (rp)) (tgN 1) bc (ao (aA i6) (ad (ac 0) (ad (ac 1) ai)))) ai))))
  aB)
 (ak (fD 4) (bG (fg (ad (mC (.str "calm")) (ad (ac 4) ai))))))))
def yr:List PV→Res PV:=a9 5 yV
def jh:MS :=
 (ak (cq (ao (aA pP) (ad (ac 0) (ad (ac 1) ai))))
 (ak (cq (ao (aA u7) (ad (ac 0) (ad (ac 1) ai))))
 (ak (aE 2 (aR [0] 1 (bO (ad (ao (aA jU) (ad (ac 0) ai)) ai)) (tgN 1) bc (ao (aA i6) (ad (ac 0) (ad (ac 1) ai)))))
 (ak (aE 3 (aR [0] 1 (bx (ac 2)) (tgN 1) bc (eB aS (ac 0) (ad (ac 1) ai))))
 (ak (aE 4 (aR [0,1] 1 (bx (ac 2)) (tgN 2) bc (ao (aA oC) (ad (ac 0) (ad (ac 2) (ad (ac 1) ai))))))
 (ak (fD 4) (ak (aE 5 (ao (aA rY) (ad (ac 0) (ad (ac 3) (ad (ac 4) ai)))))
 (ak (mBr (aq (mOp fe (ac 5) (mC .non)))
  (aE 5 (ao (aA rX) (ad (ac 0) (ad (ac 3) (ad (ac 4) ai)))))
  aB)
 (ak (mBr (aq (mOp fe (ac 5) (mC .non)))
  (aE 5 (ao (aA yr) (ad (ac 0) (ad (ac 3) (ad (ac 4) ai)))))
  aB)
 (dA 5))))))))))
def gq:List PV→Res PV:=a9 6 jh
def sO:MS :=
 (ak (aE 2 (mC (.str "told")))
 (ak (aE 3 (mC .non))
 (ak (g7 (aE 3 (ao (aA gq) (ad (ac 0) (ad (ac 1) ai)))) pN m9 4
  (ak (aE 2 (mC (.str "turn")))
 (mBr ((dh (aV (mUn (cO cu) (ac 4))) (f_ (aV (mUn (cO bT) (ac 4))))))
  (aE 2 (mC (.str "other")))
  aB)) (ak (aE 2 (mC (.str "great")))
 (ak (mBr ((dh (aV (mUn (cO cV) (ac 4))) (dh (aV (mUn (cO cX) (ac 4))) (dh (aV (mUn (cO dO) (ac 4))) (aV (mUn (cO cv) (ac 4)))))))
  (aE 2 (mC (.str "other")))
  aB)
 (mBr ((dh (aV (mUn (cO cW) (ac 4))) (dh (aV (mUn (cO b3) (ac 4))) (f_ (aV (mUn (cO bT) (ac 4)))))))
  (aE 2 (mC (.str "other")))
  aB))) aB)
 (ak (mBr (aq (mOp pEq (ac 2) (mC (.str "told"))))
  (mBr ((dh (f_ (aV (tD (ac 3) "tuple"))) (dh (aq (mOp pLt (ao (p1 fA) (ad (ac 3) ai)) (mC (.int (2))))) (aq (mOp cK (mOp aK (ac 3) (mC (.int (0)))) (fg (ad (mC (.str "calm")) (ad (mC (.str "leaves")) (ad (mC (.str "stuck")) (ad (mC (.str "round")) ai))))))))))
  (aE 2 (mC (.str "other")))
  aB)
  aB)
 (dA 2)))))
def r_:List PV→Res PV:=a9 5 sO
def yO:MS :=
 (ak (aE 2 (mC (.bl false)))
 (ak (om (cq (ao (aA gq) (ad (ac 0) (ad (ac 1) ai)))) h_
  (aE 2 (mC (.bl true))) aB)
 (dA 2)))
def yg:List PV→Res PV:=a9 3 yO
def sU:MS :=
 (ak (bW (et (gL (mOp fw (ac 0) (da (ad (mC (.int (0))) ai))) gc (jR (mC (.int (3)))))) (tgT 2 (bI (tgN 1) (bI (tgN 2) gX)))
  (ak (rA (tgT 4 (bI (tgN 3) (bI (tgN 4) (bI (tgN 5) (bI (tgN 6) gX))))) (ao (aA sd) (ad (mOp aL (mOp cE (ac 2) (mC (.int (2)))) (mOp cf (mC (.int (5))) (ac 1))) ai)))
 (ak (aE 7 (da (ad (mOp pEq (mOp bL (ac 2) (mC (.int (2)))) (mC (.int (1)))) ai)))
 (ak (mBr (aq (mOp pLt (ac 1) (mC (.int (1)))))
  (aE 7 (da (ad (mOp pEq (mOp bL (ac 2) (mC (.int (2)))) (mC (.int (1)))) (ad (mOp pEq (mOp bL (ac 2) (mC (.int (2)))) (mC (.int (0)))) (ad (mOp pEq (mOp bL (ac 2) (mC (.int (2)))) (mC (.int (1)))) ai)))))
  aB)
 (ak (fD 7) (bW (dz (ac 7)) (tgN 8)
  (ak (aE 9 (ao (aA r6) (ad (ac 4) (ad (ac 5) (ad (ac 6) (ad (ac 8) ai))))))
 (ak (mBr (aq (mOp pNe (ao (aA r_) (ad (ac 3) (ad (ac 8) ai))) (ac 9)))
  (bG (mC (.bl false)))
  aB)
 (mBr ((dC (aq (mOp pNe (ac 9) (mC (.str "told")))) (f_ (aV (ao (aA yg) (ad (ac 3) (ad (ac 8) ai)))))))
  (bG (mC (.bl false)))
  aB)))))))))
 (bG (mC (.bl true))))
def v5:List PV→Res PV:=a9 10 sU
end G
namespace G
open PySem L2 PR
def top(i:Nat):Stmt:=PySem.Challenge.pw_calmring_k37_too_great.main.body.getD i (.Pass ⟨0,0,0,0⟩)
def tF(q:Str)(i k:Nat)(N:List Str):FS:=⟨q,top i,k,N,none⟩
def tM(c:Nat)(q:Str)(i j k:Nat)(N:List Str):FS:=⟨q,uV (top i) j,k,N,some c⟩
def mE(c:Nat)(n:Str)(i:Nat):Nat×Str×Nat:=(c,n,i)
def pt:PT:={
 F:=[tF "_law_near" 57 1 ["_law_size", "_law_span", "_law_states", "_law_k"],
  tM 0 "Rule.__init__" 27 0 4 ["self", "size", "span", "alone"],
  tM 4 "PassRule.__init__" 47 0 3 ["self", "size", "span"],
  tF "refuse_table" 55 2 ["table", "span", "number"],
  tM 5 "TableRule.__init__" 54 0 6 ["self", "size", "span", "word", "firsts", "others"],
  tF "_law_own" 58 3 ["_law_size", "_law_span", "_law_word", "_law_table"],
  tF "refuse_size" 41 2 ["size", "least"],
  tF "ordered_pairs" 42 2 ["size", "ways", "pairs", "way", "pair"],
  tF "neighbours" 43 2 ["pairs", "at", "lower", "higher"],
  tM 3 "Net.beside" 38 1 2 ["self", "at"],
  tF "far_from" 40 2 ["net", "root", "far", "steps", "at", "other"],
  tM 3 "Net.__init__" 38 0 3 ["self", "size", "ways"],
  tF "line" 39 1 ["size"],
  tF "refuse_part" 33 1 ["part"],
  tF "refuse_starts" 34 3 ["net", "starts", "top", "start"],
  tM 1 "LeastRule.__init__" 31 0 5 ["self", "net", "starts", "stretch", "blocks"],
  tM 2 "FarRule.__init__" 32 0 3 ["self", "net", "root", "starts"],
  tF "_law_rule" 59 1 ["_law_cell", "_law_kind", "_law_size", "_law_span"],
  tF "_law_due" 60 4 ["_law_size", "_law_span", "_law_alone", "_law_many", "_law_states", "_law_k"],
  tF "refuse_many" 17 2 ["rule", "many"],
  tF "states_of" 19 1 ["rule", "count", "at"],
  tF "refuse_great" 18 2 ["rule", "many"],
  tF "cells_of" 14 2 ["rule", "number", "cells", "left", "at"],
  tM 0 "Rule.due" 27 2 3 ["self", "cells", "at"],
  tM 1 "LeastRule.has_offer" 31 2 2 ["self", "cell"],
  tM 1 "LeastRule.due" 31 1 3 ["self", "cells", "at", "near", "offers"],
  tM 4 "PassRule.due" 47 1 3 ["self", "cells", "at"],
  tM 5 "TableRule.due" 54 1 3 ["self", "cells", "at", "left", "right", "entry"],
  tM 0 "Rule.movers" 27 3 2 ["self", "cells"],
  tM 0 "Rule.calm" 27 4 2 ["self", "cells"],
  tM 4 "PassRule.calm" 47 2 2 ["self", "cells"],
  tM 5 "TableRule.calm" 54 2 2 ["self", "cells"],
  tF "sets_of" 20 1 ["movers", "sets", "at"],
  tF "refuse_turn" 28 2 ["rule", "named", "at"],
  tM 0 "Rule.turned" 27 5 3 ["self", "cells", "named"],
  tF "number_of" 13 2 ["rule", "cells", "number", "cell"],
  tF "leaving" 21 3 ["rule", "calms", "ways", "number", "pairs", "named", "behind"],
  tF "stuck" 22 3 ["rule", "calms", "ways", "number", "pairs"],
  tF "ranks_found" 24 2 ["calms", "follows", "ranks", "grown", "number", "behind"],
  tF "round_or_ranks" 23 3 ["rule", "calms", "ways", "follows", "ranks"],
  tF "_law_told" 61 2 ["_law_rule_here", "_law_many", "_law_word", "_law_found", "e"],
  tF "_law_by_base" 62 2 ["_law_rule_here", "_law_many", "_law_refused"],
  tF "law" 63 1 ["_law_script", "_law_k", "_law_cell", "_law_rule_here", "_law_size", "_law_span", "_law_alone", "_law_ways", "_law_many", "_law_due_here"]]
 C:=["Rule", "LeastRule", "FarRule", "Net", "PassRule", "TableRule"]
 X:=["CalmError", "BadNet", "BadRule", "BadState", "BadTurn", "BadText", "TooGreat", "NoMeasure"]
 A:=["size", "pairs", "near", "top", "net", "starts", "stretch", "span", "alone", "calm_movers", "firsts", "others"]
 M:=[mE 3 "beside" 9,mE 1 "has_offer" 24,mE 2 "has_offer" 24,mE 0 "due" 23,mE 1 "due" 25,mE 2 "due" 25,mE 4 "due" 26,mE 5 "due" 27,mE 0 "movers" 28,mE 1 "movers" 28,mE 2 "movers" 28,mE 4 "movers" 28,mE 5 "movers" 28,mE 0 "calm" 29,mE 1 "calm" 29,mE 2 "calm" 29,mE 4 "calm" 30,mE 5 "calm" 31,mE 0 "turned" 34,mE 1 "turned" 34,mE 2 "turned" 34,mE 4 "turned" 34,mE 5 "turned" 34]
 Mk:=[(2,16),(3,11),(4,2),(0,1),(5,4)]
 U:=[(1,15),(0,1)]
 B:=["enumerate", "range", "min", "max", "len", "tuple", "sorted", "list", "reversed", "set", "isinstance"]
 I:=[("LEAST_RING_passing", 2),("GREATEST_RING_passing", 20),("LEAST_RING_tables", 2),("GREATEST_RING_tables", 8),("LEAST_SPAN", 2),("GREATEST_SPAN", 4),("GREATEST_NET", 10),("LEAST_NET", 1),("GREATEST_PART", 10),("MOST_STATES", 256),("MOST_AT_ONCE", 4)]
 KT:=[(some 6, "TooGreat", [false,false,false,false,false,false,true,false]),(some 0, "CalmError", [true,true,true,true,true,true,true,true]),(some 4, "BadTurn", [false,false,false,false,true,false,false,false]),(some 2, "BadRule", [false,false,true,false,false,false,false,false]),(some 1, "BadNet", [false,true,false,false,false,false,false,false]),(some 3, "BadState", [false,false,false,true,false,false,false,false]),(some 5, "BadText", [false,false,false,false,false,true,false,false]),(some 7, "NoMeasure", [false,false,false,false,false,false,false,true])]
 HT:=[(4,[false,false,false,false,true,false,false,false]),(6,[false,false,false,false,false,false,true,false]),(0,[true,true,true,true,true,true,true,true])] }
def pe:PE:=⟨[(tF "nexts" 15 3 ["rule", "cells", "many", "movers", "turns"],false),(tF "look" 16 2 ["rule", "many", "states", "calms", "ways", "found"],false)],[("CALM_MOVERS", [("none",(0)),("one",(1))])]⟩
theorem hA:pt.attOk:=⟨by decide +kernel,by decide +kernel⟩
abbrev T(K:PySem.W.Frag):Tb:=pt.T hA K
section
variable{P:Program}{w:World}{K:PySem.W.Frag}{mg:Str→Option Value}{base:Heap}(t:Ty pt pe w K mg)(hB:K.In base)
include t hB
theorem qS:OkF pt hA P w K mg base 1 0 oF:=okC 0 t.tx fun _ _ _ _ _ _ cx nd =>
 (ae (aZ nd (af))
 (ae (kY cx.po (di (sv 1) (af)) (ae (aZ nd (af))
 (ae (bJ cx.po cx.calm (cU rfl (t.tx.b 1) (aa (sv 0) ag)) (sgN nd) (ah (aZ nd (kd cx.calm rfl (t.tx.b 2) (aa (b7 (sv 2) (aO (sv 1) (af))) (aa (af) ag))))))
 (ae (aH (eh (sv 2) (af)) (ah (cQ rfl (Or.inl rfl))) az)
 (ah (aZ nd (aO (sv 1) (af))))))))
 (ah (cQ rfl (Or.inl rfl)))))
theorem kj:OkI pt hA P w K mg base 1 1 i8:=okI 1 t.tx fun _ _ _ _ _ _ cx nd =>
 (ae (sFld 0 t.tx cx (sv 1))
 (ae (sFld 7 t.tx cx (sv 2))
 (ah (sFld 8 t.tx cx (sv 3)))))
theorem Af:OkI pt hA P w K mg base 3 2 yp:=okI 2 t.tx fun _ _ _ _ _ _ cx nd =>
 (ae (aH (SW.st (b6 (di (sv 1) (bE rfl (t.tx.c 0))) (bZ (eh (sv 1) (bE rfl (t.tx.c 1)))))) (ah (bp 2 t.tx cx hB bj (aa (aD) ag))) az)
 (ae (aH (di (sv 2) (sv 1)) (ah (bp 2 t.tx cx hB bj (aa (aD) ag))) az)
 (ah (t7 0 t.tx (kj t hB) cx (aa (sv 1) (aa (sv 2) (aa (dr) ag)))))))
theorem vR:OkF pt hA P w K mg base 1 3 yk:=okC 3 t.tx fun _ _ _ _ _ _ cx nd =>
 (ae (aH (iA cx.hK cx.hu (dY cx.hK rfl (t.tx.b 4) (sv 0)) (b7 (b7 (sv 1) (sv 1)) (sv 1))) (ah (bp 2 t.tx cx hB bj (aa (aD) ag))) az)
 (ah (bJ cx.po cx.calm (dX cx.hK (sv 0)) (sgN nd) (ah (aH (SW.st (b6 (di (sv 2) (af)) (bZ (kX (sv 2) (sv 1))))) (ah (bp 2 t.tx cx hB bj (aa (aD) ag))) az)))))
theorem Ah:OkI pt hA P w K mg base 3 4 AU:=okI 4 t.tx fun _ _ _ _ _ _ cx nd =>
 (ae (aH (SW.st (b6 (di (sv 1) (bE rfl (t.tx.c 2))) (bZ (eh (sv 1) (bE rfl (t.tx.c 3)))))) (ah (bp 2 t.tx cx hB bj (aa (aD) ag))) az)
 (ae (aH (SW.st (b6 (di (sv 2) (bE rfl (t.tx.c 4))) (bZ (eh (sv 2) (bE rfl (t.tx.c 5)))))) (ah (bp 2 t.tx cx hB bj (aa (aD) ag))) az)
 (ae (aH (oZ rfl (t.gm 0) (t.gd 0) (sv 3)) (ah (bp 2 t.tx cx hB bj (aa (aD) ag))) az)
 (ae (bX (a6 t.tx (vR t hB) cx (aa (sv 4) (aa (sv 2) ag))))
 (ae (bX (a6 t.tx (vR t hB) cx (aa (sv 5) (aa (sv 2) ag))))
 (ae (sFld 9 t.tx cx (tZ rfl (t.gm 0) (t.gd 0) (sv 3) (fun _ _=>rfl)))
 (ae (sFld 10 t.tx cx (dJ cx.hK rfl (t.tx.b 5) df (sv 4)))
 (ae (sFld 11 t.tx cx (dJ cx.hK rfl (t.tx.b 5) df (sv 5)))
 (ah (t7 0 t.tx (kj t hB) cx (aa (sv 1) (aa (sv 2) (aa (dr) ag)))))))))))))
theorem xD:OkF pt hA P w K mg base 5 5 rZ:=okC 5 t.tx fun _ _ _ _ _ _ cx nd =>
 (ae (eK ["_law_place"] cx nd (bS rfl (t.tx.b 1) (aa (b7 (b7 (sv 1) (sv 1)) (sv 1)) ag)) cY (fun _ _ _ _ nd=>⟨(sgN nd),be,(bF (sv 1) (b7 (sv 0) (sv 0)))⟩))
 (ah (aI (qp 5 t.tx (Ah t hB) cx (aa (sv 0) (aa (sv 1) (aa (sv 2) (aa (sv 3) (aa (sv 3) ag)))))))))
theorem vQ:OkF pt hA P w K mg base 1 6 yi:=okC 6 t.tx fun _ _ _ _ _ _ cx nd =>
 (ah (aH (SW.st (b6 (di (sv 0) (sv 1)) (bZ (eh (sv 0) (bE rfl (t.tx.c 6)))))) (ah (bp 1 t.tx cx hB bj (aa (aD) ag))) az))
theorem Ae:OkF pt hA P w K mg base 1 7 AT:=okC 7 t.tx fun _ _ _ _ _ _ cx nd =>
 (ae (aZ nd (gC ag))
 (ae (bJ cx.po cx.calm (dX cx.hK (sv 1)) (sgN nd) (ae (aZ nd (ic (aa (nT cx.hK cx.calm rfl (t.tx.b 2) (sv 3)) (aa (ke cx.hK cx.calm rfl (t.tx.b 3) (sv 3)) ag))))
 (ae (aH (SW.st (b6 (di (bQ cx (sv 4) (af) (fun _ _=>rfl)) (af)) (bZ (kX (bQ cx (sv 4) (af) (fun _ _=>rfl)) (sv 0))))) (ah (bp 1 t.tx cx hB bj (aa (aD) ag))) az)
 (ae (aH (cN cx.hK cx.hu (bQ cx (sv 4) (af) (fun _ _=>rfl)) (bQ cx (sv 4) (af) (fun _ _=>rfl))) (ah (bp 1 t.tx cx hB bj (aa (aD) ag))) az)
 (ae (aH (qg cx.hK cx.hu2 (sv 4) (sv 2)) (ah (bp 1 t.tx cx hB bj (aa (aD) ag))) az)
 (ah (wE cx (sv 4))))))))
 (ah (aI (jG cx.hK rfl (t.tx.b 6) (sv 2))))))
theorem xK:OkF pt hA P w K mg base 1 8 v4:=okC 8 t.tx fun _ _ _ _ _ _ cx nd =>
 (ae (eK ["pair"] cx nd (bK cx.hK (sv 0)) cY (fun _ _ _ _ nd=>⟨(sgN nd),(il (cN cx.comp.hK cx.comp.hu (bQ cx.comp (sv 1) (af) (fun _ _=>rfl)) (sv 0))),(bQ cx.comp (sv 1) (af) (fun _ _=>rfl))⟩))
 (ae (eK ["pair"] cx nd (bK cx.hK (sv 0)) cY (fun _ _ _ _ nd=>⟨(sgN nd),(il (cN cx.comp.hK cx.comp.hu (bQ cx.comp (sv 1) (af) (fun _ _=>rfl)) (sv 0))),(bQ cx.comp (sv 1) (af) (fun _ _=>rfl))⟩))
 (ah (aI (jG cx.hK rfl (t.tx.b 6) (aO (sv 2) (sv 3)))))))
theorem z5:OkF pt hA P w K mg base 1 9 AR:=okC 9 t.tx fun _ _ _ _ _ _ cx nd =>
 (ah (aI (tX cx.hK rfl (t.tx.b 7) oO (bQ cx (aT 2 t.tx cx (sv 0)) (sv 1) (fun _ _=>rfl)))))
omit t hB in
theorem er{X:Cx}(t:Ty pt pe X.w X.K X.mg)(hB:X.K.In X.base):jA X (T X.K) 1 "beside" ["self", "at"] [] d_:=fun c _ hc e=>match c,hc,e with
 | 3,_,e=>dm 0 t.tx (z5 t hB) e
 | 0,_,e=>nomatch e
 | 1,_,e=>nomatch e
 | 2,_,e=>nomatch e
 | 4,_,e=>nomatch e
 | 5,_,e=>nomatch e
 | _+6,h,_=>dno (n:=6) h
theorem xF:OkF pt hA P w K mg base 2 10 vZ:=okC 10 t.tx fun _ _ _ _ _ _ cx nd =>
 (ae (eK ["at"] cx nd (bS rfl (t.tx.b 1) (aa (aT 0 t.tx cx (sv 0)) ag)) cY (fun _ _ _ _ nd=>⟨(sgN nd),be,(aT 0 t.tx cx.comp (sv 0))⟩))
 (ae (iB rfl (Or.inl rfl) (sv 1) (af))
 (ae (bJ cx.po cx.calm (cU rfl (t.tx.b 1) (aa (aT 0 t.tx cx (sv 0)) ag)) (sgN nd) (ah (bJ cx.po cx.calm (cU rfl (t.tx.b 1) (aa (aT 0 t.tx cx (sv 0)) ag)) (sgN nd) (ah (aH (cN cx.hK cx.hu (bQ cx (sv 2) (sv 4) (fun _ _=>rfl)) (sv 3)) (ah (bJ cx.po cx.calm (dX cx.hK (iF t.tx (er t hB) cx (sv 0) (aa (sv 4) ag))) (sgN nd) (ah (iB rfl (Or.inl rfl) (sv 5) (kd cx.calm rfl (t.tx.b 2) (aa (bQ cx (sv 2) (sv 5) (fun _ _=>rfl)) (aa (aO (sv 3) (af)) ag))))))) az)))))
 (ah (cQ rfl (Or.inl rfl))))))
theorem xJ:OkI pt hA P w K mg base 3 11 v3:=okI 11 t.tx fun _ _ _ _ _ _ cx nd =>
 (ae (bX (a6 t.tx (vQ t hB) cx (aa (sv 1) (aa (bE rfl (t.tx.c 7)) ag))))
 (ae (sFld 0 t.tx cx (sv 1))
 (ae (sFld 1 t.tx cx (dJ cx.hK rfl (t.tx.b 5) df (a6 t.tx (Ae t hB) cx (aa (sv 1) (aa (sv 2) ag)))))
 (ae (sFld 2 t.tx cx (dJ cx.hK rfl (t.tx.b 5) df (el ["at"] cx (bS rfl (t.tx.b 1) (aa (sv 1) ag)) cY (fun _ _ _ _ nd=>⟨(sgN nd),be,(dJ cx.comp.hK rfl (t.tx.b 5) df (a6 t.tx (xK t hB) cx.comp (aa (aT 1 t.tx cx.comp (sv 0)) (aa (sv 1) ag))))⟩))))
 (ah (aH (cN cx.hK cx.hu (ke cx.hK cx.calm rfl (t.tx.b 3) (a6 t.tx (xF t hB) cx (aa (sv 0) (aa (af) ag)))) (sv 1)) (ah (bp 1 t.tx cx hB bj (aa (aD) ag))) az))))))
theorem xw:OkF pt hA P w K mg base 5 12 oB:=okC 12 t.tx fun _ _ _ _ _ _ cx nd =>
 (ae (bX (a6 t.tx (vQ t hB) cx (aa (sv 0) (aa (bE rfl (t.tx.c 7)) ag))))
 (ah (aI (qp 3 t.tx (xJ t hB) cx (aa (sv 0) (aa (el ["at"] cx (bS rfl (t.tx.b 1) (aa (gB (sv 0) (af)) ag)) cY (fun _ _ _ _ nd=>⟨(sgN nd),be,(ic (aa (sv 0) (aa (aO (sv 0) (af)) ag)))⟩)) ag))))))
theorem vO:OkF pt hA P w K mg base 1 13 ye:=okC 13 t.tx fun _ _ _ _ _ _ cx nd =>
 (ah (aH (SW.st (b6 (di (sv 0) (af)) (bZ (eh (sv 0) (bE rfl (t.tx.c 8)))))) (ah (bp 2 t.tx cx hB bj (aa (aD) ag))) az))
theorem Ab:OkF pt hA P w K mg base 1 14 AS:=okC 14 t.tx fun _ _ _ _ _ _ cx nd =>
 (ae (aH (iA cx.hK cx.hu (dY cx.hK rfl (t.tx.b 4) (sv 1)) (aT 0 t.tx cx (sv 0))) (ah (bp 2 t.tx cx hB bj (aa (aD) ag))) az)
 (ah (bJ cx.po cx.calm (dX cx.hK (sv 1)) (sgN nd) (ah (aH (SW.st (dF (nM (sv 3) (cI)) (cB (SW.st (b6 (di (sv 3) (af)) (bZ (kX (sv 3) (sv 2)))))))) (ah (bp 2 t.tx cx hB bj (aa (aD) ag))) az)))))
theorem Aj:OkI pt hA P w K mg base 3 15 AV:=okI 15 t.tx fun _ _ _ _ _ _ cx nd =>
 (ae (bX (a6 t.tx (vO t hB) cx (aa (sv 3) ag)))
 (ae (bX (a6 t.tx (vO t hB) cx (aa (sv 4) ag)))
 (ae (sFld 3 t.tx cx (b7 (sv 3) (sv 4)))
 (ae (bX (a6 t.tx (Ab t hB) cx (aa (sv 1) (aa (sv 2) (aa (aT 3 t.tx cx (sv 0)) ag)))))
 (dW (i:=1) (ae (sFld 4 t.tx cx (sv 1))
 (ae (sFld 5 t.tx cx (dJ cx.hK rfl (t.tx.b 5) df (sv 2)))
 (ae (sFld 6 t.tx cx (sv 3))
 (ah (t7 0 t.tx (kj t hB) cx (aa (aT 0 t.tx cx (sv 1)) (aa (aO (aT 3 t.tx cx (sv 0)) (af)) (aa (dr) ag)))))))))))))
theorem z9:OkI pt hA P w K mg base 5 16 uZ:=okI 16 t.tx fun _ _ _ _ _ _ cx nd =>
 (ae (aH (SW.st (b6 (di (sv 2) (af)) (bZ (kX (sv 2) (aT 0 t.tx cx (sv 1)))))) (ah (bp 2 t.tx cx hB bj (aa (aD) ag))) az)
 (ae (eK ["at"] cx nd (bS rfl (t.tx.b 1) (aa (aT 0 t.tx cx (sv 1)) ag)) cY (fun _ _ _ _ nd=>⟨(sgN nd),be,(eJ (cN cx.comp.hK cx.comp.hu (sv 1) (sv 0)) (af) (cI))⟩))
 (dW (i:=3) (dW (i:=1) (ah (t7 1 t.tx (Aj t hB) cx (aa (sv 1) (aa (sv 3) (aa (aT 0 t.tx cx (sv 1)) (aa (af) ag))))))))))
theorem xI:OkF pt hA P w K mg base 7 17 sd:=okC 17 t.tx fun _ _ _ _ _ _ cx nd =>
 (ae (aZ nd (aN (sv 0) (af)))
 (ae (aZ nd (bF (sv 0) (af)))
 (ae (aH (cN cx.hK cx.hu (sv 1) (af)) (ae (aZ nd (aO (af) (aN (sv 0) (af))))
 (ae (aH (cN cx.hK cx.hu (aN (bF (sv 0) (af)) (af)) (af)) (ah (aZ nd (aO (af) (aN (sv 0) (af))))) az)
 (ae (aZ nd (nU cx.calm rfl (t.tx.b 3) (aa (sv 2) (aa (gB (aO (a6 t.tx (qS t hB) cx (aa (sv 2) ag)) (aN (bF (sv 0) (af)) (af))) (af)) ag))))
 (ae (aH (cN cx.hK cx.hu (aN (bF (sv 0) (af)) (af)) (af)) (ah (aZ nd (aO (sv 3) (aN (bF (sv 0) (af)) (ql (af) (af)))))) az)
 (ah (aI (ic (aa (qp 4 t.tx (Af t hB) cx (aa (sv 2) (aa (sv 3) ag))) (aa (sv 2) (aa (sv 3) (aa (dr) ag))))))))))) az)
 (ae (aH (cN cx.hK cx.hu (sv 1) (af)) (ae (aZ nd (aO (af) (aN (sv 0) (af))))
 (ae (aZ nd (aO (af) (aN (bF (sv 0) (af)) (af))))
 (ah (aI (ic (aa (a6 t.tx (xD t hB) cx (aa (sv 2) (aa (sv 3) (aa (bQ cx (gC (aa (aD) (aa (aD) ag))) (aN (bF (sv 0) (af)) (af)) (fun _ _=>rfl)) ag)))) (aa (sv 2) (aa (sv 3) (aa (dr) ag))))))))) az)
 (ae (aH (cN cx.hK cx.hu (sv 1) (af)) (ae (aZ nd (nV cx.hK (gC (aa (aO (af) (aN (bF (sv 0) (af)) (af))) (aa (aO (af) (aN (bF (sv 0) (af)) (af))) (aa (aO (af) (aN (bF (sv 0) (af)) (af))) (aa (af) ag))))) (aN (sv 0) (af)) (fun _ _=>rfl)))
 (ae (aZ nd (nV cx.hK (gC (aa (af) (aa (af) (aa (af) (aa (nU cx.calm rfl (t.tx.b 3) (aa (af) (aa (gB (aO (a6 t.tx (qS t hB) cx (aa (sv 2) ag)) (aN (bF (sv 0) (af)) (af))) (af)) ag))) (aa (aO (af) (aN (bF (sv 0) (af)) (ql (af) (af)))) ag)))))) (aN (bF (sv 0) (af)) (af)) (fun _ _=>rfl)))
 (ah (aI (ic (aa (qp 0 t.tx (kj t hB) cx (aa (sv 2) (aa (sv 3) (aa (fP cx.hK cx.hu (aN (bF (sv 0) (af)) (af)) (af)) ag)))) (aa (sv 2) (aa (sv 3) (aa (fP cx.hK cx.hu (aN (bF (sv 0) (af)) (af)) (af)) ag))))))))) az)
 (ae (aZ nd (aO (af) (aN (sv 0) (af))))
 (ae (aH (cN cx.hK cx.hu (aN (bF (sv 0) (af)) (af)) (af)) (ah (aZ nd (aO (af) (aN (sv 0) (af))))) az)
 (ah (aI (ic (aa (qp 2 t.tx (z9 t hB) cx (aa (a6 t.tx (xw t hB) cx (aa (sv 2) ag)) (aa (aN (bF (sv 0) (af)) (sv 2)) ag))) (aa (sv 2) (aa (aO (sv 2) (af)) (aa (dr) ag))))))))))))))
theorem xE:OkF pt hA P w K mg base 1 18 r6:=okC 18 t.tx fun _ _ _ _ _ _ cx nd =>
 (ae (aH (SW.st (dF (aF cx.hK (sv 3)) (cB (aF cx.hK (sv 2))))) (ah (aI (aD))) az)
 (ae (aZ nd (af))
 (ae (bJ cx.po cx.calm (cU rfl (t.tx.b 1) (aa (sv 0) ag)) (sgN nd) (ah (aZ nd (kd cx.calm rfl (t.tx.b 2) (aa (b7 (sv 4) (sv 1)) (aa (af) ag))))))
 (ae (aH (SW.st (b6 (eh (sv 4) (af)) (bZ (SW.st (dF (aF cx.hK (sv 3)) (cB (eh (sv 0) (af)))))))) (ah (aI (aD))) az)
 (ah (aI (aD)))))))
theorem vP:OkF pt hA P w K mg base 1 19 pP:=okC 19 t.tx fun _ _ _ _ _ _ cx nd =>
 (ah (aH (SW.st (dF (aF cx.hK (sv 1)) (cB (aF cx.hK (aT 8 t.tx cx (sv 0)))))) (ah (bp 4 t.tx cx hB bj (aa (aD) ag))) az))
theorem qT:OkF pt hA P w K mg base 1 20 jU:=okC 20 t.tx fun _ _ _ _ _ _ cx nd =>
 (ae (aZ nd (af))
 (ae (bJ cx.po cx.calm (cU rfl (t.tx.b 1) (aa (aT 0 t.tx cx (sv 0)) ag)) (sgN nd) (ae (aZ nd (b7 (sv 1) (aT 7 t.tx cx (sv 0))))
 (ah (aH (eh (sv 1) (bE rfl (t.tx.c 9))) (ah (qi)) az))))
 (ah (cQ rfl (Or.inl rfl)))))
theorem Aa:OkF pt hA P w K mg base 2 21 u7:=okC 21 t.tx fun _ _ _ _ _ _ cx nd =>
 (ae (aH (eh (a6 t.tx (qT t hB) cx (aa (sv 0) ag)) (bE rfl (t.tx.c 9))) (ah (bp 6 t.tx cx hB bj (aa (aD) ag))) az)
 (ah (aH (SW.st (dF (aF cx.hK (sv 1)) (cB (eh (aT 0 t.tx cx (sv 0)) (bE rfl (t.tx.c 10)))))) (ah (bp 6 t.tx cx hB bj (aa (aD) ag))) az)))
theorem ki:OkF pt hA P w K mg base 1 22 i6:=okC 22 t.tx fun _ _ _ _ _ _ cx nd =>
 (ae (aZ nd (gC ag))
 (ae (aZ nd (sv 1))
 (ae (bJ cx.po cx.calm (cU rfl (t.tx.b 1) (aa (aT 0 t.tx cx (sv 0)) ag)) (sgN nd) (ae (wE cx (aN (sv 3) (aT 7 t.tx cx (sv 0))))
 (ah (aZ nd (bF (sv 3) (aT 7 t.tx cx (sv 0)))))))
 (ah (aI (mF cx.hK cx.calm rfl (t.tx.b 7) rfl (t.tx.b 8) (sv 2)))))))
theorem xG:OkF pt hA P w K mg base 1 23 r9:=okC 23 t.tx fun _ _ _ _ _ _ cx nd =>
 (ah (aI (bQ cx (sv 1) (sv 2) (fun _ _=>rfl))))
theorem vT:OkF pt hA P w K mg base 1 24 yt:=okC 24 t.tx fun _ _ _ _ _ _ cx nd =>
 (ah (aI ((wD (vE cx.hK cx.hu (sv 1) (aT 3 t.tx cx (sv 0))) (wx (vE cx.hK cx.hu (aN (aO (sv 1) (af)) (aT 6 t.tx cx (sv 0))) (af)))))))
omit t hB in
theorem eP{X:Cx}(t:Ty pt pe X.w X.K X.mg)(hB:X.K.In X.base):jA X (T X.K) 1 "has_offer" ["self", "cell"] [] dE:=fun c _ hc e=>match c,hc,e with
 | 1,_,e=>dm 1 t.tx (vT t hB) e
 | 2,_,e=>dm 2 t.tx (vT t hB) e
 | 0,_,e=>nomatch e
 | 3,_,e=>nomatch e
 | 4,_,e=>nomatch e
 | 5,_,e=>nomatch e
 | _+6,h,_=>dno (n:=6) h
theorem vS:OkF pt hA P w K mg base 2 25 yo:=okC 25 t.tx fun _ _ _ _ _ _ cx nd =>
 (ae (eK ["other"] cx nd (bK cx.hK (iF t.tx (er t hB) cx (aT 4 t.tx cx (sv 0)) (aa (sv 2) ag))) cY (fun _ _ _ _ nd=>⟨(sgN nd),be,(bQ cx.comp (sv 0) (sv 1) (fun _ _=>rfl))⟩))
 (ae (eK ["cell"] cx nd (bK cx.hK (sv 3)) cY (fun _ _ _ _ nd=>⟨(sgN nd),(il (aF cx.comp.hK (iF t.tx (eP t hB) cx.comp (sv 0) (aa (sv 1) ag)))),(aO (sv 1) (af))⟩))
 (ae (aH (nM (bQ cx (aT 5 t.tx cx (sv 0)) (sv 2) (fun _ _=>rfl)) (cI)) (ah (wE cx (bQ cx (aT 5 t.tx cx (sv 0)) (sv 2) (fun _ _=>rfl)))) az)
 (ah (aI (nT cx.hK cx.calm rfl (t.tx.b 2) (aO (sv 4) (gC (aa (aT 3 t.tx cx (sv 0)) ag)))))))))
theorem z_:OkF pt hA P w K mg base 1 26 yj:=okC 26 t.tx fun _ _ _ _ _ _ cx nd =>
 (ae (aH (iA cx.hK cx.hu (sv 2) (af)) (ah (aI (bQ cx (sv 1) (gB (sv 2) (af)) (fun _ _=>rfl)))) az)
 (ae (aH (cN cx.hK cx.hu (bQ cx (sv 1) (af) (fun _ _=>rfl)) (bQ cx (sv 1) (gB (aT 0 t.tx cx (sv 0)) (af)) (fun _ _=>rfl))) (ah (aI (aN (aO (bQ cx (sv 1) (af) (fun _ _=>rfl)) (af)) (aT 7 t.tx cx (sv 0))))) az)
 (ah (aI (bQ cx (sv 1) (af) (fun _ _=>rfl))))))
theorem Ad:OkF pt hA P w K mg base 1 27 yn:=okC 27 t.tx fun _ _ _ _ _ _ cx nd =>
 (ae (aZ nd (bQ cx (sv 1) (aN (gB (sv 2) (af)) (aT 0 t.tx cx (sv 0))) (fun _ _=>rfl)))
 (ae (aZ nd (bQ cx (sv 1) (aN (aO (sv 2) (af)) (aT 0 t.tx cx (sv 0))) (fun _ _=>rfl)))
 (ae (aZ nd (aO (aO (b7 (b7 (bQ cx (sv 1) (sv 2) (fun _ _=>rfl)) (aT 7 t.tx cx (sv 0))) (aT 7 t.tx cx (sv 0))) (b7 (sv 3) (aT 7 t.tx cx (sv 0)))) (sv 4)))
 (ah (aI (eJ (cN cx.hK cx.hu (sv 2) (af)) (bQ cx (aT 10 t.tx cx (sv 0)) (sv 5) (fun _ _=>rfl)) (bQ cx (aT 11 t.tx cx (sv 0)) (sv 5) (fun _ _=>rfl))))))))
omit t hB in
theorem cF{X:Cx}(t:Ty pt pe X.w X.K X.mg)(hB:X.K.In X.base):jA X (T X.K) 2 "due" ["self", "cells", "at"] [] aX:=fun c _ hc e=>match c,hc,e with
 | 0,_,e=>dm 3 t.tx (xG t hB) e
 | 1,_,e=>dm 4 t.tx (vS t hB) e
 | 2,_,e=>dm 5 t.tx (vS t hB) e
 | 4,_,e=>dm 6 t.tx (z_ t hB) e
 | 5,_,e=>dm 7 t.tx (Ad t hB) e
 | 3,_,e=>nomatch e
 | _+6,h,_=>dno (n:=6) h
theorem lv:OkF pt hA P w K mg base 3 28 lQ:=okC 28 t.tx fun _ _ _ _ _ _ cx nd =>
 (ah (aI (el ["at"] cx (bS rfl (t.tx.b 1) (aa (aT 0 t.tx cx (sv 0)) ag)) cY (fun _ _ _ _ nd=>⟨(sgN nd),(il (iA cx.comp.hK cx.comp.hu (iF t.tx (cF t hB) cx.comp (sv 0) (aa (sv 1) (aa (sv 2) ag))) (bQ cx.comp (sv 1) (sv 2) (fun _ _=>rfl)))),(sv 2)⟩))))
omit t hB in
theorem a_{X:Cx}(t:Ty pt pe X.w X.K X.mg)(hB:X.K.In X.base):jA X (T X.K) 3 "movers" ["self", "cells"] [] au:=fun c _ hc e=>match c,hc,e with
 | 0,_,e=>dm 8 t.tx (lv t hB) e
 | 1,_,e=>dm 9 t.tx (lv t hB) e
 | 2,_,e=>dm 10 t.tx (lv t hB) e
 | 4,_,e=>dm 11 t.tx (lv t hB) e
 | 5,_,e=>dm 12 t.tx (lv t hB) e
 | 3,_,e=>nomatch e
 | _+6,h,_=>dno (n:=6) h
theorem mO:OkF pt hA P w K mg base 4 29 lR:=okC 29 t.tx fun _ _ _ _ _ _ cx nd =>
 (ah (aI (fP cx.hK cx.hu (dY cx.hK rfl (t.tx.b 4) (iF t.tx (a_ t hB) cx (sv 0) (aa (sv 1) ag))) (af))))
theorem Ac:OkF pt hA P w K mg base 4 30 ym:=okC 30 t.tx fun _ _ _ _ _ _ cx nd =>
 (ah (aI (fP cx.hK cx.hu (dY cx.hK rfl (t.tx.b 4) (iF t.tx (a_ t hB) cx (sv 0) (aa (sv 1) ag))) (af))))
theorem Ag:OkF pt hA P w K mg base 4 31 yq:=okC 31 t.tx fun _ _ _ _ _ _ cx nd =>
 (ah (aI (fP cx.hK cx.hu (dY cx.hK rfl (t.tx.b 4) (iF t.tx (a_ t hB) cx (sv 0) (aa (sv 1) ag))) (aT 9 t.tx cx (sv 0)))))
omit t hB in
theorem ez{X:Cx}(t:Ty pt pe X.w X.K X.mg)(hB:X.K.In X.base):jA X (T X.K) 4 "calm" ["self", "cells"] [] aS:=fun c _ hc e=>match c,hc,e with
 | 0,_,e=>dm 13 t.tx (mO t hB) e
 | 1,_,e=>dm 14 t.tx (mO t hB) e
 | 2,_,e=>dm 15 t.tx (mO t hB) e
 | 4,_,e=>dm 16 t.tx (Ac t hB) e
 | 5,_,e=>dm 17 t.tx (Ag t hB) e
 | 3,_,e=>nomatch e
 | _+6,h,_=>dno (n:=6) h
theorem xB:OkF pt hA P w K mg base 1 32 oE:=okC 32 t.tx fun _ _ _ _ _ _ cx nd =>
 (ae (aZ nd (gC (aa (gC ag) ag)))
 (ae (bJ cx.po cx.calm (dX cx.hK (sv 0)) (sgN nd) (dW (i:=1) (ah (aZ nd (aO (sv 1) (el ["named"] cx (bK cx.hK (sv 1)) cY (fun _ _ _ _ nd=>⟨(sgN nd),be,(aO (sv 1) (gC (aa (sv 0) ag)))⟩)))))))
 (dW (i:=1) (ah (aI (k7 cx.hK (sv 1) (nP (af)) nQ))))))
theorem z6:OkF pt hA P w K mg base 1 33 yf:=okC 33 t.tx fun _ _ _ _ _ _ cx nd =>
 (ae (aH (SW.st (dF (aF cx.hK (aT 8 t.tx cx (sv 0))) (cB (eh (dY cx.hK rfl (t.tx.b 4) (sv 1)) (af))))) (ah (bp 4 t.tx cx hB bj (aa (aD) ag))) az)
 (ae (bJ cx.po cx.calm (dX cx.hK (sv 1)) (sgN nd) (ah (aH (SW.st (b6 (di (sv 2) (af)) (bZ (kX (sv 2) (aT 0 t.tx cx (sv 0)))))) (ah (bp 4 t.tx cx hB bj (aa (aD) ag))) az)))
 (ah (aH (iA cx.hK cx.hu (o6 cx.hK cx.calm rfl (t.tx.b 4) rfl (t.tx.b 9) (sv 1)) (dY cx.hK rfl (t.tx.b 4) (sv 1))) (ah (bp 4 t.tx cx hB bj (aa (aD) ag))) az))))
theorem lu:OkF pt hA P w K mg base 3 34 lP:=okC 34 t.tx fun _ _ _ _ _ _ cx nd =>
 (ae (bX (a6 t.tx (z6 t hB) cx (aa (sv 0) (aa (sv 2) ag))))
 (ah (aI (el ["at"] cx (bS rfl (t.tx.b 1) (aa (aT 0 t.tx cx (sv 0)) ag)) cY (fun _ _ _ _ nd=>⟨(sgN nd),be,(eJ (qg cx.comp.hK cx.comp.hu2 (sv 3) (sv 0)) (iF t.tx (cF t hB) cx.comp (sv 1) (aa (sv 2) (aa (sv 3) ag))) (bQ cx.comp (sv 2) (sv 3) (fun _ _=>rfl)))⟩)))))
omit t hB in
theorem dN{X:Cx}(t:Ty pt pe X.w X.K X.mg)(hB:X.K.In X.base):jA X (T X.K) 3 "turned" ["self", "cells", "named"] [] aU:=fun c _ hc e=>match c,hc,e with
 | 0,_,e=>dm 18 t.tx (lu t hB) e
 | 1,_,e=>dm 19 t.tx (lu t hB) e
 | 2,_,e=>dm 20 t.tx (lu t hB) e
 | 4,_,e=>dm 21 t.tx (lu t hB) e
 | 5,_,e=>dm 22 t.tx (lu t hB) e
 | 3,_,e=>nomatch e
 | _+6,h,_=>dno (n:=6) h
theorem xA:OkD pt hA P w K mg base 4 (pe.at 0).1 oC:=okD (t.d 0) fun _ _ _ _ _ _ cx nd =>
 (ae (bX (a6 t.tx (vP t hB) cx (aa (sv 0) (aa (sv 2) ag))))
 (ae (aZ nd (iF t.tx (a_ t hB) cx (sv 0) (aa (sv 1) ag)))
 (ae (aZ nd (eJ (aF cx.hK (sv 2)) (a6 t.tx (xB t hB) cx (aa (sv 3) ag)) (el ["at"] cx (bK cx.hK (sv 3)) cY (fun _ _ _ _ nd=>⟨(sgN nd),be,(gC (aa (sv 0) ag))⟩))))
 (dW (i:=4) (ah (aI (el ["named"] cx (bK cx.hK (sv 4)) cY (fun _ _ _ _ nd=>⟨(sgN nd),be,(ic (aa (sv 2) (aa (iF t.tx (dN t hB) cx.comp (sv 0) (aa (sv 1) (aa (sv 2) ag))) ag)))⟩))))))))
theorem qU:OkF pt hA P w K mg base 1 35 jV:=okC 35 t.tx fun _ _ _ _ _ _ cx nd =>
 (ae (aZ nd (af))
 (ae (bJ cx.po cx.calm (dX cx.hK (sv 1)) (sgN nd) (ah (aZ nd (aO (b7 (sv 2) (aT 7 t.tx cx (sv 0))) (sv 3)))))
 (ah (cQ rfl (Or.inl rfl)))))
theorem xC:OkF pt hA P w K mg base 2 36 rY:=okC 36 t.tx fun _ _ _ _ _ _ cx nd =>
 (ae (bJ cx.po cx.calm (fN cx.hK rfl (t.tx.b 0) (sv 2)) (gA cx.hK cx.calm (bv nd rfl (Or.inl rfl) (bv nd rfl (Or.inl rfl) eV))) (ah (bJ cx.po cx.calm (dX cx.hK (sv 4)) (gA cx.hK cx.calm (bv nd rfl (Or.inl rfl) (bv nd rfl (Or.inl rfl) eV))) (ah (aH (SW.st (dF (aF cx.hK (bQ cx (sv 1) (sv 3) (fun _ _=>rfl))) (cB (gz (aF cx.hK (bQ cx (sv 1) (a6 t.tx (qU t hB) cx (aa (sv 0) (aa (sv 6) ag))) (fun _ _=>rfl))))))) (ah (aI (ic (aa (aD) (aa (a6 t.tx (ki t hB) cx (aa (sv 0) (aa (sv 3) ag))) (aa (sv 5) ag)))))) az)))))
 (ah (aI (cI))))
theorem xy:OkF pt hA P w K mg base 2 37 rX:=okC 37 t.tx fun _ _ _ _ _ _ cx nd =>
 (ae (bJ cx.po cx.calm (fN cx.hK rfl (t.tx.b 0) (sv 2)) (gA cx.hK cx.calm (bv nd rfl (Or.inl rfl) (bv nd rfl (Or.inl rfl) eV))) (ah (aH (SW.st (dF (gz (aF cx.hK (bQ cx (sv 1) (sv 3) (fun _ _=>rfl)))) (cB (cN cx.hK cx.hu (dY cx.hK rfl (t.tx.b 4) (sv 4)) (af))))) (ah (aI (ic (aa (aD) (aa (a6 t.tx (ki t hB) cx (aa (sv 0) (aa (sv 3) ag))) ag))))) az)))
 (ah (aI (cI))))
theorem z8:OkF pt hA P w K mg base 1 38 yh:=okC 38 t.tx fun _ _ _ _ _ _ cx nd =>
 (ae (aZ nd (el ["calm"] cx (bK cx.hK (sv 0)) cY (fun _ _ _ _ nd=>⟨(sgN nd),be,(eJ (aF cx.comp.hK (sv 0)) (af) (cI))⟩)))
 (ae (aZ nd (dr))
 (ae (kY cx.po (aF cx.hK (sv 3)) (ae (aZ nd (dr))
 (ah (bJ cx.po cx.calm (fN cx.hK rfl (t.tx.b 0) (sv 1)) (gA cx.hK cx.calm (bv nd rfl (Or.inl rfl) (bv nd rfl (Or.inl rfl) eV))) (ah (aH (SW.st (dF (mr (bQ cx (sv 2) (sv 4) (fun _ _=>rfl)) (cI)) (cB (kW cx.hK cx.hu2 (cI) (el ["other"] cx (bK cx.hK (sv 5)) cY (fun _ _ _ _ nd=>⟨(sgN nd),be,(bQ cx.comp (sv 0) (sv 1) (fun _ _=>rfl))⟩)))))) (ae (iB rfl (Or.inr (Or.inl rfl)) (sv 4) (aO (af) (ke cx.hK cx.calm rfl (t.tx.b 3) (el ["other"] cx (bK cx.hK (sv 5)) cY (fun _ _ _ _ nd=>⟨(sgN nd),be,(bQ cx.comp (sv 0) (sv 1) (fun _ _=>rfl))⟩)))))
 (ah (aZ nd (dr)))) az))))))
 (ah (cQ rfl (Or.inr (Or.inl rfl)))))))
theorem Ai:OkF pt hA P w K mg base 2 39 yr:=okC 39 t.tx fun _ _ _ _ _ _ cx nd =>
 (ae (eK ["pairs"] cx nd (bK cx.hK (sv 2)) cY (fun _ _ _ _ nd=>⟨(sgN nd),be,(el ["pair"] cx.comp (bK cx.comp.hK (sv 1)) cY (fun _ _ _ _ nd=>⟨(sgN nd),be,(a6 t.tx (qU t hB) cx.comp.comp (aa (sv 0) (aa (bQ cx.comp.comp (sv 1) (af) (fun _ _=>rfl)) ag)))⟩))⟩))
 (ae (aZ nd (a6 t.tx (z8 t hB) cx (aa (sv 1) (aa (sv 3) ag))))
 (ae (aH (qg cx.hK cx.hu2 (cI) (sv 4)) (ah (aI (ic (aa (aD) (aa (el ["number"] cx (bK cx.hK (wu)) cY (fun _ _ _ _ nd=>⟨(sgN nd),be,(a6 t.tx (ki t hB) cx.comp (aa (sv 0) (aa (sv 1) ag)))⟩)) ag))))) az)
 (dW (i:=4) (ah (aI (ic (aa (aD) (aa (sv 4) ag)))))))))
theorem qR:OkD pt hA P w K mg base 5 (pe.at 1).1 gq:=okD (t.d 1) fun _ _ _ _ _ _ cx nd =>
 (ae (bX (a6 t.tx (vP t hB) cx (aa (sv 0) (aa (sv 1) ag))))
 (ae (bX (a6 t.tx (Aa t hB) cx (aa (sv 0) (aa (sv 1) ag))))
 (ae (eK ["number"] cx nd (bS rfl (t.tx.b 1) (aa (a6 t.tx (qT t hB) cx (aa (sv 0) ag)) ag)) cY (fun _ _ _ _ nd=>⟨(sgN nd),be,(a6 t.tx (ki t hB) cx.comp (aa (sv 0) (aa (sv 1) ag)))⟩))
 (ae (eK ["cells"] cx nd (bK cx.hK (sv 2)) cY (fun _ _ _ _ nd=>⟨(sgN nd),be,(iF t.tx (ez t hB) cx.comp (sv 0) (aa (sv 1) ag))⟩))
 (ae (eK ["cells"] cx nd (bK cx.hK (sv 2)) cY (fun _ _ _ _ nd=>⟨(sgN nd),be,(mG (t.d 0) (xA t hB) cx.comp (aa (sv 0) (aa (sv 2) (aa (sv 1) ag))))⟩))
 (dW (i:=4) (ae (aZ nd (a6 t.tx (xC t hB) cx (aa (sv 0) (aa (sv 3) (aa (sv 4) ag)))))
 (ae (aH (mr (sv 5) (cI)) (ah (aZ nd (a6 t.tx (xy t hB) cx (aa (sv 0) (aa (sv 3) (aa (sv 4) ag)))))) az)
 (ae (aH (mr (sv 5) (cI)) (ah (aZ nd (a6 t.tx (Ai t hB) cx (aa (sv 0) (aa (sv 3) (aa (sv 4) ag)))))) az)
 (ah (cQ rfl (Or.inl rfl))))))))))))
theorem xH:OkF pt hA P w K mg base 6 40 r_:=okC 40 t.tx fun _ _ _ _ _ _ cx nd =>
 (ae (aZ nd (aD))
 (ae (aZ nd (cI))
 (ae (tL cx rfl rfl nd rfl rfl (by decide) rfl (t.tx.xg 4) (t.tx.g 0) rfl (t.tx.xg 6) (t.tx.g 1) (fun E pn Wb cy=>(ah (aZ nd (mG (t.d 1) (qR t hB) cy (aa (sv 0) (aa (sv 1) ag)))))) (fun _=>(ae (aZ nd (aD))
 (ah (aH (SW.st (b6 (aF cx.hK (cR cx.hK t.tx.xc (t.tx.kO 0) rfl (t.tx.b 10) aW rfl (t.tx.xg 6) (sv 4))) (bZ (gz (aF cx.hK (cR cx.hK t.tx.xc (t.tx.kO 1) rfl (t.tx.b 10) aW rfl (t.tx.xg 0) (sv 4))))))) (ah (aZ nd (aD))) az)))) (fun _=>(ae (aZ nd (aD))
 (ae (aH (SW.st (b6 (aF cx.hK (cR cx.hK t.tx.xc (t.tx.kO 2) rfl (t.tx.b 10) aW rfl (t.tx.xg 4) (sv 4))) (b6 (aF cx.hK (cR cx.hK t.tx.xc (t.tx.kO 3) rfl (t.tx.b 10) aW rfl (t.tx.xg 2) (sv 4))) (b6 (aF cx.hK (cR cx.hK t.tx.xc (t.tx.kO 4) rfl (t.tx.b 10) aW rfl (t.tx.xg 1) (sv 4))) (bZ (aF cx.hK (cR cx.hK t.tx.xc (t.tx.kO 5) rfl (t.tx.b 10) aW rfl (t.tx.xg 3) (sv 4)))))))) (ah (aZ nd (aD))) az)
 (ah (aH (SW.st (b6 (aF cx.hK (cR cx.hK t.tx.xc (t.tx.kO 6) rfl (t.tx.b 10) aW rfl (t.tx.xg 5) (sv 4))) (b6 (aF cx.hK (cR cx.hK t.tx.xc (t.tx.kO 7) rfl (t.tx.b 10) aW rfl (t.tx.xg 7) (sv 4))) (bZ (gz (aF cx.hK (cR cx.hK t.tx.xc (t.tx.kO 1) rfl (t.tx.b 10) aW rfl (t.tx.xg 0) (sv 4)))))))) (ah (aZ nd (aD))) az))))) az)
 (ae (aH (cN cx.hK cx.hu (sv 2) (aD)) (ah (aH (SW.st (b6 (gz (aF cx.hK (wB cx.hK pG rfl (t.tx.b 10) aW rfl (t.tx.b 5) df (sv 3)))) (b6 (di (dY cx.hK rfl (t.tx.b 4) (sv 3)) (af)) (bZ (kW cx.hK cx.hu2 (bQ cx (sv 3) (af) (fun _ _=>rfl)) (ic (aa (aD) (aa (aD) (aa (aD) (aa (aD) ag)))))))))) (ah (aZ nd (aD))) az)) az)
 (ah (cQ rfl (Or.inl rfl)))))))
theorem z7:OkF pt hA P w K mg base 6 41 yg:=okC 41 t.tx fun _ _ _ _ _ _ cx nd =>
 (ae (aZ nd (dr))
 (ae (tJ cx rfl rfl rfl (t.tx.xg 0) (t.tx.hO 2) (fun E pn Wb cy=>(ah (bX (mG (t.d 1) (qR t hB) cy (aa (sv 0) (aa (sv 1) ag)))))) (fun _=>(ah (aZ nd (dr)))) az)
 (ah (cQ rfl (Or.inl rfl)))))
theorem xL:OkF pt hA P w K mg base 8 42 v5:=okC 42 t.tx fun _ _ _ _ _ _ cx nd =>
 (ae (bJ cx.po cx.calm (fN cx.hK rfl (t.tx.b 0) (k7 cx.hK (t6 cx.hK (sv 0) (gC (aa (af) ag))) nQ (nP (af)))) (gA cx.hK cx.calm (bv nd rfl (Or.inl rfl) (bv nd rfl (Or.inl rfl) eV))) (ae (wq (a6 t.tx (xI t hB) cx (aa (aO (bF (sv 2) (af)) (b7 (af) (sv 1))) ag)) (gA cx.hK cx.calm (bv nd rfl (Or.inl rfl) (bv nd rfl (Or.inl rfl) (bv nd rfl (Or.inl rfl) (bv nd rfl (Or.inl rfl) eV))))))
 (ae (aZ nd (gC (aa (fP cx.hK cx.hu (aN (sv 2) (af)) (af)) ag)))
 (ae (aH (di (sv 1) (af)) (ah (aZ nd (gC (aa (fP cx.hK cx.hu (aN (sv 2) (af)) (af)) (aa (fP cx.hK cx.hu (aN (sv 2) (af)) (af)) (aa (fP cx.hK cx.hu (aN (sv 2) (af)) (af)) ag)))))) az)
 (dW (i:=7) (ah (bJ cx.po cx.calm (dX cx.hK (sv 7)) (sgN nd) (ae (aZ nd (a6 t.tx (xE t hB) cx (aa (sv 4) (aa (sv 5) (aa (sv 6) (aa (sv 8) ag))))))
 (ae (aH (iA cx.hK cx.hu (a6 t.tx (xH t hB) cx (aa (sv 3) (aa (sv 8) ag))) (sv 9)) (ah (aI (dr))) az)
 (ah (aH (SW.st (dF (iA cx.hK cx.hu (sv 9) (aD)) (cB (gz (aF cx.hK (a6 t.tx (z7 t hB) cx (aa (sv 3) (aa (sv 8) ag)))))))) (ah (aI (dr))) az)))))))))))
 (ah (aI (dr))))
end
end G
namespace G
open PySem L2 PR
def InC(sp:Int)(cs:List Int):Prop:=∀c∈cs,0≤c∧c < sp
def qt(s x:Int):Nat→Int
 | 0=>x
 | k+1=>qt s x k / s
def dgs(s x:Int):Nat→List Int
 | 0=>[]
 | k+1=>qt s x k % s::dgs s x k
theorem qz{s x:Int}(hs:0 < s)(h0:0≤x):∀k,0≤qt s x k∧qt s x k≤x
 | 0=>⟨h0,Int.le_refl _⟩
 | k+1=>by
  have⟨h1,h2⟩:=qz hs h0 k
  exact⟨Int.ediv_nonneg h1 (by omega),Int.le_trans (Int.ediv_le_self _ h1) h2⟩
theorem vK{s x:Int}(hs:0 < s){n:Nat}(hx:x < s ^ n):∀k,k≤n→qt s x k < s ^ (n - k)
 | 0,_=>hx
 | k+1,h=>by
  have h1:=vK hs hx k (by omega)
  have e:n - k=n - (k+1)+1:=by omega
  rw[e,Int.pow_succ]at h1
  exact Int.ediv_lt_of_lt_mul hs h1
theorem wO{s x:Int}(hs:0 < s)(h0:0≤x){n:Nat}(hx:x < s ^ n):qt s x n=0:=by
 have h1:=vK hs hx n (Nat.le_refl _)
 have h2:=(qz hs h0 n).1
 rw[Nat.sub_self,Int.pow_zero]at h1
 omega
@[simp] theorem ve(s x:Int):∀k,(dgs s x k).length=k
 | 0=>rfl
 | k+1=>by simp[dgs,ve s x k]
theorem sk{s x:Int}(hs:0 < s):∀k,InC s (dgs s x k)
 | 0,_,h=>nomatch h
 | k+1,c,h=>by
  rcases List.mem_cons.mp h with rfl | h
  ·exact⟨Int.emod_nonneg _ (by omega),Int.emod_lt_of_pos _ hs⟩
  ·exact sk hs k c h
theorem mJ{s:Int}(hs:0 < s)(x m:Int)(k:Nat):∀j,j≤k→qt s (x+m * s ^ k) j=qt s x j+m * s ^ (k - j)
 | 0,_=>rfl
 | j+1,h=>by
  have e:k - j=k - (j+1)+1:=by omega
  show qt s (x+m * s ^ k) j / s=qt s x j / s+m * s ^ (k - (j+1))
  rw[mJ hs x m k j (by omega),e,Int.pow_succ,← Int.mul_assoc,Int.add_mul_ediv_right _ _ (by omega)]
theorem oM{s:Int}(hs:0 < s)(x m:Int)(k:Nat):∀j,j≤k→dgs s (x+m * s ^ k) j=dgs s x j
 | 0,_=>rfl
 | j+1,h=>by
  have e:k - j=k - (j+1)+1:=by omega
  show qt s (x+m * s ^ k) j % s::dgs s (x+m * s ^ k) j=qt s x j % s::dgs s x j
  rw[oM hs x m k j (by omega),mJ hs x m k j (by omega),e,Int.pow_succ,← Int.mul_assoc,Int.add_mul_emod_self_right]
def num(s:Int)(cs:List Int):Int:=cs.foldl (fun a c=>a * s+c) 0
theorem i4(s:Int):∀(cs:List Int) (a:Int),cs.foldl (fun a c=>a * s+c) a=a * s ^ cs.length+num s cs
 | [],a=>by simp[num]
 | c::cs,a=>by
  have h1:=i4 s cs (a * s+c)
  have h2:=i4 s cs (0 * s+c)
  unfold num at *
  rw[List.foldl_cons,List.foldl_cons,h1,h2,List.length_cons,Int.pow_succ]
  have e:a * (s ^ cs.length * s)=a * s * s ^ cs.length:=by rw[Int.mul_comm (s ^ cs.length) s,Int.mul_assoc]
  rw[e,Int.add_mul,Int.zero_mul,Int.zero_add]
  omega
theorem lw(s c:Int)(cs:List Int):num s (c::cs)=num s cs+c * s ^ cs.length:=by
 have:=i4 s cs (0 * s+c)
 rw[Int.zero_mul,Int.zero_add]at this
 unfold num at *
 rw[List.foldl_cons,Int.zero_mul,Int.zero_add,this]
 omega
theorem num_rng{s:Int}(hs:0 < s):∀cs:List Int,InC s cs→0≤num s cs∧num s cs < s ^ cs.length
 | [],_=>by simp[num]
 | c::cs,h=>by
  obtain⟨h1,h2⟩:=num_rng hs cs fun x hx=>h x (List.mem_cons_of_mem _ hx)
  obtain⟨c0,c1⟩:=h c List.mem_cons_self
  rw[lw,List.length_cons,Int.pow_succ]
  have p:0≤c * s ^ cs.length:=Int.mul_nonneg c0 (by omega)
  have q:(c+1) * s ^ cs.length≤s * s ^ cs.length:=Int.mul_le_mul_of_nonneg_right (by omega) (by omega)
  rw[Int.add_mul,Int.one_mul]at q
  rw[Int.mul_comm (s ^ cs.length) s]
  omega
theorem oK{s:Int}(hs:0 < s):∀cs:List Int,InC s cs→dgs s (num s cs) cs.length=cs
 | [],_=>rfl
 | c::cs,h=>by
  have ht:InC s cs:=fun x hx=>h x (List.mem_cons_of_mem _ hx)
  obtain⟨h1,h2⟩:=num_rng hs cs ht
  obtain⟨c0,c1⟩:=h c List.mem_cons_self
  rw[lw,List.length_cons]
  show qt s (num s cs+c * s ^ cs.length) cs.length % s::dgs s (num s cs+c * s ^ cs.length) cs.length=c::cs
  rw[oM hs _ _ _ _ (Nat.le_refl _),mJ hs _ _ _ _ (Nat.le_refl _),wO hs h1 h2,oK hs cs ht,Nat.sub_self,Int.pow_zero,Int.mul_one,Int.zero_add,Int.emod_eq_of_lt c0 c1]
structure Bf(f:Fl):Prop where
 le:f.lend=f
 tb:f.toBor=f
 bo:f.borrow=f
 fz:f.freeze=f
 nl:f.isLnt=false
 no:f.isOwn=false
 nm:f≠.mod
theorem jg:Bf .bor:=⟨rfl,rfl,rfl,rfl,rfl,rfl,by decide⟩
theorem nB:Bf .frz:=⟨rfl,rfl,rfl,rfl,rfl,rfl,by decide⟩
structure Ce(n:Nat)(s:Int)(cs:List Int):Prop where
 len:cs.length=n
 inn:InC s cs
def mv(n:Nat)(D:List Int→Nat→Int)(cs:List Int):List Int:=((List.range n).filter fun i=>decide (D cs i≠gt cs i)).map fun i:Nat=>(i:Int)
def stp(n:Nat)(D:List Int→Nat→Int)(cs nm:List Int):List Int:=(List.range n).map fun i:Nat=>if nm.contains (i:Int)then D cs i else gt cs i
def cZ(l:List Int):List (List Int):=l.foldl (fun S a=>S++S.map (·++[a])) [[]]
def trn(n:Nat)(D:List Int→Nat→Int)(many:Bool)(cs:List Int):List (List Int):=if many then(cZ (mv n D cs)).drop 1 else(mv n D cs).map fun a=>[a]
structure gx(l0:List Int)(S:List (List Int)):Prop where
 ex:∃S',S=[]::S'∧(∀nm∈S',nm≠[]∧(∀a∈nm,a∈l0)∧nm.Nodup)∧(l0≠[]→S'≠[])
 len:S.length=2 ^ l0.length
theorem gx.step{l0:List Int}{S:List (List Int)}{a:Int}(h:gx l0 S)(ha:a∉l0):gx (l0++[a]) (S++S.map (·++[a])):=by
 obtain⟨⟨S',rfl,h1,h2⟩,hl⟩:=h
 refine⟨⟨S' ++([]::S').map (·++[a]),rfl,fun nm hm=>?_,fun _=>by simp⟩,?_⟩
 ·rcases List.mem_append.mp hm with hm | hm
  ·obtain⟨p1,p2,p3⟩:=h1 nm hm
   exact⟨p1,fun x hx=>List.mem_append_left _ (p2 x hx),p3⟩
  ·obtain⟨m,hm2,rfl⟩:=List.mem_map.mp hm
   have hm':(∀x∈m,x∈l0)∧m.Nodup:=by
    rcases List.mem_cons.mp hm2 with e | hm2
    ·subst e
     exact⟨fun x hx=>(nomatch hx),List.nodup_nil⟩
    ·exact(h1 m hm2).2
   refine⟨by simp,fun x hx=>?_,?_⟩
   ·rcases List.mem_append.mp hx with hx | hx
    ·exact List.mem_append_left _ (hm'.1 x hx)
    ·exact List.mem_append_right _ hx
   ·rw[List.nodup_append]
    exact⟨hm'.2,by simp,fun x hx y hy e=>ha (by rw[List.mem_singleton]at hy;rw[← hy,← e];exact hm'.1 x hx)⟩
 ·rw[List.length_append,List.length_map,hl,List.length_append,List.length_singleton,Nat.pow_succ]
  omega
theorem gx.fold:∀(l l0:List Int) (S:List (List Int)),gx l0 S→(l0++l).Nodup→gx (l0++l) (l.foldl (fun S a=>S++S.map (·++[a])) S)
 | [],l0,S,h,_=>by simpa using h
 | a::l,l0,S,h,hn=>by
  have hn':((l0++[a])++ l).Nodup:=by simpa using hn
  have ha:a∉l0:=fun hm=>by
   rw[List.nodup_append]at hn
   exact hn.2.2 a hm a List.mem_cons_self rfl
  have:=gx.fold l (l0++[a]) _ (h.step ha) hn'
  simpa using this
theorem eU{l:List Int}(h:l.Nodup):gx l (cZ l):=by
 have:=gx.fold l [] [[]] ⟨⟨[],rfl,fun _ w=>(nomatch w),fun w=>absurd rfl w⟩,rfl⟩ (by simpa using h)
 rw[List.nil_append]at this
 exact this
structure Ru(r:PV)(n:Nat)(s:Int)(al:Bool)(D:List Int→Nat→Int):Prop where
 le:r.mapF Fl.lend=r
 tb:r.mapF Fl.toBor=r
 bo:r.mapF Fl.borrow=r
 a0:ar 0 r=.ok (.int n)
 a7:ar 7 r=.ok (.int s)
 a8:ar 8 r=.ok (.bl al)
 n1:1≤n
 n3:n≤300
 s1:1≤s
 s3:s≤256
 big:s ^ n≤256
 due:∀fc cs k,Bf fc→Ce n s cs→k < n→pq aX (.ok [.lst fc (iL cs),.int k]) r=.ok (.int (D cs k))∧0≤D cs k∧D cs k < s
 mv:∀x,pq au x r=x.bind fun xs=>aA lQ (r::xs)
 tu:∀x,pq aU x r=x.bind fun xs=>aA lP (r::xs)
def Md(n:Nat)(al many:Bool):Prop:=many=true→al=false∧n≤4
section
variable{r:PV}{al:Bool}{z n:Nat}{s:Int}{D:List Int→Nat→Int}{cs:List Int}{fc:Fl}
theorem f7:(mv n D cs).Nodup:=by
 unfold mv
 have:((List.range n).filter fun i=>decide (D cs i≠gt cs i)).Nodup:=List.Pairwise.filter _ List.nodup_range
 exact List.Pairwise.map _ (fun a b (h:a≠b)=>by omega) this
theorem qY{a:Int}(h:a∈mv n D cs):∃i:Nat,a=i∧i < n∧D cs i≠gt cs i:=by
 unfold mv at h
 obtain⟨i,hi,rfl⟩:=List.mem_map.mp h
 obtain⟨h1,h2⟩:=List.mem_filter.mp hi
 exact⟨i,rfl,List.mem_range.mp h1,by simpa using h2⟩
theorem mP:(mv n D cs).length≤n:=by
 unfold mv
 rw[List.length_map]
 have:=List.length_filter_le (fun i=>decide (D cs i≠gt cs i)) (List.range n)
 rwa [List.length_range]at this
theorem nL{many:Bool}{nm:List Int}(h:nm∈trn n D many cs):nm≠[]∧(∀a∈nm,a∈mv n D cs)∧nm.Nodup:=by
 unfold trn at h
 cases many with
 | true =>
  obtain⟨⟨S',e,h1,_⟩,_⟩:=eU (f7 (n:=n) (D:=D) (cs:=cs))
  rw[if_pos rfl,e]at h
  exact h1 nm h
 | false =>
  rw[if_neg (by decide)]at h
  obtain⟨a,ha,rfl⟩:=List.mem_map.mp h
  exact⟨by simp,fun x hx=>by rw[List.mem_singleton.mp hx];exact ha,by simp⟩
theorem tw{many:Bool}:trn n D many cs=[]↔ mv n D cs=[]:=by
 unfold trn
 cases many with
 | true =>
  obtain⟨⟨S',e,_,h2⟩,hl⟩:=eU (f7 (n:=n) (D:=D) (cs:=cs))
  rw[if_pos rfl,e]
  show S'=[]↔ _
  constructor
  ·intro h
   by_cases q:mv n D cs=[]
   ·exact q
   ·exact absurd h (h2 q)
  ·intro h
   rw[e,h]at hl
   simpa using hl
 | false=>simp
theorem j6{many:Bool}(h:n≤300)(h4:many=true→n≤4):(trn n D many cs).length≤300:=by
 have hm:=mP (n:=n) (D:=D) (cs:=cs)
 unfold trn
 cases many with
 | true =>
  have:=h4 rfl
  obtain⟨_,hl⟩:=eU (f7 (n:=n) (D:=D) (cs:=cs))
  have:2 ^ (mv n D cs).length≤2 ^ 4:=Nat.pow_le_pow_right (by decide) (by omega)
  simp
  omega
 | false=>simp;omega
theorem wj{nm:List Int}{i:Nat}(hi:i < n):gt (stp n D cs nm) i=if nm.contains (i:Int)then D cs i else gt cs i:=by
 unfold stp
 simp only[gt]
 rw[List.getD_eq_getElem?_getD,List.getElem?_map,List.getElem?_range hi]
 rfl
theorem mj(K:Ru r n s al D)(C:Ce n s cs)(nm:List Int):Ce n s (stp n D cs nm):=by
 refine⟨by simp[stp],fun c hc=>?_⟩
 unfold stp at hc
 obtain⟨i,hi,rfl⟩:=List.mem_map.mp hc
 have hi:=List.mem_range.mp hi
 split
 ·exact(K.due .bor cs i jg C hi).2
 ·exact C.inn _ (kz (by have:=C.len;omega))
theorem eY(hB:Bf fc)(K:Ru r n s al D)(C:Ce n s cs):lQ [r,.lst fc (iL cs)]=.ok (.lst .own (iL (mv n D cs))):=by
 have hn:=C.len
 have n6:=K.n3
 refine aG ?_
 show yN [some r,some (.lst fc (iL cs))]=_
 unfold yN mv
 refine bH ?_ (by simp)
 refine bY (xs:=cJ 0 n) (dw (n:=n) (by simp[K.le,K.a0]) (by omega)) (by rw[cD];omega) (nw (fun k=>decide (D cs k≠gt cs k)) (fun k=>(k:Int)) n fun k hk=>⟨[some r,some (.lst fc (iL cs)),some (.int (0+k))],by simp[tgN,bq,ce,PV.borrow,K.bo,hB.bo],?_,fun _=>by simp⟩)
 have gk:aK (.lst fc (iL cs)) (.int (k:Int))=.ok (.int (gt cs k)):=by simpa using eR (f:=fc) (cs:=cs) (i:=k) (by omega) (by omega)
 simp[K.le,hB.le,(K.due fc cs k hB C hk).1,gk]
theorem iM{nm:List Int}{f:Fl}(K:Ru r n s al D)(hf:Bf f)(hd:nm.Nodup)(hr:∀x∈nm,0≤x∧x < n)(ha:al=true→nm.length≤1)(hl:nm.length≤1000):yf [r,.lst f (iL nm)]=.ok .non:=by
 refine eX ?_
 show Ends (yM [some r,some (.lst f (iL nm)),none])
 unfold yM
 refine i_ (bB ?_ av) ?_
 ·cases al with
  | false=>simp[K.le,K.a8]
  | true =>
   have:=ha rfl
   simp[K.le,K.a8]
   omega
 refine si (fun _ e=>∃x,e=[some r,some (.lst f (iL nm)),x]) (xs:=iL nm) (eH (f:=f) (by simp[hf.le]) hf.nl (by simp) (by simp)) ⟨_,rfl⟩ (fun k x e hx hP=>?_) (fun e hP=>?_)
 ·obtain⟨y,rfl⟩:=hP
  obtain⟨m,hm,rfl⟩:=kx hx
  obtain⟨h1,h2⟩:=hr m (List.mem_of_getElem? hm)
  refine⟨_,eG rfl,bN (bB ?_ av) ⟨_,rfl⟩⟩
  simp[K.le,K.a0,show ¬m < 0 by omega,show ¬(n:Int)≤ m by omega]
 ·obtain⟨y,rfl⟩:=hP
  exact e9 (bB (by simp[hf.le,pF hl,sm hd]) av)
theorem uE{many:Bool}{nm:List Int}(hm:Md n al many)(h:nm∈trn n D many cs):nm.Nodup∧(∀x∈nm,0≤x∧x < n)∧nm.length≤n∧(al=true→nm.length≤1):=by
 obtain⟨_,h2,h3⟩:=nL h
 refine⟨h3,fun x hx=>?_,?_,fun ha=>?_⟩
 ·obtain⟨i,rfl,hi,_⟩:=qY (h2 x hx)
  omega
 ·exact Nat.le_trans (oh h3 h2) mP
 ·cases many with
  | true=>rw[(hm rfl).1]at ha;cases ha
  | false =>
   unfold trn at h
   rw[if_neg (by decide)]at h
   obtain⟨a,_,rfl⟩:=List.mem_map.mp h
   simp
theorem oT{many:Bool}{nm:List Int}(hm:Md n al many)(hB:Bf fc)(K:Ru r n s al D)(C:Ce n s cs)(h:nm∈trn n D many cs):lP [r,.lst fc (iL cs),.lst .frz (iL nm)]=.ok (.lst .own (iL (stp n D cs nm))):=by
 obtain⟨g1,g2,g3,g4⟩:=uE hm h
 have hn:=C.len
 have n6:=K.n3
 refine aG ?_
 show yL [some r,some (.lst fc (iL cs)),some (.lst .frz (iL nm))]=_
 unfold yL stp
 have rf:=iM K nB g1 g2 g4 (by omega)
 refine aj (gs (v:=.non) (by simp[K.le,K.tb,rf,aJ])) (bH ?_ (by simp))
 refine bY (xs:=cJ 0 n) (dw (n:=n) (by simp[K.le,K.a0]) (by omega)) (by rw[cD];omega) (pS 0 (fun i:Nat=>if nm.contains (i:Int)then D cs i else gt cs i) n fun k hk=>⟨[some (.lst .frz (iL nm)),some r,some (.lst fc (iL cs)),some (.int (0+k))],by simp[tgN,bq,ce,PV.borrow,K.bo,hB.bo],?_⟩)
 have gk:aK (.lst fc (iL cs)) (.int (k:Int))=.ok (.int (gt cs k)):=by simpa using eR (f:=fc) (cs:=cs) (i:=k) (by omega) (by omega)
 have dk:=(K.due fc cs k hB C hk).1
 by_cases q:nm.contains (k:Int)=true
 ·simp only[q,if_true]
  simp at q
  simp[q,K.le,hB.le,dk,aJ]
 ·simp only[q]
  simp at q
  simp[q,hB.le,gk]
theorem uM(S:List (List Int)):mapL Fl.freeze (llL .own S)=llL .frz S:=by rw[iW];rfl
theorem lE(g:Fl→Fl):∀xs ys:List PV,mapL g (xs++ys)=mapL g xs++mapL g ys
 | [],ys=>by simp
 | x::xs,ys=>by simp[lE g xs ys]
theorem lN(p:Fl→Bool):∀xs ys:List PV,hasL p (xs++ys)=(hasL p xs||hasL p ys)
 | [],ys=>by simp
 | x::xs,ys=>by simp[lN p xs ys,Bool.or_assoc]
theorem mB{l:List Int}(hl:l.length≤6)(hd:l.Nodup):oE [.lst .bor (iL l)]=.ok (.lst .own (llL .frz ((cZ l).drop 1))):=by
 refine aG ?_
 show sJ [some (.lst .bor (iL l)),none,none]=_
 unfold sJ
 refine aj (aw (v:=.lst .own [.lst .own []]) (by simp) (by simp) rfl) ?_
 simp only[List.set_cons_zero,List.set_cons_succ]
 refine eW (fun k e=>∃xs x2,e=[some (.lst .bor (iL l)),some (.lst .own xs),x2]∧mapL Fl.freeze xs=llL .frz (cZ (l.take k))) (xs:=iL l) (eH (f:=.bor) (by simp) rfl (by simp) (by simp)) ⟨[.lst .own []],none,rfl,by simp[cZ]⟩ (fun k x e hx hP=>?_) (fun e hP=>?_)
 ·obtain⟨xs,x2,rfl,hxs⟩:=hP
  obtain⟨a,ha,rfl⟩:=kx hx
  have hk:k < l.length:=(List.getElem?_eq_some_iff.mp ha).1
  have hS:(cZ (l.take k)).length≤64:=by
   rw[(eU (List.Sublist.nodup (List.take_sublist k l) hd)).len]
   have:2 ^ (l.take k).length≤2 ^ 6:=Nat.pow_le_pow_right (by decide) (by rw[List.length_take];omega)
   omega
  have hN:∀nm∈cZ (l.take k),nm.length≤6:=fun nm hm=>by
   obtain⟨⟨S',e,h1,_⟩,_⟩:=eU (List.Sublist.nodup (List.take_sublist k l) hd)
   rw[e]at hm
   rcases List.mem_cons.mp hm with rfl | hm
   ·simp
   ·obtain⟨_,h2,h3⟩:=h1 nm hm
    have:=oh h3 h2
    rw[List.length_take]at this
    omega
  have e1:cZ (l.take (k+1))=cZ (l.take k)++(cZ (l.take k)).map (·++[a]):=by
   unfold cZ
   rw[List.take_succ,ha]
   simp
  refine⟨_,eG rfl,?_⟩
  simp only[List.set_cons_zero,List.set_cons_succ]
  refine cb (gT (v:=.lst .own xs) rfl) ?_
  simp only[List.set_cons_zero,List.set_cons_succ,c_,hxs,cw]
  generalize cZ (l.take k)=S at *
  have cp:aR [2] 1 (bx (ac 1)) (tgN 1) bc (mOp aL (ac 1) (da (ad (ac 0) ai))) [some (.lst .bor (iL l)),some (.lst .frz (llL .frz S)),some (.int a)]=.ok (.lst .own (llL .own (S.map (·++[a])))):=by
   refine bY (xs:=llL .frz S) (by simp) (by simp;omega) ?_
   have:=bu (env:=ce [2] 1 [some (.lst .bor (iL l)),some (.lst .frz (llL .frz S)),some (.int a)]) (g:=tgN 1) (me:=mOp aL (ac 1) (da (ad (ac 0) ai))) (a:=fun nm:List Int=>PV.lst .frz (iL nm)) (f:=fun nm=>PV.lst .own (iL (nm++[a]))) S fun nm hm=>⟨[some (.int a),some (.lst .frz (iL nm))],by simp[tgN,bq,ce,PV.borrow],?_,by simp,by simp⟩
   ·rw[show llL .own (S.map (·++[a]))=S.map fun nm=>PV.lst .own (iL (nm++[a])) by simp[llL]]
    exact this
   ·have:=hN nm hm
    simp
    rw[lj (by decide) (by decide) (by simp;omega)]
    simp[iL]
  refine bN (aw (v:=.lst .own (llL .frz S++llL .own (S.map (·++[a])))) ?_ ?_ rfl) ⟨_,_,rfl,?_⟩
  ·simp only[jW,cp]
   simp
   rw[lj (by decide) (by decide) (by simp;omega)]
  ·simp only[c9,d9]
   rw[lN,b_ _ _ _ rfl,b_ _ _ _ rfl]
   rfl
  ·rw[lE,uM,iW,e1,← uN]
   rfl
 ·obtain⟨xs,x2,rfl,hxs⟩:=hP
  rw[gg,List.take_length]at hxs
  refine aj (gT (v:=.lst .own xs) rfl) ?_
  simp only[List.set_cons_zero,List.set_cons_succ,c_,hxs,cw]
  refine bH (v:=.lst .own (llL .frz ((cZ l).drop 1))) ?_ (by simp only[c9,d9];rw[b_ _ _ _ rfl];rfl)
  have:=sr (llL .frz (cZ l)) 1 (by rw[oq,(eU hd).len];exact Nat.pow_pos (by decide))
  simp
  rw[show((1:Nat):Int)=1 from rfl]at this
  rw[this]
  simp[llL]
def nxV(f:Fl)(n:Nat)(D:List Int→Nat→Int)(many:Bool)(cs:List Int):List PV:=(trn n D many cs).map fun nm=>.tup [.lst .frz (iL nm),.lst f (iL (stp n D cs nm))]
theorem fB{p:Fl→Bool}{f:Fl}{many:Bool}(h1:p .frz=false)(h2:p f=false):hasL p (nxV f n D many cs)=false:=by
 unfold nxV
 induction trn n D many cs with
 | nil=>simp
 | cons a l ih=>simp[ih,h1,h2]
theorem gJ{g:Fl→Fl}{f:Fl}{many:Bool}(h1:g .frz=.frz):mapL g (nxV f n D many cs)=nxV (g f) n D many cs:=by
 unfold nxV
 induction trn n D many cs with
 | nil=>simp
 | cons a l ih=>simp[ih,h1]
theorem eL{many:Bool}(K:Ru r n s al D)(hm:Md n al many):pP [r,.bl many]=.ok .non:=by
 refine eX ?_
 show Ends (nC [some r,some (.bl many)])
 unfold nC
 refine e9 (bB ?_ av)
 cases many with
 | false=>simp
 | true=>simp[K.le,K.a8,(hm rfl).1]
theorem qX{many:Bool}(hm:Md n al many)(hB:Bf fc)(K:Ru r n s al D)(C:Ce n s cs):oC [r,.lst fc (iL cs),.bl many]=.ok (.lst .own (nxV .own n D many cs)):=by
 have n6:=K.n3
 have ml:=mP (n:=n) (D:=D) (cs:=cs)
 have md:=f7 (n:=n) (D:=D) (cs:=cs)
 refine aG ?_
 show sI [some r,some (.lst fc (iL cs)),some (.bl many),none,none]=_
 unfold sI
 refine aj (gs (v:=.non) (by simp[K.le,K.tb,eL K hm,aJ])) ?_
 refine aj (aw (v:=.lst .own (iL (mv n D cs))) (by simp[K.le,K.tb,K.mv,hB.le,hB.tb,eY hB K C,aJ]) (by simp) rfl) ?_
 simp only[List.set_cons_zero,List.set_cons_succ]
 obtain⟨f,hf,hl,e⟩:∃f:Fl,f.freeze=.frz∧f.isLnt=false∧(jq (aV (ac 2)) (ao (aA oE) (ad (ac 3) ai)) (aR [] 1 (bx (ac 3)) (tgN 0) bc (da (ad (ac 0) ai)))) [some r,some (.lst fc (iL cs)),some (.bl many),some (.lst .own (iL (mv n D cs))),none]=.ok (.lst .own (llL f (trn n D many cs))):=by
  cases many with
  | true =>
   refine⟨.frz,rfl,rfl,?_⟩
   have:=mB (l:=mv n D cs) (by have:=(hm rfl).2;omega) md
   have hb:hasL Fl.isBor (llL .frz ((cZ (mv n D cs)).drop 1))=false:=b_ _ _ _ rfl
   simp only[sg,lS,kC,kD,iw,nr,l4]
   simp only[List.getElem?_cons_zero,List.getElem?_cons_succ,gI,ko,c_,jP,Res.ok_bind,kT,if_true,rC,gK,lD,l4,oY,this,trn]
   unfold aJ
   rw[d9,hb]
   rfl
  | false =>
   refine⟨.own,rfl,rfl,?_⟩
   have:=bu (env:=ce [] 1 [some r,some (.lst fc (iL cs)),some (.bl false),some (.lst .own (iL (mv n D cs))),none]) (g:=tgN 0) (me:=da (ad (ac 0) ai)) (a:=PV.int) (f:=fun a=>PV.lst .own (iL [a])) (mv n D cs) fun a ha=>⟨[some (.int a)],by simp[tgN,bq,b9,ce],by simp,by simp,by simp⟩
   have c:=bY (caps:=[]) (k:=1) (mi:=bx (ac 3)) (env:=[some r,some (.lst fc (iL cs)),some (.bl false),some (.lst .own (iL (mv n D cs))),none]) (xs:=iL (mv n D cs)) (by simp) (by simp;omega) this
   simp only[sg,lS,kC]
   simp only[List.getElem?_cons_zero,List.getElem?_cons_succ,gI,ko,Res.ok_bind,kT,Bool.false_eq_true,if_false,c]
   simp[trn,llL]
 refine aj (aw e (by simp only[c9,d9];rw[b_ _ _ _ hl];rfl) rfl) ?_
 simp only[List.set_cons_zero,List.set_cons_succ]
 refine aj (gT (v:=.lst .own (llL f (trn n D many cs))) rfl) ?_
 simp only[List.set_cons_zero,List.set_cons_succ,c_,iW,hf,cw]
 refine bH (v:=.lst .own (nxV .own n D many cs)) ?_ (by simp only[c9,d9];rw[fB rfl rfl];rfl)
 refine bY (xs:=llL .frz (trn n D many cs)) (by simp) (by have:=j6 (n:=n) (D:=D) (cs:=cs) (many:=many) n6 fun h=>(hm h).2;simp;omega) ?_
 exact bu (a:=fun nm:List Int=>PV.lst .frz (iL nm)) (f:=fun nm=>PV.tup [.lst .frz (iL nm),.lst .own (iL (stp n D cs nm))]) (trn n D many cs) fun nm hnm=>⟨[some r,some (.lst fc (iL cs)),some (.lst .frz (iL nm))],by simp[tgN,bq,ce,PV.borrow,K.bo,hB.bo],by simp[K.le,K.tb,K.tu,hB.le,hB.tb,oT hm hB K C hnm,aJ],by simp,by simp⟩
theorem qW(s c:Int)(l:List Int):num s (l++[c])=num s l * s+c:=by simp[num]
theorem fY(hB:Bf fc)(K:Ru r n s al D):jV [r,.lst fc (iL cs)]=.ok (.int (num s cs)):=by
 have s2:=K.s1
 have s4:=K.s3
 refine aG ?_
 show sT [some r,some (.lst fc (iL cs)),none,none]=_
 unfold sT
 refine aj (aw (v:=.int 0) (by simp) (by simp) rfl) ?_
 simp only[List.set_cons_zero,List.set_cons_succ]
 refine eW (fun k e=>∃x3,e=[some r,some (.lst fc (iL cs)),some (.int (num s (cs.take k))),x3]) (xs:=iL cs) (eH (f:=fc) (by simp[hB.le]) hB.nl (by simp) (by simp)) ⟨none,rfl⟩ (fun k y e hy hP=>?_) (fun e hP=>?_)
 ·obtain⟨x3,rfl⟩:=hP
  obtain⟨z,hz,rfl⟩:=kx hy
  refine⟨_,eG rfl,?_⟩
  simp only[List.set_cons_zero,List.set_cons_succ]
  have mm:cf (.int (num s (cs.take k))) (.int s)=.ok (.int (num s (cs.take k) * s)):=fC (.inr ⟨by omega,by omega⟩)
  refine bN (aw (v:=.int (num s (cs.take (k+1)))) ?_ (by simp) rfl) ⟨_,rfl⟩
  rw[List.take_succ,hz,Option.toList_some,qW]
  simp[K.le,K.a7,mm]
 ·obtain⟨x3,rfl⟩:=hP
  rw[gg,List.take_length]
  exact cr rfl
theorem eT(K:Ru r n s al D)(x:Int):i6 [r,.int x]=.ok (.lst .own (iL (dgs s x n))):=by
 have s2:=K.s1
 have s4:=K.s3
 have n6:=K.n3
 have hs:0 < s:=by omega
 refine aG ?_
 show sM [some r,some (.int x),none,none,none]=_
 unfold sM
 refine aj (aw (v:=.lst .own []) (by simp) (by simp) rfl) ?_
 simp only[List.set_cons_zero,List.set_cons_succ]
 refine aj (aw (v:=.int x) (by simp) (by simp) rfl) ?_
 simp only[List.set_cons_zero,List.set_cons_succ]
 refine eW (fun k e=>∃x4,e=[some r,some (.int x),some (.lst .own (iL (dgs s x k).reverse)),some (.int (qt s x k)),x4]) (dw (n:=n) (by simp[K.le,K.a0]) (by omega)) ⟨none,rfl⟩ (fun k y e hy hP=>?_) (fun e hP=>?_)
 ·obtain⟨x4,rfl⟩:=hP
  obtain⟨hk,rfl⟩:=iG hy
  refine⟨_,eG rfl,?_⟩
  simp only[List.set_cons_zero,List.set_cons_succ]
  refine cb (p0 (v:=.int (qt s x k % s)) (xs:=iL (dgs s x k).reverse) (by simp[K.le,K.a7,a5 hs]) rfl (by simp) (by simp;omega)) ?_
  simp only[List.set_cons_zero,List.set_cons_succ]
  refine bN (aw (v:=.int (qt s x (k+1))) (by simp[K.le,K.a7,nu hs (show s < 1073741824 by omega),qt]) (by simp) rfl) ⟨some (.int (0+(k:Int))),?_⟩
  simp[dgs,iL]
 ·obtain⟨x4,rfl⟩:=hP
  rw[cD]
  refine bH ?_ (by simp)
  have lr:∀f:Fl,dM (.lst f (iL (dgs s x n).reverse))=.ok (.lst .own (iL (dgs s x n))):=fun f=>by
   unfold dM
   dsimp only
   rw[gP]
   dsimp only
   rw[if_pos (by simp;omega),List.reverse_reverse]
   rfl
  simp[lr]
theorem gf{s:Int}(h:1≤s){a:Nat}:∀d,1≤s ^ a∧s ^ a≤s ^ (a+d)
 | 0=>by
  refine⟨?_,Int.le_refl _⟩
  have:0 < s ^ a:=Int.pow_pos (by omega)
  omega
 | d+1=>by
  obtain⟨h1,h2⟩:=gf h (a:=a) d
  refine⟨h1,?_⟩
  rw[← Nat.add_assoc,Int.pow_succ]
  have:s ^ (a+d) * 1≤s ^ (a+d) * s:=Int.mul_le_mul_of_nonneg_left h (by omega)
  omega
theorem fM(K:Ru r n s al D):jU [r]=.ok (.int (s ^ n)):=by
 have s2:=K.s1
 have s4:=K.s3
 have n6:=K.n3
 have big:=K.big
 refine aG ?_
 show l6 [some r,none,none]=_
 unfold l6
 refine aj (aw (v:=.int 1) (by simp) (by simp) rfl) ?_
 simp only[List.set_cons_zero,List.set_cons_succ]
 refine eW (fun k e=>∃x2,e=[some r,some (.int (s ^ k)),x2]) (dw (n:=n) (by simp[K.le,K.a0]) (by omega)) ⟨none,by rw[Int.pow_zero]⟩ (fun k y e hy hP=>?_) (fun e hP=>?_)
 ·obtain⟨x4,rfl⟩:=hP
  obtain⟨hk,rfl⟩:=iG hy
  have h1:=(gf (s:=s) (by omega) (a:=k+1) (n - (k+1))).2
  rw[show k+1+(n - (k+1))=n by omega]at h1
  refine⟨_,eG rfl,?_⟩
  simp only[List.set_cons_zero,List.set_cons_succ]
  have mm:cf (.int (s ^ k)) (.int s)=.ok (.int (s ^ (k+1))):=by rw[Int.pow_succ];exact fC (.inr ⟨by omega,by omega⟩)
  refine cb (aw (v:=.int (s ^ (k+1))) (by simp[K.le,K.a7,mm]) (by simp) rfl) ?_
  simp only[List.set_cons_zero,List.set_cons_succ]
  refine bN (bB ?_ av) ⟨_,rfl⟩
  generalize s ^ (k+1)=u at *
  simp[show ¬256 < u by omega]
 ·obtain⟨x4,rfl⟩:=hP
  rw[cD]
  exact cr rfl
theorem ig(K:Ru r n s al D){many:Bool}(hm:Md n al many):u7 [r,.bl many]=.ok .non:=by
 have big:=K.big
 refine eX ?_
 show Ends (sG [some r,some (.bl many)])
 unfold sG
 have st:=fM K
 generalize s ^ n=u at *
 refine i_ (bB (by simp[K.le,K.tb,st,aJ,show ¬256 < u by omega]) av) ?_
 refine e9 (bB ?_ av)
 cases many with
 | false=>simp
 | true =>
  have:=(hm rfl).2
  simp[K.le,K.a0]
  omega
theorem Ce.num_rng(s2:1≤s)(C:Ce n s cs):0≤num s cs∧num s cs < s ^ n:=by
 have:=G.num_rng (s:=s) (by omega) cs C.inn
 rwa [C.len]at this
theorem Ce.dgs(s2:1≤s)(C:Ce n s cs):dgs s (num s cs) n=cs:=by
 have:=G.oK (s:=s) (by omega) cs C.inn
 rwa [C.len]at this
theorem nA(s2:1≤s)(x:Int):Ce n s (dgs s x n):=⟨by simp,sk (by omega) n⟩
def sts(n:Nat)(s:Int):List (List Int):=(List.range (s ^ n).toNat).map fun k:Nat=>dgs s k n
theorem im:(sts n s).length=(s ^ n).toNat:=by simp[sts]
theorem j8(s2:1≤s)(h:cs∈sts n s):Ce n s cs:=by
 unfold sts at h
 obtain⟨k,_,rfl⟩:=List.mem_map.mp h
 exact nA s2 _
theorem fk{k:Nat}(h:k <(s ^ n).toNat):(sts n s)[k]?=some (dgs s k n):=by simp[sts,h]
theorem j7(s2:1≤s)(C:Ce n s cs):(num s cs).toNat <(s ^ n).toNat∧(sts n s)[(num s cs).toNat]?=some cs:=by
 obtain⟨h0,h1⟩:=C.num_rng s2
 have:(num s cs).toNat <(s ^ n).toNat:=by omega
 refine⟨this,?_⟩
 rw[fk this,Int.toNat_of_nonneg h0,C.dgs s2]
def fol(n:Nat)(s:Int)(D:List Int→Nat→Int)(many:Bool)(cs:List Int):List Int:=(trn n D many cs).map fun nm=>num s (stp n D cs nm)
def cmV(n z:Nat)(D:List Int→Nat→Int)(St:List (List Int)):List PV:=St.map fun cs=>.bl (decide ((mv n D cs).length=z))
def wyV(f:Fl)(n:Nat)(D:List Int→Nat→Int)(many:Bool)(St:List (List Int)):List PV:=St.map fun cs=>.lst f (nxV f n D many cs)
theorem dI(g:Fl→Fl)(St:List (List Int)):mapL g (cmV n z D St)=cmV n z D St:=by
 unfold cmV
 induction St with
 | nil=>simp
 | cons a l ih=>simp[ih,-List.length_eq_zero_iff]
theorem yD(p:Fl→Bool)(St:List (List Int)):hasL p (cmV n z D St)=false:=by
 unfold cmV
 induction St with
 | nil=>simp
 | cons a l ih=>simp[ih,-List.length_eq_zero_iff]
theorem gy{g:Fl→Fl}{f:Fl}{many:Bool}(h1:g .frz=.frz)(St:List (List Int)):mapL g (wyV f n D many St)=wyV (g f) n D many St:=by
 unfold wyV
 induction St with
 | nil=>simp
 | cons a l ih=>simp[ih,gJ h1]
theorem l9{p:Fl→Bool}{f:Fl}{many:Bool}(h1:p .frz=false)(h2:p f=false)(St:List (List Int)):hasL p (wyV f n D many St)=false:=by
 unfold wyV
 induction St with
 | nil=>simp
 | cons a l ih=>simp[ih,fB h1 h2,h2]
theorem ny{St:List (List Int)}{k:Nat}(h:St[k]?=some cs)(f:Fl):aK (.lst f (cmV n z D St)) (.int k)=.ok (.bl (decide ((mv n D cs).length=z))) :=
 fG rfl (by simp[cmV,h,-List.length_eq_zero_iff]) (by simp)
theorem vA{St:List (List Int)}{many:Bool}{m:ME}{e:En}(h:m e=.ok (.lst .frz (wyV .frz n D many St))):et m e=.ok (enP 0 (wyV .frz n D many St)):=by
 unfold et
 rw[h]
 simp[ff,l9 (p:=Fl.isOwn) (f:=.frz) rfl rfl,l9 (p:=Fl.isLnt) (f:=.frz) rfl rfl]
theorem xM{f:Fl}{many:Bool}{k:Nat}{x:PV}(h:(nxV f n D many cs)[k]?=some x):∃nm∈trn n D many cs,x=.tup [.lst .frz (iL nm),.lst f (iL (stp n D cs nm))]:=by
 unfold nxV at h
 rw[List.getElem?_map]at h
 obtain⟨nm,h1,rfl⟩:=Option.map_eq_some_iff.mp h
 exact⟨nm,List.mem_of_getElem? h1,rfl⟩
theorem pA{many:Bool}{nm:List Int}(hm:Md n al many)(K:Ru r n s al D)(C:Ce n s cs)(h:nm∈trn n D many cs)(f:Fl):jV [r,.lst .frz (iL (stp n D cs nm))]=.ok (.int (num s (stp n D cs nm)))∧aK (.lst f (cmV n z D (sts n s))) (.int (num s (stp n D cs nm)))=.ok (.bl (decide ((mv n D (stp n D cs nm)).length=z))):=by
 have E:=mj K C nm
 obtain⟨h0,h1⟩:=E.num_rng K.s1
 have ci:=ny (z:=z) (D:=D) (n:=n) (j7 K.s1 E).2 f
 rw[Int.toNat_of_nonneg h0]at ci
 exact⟨fY nB K,ci⟩
def Wrd(v:PV):Prop:=∃w a l,v=.tup (.str w::a::l)∧(w = "calm"∨w = "leaves"∨w = "stuck"∨w = "round")∧hasL Fl.isBor (a::l)=false∧hasL Fl.isLnt (a::l)=false
theorem jI{env:En}{it:MI}{g:TgM}{body bw:MS}{xs:List PV}{Q:PV→Prop}(P:Nat→En→Prop)(h:it env=.ok xs)(h0:P 0 env)
  (step:∀(k:Nat) (x:PV) (e:En),xs[k]?=some x→P k e→∃e1,g x e=some e1∧(jl (body e1) (P (k+1))∨ cL (body e1) Q)) (fin:∀e,P xs.length e→cL (bw e) Q):cL (ak (bW it g body) bw env) Q:=by
 have q:=kA (g:=g) (body:=body) P (fun o=>(∃ e,o=.next e∧P xs.length e) ∨ cL o Q) h h0 (fun k x e h1 h2=>by
  obtain⟨e1,h3,h4⟩:=step k x e h1 h2
  refine⟨e1,h3,?_⟩
  rcases h4 with⟨e2,h5,h6⟩ |⟨v,h5,h6⟩
  ·exact .inl ⟨e2,h5,h6⟩
  ·exact .inr (.inr (.inl ⟨v,h5,.inr ⟨v,rfl,h6⟩⟩))) fun e h=>.inl ⟨e,rfl,h⟩
 rcases q with⟨e,h1,h2⟩ |⟨v,h1,h2⟩
 ·exact ax h1 (fin e h2)
 ·exact⟨v,dq h1,h2⟩
theorem rR{env:En}{it:MI}{g:TgM}{body:MS}{xs:List PV}{Q:PV→Prop}{P2:En→Prop}(P:Nat→En→Prop)(h:it env=.ok xs)(h0:P 0 env)
  (step:∀(k:Nat) (x:PV) (e:En),xs[k]?=some x→P k e→∃e1,g x e=some e1∧(jl (body e1) (P (k+1))∨ cL (body e1) Q)) (fin:∀e,P xs.length e→P2 e):jl (bW it g body env) P2∨cL (bW it g body env) Q :=
 kA (g:=g) (body:=body) P (fun o=>jl o P2 ∨ cL o Q) h h0 (fun k x e h1 h2=>by
  obtain⟨e1,h3,h4⟩:=step k x e h1 h2
  refine⟨e1,h3,?_⟩
  rcases h4 with⟨e2,h5,h6⟩ |⟨v,h5,h6⟩
  ·exact .inl ⟨e2,h5,h6⟩
  ·exact .inr (.inr (.inl ⟨v,h5,.inr ⟨v,rfl,h6⟩⟩))) fun e h=>.inl ⟨e,.inl rfl,fin e h⟩
theorem mW{many:Bool}(hm:Md n al many)(K:Ru r n s al D):∃v,rY [r,.lst .bor (cmV n z D (sts n s)),.lst .frz (wyV .frz n D many (sts n s))]=.ok v∧(v=.non∨Wrd v):=by
 suffices h:cL (sK [some r,some (.lst .bor (cmV n z D (sts n s))),some (.lst .frz (wyV .frz n D many (sts n s))),none,none,none,none]) (fun v=>v=.non∨Wrd v) by
  obtain⟨v,h1,h2⟩:=h
  exact⟨v,aG h1,h2⟩
 unfold sK
 refine jI (fun _ e=>∃x3 x4 x5 x6,e=[some r,some (.lst .bor (cmV n z D (sts n s))),some (.lst .frz (wyV .frz n D many (sts n s))),x3,x4,x5,x6]) (vA (n:=n) (D:=D) (St:=sts n s) (many:=many) (by simp[gy (g:=Fl.lend) (f:=.frz) rfl])) ⟨_,_,_,_,rfl⟩ (fun k y e hy hP=>?_) (fun e hP=>?_)
 ·obtain⟨x3,x4,x5,x6,rfl⟩:=hP
  rw[e_]at hy
  obtain⟨zz,hz,rfl⟩:=Option.map_eq_some_iff.mp hy
  unfold wyV at hz
  rw[List.getElem?_map]at hz
  obtain⟨cs,hcs,rfl⟩:=Option.map_eq_some_iff.mp hz
  have C:=j8 K.s1 (List.mem_of_getElem? hcs)
  refine⟨[some r,some (.lst .bor (cmV n z D (sts n s))),some (.lst .frz (wyV .frz n D many (sts n s))),some (.int k),some (.lst .frz (nxV .frz n D many cs)),x5,x6],by rw[Int.zero_add];rfl,?_⟩
  refine rR (fun _ e=>∃x5 x6,e=[some r,some (.lst .bor (cmV n z D (sts n s))),some (.lst .frz (wyV .frz n D many (sts n s))),some (.int k),some (.lst .frz (nxV .frz n D many cs)),x5,x6]) (xs:=nxV .frz n D many cs) (eH (f:=.frz) (by simp[gJ (g:=Fl.lend) (f:=.frz) rfl]) rfl (fB rfl rfl) (fB rfl rfl)) ⟨_,_,rfl⟩ (fun j w e hw hP=>?_) (fun e hP=>?_)
  ·obtain⟨x5,x6,rfl⟩:=hP
   obtain⟨nm,hnm,rfl⟩:=xM hw
   refine⟨[some r,some (.lst .bor (cmV n z D (sts n s))),some (.lst .frz (wyV .frz n D many (sts n s))),some (.int k),some (.lst .frz (nxV .frz n D many cs)),some (.lst .frz (iL nm)),some (.lst .frz (iL (stp n D cs nm)))],rfl,?_⟩
   have ci:=ny (z:=z) (n:=n) (D:=D) hcs .bor
   obtain⟨n1,n2⟩:=pA (z:=z) hm K C hnm .bor
   generalize decide ((mv n D cs).length=z)=b1 at ci
   generalize decide ((mv n D (stp n D cs nm)).length=z)=b2 at n2
   by_cases q:b1=true∧b2=false
   ·obtain⟨rfl,rfl⟩:=q
    refine .inr ⟨_,dR (by simp[K.le,K.tb,dI,ci,n1,n2,aJ]) (bH (v:=.tup [.str "leaves", .lst .own (iL (dgs s k n)),.lst .frz (iL nm)]) (by simp[K.le,K.tb,eT K,aJ]) (by simp)),.inr ⟨_,_,_,rfl,.inr (.inl rfl),by simp,by simp⟩⟩
   ·refine .inl (bN (bB ?_ av) ⟨_,_,rfl⟩)
    cases b1 with
    | false=>simp[dI,ci]
    | true =>
     have:b2=true:=by cases b2<;>simp_all
     subst this
     simp[K.le,K.tb,dI,ci,n1,n2,aJ]
  ·obtain⟨x5,x6,rfl⟩:=hP
   exact⟨_,_,_,_,rfl⟩
 ·obtain⟨x3,x4,x5,x6,rfl⟩:=hP
  exact bt (bH (v:=.non) (by simp) (by simp)) (.inl rfl)
theorem qf{many:Bool}(K:Ru r n s al D):∃v,rX [r,.lst .bor (cmV n z D (sts n s)),.lst .frz (wyV .frz n D many (sts n s))]=.ok v∧(v=.non∧(∀cs∈sts n s,(mv n D cs).length≠z→trn n D many cs≠[])∨ Wrd v):=by
 suffices h:cL (sH [some r,some (.lst .bor (cmV n z D (sts n s))),some (.lst .frz (wyV .frz n D many (sts n s))),none,none]) (fun v=>v=.non∧(∀cs∈sts n s,(mv n D cs).length≠z→trn n D many cs≠[])∨ Wrd v) by
  obtain⟨v,h1,h2⟩:=h
  exact⟨v,aG h1,h2⟩
 unfold sH
 refine jI (fun k e=>(∃x3 x4,e=[some r,some (.lst .bor (cmV n z D (sts n s))),some (.lst .frz (wyV .frz n D many (sts n s))),x3,x4])∧∀j < k,∀cs,(sts n s)[j]?=some cs→(mv n D cs).length≠z→trn n D many cs≠[]) (vA (n:=n) (D:=D) (St:=sts n s) (many:=many) (by simp[gy (g:=Fl.lend) (f:=.frz) rfl])) ⟨⟨_,_,rfl⟩,fun j hj=>absurd hj (Nat.not_lt_zero _)⟩ (fun k y e hy hP=>?_) (fun e hP=>?_)
 ·obtain⟨⟨x3,x4,rfl⟩,hj⟩:=hP
  rw[e_]at hy
  obtain⟨zz,hz,rfl⟩:=Option.map_eq_some_iff.mp hy
  unfold wyV at hz
  rw[List.getElem?_map]at hz
  obtain⟨cs,hcs,rfl⟩:=Option.map_eq_some_iff.mp hz
  refine⟨[some r,some (.lst .bor (cmV n z D (sts n s))),some (.lst .frz (wyV .frz n D many (sts n s))),some (.int k),some (.lst .frz (nxV .frz n D many cs))],by rw[Int.zero_add];rfl,?_⟩
  have ci:=ny (z:=z) (n:=n) (D:=D) hcs .bor
  have nl:(nxV .frz n D many cs).length=(trn n D many cs).length:=by simp[nxV]
  by_cases ne:(mv n D cs).length=z
  ·rw[decide_eq_true ne]at ci
   refine .inl (bN (bB (by simp[dI,ci]) av) ⟨⟨_,_,rfl⟩,fun j h2 cs' h3 h4=>?_⟩)
   by_cases e:j=k
   ·subst e;rw[hcs]at h3;cases h3;exact absurd ne h4
   ·exact hj j (by omega) cs' h3 h4
  ·rw[decide_eq_false ne]at ci
   by_cases q:(trn n D many cs).length=0
   ·have h2:((nxV .frz n D many cs).length:Int)=0:=by omega
    refine .inr ⟨_,dR (by simp[dI,ci,gJ (g:=Fl.lend) (f:=.frz) rfl,h2,-Int.natCast_eq_zero,-List.length_eq_zero_iff]) (bH (v:=.tup [.str "stuck", .lst .own (iL (dgs s k n))]) (by simp[K.le,K.tb,eT K,aJ]) (by simp)),.inr ⟨_,_,_,rfl,.inr (.inr (.inl rfl)),by simp,by simp⟩⟩
   ·have h2:¬((nxV .frz n D many cs).length:Int)=0:=by omega
    refine .inl (bN (bB (by simp[dI,ci,gJ (g:=Fl.lend) (f:=.frz) rfl,h2,-Int.natCast_eq_zero,-List.length_eq_zero_iff]) av) ⟨⟨_,_,rfl⟩,fun j h3 cs' h4 h5=>?_⟩)
    by_cases e:j=k
    ·subst e;rw[hcs]at h4;cases h4
     exact fun z=>q (by rw[z];rfl)
    ·exact hj j (by omega) cs' h4 h5
 ·obtain⟨⟨x3,x4,rfl⟩,hj⟩:=hP
  refine bt (bH (v:=.non) (by simp) (by simp)) (.inl ⟨rfl,fun cs hc h1=>?_⟩)
  obtain⟨j,hj1,hj2⟩:=List.getElem_of_mem hc
  exact hj j (by rw[iy];simpa[wyV]using hj1) cs (by rw[List.getElem?_eq_getElem hj1,hj2]) h1
end
def rO:Option Int→PV
 | some v=>.int v
 | none=>.non
def rL(r:List (Option Int)):List PV:=r.map rO
theorem wK(g:Fl→Fl)(o:Option Int):(rO o).mapF g=rO o:=by cases o<;>simp[rO]
theorem gF(p:Fl→Bool)(o:Option Int):(rO o).has p=false:=by cases o<;>simp[rO]
theorem gG(g:Fl→Fl):∀r,mapL g (rL r)=rL r
 | []=>by simp[rL]
 | o::r=>by
  have:=gG g r
  unfold rL at *
  simp[this,wK]
theorem qx(p:Fl→Bool):∀r,hasL p (rL r)=false
 | []=>by simp[rL]
 | o::r=>by
  have:=qx p r
  unfold rL at *
  simp[this,gF]
theorem kb:∀r,(rL r).all shp=true
 | []=>rfl
 | o::r=>by
  have:=kb r
  unfold rL at *
  rw[List.map_cons,List.all_cons,this]
  cases o<;>rfl
theorem m7:∀r,inL .non (rL r)=r.any Option.isNone
 | []=>rfl
 | o::r=>by
  have:=m7 r
  unfold rL inL at *
  rw[List.map_cons,List.any_cons,this,List.any_cons]
  cases o<;>rfl
theorem lx(r:List (Option Int))(f:Fl):cK .non (.lst f (rL r))=.ok (.bl (!r.any Option.isNone)):=by
 unfold cK
 simp only[bf,nR,kb,Bool.and_self,if_true,m7]
theorem AI(r:List (Option Int))(f:Fl):pIn .non (.lst f (rL r))=.ok (.bl (r.any Option.isNone)):=by
 unfold pIn
 simp only[bf,nR,kb,Bool.and_self,if_true,m7]
theorem rN{r:List (Option Int)}{k:Nat}{o:Option Int}(h:r[k]?=some o)(f:Fl):aK (.lst f (rL r)) (.int k)=.ok (rO o) :=
 fG rfl (by simp[rL,h]) (gF _ _)
theorem mY(o:Option Int):fe (rO o) .non=.ok (.bl o.isNone):=by cases o<;>rfl
structure vv(Fw:List (List Int))(cal:List Bool)(mu:Nat→Nat):Prop where
 len:cal.length=Fw.length
 rng:∀k < Fw.length,∀y∈Fw.getD k [],0≤y∧y.toNat < Fw.length
 fal:∀k < Fw.length,cal[k]?=some false→Fw.getD k []≠ []∧∀y∈Fw.getD k [],cal[y.toNat]?=some false→mu y.toNat < mu k
structure Rk(Fw:List (List Int))(cal:List Bool)(r:List (Option Int)):Prop where
 len:r.length=Fw.length
 no:∀k:Nat,r[k]?=some none→cal[k]?=some false
def og(r:List (Option Int))(y:Int):Option Int:=r.getD y.toNat none
theorem vU{r:List (Option Int)}{y:Int}(h:y.toNat < r.length):r[y.toNat]?=some (og r y):=by simp[og,h]
theorem Rk.step{Fw:List (List Int)}{cal:List Bool}{r:List (Option Int)}{k:Nat}(h:Rk Fw cal r)(v:Int):Rk Fw cal (r.set k (some v)):=by
 refine⟨by simpa using h.len,fun j hj=>h.no j ?_⟩
 rw[List.getElem?_set]at hj
 by_cases e:k=j
 ·rw[if_pos e]at hj
  split at hj<;>cases hj
 ·rw[if_neg e]at hj
  exact hj
def nns(r:List (Option Int)):Nat:=(r.filter Option.isNone).length
theorem n_:∀{r:List (Option Int)}{k:Nat} (v:Int),r[k]?=some none→nns (r.set k (some v))+1=nns r
 | [],k,v,h=>by simp at h
 | o::r,0,v,h=>by
  simp at h
  subst h
  simp[nns]
 | o::r,k+1,v,h=>by
  have:=n_ (r:=r) (k:=k) v (by simpa using h)
  unfold nns at *
  rw[List.set_cons_succ]
  cases o<;>simp<;>omega
theorem Rk.all{Fw:List (List Int)}{cal:List Bool}{mu:Nat→Nat}{r:List (Option Int)}(F:vv Fw cal mu)(h:Rk Fw cal r)(cl:∀k,r[k]?=some none→∃y∈Fw.getD k [],r[y.toNat]?=some none):∀(m k:Nat),mu k < m→r[k]?≠some none
 | 0,_,h=>absurd h (Nat.not_lt_zero _)
 | m+1,k,hm=>fun hk=>by
  obtain⟨y,hy,ry⟩:=cl k hk
  have kl:k < r.length:=(List.getElem?_eq_some_iff.mp hk).1
  have:=(F.fal k (by rw[← h.len];exact kl) (h.no k hk)).2 y hy (h.no _ ry)
  exact Rk.all F h cl m y.toNat (by omega) ry
theorem io(l:List Int):rL (l.map some)=iL l:=by simp[rL,iL,rO]
theorem wL(r:List (Option Int))(k:Nat)(v:Int):(rL r).set k (.int v)=rL (r.set k (some v)):=by simp[rL,List.map_set,rO]
theorem ji:∀{l:List (Option Int)},l.any Option.isNone=false→l=(l.map fun o=>o.getD 0).map some
 | [],_=>rfl
 | none::l,h=>by simp at h
 | some v::l,h=>by
  have:=ji (l:=l) (by simpa using h)
  simp only[List.map_cons,Option.getD_some]
  rw[← this]
def Cl(Fw:List (List Int))(r:List (Option Int)):Prop:=∀k,r[k]?=some none→∃y∈Fw.getD k [],r[y.toNat]?=some none
theorem mI{Fw:List (List Int)}{cal:List Bool}{mu:Nat→Nat}{r:List (Option Int)}{k:Nat}{F:List Int}{x0 x1 x3 x4:Option PV}(hr:Rk Fw cal r)(W:vv Fw cal mu)(hk:Fw[k]?=some F)(hF:F.length≤1000):aR [2] 1 (bx (ac 5)) (tgN 1) bc (mOp aK (ac 0) (ac 1)) [x0,x1,some (.lst .own (rL r)),x3,x4,some (.lst .bor (iL F))]=.ok (.lst .own (rL (F.map (og r)))):=by
 have kl:k < Fw.length:=(List.getElem?_eq_some_iff.mp hk).1
 have eF:Fw.getD k []=F:=by simp[List.getD_eq_getElem?_getD,hk]
 refine bY (xs:=iL F) (by simp) (by simp;omega) ?_
 rw[show rL (F.map (og r))=F.map fun y=>rO (og r y) by simp[rL]]
 refine bu (a:=PV.int) (f:=fun y=>rO (og r y)) F fun y hy=>⟨[some (.lst .bor (rL r)),some (.int y)],by simp[tgN,bq,ce,PV.borrow,gG],?_,gF _ _,gF _ _⟩
 obtain⟨y0,y1⟩:=W.rng k kl y (by rw[eF];exact hy)
 have:=rN (vU (r:=r) (y:=y) (by rw[hr.len];exact y1)) .bor
 rw[Int.toNat_of_nonneg y0]at this
 simp[gG,this]
theorem qv{Fw:List (List Int)}{mu:Nat→Nat}{calms:List Bool}(W:vv Fw calms mu)(hl:Fw.length≤1000)(hF:∀F∈Fw,F.length≤1000) :
  ∃R:List Int,yh [.lst .bor (calms.map .bl),.lst .bor (llL .bor Fw)]=.ok (.lst .own (iL R)):=by
 have hc:=W.len
 have bmap:∀(g:Fl→Fl),mapL g (calms.map .bl)=calms.map .bl:=fun g=>by
  clear hc W
  induction calms with
  | nil=>simp
  | cons a l ih=>simp[ih]
 suffices hh:cL (yP [some (.lst .bor (calms.map .bl)),some (.lst .bor (llL .bor Fw)),none,none,none,none]) (fun x=>∃r,x=.lst .own (rL r)∧Rk Fw calms r∧Cl Fw r) by
  obtain⟨x,e,r,rfl,hr,cl⟩:=hh
  have al:=fun k=>Rk.all W hr cl (mu k+1) k (by omega)
  have es:r.any Option.isNone=false:=by
   rw[List.any_eq_false]
   intro o ho q
   obtain⟨k,hk,rfl⟩:=List.getElem_of_mem ho
   refine al k ?_
   rw[List.getElem?_eq_getElem hk]
   cases h:r[k]with
   | none=>rfl
   | some v=>rw[h]at q;simp at q
  have e2:=ji es
  generalize(r.map fun o=>o.getD 0)=R at e2
  subst e2
  rw[io]at e
  exact⟨R,aG e⟩
 unfold yP
 have c0:aR [] 1 (bx (ac 0)) (tgN 0) bc (jq (aV (ac 0)) (mC (.int (0))) (mC .non)) [some (.lst .bor (calms.map .bl)),some (.lst .bor (llL .bor Fw)),none,none,none,none]=.ok (.lst .own (rL (calms.map fun b=>if b then some 0 else none))):=by
  refine bY (xs:=calms.map .bl) (by simp[bmap]) (by simp;omega) ?_
  rw[show rL (calms.map fun b=>if b then some (0:Int)else none)=calms.map fun b=>rO (if b then some 0 else none) by simp[rL]]
  exact bu (a:=PV.bl) (f:=fun b=>rO (if b then some 0 else none)) calms fun b hb=>⟨[some (.bl b)],by simp[tgN,bq,b9,ce],by cases b<;>simp[rO],gF _ _,gF _ _⟩
 refine ax (aw c0 (by simp[qx]) rfl) ?_
 simp only[List.set_cons_zero,List.set_cons_succ]
 refine ax (aw (v:=.bl true) (by simp) (by simp) rfl) ?_
 simp only[List.set_cons_zero,List.set_cons_succ]
 have R0:Rk Fw calms (calms.map fun b=>if b then some 0 else none):=by
  refine⟨by simpa using hc,fun k hk=>?_⟩
  rw[List.getElem?_map]at hk
  obtain⟨b,hb,e⟩:=Option.map_eq_some_iff.mp hk
  cases b with
  | true=>simp at e
  | false=>exact hb
 generalize(calms.map fun b=>if b then some (0:Int)else none)=r0 at *
 have ns0:nns r0≤1000:=by
  have:=List.length_filter_le Option.isNone r0
  unfold nns
  have:=R0.len
  omega
 refine mH (Fin:=fun e=>∃r x3 x4 x5,e=[some (.lst .bor (calms.map .bl)),some (.lst .bor (llL .bor Fw)),some (.lst .own (rL r)),x3,x4,x5]∧Rk Fw calms r∧Cl Fw r) (fun m e=>∃r g x4 x5,e=[some (.lst .bor (calms.map .bl)),some (.lst .bor (llL .bor Fw)),some (.lst .own (rL r)),some (.bl g),x4,x5]∧Rk Fw calms r∧(g=true→m=nns r+1)∧(g=false→m=0∧Cl Fw r)) (nns r0+1) (by omega) ⟨r0,true,_,_,rfl,R0,fun _=>rfl,fun h=>by cases h⟩ (fun m e hP=>?_) (fun e hP=>?_)
 ·obtain⟨r,g,x4,x5,rfl,hr,hg1,hg2⟩:=hP
  cases g with
  | false=>exact .inl ⟨by simp,r,_,_,_,rfl,hr,(hg2 rfl).2⟩
  | true =>
   refine .inr ⟨by simp,?_⟩
   have it:et (ac 1) [some (.lst .bor (calms.map .bl)),some (.lst .bor (llL .bor Fw)),some (.lst .own (rL r)),some (.bl false),x4,x5]=.ok (enP 0 (llL .bor Fw)):=by
    unfold et
    simp[ff,b_ Fw Fl.isOwn .bor rfl,b_ Fw Fl.isLnt .bor rfl]
   refine Exists.elim (gn (g:=tgT 2 (bI (tgN 4) (bI (tgN 5) gX))) (body:=mBr ((dC (aq (mOp fe (mOp aK (ac 2) (ac 4)) (mC .non))) (aq (mOp cK (mC .non) (aR [2] 1 (bx (ac 5)) (tgN 1) bc (mOp aK (ac 0) (ac 1)))))))
  (ak (eQ 2 (ac 4) (mOp aL (mC (.int (1))) (ao (p1 (dy eA)) (ad (aR [2] 1 (bx (ac 5)) (tgN 1) bc (mOp aK (ac 0) (ac 1))) ai))))
 (aE 3 (mC (.bl true))))
  aB) (fun k e=>∃r' g x4 x5,e=[some (.lst .bor (calms.map .bl)),some (.lst .bor (llL .bor Fw)),some (.lst .own (rL r')),some (.bl g),x4,x5]∧Rk Fw calms r'∧nns r'≤nns r∧(g=true→nns r' < nns r)∧(g=false→r'=r∧∀j < k,r[j]?=some none→∃y∈Fw.getD j [],r[y.toNat]?=some none)) it ⟨r,false,_,_,rfl,hr,Nat.le_refl _,nofun,fun _=>⟨rfl,fun j hj=>absurd hj (Nat.not_lt_zero _)⟩⟩ (fun k x e hx hP=>?_)) (fun e2 b=>?_)
   rotate_left
   ·obtain⟨b1,b2⟩:=b
    rw[iy,oq]at b2
    obtain⟨r',g,y4,y5,rfl,hr',_,g1,g2⟩:=b2
    have eb:=aj (a:=aE 3 (mC (.bl false))) (env:=[some (.lst .bor (calms.map .bl)),some (.lst .bor (llL .bor Fw)),some (.lst .own (rL r)),some (.bl true),x4,x5]) (aw (v:=.bl false) (by simp) (by simp) rfl) b1
    cases g with
    | true=>exact⟨nns r' + 1,_,by have:=hg1 rfl;have:=g1 rfl;omega,.inl eb,r',true,_,_,rfl,hr',fun _=>rfl,fun h=>by cases h⟩
    | false =>
     obtain⟨e3,cl⟩:=g2 rfl
     subst e3
     refine⟨0,_,by have:=hg1 rfl;omega,.inl eb,r',false,_,_,rfl,hr',nofun,fun _=>⟨rfl,fun k hk=>cl k ?_ hk⟩⟩
     rw[← hr.len]
     exact(List.getElem?_eq_some_iff.mp hk).1
   ·obtain⟨r',g,x4,x5,rfl,hr',q0,q1,q2⟩:=hP
    rw[e_]at hx
    obtain⟨z,hz,rfl⟩:=Option.map_eq_some_iff.mp hx
    obtain⟨F,hkF,rfl⟩:=uL _ _ hz
    have kl:k < Fw.length:=(List.getElem?_eq_some_iff.mp hkF).1
    have eF:Fw.getD k []=F:=by simp[List.getD_eq_getElem?_getD,hkF]
    have cm:=mI (x0:=some (.lst .bor (calms.map .bl))) (x1:=some (.lst .bor (llL .bor Fw))) (x3:=some (.bl g)) (x4:=some (.int k)) hr' W hkF (hF F (List.mem_of_getElem? hkF))
    obtain⟨o,ho⟩:∃o,r'[k]?=some o:=⟨_,List.getElem?_eq_getElem (by rw[hr'.len];exact kl)⟩
    have ix:∀f,aK (.lst f (rL r')) (.int k)=.ok (rO o):=rN ho
    refine⟨[some (.lst .bor (calms.map .bl)),some (.lst .bor (llL .bor Fw)),some (.lst .own (rL r')),some (.bl g),some (.int k),some (.lst .bor (iL F))],?_⟩
    rw[Int.zero_add]
    cases o with
    | some v =>
     refine⟨_,rfl,.inl (bB (by simp[gG,ix,mY]) av),r',g,_,_,rfl,hr',q0,q1,fun h=>?_⟩
     obtain⟨e3,cl⟩:=q2 h
     refine⟨e3,fun j hj hn=>?_⟩
     by_cases e4:j=k
     ·rw[e4,← e3,ho]at hn
      cases hn
     ·exact cl j (by omega) hn
    | none =>
     cases an:(F.map (og r')).any Option.isNone with
     | true =>
      refine⟨_,rfl,.inl (bB (by simp only[oI,oH,jW,sh,cm];simp[gG,ix,mY,lx,an,-List.any_map]) av),r',g,_,_,rfl,hr',q0,q1,fun h=>?_⟩
      obtain⟨e3,cl⟩:=q2 h
      refine⟨e3,fun j hj hn=>?_⟩
      by_cases e4:j=k
      ·rw[e4,eF]
       obtain⟨o,h1,h2⟩:=List.any_eq_true.mp an
       obtain⟨y,hy,rfl⟩:=List.mem_map.mp h1
       obtain⟨y0,y1⟩:=W.rng k kl y (by rw[eF];exact hy)
       refine⟨y,hy,?_⟩
       rw[← e3,vU (by rw[hr'.len];exact y1)]
       cases h:og r' y with
       | none=>rfl
       | some v=>rw[h]at h2;simp at h2
      ·exact cl j (by omega) hn
     | false =>
      have e5:=ji an
      generalize(F.map (og r')).map (fun o=>o.getD 0)=l at e5
      have ne:l≠[]:=fun e=>by
       rw[e]at e5
       exact(W.fal k kl (hr'.no k ho)).1 (by rw[eF];exact List.map_eq_nil_iff.mp e5)
      have mx:dy eA (.lst .own (iL l))=.ok (.int (eA l)):=by
       unfold dy
       simp only[bf,gP]
       rw[if_neg (by cases l<;>simp_all)]
      have st:=n_ (1+eA l) ho
      have ni:cK .non (.lst .own (iL l))=.ok (.bl true):=by rw[← io,lx];simp
      rw[e5,io]at cm
      refine⟨_,rfl,.inl (dR (by simp only[oI,oH,jW,sh,cm];simp[gG,ix,mY,ni]) (aj (qk (v:=.int (1+eA l)) (xs:=rL r') (j:=k) (n:=k) (by simp only[jW,sh,kD,iw,nr,cm];simp[mx]) rfl (by simp) (ox (by simp[rL,hr'.len];exact kl)) (by simp)) (aw (v:=.bl true) (by simp) (by simp) rfl))),?_⟩
      simp only[List.set_cons_zero,List.set_cons_succ,wL]
      exact⟨_,true,_,_,rfl,hr'.step _,by omega,fun _=>by omega,fun h=>by cases h⟩
 ·obtain⟨r,x3,x4,x5,rfl,hr,cl⟩:=hP
  exact bt (cr rfl) ⟨r,rfl,hr,cl⟩
section
variable{r:PV}{al:Bool}{z n:Nat}{s:Int}{D:List Int→Nat→Int}{cs:List Int}{fc:Fl}
theorem nh{many:Bool}{k:Nat}{St:List (List Int)}(h:St[k]?=some cs):(St.map (fol n s D many)).getD k []=fol n s D many cs:=by simp[List.getD_eq_getElem?_getD,h]
theorem AY(St:List (List Int)):cmV n z D St=(St.map fun cs=>decide ((mv n D cs).length=z)).map PV.bl:=by simp[cmV]
def Fal(n z:Nat)(s:Int)(D:List Int→Nat→Int)(many:Bool)(mu:List Int→Nat):Prop:=∀cs,Ce n s cs→(mv n D cs).length≠z→∀nm∈trn n D many cs,(mv n D (stp n D cs nm)).length≠z→mu (stp n D cs nm) < mu cs
theorem AO{many:Bool}{mu:List Int→Nat}(K:Ru r n s al D)(Fa:Fal n z s D many mu)(hs:∀cs∈sts n s,(mv n D cs).length≠z→trn n D many cs≠[]):vv ((sts n s).map (fol n s D many)) ((sts n s).map fun cs=>decide ((mv n D cs).length=z)) (fun k=>mu (dgs s k n)):=by
 refine⟨by simp,fun k hk y hy=>?_,fun k hk hc=>⟨?_,fun y hy hc2=>?_⟩⟩
 all_goals rw[List.length_map,im]at hk
 ·rw[nh (fk hk)]at hy
  obtain⟨nm,hnm,rfl⟩:=List.mem_map.mp hy
  obtain⟨h0,h1⟩:=(mj K (nA (n:=n) K.s1 (k:Int)) nm).num_rng K.s1
  refine⟨h0,by rw[List.length_map,im];omega⟩
 ·rw[nh (fk hk)]
  rw[List.getElem?_map,fk hk]at hc
  have hc:(mv n D (dgs s k n)).length≠z:=by simpa using hc
  unfold fol
  rw[Ne,List.map_eq_nil_iff]
  exact hs _ (List.mem_of_getElem? (fk hk)) hc
 ·rw[nh (fk hk)]at hy
  rw[List.getElem?_map,fk hk]at hc
  have hc:(mv n D (dgs s k n)).length≠z:=by simpa using hc
  obtain⟨nm,hnm,rfl⟩:=List.mem_map.mp hy
  have C:=nA (n:=n) K.s1 (k:Int)
  have E:=mj K C nm
  obtain⟨h0,h1⟩:=E.num_rng K.s1
  rw[List.getElem?_map,(j7 K.s1 E).2]at hc2
  have hc2:(mv n D (stp n D (dgs s k n) nm)).length≠z:=by simpa using hc2
  show mu (dgs s (((num s _).toNat:Nat):Int) n) < mu (dgs s k n)
  rw[Int.toNat_of_nonneg h0,E.dgs K.s1]
  exact Fa _ C hc nm hnm hc2
theorem rM(a b:PV)(h:b.has Fl.isOwn=false):aK (.tup [a,b]) (.int 1)=.ok b:=by
 have:=fG (x:=.tup [a,b]) (k:=1) (y:=b) rfl rfl h
 exact this
theorem wH{many:Bool}{mu:List Int→Nat}(hm:Md n al many)(K:Ru r n s al D)(Fa:Fal n z s D many mu)(hs:∀cs∈sts n s,(mv n D cs).length≠z→trn n D many cs≠[]):∃R:List Int,yr [r,.lst .bor (cmV n z D (sts n s)),.lst .frz (wyV .frz n D many (sts n s))]=.ok (.tup [.str "calm", .lst .frz (iL R)]):=by
 have big:=K.big
 have s2:=K.s1
 have n6:=K.n3
 have sl:(sts n s).length≤256:=by rw[im];omega
 have pp:0 < s ^ n:=Int.pow_pos (by omega)
 obtain ⟨R,hR⟩:=qv (AO K Fa hs) (by rw [List.length_map];omega) (fun F hF=>by
  obtain⟨cs,_,rfl⟩:=List.mem_map.mp hF
  have:=j6 (n:=n) (D:=D) (cs:=cs) (many:=many) n6 fun h=>(hm h).2
  simp[fol]
  omega)
 rw[← AY]at hR
 refine⟨R,?_⟩
 refine aG ?_
 show yV [some r,some (.lst .bor (cmV n z D (sts n s))),some (.lst .frz (wyV .frz n D many (sts n s))),none,none]=_
 unfold yV
 have cp:aR [0] 1 (bx (ac 2)) (tgN 1) bc (aR [0] 1 (bx (ac 1)) (tgN 1) bc (ao (aA jV) (ad (ac 0) (ad (mOp aK (ac 1) (mC (.int (1)))) ai)))) [some r,some (.lst .bor (cmV n z D (sts n s))),some (.lst .frz (wyV .frz n D many (sts n s))),none,none]=.ok (.lst .own (llL .own ((sts n s).map (fol n s D many)))):=by
  refine bY (xs:=wyV .frz n D many (sts n s)) (by simp[gy (g:=Fl.lend) (f:=.frz) rfl]) (by simp[wyV];omega) ?_
  rw[show llL .own ((sts n s).map (fol n s D many))=(sts n s).map fun cs=>PV.lst .own (iL (fol n s D many cs)) by simp[llL]]
  refine bu (a:=fun cs=>PV.lst .frz (nxV .frz n D many cs)) (f:=fun cs=>PV.lst .own (iL (fol n s D many cs))) (sts n s) fun cs hcs=>⟨[some r,some (.lst .frz (nxV .frz n D many cs))],by simp[tgN,bq,ce,PV.borrow,K.bo,gJ (g:=Fl.borrow) (f:=.frz) rfl],?_,by simp,by simp⟩
  have tl:=j6 (n:=n) (D:=D) (cs:=cs) (many:=many) n6 fun h=>(hm h).2
  refine bY (xs:=nxV .frz n D many cs) (by simp[gJ (g:=Fl.lend) (f:=.frz) rfl]) (by simp[nxV];omega) ?_
  rw[show iL (fol n s D many cs)=(trn n D many cs).map fun nm=>PV.int (num s (stp n D cs nm)) by simp[fol,iL]]
  refine bu (a:=fun nm=>PV.tup [.lst .frz (iL nm),.lst .frz (iL (stp n D cs nm))]) (f:=fun nm=>PV.int (num s (stp n D cs nm))) (trn n D many cs) fun nm hm=>⟨[some r,some (.tup [.lst .frz (iL nm),.lst .frz (iL (stp n D cs nm))])],by simp[tgN,bq,ce,PV.borrow,K.bo],?_,by simp,by simp⟩
  have nk:=fY (fc:=.frz) (cs:=stp n D cs nm) nB K
  have it:=rM (.lst .frz (iL nm)) (.lst .frz (iL (stp n D cs nm))) (by simp)
  simp[K.le,K.tb,it,nk,aJ]
 refine aj (aw cp (by simp only[c9,d9];rw[b_ _ _ _ rfl];rfl) rfl) ?_
 simp only[List.set_cons_zero,List.set_cons_succ]
 refine aj (aw (v:=.lst .own (iL R)) (by simp[dI,hR,aJ]) (by simp) rfl) ?_
 simp only[List.set_cons_zero,List.set_cons_succ]
 have ni:∀f,pIn .non (.lst f (iL R))=.ok (.bl false):=fun f=>by rw[← io,AI];simp
 refine aj (bB (by simp[ni]) av) ?_
 refine aj (gT (v:=.lst .own (iL R)) rfl) ?_
 simp only[List.set_cons_zero,List.set_cons_succ,c_,jP,cw]
 exact bH (by simp) (by simp)
theorem kq{many:Bool}{mu:List Int→Nat}(hm:Md n al many)(K:Ru r n s al D)(ca:∀cs,Ce n s cs→pq aS (.ok [.lst .bor (iL cs)]) r=.ok (.bl (decide ((mv n D cs).length=z))))(Fa:Fal n z s D many mu):∃v,gq [r,.bl many]=.ok v∧Wrd v:=by
 have big:=K.big
 have s2:=K.s1
 have n6:=K.n3
 have sl:(sts n s).length≤256:=by rw[im];omega
 have pp:0 < s ^ n:=Int.pow_pos (by omega)
 suffices h:cL (jh [some r,some (.bl many),none,none,none,none]) Wrd by
  obtain⟨v,h1,h2⟩:=h
  exact⟨v,aG h1,h2⟩
 unfold jh
 refine ax (gs (v:=.non) (by simp[K.le,K.tb,eL K hm,aJ])) ?_
 refine ax (gs (v:=.non) (by simp[K.le,K.tb,ig K hm,aJ])) ?_
 obtain⟨S,hS⟩:∃S:Nat,s ^ n=(S:Int):=⟨(s ^ n).toNat,by omega⟩
 have st:=fM K
 rw[hS]at st
 have c1:aR [0] 1 (bO (ad (ao (aA jU) (ad (ac 0) ai)) ai)) (tgN 1) bc (ao (aA i6) (ad (ac 0) (ad (ac 1) ai))) [some r,some (.bl many),none,none,none,none]=.ok (.lst .own (llL .own (sts n s))):=by
  refine bY (xs:=cJ 0 S) (dw (n:=S) (by simp[K.le,K.tb,st,aJ]) (by omega)) (by rw[cD];omega) ?_
  have e:llL .own (sts n s)=(List.range S).map fun k:Nat=>PV.lst .own (iL (dgs s k n)):=by simp[llL,sts,hS]
  rw[e]
  exact bu (a:=fun k:Nat=>PV.int (0+(k:Int))) (f:=fun k:Nat=>PV.lst .own (iL (dgs s k n))) (List.range S) fun k hk=>⟨[some r,some (.int (0+(k:Int)))],by simp[tgN,bq,ce,PV.borrow,K.bo],by simp[K.le,K.tb,eT K,aJ],by simp,by simp⟩
 refine ax (aw c1 (by simp only[c9,d9];rw[b_ _ _ _ rfl];rfl) rfl) ?_
 simp only[List.set_cons_zero,List.set_cons_succ]
 have c2:aR [0] 1 (bx (ac 2)) (tgN 1) bc (eB aS (ac 0) (ad (ac 1) ai)) [some r,some (.bl many),some (.lst .own (llL .own (sts n s))),none,none,none]=.ok (.lst .own (cmV n z D (sts n s))):=by
  refine bY (xs:=llL .lnt (sts n s)) (by simp) (by simp;omega) ?_
  exact bu (a:=fun cs=>PV.lst .lnt (iL cs)) (f:=fun cs=>PV.bl (decide ((mv n D cs).length=z))) (sts n s) fun cs hcs=>⟨[some r,some (.lst .bor (iL cs))],by simp[tgN,bq,ce,PV.borrow,K.bo],by simp[K.le,ca cs (j8 s2 hcs)],by simp,by simp⟩
 refine ax (aw c2 (by simp[yD]) rfl) ?_
 simp only[List.set_cons_zero,List.set_cons_succ]
 have c3:aR [0,1] 1 (bx (ac 2)) (tgN 2) bc (ao (aA oC) (ad (ac 0) (ad (ac 2) (ad (ac 1) ai)))) [some r,some (.bl many),some (.lst .own (llL .own (sts n s))),some (.lst .own (cmV n z D (sts n s))),none,none]=.ok (.lst .own (wyV .own n D many (sts n s))):=by
  refine bY (xs:=llL .lnt (sts n s)) (by simp) (by simp;omega) ?_
  refine bu (a:=fun cs=>PV.lst .lnt (iL cs)) (f:=fun cs=>PV.lst .own (nxV .own n D many cs)) (sts n s) fun cs hcs=>⟨[some r,some (.bl many),some (.lst .bor (iL cs))],by simp[tgN,bq,ce,PV.borrow,K.bo],?_,?_,?_⟩
  ·simp[K.le,K.tb,qX hm jg K (j8 s2 hcs),aJ,fB (p:=Fl.isBor) (f:=.own) rfl rfl]
  ·simp[fB (p:=Fl.isBor) (f:=.own) rfl rfl]
  ·simp[fB (p:=Fl.isLnt) (f:=.own) rfl rfl]
 refine ax (aw c3 (by simp[l9 (p:=Fl.isLnt) (f:=.own) rfl rfl]) rfl) ?_
 simp only[List.set_cons_zero,List.set_cons_succ]
 refine ax (gT (v:=.lst .own (wyV .own n D many (sts n s))) rfl) ?_
 simp only[List.set_cons_zero,List.set_cons_succ,c_,gy (g:=Fl.freeze) (f:=.own) rfl,cw]
 have wl:=gy (n:=n) (D:=D) (many:=many) (g:=Fl.lend) (f:=.frz) rfl (sts n s)
 have wt:=gy (n:=n) (D:=D) (many:=many) (g:=Fl.toBor) (f:=.frz) rfl (sts n s)
 have wn:∀v,Wrd v→aJ v=.ok v∧v.noLnt=true∧fe v .non=.ok (.bl false):=fun v hv=>by
  obtain⟨w,a,l,rfl,_,h1,h2⟩:=hv
  simp[aJ,h1,h2,fe,PV.isNon]at *
 obtain⟨v1,l1,l2⟩:=mW (z:=z) hm K
 have nb1:aJ v1=.ok v1∧v1.noLnt=true:=by
  rcases l2 with rfl | h
  ·exact⟨by simp[aJ],by simp⟩
  ·exact⟨(wn _ h).1,(wn _ h).2.1⟩
 refine ax (aw (v:=v1) (by simp[K.le,K.tb,wl,wt,dI,l1,nb1.1]) nb1.2 rfl) ?_
 simp only[List.set_cons_zero,List.set_cons_succ]
 rcases l2 with rfl | h
 ·obtain⟨v2,m1,m2⟩:=qf (z:=z) (many:=many) K
  have nb2:aJ v2=.ok v2∧v2.noLnt=true:=by
   rcases m2 with⟨rfl,_⟩ | h
   ·exact⟨by simp[aJ],by simp⟩
   ·exact⟨(wn _ h).1,(wn _ h).2.1⟩
  refine ax (dR (by simp[fe,PV.isNon]) (aw (v:=v2) (by simp[K.le,K.tb,wl,wt,dI,m1,nb2.1]) nb2.2 rfl)) ?_
  simp only[List.set_cons_zero,List.set_cons_succ]
  rcases m2 with⟨rfl,hs⟩ | h
  ·obtain⟨R,hR⟩:=wH hm K Fa hs
   refine ax (dR (by simp[fe,PV.isNon]) (aw (v:=.tup [.str "calm", .lst .frz (iL R)]) (by simp[K.le,K.tb,wl,wt,dI,hR,aJ]) (by simp) rfl)) ?_
   simp only[List.set_cons_zero,List.set_cons_succ]
   exact bt (cr rfl) ⟨_,_,_,rfl,.inl rfl,by simp,by simp⟩
  ·obtain⟨w,a,l,rfl,h0⟩:=h
   refine ax (bB (by simp[fe,PV.isNon]) av) ?_
   exact bt (cr rfl) ⟨w,a,l,rfl,h0⟩
 ·obtain⟨w,a,l,rfl,h0⟩:=h
  refine ax (bB (by simp[fe,PV.isNon]) av) ?_
  refine ax (bB (by simp[fe,PV.isNon]) av) ?_
  exact bt (cr rfl) ⟨w,a,l,rfl,h0⟩
end
structure At(r:PV)(n:Nat)(s:Int)(al:Bool):Prop where
 le:r.mapF Fl.lend=r
 tb:r.mapF Fl.toBor=r
 a0:ar 0 r=.ok (.int n)
 a7:ar 7 r=.ok (.int s)
 a8:ar 8 r=.ok (.bl al)
 n3:n≤300
 s1:1≤s
section
variable{r:PV}{n:Nat}{s:Int}{al many:Bool}
theorem iN{a b:Nat}(h:1≤s)(hab:a≤b):s ^ a≤s ^ b:=by
 have:=(gf h (a:=a) (b - a)).2
 rwa [show a+(b - a)=b by omega]at this
theorem mq(A:At r n s al):∃u,jU [r]=.ok (.int u)∧(256 < u↔256 < s ^ n):=by
 have s1:=A.s1
 have n3:=A.n3
 suffices h:cL (l6 [some r,none,none]) (fun v=>∃u,v=.int u∧(256 < u↔256 < s ^ n)) by
  obtain⟨v,h1,u,rfl,h2⟩:=h
  exact⟨u,aG h1,h2⟩
 unfold l6
 refine ax (aw (v:=.int 1) (by simp) (by simp) rfl) ?_
 simp only[List.set_cons_zero,List.set_cons_succ]
 have q:=kA (env:=[some r,some (.int 1),none]) (g:=tgN 2) (body:=ak (aE 1 (mOp cf (ac 1) (mUn (ar 7) (ac 0)))) (mBr (aq (mOp pGt (ac 1) (mC (.int (256))))) mV aB))
  (fun k e=>∃x2,e=[some r,some (.int (s ^ k)),x2]∧s ^ k≤256) (fun o=>∃u x2,o=.next [some r,some (.int u),x2]∧(256 < u↔256 < s ^ n)) (dw (ms:=ad (mUn (ar 0) (ac 0)) ai) (n:=n) (by simp[A.le,A.a0]) (by omega)) ⟨none,by rw[Int.pow_zero],by rw[Int.pow_zero];omega⟩ (fun k y e hy hP=>?_) (fun e hP=>?_)
 ·obtain⟨u,x2,h1,h2⟩:=q
  exact ax h1 (bt (cr rfl) ⟨u,rfl,h2⟩)
 ·obtain⟨x2,rfl,hk6⟩:=hP
  obtain⟨hk,rfl⟩:=iG hy
  have h1:=iN (s:=s) s1 (show k+1≤n by omega)
  have h0:1≤s ^ k:=(gf s1 (a:=k) 0).1
  have mm:cf (.int (s ^ k)) (.int s)=.ok (.int (s ^ (k+1))):=by rw[Int.pow_succ];exact fC (.inl ⟨by omega,by omega⟩)
  refine⟨_,eG rfl,?_⟩
  simp only[List.set_cons_zero,List.set_cons_succ]
  have st:=aw (env:=[some r,some (.int (s ^ k)),some (.int (0+(k:Int)))]) (i:=1) (m:=mOp cf (ac 1) (mUn (ar 7) (ac 0))) (v:=.int (s ^ (k+1))) (by simp[A.le,A.a7,mm]) (by simp) rfl
  simp only[List.set_cons_zero,List.set_cons_succ]at st
  generalize s ^ (k+1)=u at *
  by_cases q:256 < u
  ·exact .inr (.inl ⟨_,aj st (dR (by simp[q]) rfl),u,_,rfl,by omega⟩)
  ·exact .inl ⟨_,.inl (aj st (bB (by simp[q]) av)),_,rfl,by omega⟩
 ·obtain⟨x2,rfl,h⟩:=hP
  rw[cD]at h ⊢
  exact⟨_,_,rfl,Iff.rfl⟩
theorem jS(A:At r n s true):gq [r,.bl true]=.exc 4:=by
 have e:pP [r,.bl true]=.exc 4:=by
  refine fQ (e:=[some r,some (.bl true)]) ?_
  show nC [some r,some (.bl true)]=_
  unfold nC
  exact dR (by simp[A.le,A.a8]) (gE (xs:=[.str "a rule that is alone gets one machine at a turn"]) (by simp))
 refine fQ (e:=[some r,some (.bl true),none,none,none,none]) ?_
 show jh [some r,some (.bl true),none,none,none,none]=_
 unfold jh
 exact kc (ja (by simp[A.le,A.tb,e]))
theorem iZ(A:At r n s al)(hm:(many&&al)=false)(hg:256 < s ^ n∨many=true∧4 < n):gq [r,.bl many]=.exc 6:=by
 have e1:pP [r,.bl many]=.ok .non:=by
  refine eX ?_
  show Ends (nC [some r,some (.bl many)])
  unfold nC
  refine e9 (bB ?_ av)
  cases many with
  | false=>simp
  | true=>simp[A.le,A.a8];simpa using hm
 have e2:u7 [r,.bl many]=.exc 6:=by
  refine fQ (e:=[some r,some (.bl many)]) ?_
  show sG [some r,some (.bl many)]=_
  unfold sG
  obtain⟨u,h1,h2⟩:=mq A
  by_cases q:256 < s ^ n
  ·exact kc (dR (by simp[A.le,A.tb,h1,aJ,h2.mpr q]) (gE (xs:=[.str "the rule has too many states"]) (by simp)))
  ·obtain⟨rfl,h4⟩:=hg.resolve_left q
   refine aj (bB (by simp[A.le,A.tb,h1,aJ,show ¬256 < u from fun z=>q (h2.mp z)]) av) ?_
   exact dR (by simp[A.le,A.a0];omega) (gE (xs:=[.str "the rule has too many machines for many at once"]) (by simp))
 refine fQ (e:=[some r,some (.bl many),none,none,none,none]) ?_
 show jh [some r,some (.bl many),none,none,none,none]=_
 unfold jh
 refine aj (gs (v:=.non) (by simp[A.le,A.tb,e1,aJ])) ?_
 exact kc (ja (by simp[A.le,A.tb,e2]))
def eD(n:Nat)(s:Int)(al many:Bool):Str:=if(many&&al)=true then "turn" else if 256 < s ^ n∨many=true∧4 < n then "great" else "told"
theorem mX(n3:n≤300)(s1:1≤s):r6 [.int n,.int s,.bl al,.bl many]=.ok (.str (eD n s al many)):=by
 refine aG ?_
 show sL [some (.int n),some (.int s),some (.bl al),some (.bl many),none,none]=_
 unfold sL eD
 by_cases h:(many&&al)=true
 ·rw[if_pos h]
  obtain⟨rfl,rfl⟩:many=true∧al=true:=by simpa using h
  exact dq (dR (by simp) (bH (by simp) (by simp)))
 ·rw[if_neg h]
  refine aj (bB (by cases many<;>cases al<;>simp_all) av) ?_
  refine aj (aw (v:=.int 1) (by simp) (by simp) rfl) ?_
  simp only[List.set_cons_zero,List.set_cons_succ]
  refine eW (fun k e=>∃x5,e=[some (.int n),some (.int s),some (.bl al),some (.bl many),some (.int (min (s ^ k) 300)),x5]) (dw (n:=n) (by simp) (by omega)) ⟨none,by rw[Int.pow_zero];rfl⟩ (fun k y e hy hP=>?_) (fun e hP=>?_)
  ·obtain⟨x5,rfl⟩:=hP
   refine⟨_,eG rfl,?_⟩
   simp only[List.set_cons_zero,List.set_cons_succ]
   have h0:1≤s ^ k:=(gf s1 (a:=k) 0).1
   have mm:cf (.int (min (s ^ k) 300)) (.int s)=.ok (.int (min (s ^ k) 300 * s)):=fC (.inl ⟨by omega,by omega⟩)
   have e:min (min (s ^ k) 300 * s) 300=min (s ^ (k+1)) 300:=by
    rw[Int.pow_succ]
    generalize s ^ k=p at h0
    by_cases q:p≤300
    ·rw[Int.min_eq_left q]
    ·rw[Int.min_eq_right (by omega:(300:Int)≤ p)]
     have h1:300 * 1≤300 * s:=Int.mul_le_mul_of_nonneg_left s1 (by omega)
     have h2:p * 1≤p * s:=Int.mul_le_mul_of_nonneg_left s1 (by omega)
     omega
   refine bN (aw (v:=.int (min (s ^ (k+1)) 300)) (by simp[mm,b8,e]) (by simp) rfl) ⟨_,rfl⟩
  ·obtain⟨x5,rfl⟩:=hP
   rw[cD]
   generalize s ^ n=p
   by_cases g:256 < p∨many=true∧4 < n
   ·rw[if_pos g]
    refine dq (dR ?_ (bH (by simp) (by simp)))
    by_cases q:256 < p
    ·simp[show(256:Int) < min p 300 by omega]
    ·obtain⟨rfl,h4⟩:=g.resolve_left q
     simp[show ¬(256:Int) < min p 300 by omega]
     omega
   ·rw[if_neg g]
    refine aj (bB ?_ av) (bH (by simp) (by simp))
    have q:¬256 < p:=fun z=>g (.inl z)
    cases many with
    | false=>simp[show ¬(256:Int) < min p 300 by omega]
    | true =>
     have:¬4 < n:=fun z=>g (.inr ⟨rfl,z⟩)
     simp[show ¬(256:Int) < min p 300 by omega]
     omega
end
def isB(x:Res PV)(b:Bool):Bool:=match x with
 | .ok (.bl c)=>c==b
 | _=>false
theorem gO{x:Res PV}{b:Bool}(h:isB x b=true):x=.ok (.bl b):=by
 unfold isB at h
 split at h
 ·rw[eq_of_beq h]
 ·cases h
theorem tq{mb m1 m2 mo:MS}{h1 h2:Nat→Bool}{i:Nat}{env e:En}(h:mb env=.next e):g7 mb h1 h2 i m1 m2 mo env=mo e:=by
 unfold g7 jQ;rw[h]
theorem v9{mb m1 m2 mo:MS}{h1 h2:Nat→Bool}{i c:Nat}{env e e':En}(h:mb env=.exc c e)(hh:h1 c=true)(h3:m1 (e.set i (some (.exc c)))=.next e'):g7 mb h1 h2 i m1 m2 mo env=.next (e'.set i none):=by
 unfold g7 jQ;rw[h];simp only[hh,Bool.true_or,if_true,h3];rfl
theorem v8{mb m1 m2 mo:MS}{h1 h2:Nat→Bool}{i c:Nat}{env e e':En}(h:mb env=.exc c e)(h0:h1 c=false)(hh:h2 c=true)(h3:m2 (e.set i (some (.exc c)))=.next e'):g7 mb h1 h2 i m1 m2 mo env=.next (e'.set i none):=by
 unfold g7 jQ;rw[h];simp only[hh,h0,Bool.false_or,if_true,Bool.false_eq_true,if_false,h3];rfl
section
variable{r:PV}{n:Nat}{s:Int}{al many:Bool}
def p5(r:PV)(n:Nat)(s:Int)(al:Bool):Prop:=∀many,(many&&al)=false→¬(256 < s ^ n∨many=true∧4 < n)→∃v,gq [r,.bl many]=.ok v∧Wrd v
theorem lH(A:At r n s al)(T:p5 r n s al):r_ [r,.bl many]=.ok (.str (eD n s al many)):=by
 have te:∀x:Str,x = "turn"∨x = "great" → pEq (.str x) (.str "told")=.ok (.bl false):=fun x hx=>by rcases hx with rfl | rfl<;>exact gO (by decide +kernel)
 have tt:pEq (.str "told") (.str "told")=.ok (.bl true):=gO (by decide +kernel)
 refine aG ?_
 show sO [some r,some (.bl many),none,none,none]=_
 unfold sO eD
 refine aj (aw (v:=.str "told") (by simp) (by simp) rfl) ?_
 simp only[List.set_cons_zero,List.set_cons_succ]
 refine aj (aw (v:=.non) (by simp) (by simp) rfl) ?_
 simp only[List.set_cons_zero,List.set_cons_succ]
 by_cases h:(many&&al)=true
 ·rw[if_pos h]
  obtain⟨rfl,rfl⟩:many=true∧al=true:=by simpa using h
  refine aj (v9 (c:=4) (e:=[some r,some (.bl true),some (.str "told"),some .non,none]) (nS (by simp[A.le,A.tb,jS A])) rfl (aj (aw (v:=.str "turn") (by simp) (by simp) rfl) (bB (by simp[cO,cu,bT,cV,cX,dO,cv,cW,b3,bM,te]) av))) ?_
  exact aj (bB (by simp[cO,cu,bT,cV,cX,dO,cv,cW,b3,bM,te]) av) (cr rfl)
 ·rw[if_neg h]
  have h':(many&&al)=false:=by simpa using h
  by_cases g:256 < s ^ n∨many=true∧4 < n
  ·rw[if_pos g]
   refine aj (v8 (c:=6) (e:=[some r,some (.bl many),some (.str "told"),some .non,none]) (nS (by simp[A.le,A.tb,iZ A h' g])) rfl rfl (aj (aw (v:=.str "great") (by simp) (by simp) rfl) (aj (bB (by simp[cO,cu,bT,cV,cX,dO,cv,cW,b3,bM,te]) av) (bB (by simp[cO,cu,bT,cV,cX,dO,cv,cW,b3,bM,te]) av)))) ?_
   exact aj (bB (by simp[cO,cu,bT,cV,cX,dO,cv,cW,b3,bM,te]) av) (cr rfl)
  ·rw[if_neg g]
   obtain⟨v,hv,w,a,l,rfl,hw,b1,b2⟩:=T many h' g
   have sx:=aw (env:=[some r,some (.bl many),some (.str "told"),some .non,none]) (i:=3) (m:=ao (aA gq) (ad (ac 0) (ad (ac 1) ai))) (v:=.tup (.str w::a::l)) (by simp only[gS]at b1;simp[A.le,A.tb,hv,aJ,b1]) (by simp only[gS]at b2;simp[b2]) rfl
   simp only[List.set_cons_zero,List.set_cons_succ]at sx
   refine aj ((tq sx).trans av) ?_
   refine aj (dR (by simp[tt]) (bB ?_ av)) (cr rfl)
   have i0:∀x y,aK (.tup (.str w::x::y)) (.int 0)=.ok (.str w):=fun x y=>fG (k:=0) rfl rfl (by simp)
   have ni:cK (.str w) (.tup [.str "calm", .str "leaves", .str "stuck", .str "round"])=.ok (.bl false):=by
    rcases hw with rfl | rfl | rfl | rfl<;>exact gO (by decide +kernel)
   simp[p1,fA,bf,i0,ni,kh,jr,tyP]
   omega
theorem lJ(A:At r n s al)(h:eD n s al many≠"told"):yg [r,.bl many]=.ok (.bl true):=by
 obtain⟨c,hc,hh⟩:∃c,gq [r,.bl many]=.exc c∧h_ c=true:=by
  unfold eD at h
  by_cases q:(many&&al)=true
  ·obtain⟨rfl,rfl⟩:many=true∧al=true:=by simpa using q
   exact⟨4,jS A,rfl⟩
  ·rw[if_neg q]at h
   by_cases g:256 < s ^ n∨many=true∧4 < n
   ·exact⟨6,iZ A (by simpa using q) g,rfl⟩
   ·rw[if_neg g]at h;exact absurd rfl h
 refine aG ?_
 show yO [some r,some (.bl many),none]=_
 unfold yO
 refine aj (aw (v:=.bl false) (by simp) (by simp) rfl) ?_
 simp only[List.set_cons_zero,List.set_cons_succ]
 refine aj (e:=[some r,some (.bl many),some (.bl true)]) ?_ (cr rfl)
 unfold om
 rw[ja (c:=c) (by simp[A.le,A.tb,hc])]
 simp only[hh,if_true]
 rw[aw (v:=.bl true) (by simp) (by simp) rfl]
 rfl
end
theorem nH{c:MT}{b:MS}{Fin:En→Prop}{Q:PV→Prop}(P:Nat→En→Prop)(step:∀m e,P m e→(c e=.ok false∧Fin e)∨(c e=.ok true∧((∃m' e',m' < m∧(b e=.next e'∨b e=.cont e')∧P m' e')∨ cL (b e) Q))) :
  ∀(k m:Nat) (env:En),m < k→P m env→(∃e',whL c b k env=.next e'∧Fin e')∨ cL (whL c b k env) Q
 | 0,m,_,h,_=>absurd h (Nat.not_lt_zero m)
 | k+1,m,env,h,hP=>by
  unfold whL
  rcases step m env hP with⟨h1,h2⟩ |⟨h1,⟨m',e',h2,h3,h4⟩ |⟨v,h3,h4⟩⟩
  ·rw[h1];exact .inl ⟨env,rfl,h2⟩
  ·have:=nH P step k m' e' (by omega) h4
   rw[h1]
   rcases h3 with h3 | h3<;>rw[h3]<;>exact this
  ·rw[h1,h3];exact .inr ⟨v,rfl,h4⟩
theorem hV{n:Nat}(n3:n≤300):∃x:Int,oF [.int n]=.ok (.int x)∧1≤x∧x≤257:=by
 suffices h:cL (sQ [some (.int n),none,none,none]) (fun v=>∃x:Int,v=.int x∧1≤x∧x≤257) by
  obtain⟨v,h1,x,rfl,h2⟩:=h
  exact⟨x,aG h1,h2⟩
 unfold sQ
 refine ax (aw (v:=.int 1) (by simp) (by simp) rfl) ?_
 simp only[List.set_cons_zero,List.set_cons_succ]
 have q:=nH (c:=aq (mOp pLt (ac 1) (mC (.int (257))))) (b:=ak (aE 2 (mC (.int (1))))
 (ak (bW (bO (ad (ac 0) ai)) (tgN 3)
  (aE 2 (ao (b8 min) (ad (mOp cf (ac 2) (mOp aL (ac 1) (mC (.int (1))))) (ad (mC (.int (300))) ai)))))
 (ak (mBr (aq (mOp pGt (ac 2) (mC (.int (256)))))
  (dA 1)
  aB)
 (aE 1 (mOp aL (ac 1) (mC (.int (1)))))))) (Fin:=fun e=>∃y z,e=[some (.int n),some (.int 257),y,z]) (Q:=fun v=>∃x:Int,v=.int x∧1≤x∧x≤257)
  (fun m e=>∃(x:Int) (y z:Option PV),e=[some (.int n),some (.int x),y,z]∧1≤x∧x+m=257) (fun m e hP=>?_) 100000 256 [some (.int n),some (.int 1),none,none] (by omega) ⟨1,none,none,rfl,by omega,by omega⟩
 ·rcases q with⟨e,h1,y,z,rfl⟩ |⟨v,h1,h2⟩
  ·exact ax h1 (bt (cr rfl) ⟨257,rfl,by omega,by omega⟩)
  ·exact⟨v,dq h1,h2⟩
 ·obtain⟨x,y,z,rfl,hx,hm⟩:=hP
  by_cases hx2:x=257
  ·subst hx2
   exact .inl ⟨by simp,y,z,rfl⟩
  ·refine .inr ⟨by simp;omega,?_⟩
   obtain⟨e2,f1,u,w,rfl,u0,u3⟩:=gn (env:=[some (.int n),some (.int x),some (.int 1),z]) (g:=tgN 3) (body:=aE 2 (ao (b8 min) (ad (mOp cf (ac 2) (mOp aL (ac 1) (mC (.int (1))))) (ad (mC (.int (300))) ai))))
    (fun _ e=>∃ (u:Int) (w:Option PV),e=[some (.int n),some (.int x),some (.int u),w]∧0 ≤ u∧u ≤ 300) (dw (ms:=ad (ac 0) ai) (n:=n) (by simp) (by omega)) ⟨1,z,rfl,by omega,by omega⟩ (fun k y' e hy hP=>by
     obtain⟨u,w,rfl,u0,u3⟩:=hP
     refine⟨_,_,eG rfl,.inl ?_,min (u * (x+1)) 300,some y',rfl,?_,by omega⟩
     ·have mm:cf (.int u) (.int (x+1))=.ok (.int (u * (x+1))):=fC (.inl ⟨by omega,by omega⟩)
      exact aw (v:=.int (min (u * (x+1)) 300)) (by simp[mm,b8]) (by simp) rfl
     ·have:=Int.mul_nonneg u0 (show 0≤x+1 by omega)
      omega)
   have s1:=aw (env:=[some (.int n),some (.int x),y,z]) (i:=2) (m:=mC (.int 1)) (v:=.int 1) (by simp) (by simp) rfl
   by_cases g:256 < u
   ·exact .inr ⟨.int x,aj s1 (aj f1 (dq (dR (by simp[g]) (cr rfl)))),x,rfl,hx,by omega⟩
   ·exact .inl ⟨m - 1,_,by omega,.inl (aj s1 (aj f1 (aj (bB (by simp[g]) av) (aw (v:=.int (x+1)) (by simp) (by simp) rfl)))),x+1,_,_,rfl,by omega,by omega⟩
abbrev dZ(f:Fl)(c:Nat)(n s:Int)(al:Bool):PV:=.obj f c [0,7,8] [.int n,.int s,.bl al]
theorem k9(c:Nat)(n s:Int)(al:Bool):i8 [.obj .own c [] [],.int n,.int s,.bl al]=.ok (dZ .own c n s al):=by
 refine nW (e:=[some (dZ .own c n s al),some (.int n),some (.int s),some (.bl al)]) ?_ rfl
 show sS [some (.obj .own c [] []),some (.int n),some (.int s),some (.bl al)]=_
 unfold sS
 refine aj (nq (v:=.int n) (ks:=[]) (vs:=[]) (by simp) rfl (by simp) rfl (by decide)) ?_
 refine aj (nq (v:=.int s) (ks:=[0]) (vs:=[.int n]) (by simp) rfl (by simp) rfl (by decide)) ?_
 exact nq (v:=.bl al) (ks:=[0,7]) (vs:=[.int n,.int s]) (by simp) rfl (by simp) rfl (by decide)
theorem qH{n s:Int}(h1:2≤n)(h2:n≤20)(h3:n≤s):yp [.obj .own 4 [] [],.int n,.int s]=.ok (dZ .own 4 n s false):=by
 refine nW (e:=[some (dZ .own 4 n s false),some (.int n),some (.int s)]) ?_ rfl
 show yT [some (.obj .own 4 [] []),some (.int n),some (.int s)]=_
 unfold yT
 refine aj (bB (by simp[show ¬n < 2 by omega,show ¬20 < n by omega]) av) ?_
 refine aj (bB (by simp[show ¬s < n by omega]) av) ?_
 have:=wf (env:=[some (.obj .own 4 [] []),some (.int n),some (.int s)]) (m:=i8) (ms:=ad (ac 1) (ad (ac 2) (ad (mC (.bl false)) ai))) (xs:=[.int n,.int s,.bl false]) rfl (by simp) (by simp) (by simpa using k9 4 n s false) (by simp[PV.has])
 simpa using this
def gtD(cs:List Int)(k:Nat):Int:=gt cs k
theorem Am{n:Nat}{cs:List Int}:mv n gtD cs=[]:=by simp[mv,gtD]
theorem wa{n:Nat}{many:Bool}{cs:List Int}:trn n gtD many cs=[]:=tw.mpr Am
theorem rW{n z:Nat}{s:Int}{many:Bool}:Fal n z s gtD many fun _=>0:=fun cs _ _ nm h=>by rw[wa]at h;exact nomatch h
theorem vL{s:Int}{n:Nat}(s1:1≤s)(n1:1≤n)(big:s ^ n≤256):s≤256:=by
 have:=iN s1 n1
 rw[Int.pow_one]at this
 omega
theorem ua{o:PV}{fc:Fl}{n:Nat}{s:Int}{cs:List Int}{k:Nat}(hf:Bf fc)(C:Ce n s cs)(hk:k < n):r9 [o,.lst fc (iL cs),.int k]=.ok (.int (gt cs k)):=by
 refine aG ?_
 show sN [some o,some (.lst fc (iL cs)),some (.int k)]=_
 unfold sN
 have gk:aK (.lst fc (iL cs)) (.int (k:Int))=.ok (.int (gt cs k)):=by simpa using eR (f:=fc) (cs:=cs) (i:=k) (by omega) (by have:=C.len;omega)
 exact bH (by simp[hf.le,gk]) (by simp)
theorem Ce.gt{n:Nat}{s:Int}{cs:List Int}{k:Nat}(C:Ce n s cs)(hk:k < n):0≤gt cs k∧gt cs k < s:=C.inn _ (kz (by have:=C.len;omega))
theorem t8{n:Nat}{s:Int}{al:Bool}(n1:1≤n)(n3:n≤300)(s1:1≤s)(big:s ^ n≤256):Ru (dZ .bor 0 n s al) n s al gtD where
 le:=by simp
 tb:=by simp
 bo:=by simp
 a0:=by simp[ar,bU]
 a7:=by simp[ar,bU]
 a8:=by simp[ar,bU]
 n1:=n1
 n3:=n3
 s1:=s1
 s3:=vL s1 n1 big
 big:=big
 due:=fun fc cs k hf C hk=>⟨by simp[aX,hf.tb,ua hf C hk,aJ,gtD],C.gt hk⟩
 mv:=fun x=>by simp[au]
 tu:=fun x=>by simp[aU]
theorem oP{c n:Nat}{s:Int}{al:Bool}(n3:n≤300)(s1:1≤s):At (dZ .bor c n s al) n s al where
 le:=by simp
 tb:=by simp
 a0:=by simp[ar,bU]
 a7:=by simp[ar,bU]
 a8:=by simp[ar,bU]
 n3:=n3
 s1:=s1
theorem oW{n:Nat}{s:Int}{al:Bool}(n1:1≤n)(n3:n≤300)(s1:1≤s):p5 (dZ .bor 0 n s al) n s al:=fun many h g=>by
 have big:s ^ n≤256:=by
  apply Int.not_lt.mp
  exact fun z=>g (.inl z)
 have K:=t8 (al:=al) n1 n3 s1 big
 refine kq (z:=0) (fun hm=>⟨by simpa[hm]using h,Nat.not_lt.mp fun z=>g (.inr ⟨hm,z⟩)⟩) K (fun cs C=>?_) (rW (many:=many))
 have mo:=eY jg K C
 have e:lR [dZ .bor 0 n s al,.lst .bor (iL cs)]=.ok (.bl (decide ((mv n gtD cs).length=0))):=by
  refine aG ?_
  show sR [some (dZ .bor 0 n s al),some (.lst .bor (iL cs))]=_
  unfold sR
  exact bH (by simp[au,mo,aJ]) (by simp)
 simp[aS,e,aJ]
def gU(s:Int)(cs:List Int)(i:Nat):Int:=if i=0 then(if gt cs 0=gt cs (cs.length - 1)then(gt cs 0+1) % s else gt cs 0)else gt cs (i - 1)
def sW(D:List Int→Nat→Int)(cs:List Int):Nat→List (List Int)
 | 0=>[[]]
 | k+1=>(sW D cs k).flatMap fun l=>[l++[gt cs k],l++[D cs k]]
theorem oR{D:List Int→Nat→Int}{cs:List Int}{f:Nat→Int}:∀n,(∀i < n,f i=gt cs i∨f i=D cs i)→(List.range n).map f∈sW D cs n
 | 0,_=>by simp[sW]
 | n+1,h=>by
  have ih:=oR n fun i hi=>h i (by omega)
  rw[List.range_succ,List.map_append]
  refine List.mem_flatMap.mpr ⟨_,ih,?_⟩
  rcases h n (by omega)with e | e<;>simp[e]
def muP(n:Nat)(s:Int)(cs:List Int):Nat :=
 (if(cs.dropWhile fun c=>decide (c=gt cs 0)).contains (gt cs 0)then n * (((List.range n).find? fun j:Nat=>decide (1≤j)&&!(cs.drop 1).contains ((gt cs 0+(j:Int)) % s)).getD 0)else 0)
  +(((List.range (n - 1)).filter fun k=>decide (gt cs k≠gt cs (k+1))).map fun k=>n - 1 - k).sum
def sy(n:Nat)(s:Int):Bool:=(sts n s).all fun cs=>decide ((mv n (gU s) cs).length=1) ||(sW (gU s) cs n).all fun ds=>decide (ds=cs)||decide ((mv n (gU s) ds).length=1)||decide (muP n s ds < muP n s cs)
theorem Ci:([2,3,4,5,6,7,8,9,10,11,12,13,14,15,16]:List Int).all (sy 2)=true:=by decide +kernel
theorem Ch:([3,4,5,6]:List Int).all (sy 3)=true:=by decide +kernel
theorem Cg:sy 4 4=true:=by decide +kernel
theorem nN{a s:Int}(h0:0≤a)(h:a≤s):a * a≤s * s:=Int.mul_le_mul h h h0 (by omega)
theorem vh{n:Nat}{s:Int}(n2:2≤n)(h:(n:Int)≤ s)(big:s ^ n≤256):sy n s=true:=by
 have s1:1≤s:=by omega
 have p2:s ^ 2=s * s:=by rw[Int.pow_succ,Int.pow_one]
 by_cases h4:4≤n
 ·have b4:=Int.le_trans (iN s1 h4) big
  have p4:s ^ 4=(s * s) * (s * s):=by rw[show(4:Nat)=2+2 from rfl,Int.pow_add,p2]
  have:s≤4:=by
   apply Int.not_lt.mp
   intro z
   have q:=nN (a:=5) (by omega) (show 5≤s by omega)
   have q2:=nN (a:=5 * 5) (by omega) q
   rw[p4]at b4
   omega
  obtain rfl:n=4:=by omega
  obtain rfl:s=4:=by omega
  exact Cg
 ·by_cases h3:n=3
  ·subst h3
   have p3:s ^ 3=(s * s) * s:=by rw[Int.pow_succ,p2]
   have:s≤6:=by
    apply Int.not_lt.mp
    intro z
    have q:=nN (a:=7) (by omega) (show 7≤s by omega)
    have q2:7 * 7 * 7 ≤(s * s) * s:=Int.mul_le_mul q (by omega) (by omega) (by omega)
    rw[p3]at big
    omega
   refine List.all_eq_true.mp Ch s ?_
   simp
   omega
  ·obtain rfl:n=2:=by omega
   have:s≤16:=by
    apply Int.not_lt.mp
    intro z
    have q:=nN (a:=17) (by omega) (show 17≤s by omega)
    rw[p2]at big
    omega
   refine List.all_eq_true.mp Ci s ?_
   simp
   omega
theorem wg{n:Nat}{D:List Int→Nat→Int}{cs:List Int}{many:Bool}{nm:List Int}(h:nm∈trn n D many cs):stp n D cs nm≠cs:=fun e=>by
 obtain⟨h1,h2,_⟩:=nL h
 obtain⟨a,nm',rfl⟩:=List.exists_cons_of_ne_nil h1
 obtain⟨i,rfl,hi,hd⟩:=qY (h2 a List.mem_cons_self)
 have:=wj (n:=n) (D:=D) (cs:=cs) (nm:=(i:Int)::nm') hi
 rw[e]at this
 simp at this
 exact hd this.symm
theorem rV{n:Nat}{s:Int}{many:Bool}(s1:1≤s)(h:sy n s=true):Fal n 1 s (gU s) many (muP n s):=fun cs C hc nm hn hd=>by
 have q:=List.all_eq_true.mp h cs (List.mem_of_getElem? (j7 s1 C).2)
 rw[decide_eq_false hc,Bool.false_or]at q
 have m:stp n (gU s) cs nm∈sW (gU s) cs n:=oR n fun i hi=>by
  split
  ·exact .inr rfl
  ·exact .inl rfl
 have q:=List.all_eq_true.mp q _ m
 rw[decide_eq_false (wg hn),decide_eq_false hd]at q
 simpa using q
theorem uu{n:Nat}{s:Int}{cs:List Int}{i:Nat}{fc:Fl}(hfc:Bf fc)(hn:cs.length=n)(hi:i < n)(hs:0 < s):yj [dZ .bor 4 n s false,.lst fc (iL cs),.int i]=.ok (.int (gU s cs i)):=by
 refine aG ?_
 show yQ [some (dZ .bor 4 n s false),some (.lst fc (iL cs)),some (.int i)]=_
 unfold yQ gU
 by_cases h0:i=0
 ·subst h0
  rw[if_pos rfl]
  have g0:aK (.lst fc (iL cs)) (.int 0)=.ok (.int (gt cs 0)):=eR (by omega) (by omega)
  have gl:aK (.lst fc (iL cs)) (.int ((n:Int) - 1))=.ok (.int (gt cs (cs.length - 1))):=by
   rw[eR (by omega) (by omega)]
   congr 3
   omega
  refine aj (bB (by simp) av) ?_
  by_cases hc:gt cs 0=gt cs (cs.length - 1)
  ·rw[if_pos hc]
   exact dq (dR (by simp[ar,bU,hfc.le,g0,gl,← hc]) (bH (by simp[ar,bU,hfc.le,g0,a5 hs]) (by simp)))
  ·rw[if_neg hc]
   exact aj (bB (by simp[ar,bU,hfc.le,g0,gl,hc]) av) (bH (by simp[hfc.le,g0]) (by simp))
 ·rw[if_neg h0]
  have gl:aK (.lst fc (iL cs)) (.int ((i:Int) - 1))=.ok (.int (gt cs (i - 1))):=by
   rw[eR (by omega) (by omega)]
   congr 3
   omega
  exact dq (dR (by simp;omega) (bH (by simp[hfc.le,gl]) (by simp)))
theorem t9{n:Nat}{s:Int}(n1:1≤n)(n3:n≤300)(s1:1≤s)(big:s ^ n≤256):Ru (dZ .bor 4 n s false) n s false (gU s) where
 le:=by simp
 tb:=by simp
 bo:=by simp
 a0:=by simp[ar,bU]
 a7:=by simp[ar,bU]
 a8:=by simp[ar,bU]
 n1:=n1
 n3:=n3
 s1:=s1
 s3:=vL s1 n1 big
 big:=big
 due:=fun fc cs k hf C hk=>⟨by simp [aX,hf.tb,uu hf C.len hk (show 0 < s by omega),aJ],by
  have:=C.len
  unfold gU
  split
  ·split
   ·exact⟨Int.emod_nonneg _ (by omega),Int.emod_lt_of_pos _ (by omega)⟩
   ·exact C.gt (by omega)
  ·exact C.gt (by omega)⟩
 mv:=fun x=>by simp[au]
 tu:=fun x=>by simp[aU]
theorem oX{n:Nat}{s:Int}(n2:2≤n)(n3:n≤300)(hs:(n:Int)≤ s):p5 (dZ .bor 4 n s false) n s false:=fun many h g=>by
 have big:s ^ n≤256:=by
  apply Int.not_lt.mp
  exact fun z=>g (.inl z)
 have K:=t9 (n:=n) (s:=s) (by omega) n3 (by omega) big
 refine kq (z:=1) (fun hm=>⟨rfl,Nat.not_lt.mp fun z=>g (.inr ⟨hm,z⟩)⟩) K (fun cs C=>?_) (rV (many:=many) (by omega) (vh n2 hs big))
 have mo:=eY jg K C
 have e:ym [dZ .bor 4 n s false,.lst .bor (iL cs)]=.ok (.bl (decide ((mv n (gU s) cs).length=1))):=by
  refine aG ?_
  show yR [some (dZ .bor 4 n s false),some (.lst .bor (iL cs))]=_
  unfold yR
  have e1:((mv n (gU s) cs).length:Int)=1 ↔(mv n (gU s) cs).length=1:=by omega
  exact bH (by simp[au,mo,aJ,e1]) (by simp)
 simp[aS,e,aJ]
def tb(s:Nat):List Int:=(List.range (s * s * s)).map fun k:Nat=>((k / (s * s):Nat):Int)
abbrev jm(f:Fl)(n s:Nat)(z:Int):PV:=.obj f 5 [9,10,11,0,7,8] [.int z,.tup (iL (tb s)),.tup (iL (tb s)),.int n,.int s,.bl false]
theorem xj{n s:Nat}{w:Str}{z:Int}(hw:w = "none" ∧ z=0∨w = "one" ∧ z=1)(n2:2≤n)(n8:n≤8)(s2:2≤s)(s4:s≤4):rZ [.int n,.int s,.str w]=.ok (jm .own n s z):=by
 have hn:n=2∨n=3∨n=4∨n=5∨n=6∨n=7∨n=8:=by omega
 have hs:s=2∨s=3∨s=4:=by omega
 rcases hw with⟨rfl,rfl⟩ |⟨rfl,rfl⟩<;>rcases hs with rfl | rfl | rfl<;>rcases hn with rfl | rfl | rfl | rfl | rfl | rfl | rfl<;>kernel_rfl
theorem zw{s:Nat}{c l r:Int}(s2:2≤s)(s4:s≤4)(hc:0≤c∧c < s)(hl:0≤l∧l < s)(hr:0≤r∧r < s):aK (.tup (iL (tb s))) (.int (c * s * s+l * s+r))=.ok (.int c):=by
 obtain⟨e,he⟩:∃e:Nat,c * s * s+l * s+r=(e:Int)∧e < s * s * s∧((e / (s * s):Nat):Int)=c:=by
  refine⟨(c * s * s+l * s+r).toNat,?_⟩
  have hs:s=2∨s=3∨s=4:=by omega
  rcases hs with rfl | rfl | rfl<;>omega
 rw[he.1]
 refine fG rfl ?_ (by simp)
 have:=he.2.1
 have e2:=he.2.2
 simp[iL,tb,this]
 simpa using e2
theorem tz{n s:Nat}{z:Int}{cs:List Int}{i:Nat}{fc:Fl}(hB:Bf fc)(s2:2≤s)(s4:s≤4)(C:Ce n s cs)(hi:i < n):yn [jm .bor n s z,.lst fc (iL cs),.int i]=.ok (.int (gt cs i)):=by
 have hn:=C.len
 have np:(0:Int) < n:=by omega
 have ix:∀j:Int,aK (.lst fc (iL cs)) (.int (j % n))=.ok (.int (gt cs (j % n).toNat))∧0≤gt cs (j % n).toNat∧gt cs (j % n).toNat < s:=fun j=>by
  have h0:=Int.emod_nonneg j (show(n:Int)≠ 0 by omega)
  have h1:=Int.emod_lt_of_pos j np
  exact⟨eR h0 (by omega),C.gt (by omega)⟩
 have ii:aK (.lst fc (iL cs)) (.int (i:Int))=.ok (.int (gt cs i)):=by simpa using eR (f:=fc) (cs:=cs) (i:=i) (by omega) (by omega)
 obtain⟨l1,l2⟩:=ix ((i:Int) - 1)
 obtain⟨r1,r2⟩:=ix ((i:Int)+1)
 have c2:=C.gt hi
 generalize gt cs (((i:Int) - 1) % n).toNat=l at l1 l2
 generalize gt cs (((i:Int)+1) % n).toNat=r at r1 r2
 have ta:=zw s2 s4 c2 l2 r2
 have m1:∀x:Int,cf (.int x) (.int s)=.ok (.int (x * s)):=fun x=>fC (.inr ⟨by omega,by omega⟩)
 refine aG ?_
 show yS [some (jm .bor n s z),some (.lst fc (iL cs)),some (.int i),none,none,none]=_
 unfold yS
 refine aj (aw (v:=.int l) (by simp[hB.le,ar,bU,a5 np,l1]) (by simp) rfl) ?_
 simp only[List.set_cons_zero,List.set_cons_succ]
 refine aj (aw (v:=.int r) (by simp[hB.le,ar,bU,a5 np,r1]) (by simp) rfl) ?_
 simp only[List.set_cons_zero,List.set_cons_succ]
 refine aj (aw (v:=.int (gt cs i * s * s+l * s+r)) (by simp[hB.le,ar,bU,ii,m1]) (by simp) rfl) ?_
 simp only[List.set_cons_zero,List.set_cons_succ]
 refine bH ?_ (by simp)
 by_cases e:i=0
 ·subst e
  simp[ar,bU,ta]
 ·simp[ar,bU,ta,show ¬(i:Int)=0 by omega]
theorem wG{n s:Nat}{z:Int}(n2:2≤n)(n8:n≤8)(s2:2≤s)(s4:s≤4)(big:(s:Int) ^ n≤256):Ru (jm .bor n s z) n s false gtD where
 le:=by simp
 tb:=by simp
 bo:=by simp
 a0:=by simp[ar,bU]
 a7:=by simp[ar,bU]
 a8:=by simp[ar,bU]
 n1:=by omega
 n3:=by omega
 s1:=by omega
 s3:=by omega
 big:=big
 due:=fun fc cs k hf C hk=>⟨by simp[aX,hf.tb,tz hf s2 s4 C hk,aJ,gtD],C.gt hk⟩
 mv:=fun x=>by simp[au]
 tu:=fun x=>by simp[aU]
theorem yW{n s:Nat}{z:Int}(n8:n≤8)(s2:2≤s):At (jm .bor n s z) n s false where
 le:=by simp
 tb:=by simp
 a0:=by simp[ar,bU]
 a7:=by simp[ar,bU]
 a8:=by simp[ar,bU]
 n3:=by omega
 s1:=by omega
theorem qb{n s:Nat}{z:Nat}(n2:2≤n)(n8:n≤8)(s2:2≤s)(s4:s≤4):p5 (jm .bor n s z) n s false:=fun many h g=>by
 have big:(s:Int) ^ n≤256:=by
  apply Int.not_lt.mp
  exact fun z=>g (.inl z)
 have K:=wG (z:=z) n2 n8 s2 s4 big
 refine kq (z:=z) (fun hm=>⟨rfl,Nat.not_lt.mp fun z=>g (.inr ⟨hm,z⟩)⟩) K (fun cs C=>?_) (rW (many:=many))
 have mo:=eY jg K C
 have e:yq [jm .bor n s z,.lst .bor (iL cs)]=.ok (.bl (decide ((mv n gtD cs).length=z))):=by
  refine aG ?_
  show yU [some (jm .bor n s z),some (.lst .bor (iL cs))]=_
  unfold yU
  have e1:((mv n gtD cs).length:Int)=z ↔(mv n gtD cs).length=z:=by omega
  exact bH (by simp[au,mo,aJ,ar,bU,e1]) (by simp)
 simp[aS,e,aJ]
def isW(x:Res PV):Bool:=match x with
 | .ok (.tup (.str w::a::l))=>(decide (w = "calm")||decide (w = "leaves")||decide (w = "stuck")||decide (w = "round"))&&!hasL Fl.isBor (a::l)&&!hasL Fl.isLnt (a::l)
 | _=>false
theorem xW{x:Res PV}(h:isW x=true):∃v,x=.ok v∧Wrd v:=by
 unfold isW at h
 split at h
 ·rename_i w a l
  simp only[Bool.and_eq_true,Bool.or_eq_true,decide_eq_true_eq,Bool.not_eq_true']at h
  exact⟨_,rfl,w,a,l,rfl,by rcases h.1.1 with((h | h) | h) | h<;>simp[h],h.1.2,h.2⟩
 ·cases h
abbrev lnV(f:Fl)(n:Nat):PV:=.obj f 3 [0,1,2] [.int n,.tup ((List.range (n - 1)).map fun k:Nat=>.tup [.int k,.int ((k:Int)+1)]),.tup ((List.range n).map fun k:Nat=>.tup (iL ((if 0 < k then [(k:Int) - 1]else [])++(if k+1 < n then [(k:Int)+1]else []))))]
abbrev kB(f:Fl)(n root:Nat):PV:=.obj f 2 [3,4,5,6,0,7,8] [.int n,lnV .frz n,.tup ((List.range n).map fun k:Nat=>if k=root then .int 0 else .non),.int n,.int n,.int ((n:Int)+1),.bl true]
theorem uP{n:Nat}(n1:1≤n)(n10:n≤10):aA oB [.int n]=.ok (lnV .own n):=by
 have hn:n=1∨n=2∨n=3∨n=4∨n=5∨n=6∨n=7∨n=8∨n=9∨n=10:=by omega
 rcases hn with rfl | rfl | rfl | rfl | rfl | rfl | rfl | rfl | rfl | rfl<;>kernel_rfl
theorem yd{n root:Nat}(n1:1≤n)(n10:n≤10)(h:root < n):aA uZ [.obj .own 2 [] [],lnV .own n,.int root]=.ok (kB .own n root):=by
 have hn:n=1∨n=2∨n=3∨n=4∨n=5∨n=6∨n=7∨n=8∨n=9∨n=10:=by omega
 have hr:root=0∨root=1∨root=2∨root=3∨root=4∨root=5∨root=6∨root=7∨root=8∨root=9:=by omega
 rcases hn with rfl | rfl | rfl | rfl | rfl | rfl | rfl | rfl | rfl | rfl<;>rcases hr with rfl | rfl | rfl | rfl | rfl | rfl | rfl | rfl | rfl | rfl<;>first |(exfalso;omega) | kernel_rfl
theorem oj{g:Fl→Fl}:∀{xs:List PV},(∀x∈xs,x.mapF g=x)→mapL g xs=xs
 | [],_=>by simp
 | x::xs,h=>by
  rw[gK,h x List.mem_cons_self,oj fun y hy=>h y (List.mem_cons_of_mem _ hy)]
theorem iV{α:Type}{g:Fl→Fl}{l:List α}{f:α→PV}(h:∀x,(f x).mapF g=f x):mapL g (l.map f)=l.map f:=oj fun y hy=>by
 obtain⟨x,_,rfl⟩:=List.mem_map.mp hy
 exact h x
theorem gp{g:Fl→Fl}{f:Fl}{n root:Nat}(hg:g .frz=.frz):(kB f n root).mapF g=kB (g f) n root:=by
 have h1:mapL g ((List.range (n - 1)).map fun k:Nat=>PV.tup [.int k,.int ((k:Int)+1)])=_:=iV fun k=>by simp
 have h2:mapL g ((List.range n).map fun k:Nat=>PV.tup (iL ((if 0 < k then [(k:Int) - 1]else [])++(if k+1 < n then [(k:Int)+1]else []))))=_:=iV fun k=>by simp
 have h3:mapL g ((List.range n).map fun k:Nat=>if k=root then PV.int 0 else .non)=_:=iV fun k=>by split<;>simp
 simp only[rm,gK,lD,lF,rl,ko,h1,h2,h3,hg]
theorem yX{n root:Nat}(n10:n≤10):At (kB .bor n root) n ((n:Int)+1) true where
 le:=gp rfl
 tb:=gp rfl
 a0:=by simp[ar,bU]
 a7:=by simp[ar,bU]
 a8:=by simp[ar,bU]
 n3:=by omega
 s1:=by omega
theorem qc{n root:Nat}(n1:1≤n)(n10:n≤10)(h:root < n):p5 (kB .bor n root) n ((n:Int)+1) true:=fun many hm g=>by
 obtain rfl:many=false:=by simpa using hm
 have hb:¬256 <((n:Int)+1) ^ n:=fun z=>g (.inl z)
 have hn:n=1∨n=2∨n=3∨n=4∨n=5∨n=6∨n=7∨n=8∨n=9∨n=10:=by omega
 have hr:root=0∨root=1∨root=2∨3≤root:=by omega
 refine xW ?_
 rcases hn with rfl | rfl | rfl | rfl | rfl | rfl | rfl | rfl | rfl | rfl
 all_goals first | exact absurd (by decide) hb | skip
 all_goals rcases hr with rfl | rfl | rfl | hr
 all_goals first |(exfalso;omega) | decide +kernel
structure Kd(v r:PV)(n:Nat)(s:Int)(al:Bool):Prop where
 br:(v.mapF Fl.lend).mapF Fl.toBor=r
 nl:v.has Fl.isLnt=false
 nb:v.has Fl.isBor=false
 at_:At r n s al
 told:p5 r n s al
def Rul(x:PV):Prop:=∃v r n s al,x=.tup [v,.int (n:Nat),.int s,.bl al]∧Kd v r n s al
theorem iJ{c:MT}{a bw:MS}{env:En}{Q:PV→Prop}(P:En→Prop)(h:∃e,mBr c a aB env=.next e∧P e)(k:∀e,P e→cL (bw e) Q):cL (ak (mBr c a aB) bw env) Q:=by
 obtain⟨e,h1,h2⟩:=h
 exact ax h1 (k e h2)
theorem cT{f:Fl}{xs:List PV}{k:Nat}{y:PV}(h:xs[k]?=some y):fW (.lst f xs) (.int k)=.ok y:=by
 obtain⟨hl,rfl⟩:=List.getElem?_eq_some_iff.mp h
 simp[fW,bf,atI,ixN,hl]
theorem gj{α:Type}{p:Fl→Bool}{f:α→PV}:∀{l:List α},(∀x,(f x).has p=false)→hasL p (l.map f)=false
 | [],_=>by simp
 | x::l,h=>by simp[h x,gj (l:=l) h]
theorem i5{p:Fl→Bool}{f:Fl}{n root:Nat}(hp:p .frz=false):(kB f n root).has p=p f:=by
 have h1:hasL p ((List.range (n - 1)).map fun k:Nat=>PV.tup [.int k,.int ((k:Int)+1)])=false:=gj fun k=>by simp
 have h2:hasL p ((List.range n).map fun k:Nat=>PV.tup (iL ((if 0 < k then [(k:Int) - 1]else [])++(if k+1 < n then [(k:Int)+1]else []))))=false:=gj fun k=>by simp
 have h3:hasL p ((List.range n).map fun k:Nat=>if k=root then PV.int 0 else .non)=false:=gj fun k=>by split<;>simp
 simp[h1,h2,h3,hp]
theorem lI(c:Int):∃x,sd [.int c]=.ok x∧Rul x:=by
 suffices h:cL (sP [some (.int c),none,none,none]) Rul by
  obtain⟨v,h1,h2⟩:=h
  exact⟨v,aG h1,h2⟩
 unfold sP
 have dv:∀(x:Int) (k:Int),0 < k→k < 1073741824→cE (.int x) (.int k)=.ok (.int (x / k)):=fun x k h1 h2=>nu h1 h2
 refine ax (aw (v:=.int (c % 4)) (by simp[a5]) (by simp) rfl) ?_
 simp only[List.set_cons_zero,List.set_cons_succ]
 refine ax (aw (v:=.int (c / 4)) (by simp[dv]) (by simp) rfl) ?_
 simp only[List.set_cons_zero,List.set_cons_succ]
 have hk:c % 4=0∨c % 4=1∨c % 4=2∨c % 4=3:=by omega
 generalize c % 4=k at hk
 generalize c / 4=d
 obtain⟨B,hB,p50⟩:∃B:Int,0 < B∧lm (.int 10) (.int 50)=.ok (.int B):=⟨10 ^ 50,by decide,mK (by decide) (by decide) (by decide)⟩
 rcases hk with rfl | rfl | rfl | rfl
 ·refine iH (by simp) ?_
  obtain⟨m0,hm0⟩:∃m:Nat,2+d % 19=(m:Int)∧2≤m∧m≤20:=⟨(2+d % 19).toNat,by omega⟩
  refine ax (aw (v:=.int m0) (by simp[a5,hm0.1]) (by simp) rfl) ?_
  simp only[List.set_cons_zero,List.set_cons_succ]
  refine iJ (fun e=>∃m:Nat,e=[some (.int d),some (.int 0),some (.int m),none]∧2≤m∧m≤20) ?_ ?_
  ·by_cases q:d / 19 % 2=0
   ·obtain⟨m,hm⟩:∃m:Nat,2+d % 3=(m:Int)∧2≤m∧m≤20:=⟨(2+d % 3).toNat,by omega⟩
    exact⟨_,dR (by simp[dv,a5,q]) (aw (v:=.int m) (by simp[a5,hm.1]) (by simp) rfl),m,rfl,hm.2⟩
   ·exact⟨_,bB (by simp[dv,a5,q]) av,m0,rfl,hm0.2⟩
  ·rintro e ⟨m,rfl,m2,m20⟩
   obtain⟨x,hx,x1,x2⟩:=hV (n:=m) (by omega)
   refine ax (aw (v:=.int (max (m:Int) (x+d / 38 % 3 - 1))) (by simp[dv,a5,hx,aJ,b8]) (by simp) rfl) ?_
   simp only[List.set_cons_zero,List.set_cons_succ]
   refine iJ (fun e=>∃s:Int,e=[some (.int d),some (.int 0),some (.int m),some (.int s)]∧(m:Int)≤ s) ?_ ?_
   ·by_cases q:d / 114 % 4=1
    ·refine⟨_,dR (by simp[dv,a5,q]) (aw (v:=.int (max (m:Int) (x+d / 38 % 3 - 1)+d / 456 % B)) (by simp[dv,p50,a5 hB]) (by simp) rfl),_,rfl,?_⟩
     have:=Int.emod_nonneg (d / 456) (show B≠0 by omega)
     omega
    ·exact⟨_,bB (by simp[dv,a5,q]) av,_,rfl,by omega⟩
   ·rintro e ⟨s,rfl,hs⟩
    have pi:=qH (n:=(m:Int)) (s:=s) (by omega) (by omega) hs
    exact bt (bH (v:=.tup [dZ .own 4 m s false,.int m,.int s,.bl false]) (by simp[pi,aJ]) (by simp)) ⟨_,dZ .bor 4 m s false,m,s,false,rfl,by simp,by simp,by simp,oP (by omega) (by omega),oX m2 (by omega) hs⟩
 ·refine ax (bB (by simp) av) ?_
  refine iH (by simp) ?_
  obtain⟨m,hm,m2,m8⟩:∃m:Nat,2+d % 7=(m:Int)∧2≤m∧m≤8:=⟨(2+d % 7).toNat,by omega⟩
  obtain⟨s,hs,s2,s4⟩:∃s:Nat,2+d / 7 % 3=(s:Int)∧2≤s∧s≤4:=⟨(2+d / 7 % 3).toNat,by omega⟩
  refine ax (aw (v:=.int m) (by simp[a5,hm]) (by simp) rfl) ?_
  simp only[List.set_cons_zero,List.set_cons_succ]
  refine ax (aw (v:=.int s) (by simp[dv,a5,hs]) (by simp) rfl) ?_
  simp only[List.set_cons_zero,List.set_cons_succ]
  obtain⟨w,z,hw,hi⟩:∃(w:Str) (z:Nat),(w = "none" ∧(z:Int)=0∨w = "one" ∧(z:Int)=1)∧∀f,aK (.lst f [.str "none", .str "one"]) (.int (d / 21 % 2))=.ok (.str w):=by
   have h2:d / 21 % 2=((0:Nat):Int)∨ d / 21 % 2=((1:Nat):Int):=by omega
   rcases h2 with e | e
   ·exact⟨_,0,.inl ⟨rfl,rfl⟩,fun f=>by rw[e];exact fG rfl rfl (by simp)⟩
   ·exact⟨_,1,.inr ⟨rfl,rfl⟩,fun f=>by rw[e];exact fG rfl rfl (by simp)⟩
  have ow:=xj hw m2 m8 s2 s4
  exact bt (bH (v:=.tup [jm .own m s z,.int m,.int s,.bl false]) (by simp[dv,a5,hi,ow,aJ]) (by simp)) ⟨_,jm .bor m s z,m,s,false,rfl,by simp,by simp,by simp,yW m8 s2,qb m2 m8 s2 s4⟩
 ·refine ax (bB (by simp) av) ?_
  refine ax (bB (by simp) av) ?_
  refine iH (by simp) ?_
  obtain⟨m,m1,m3,hm⟩:∃m:Nat,1≤m∧m≤300∧∀f,fW (.lst f [.int (1+d / 4 % 10),.int (1+d / 4 % 300),.int (1+d / 4 % 4),.int 8]) (.int (d % 4))=.ok (.int m):=by
   have h4:d % 4=((0:Nat):Int)∨ d % 4=((1:Nat):Int)∨ d % 4=((2:Nat):Int)∨ d % 4=((3:Nat):Int):=by omega
   rcases h4 with e | e | e | e
   ·exact⟨(1+d / 4 % 10).toNat,by omega,by omega,fun f=>by rw[e,cT rfl,Int.toNat_of_nonneg (by omega)]⟩
   ·exact⟨(1+d / 4 % 300).toNat,by omega,by omega,fun f=>by rw[e,cT rfl,Int.toNat_of_nonneg (by omega)]⟩
   ·exact⟨(1+d / 4 % 4).toNat,by omega,by omega,fun f=>by rw[e,cT rfl,Int.toNat_of_nonneg (by omega)]⟩
   ·exact⟨8,by omega,by omega,fun f=>by rw[e,cT rfl];rfl⟩
  refine ax (aw (v:=.int m) (by simp[dv,a5,hm]) (by simp) rfl) ?_
  simp only[List.set_cons_zero,List.set_cons_succ]
  obtain⟨x,hx,x1,x2⟩:=hV (n:=m) m3
  obtain⟨s,s1,hs⟩:∃s:Int,1≤s∧∀f,fW (.lst f [.int 1,.int 2,.int 3,.int (max 1 (x+d / 9 % 3 - 1)),.int (1+d / 9 % B)]) (.int (d / 16 % 5))=.ok (.int s):=by
   have h5:d / 16 % 5=((0:Nat):Int)∨ d / 16 % 5=((1:Nat):Int)∨ d / 16 % 5=((2:Nat):Int)∨ d / 16 % 5=((3:Nat):Int)∨ d / 16 % 5=((4:Nat):Int):=by omega
   rcases h5 with e | e | e | e | e
   ·exact⟨1,by omega,fun f=>by rw[e];exact cT rfl⟩
   ·exact⟨2,by omega,fun f=>by rw[e];exact cT rfl⟩
   ·exact⟨3,by omega,fun f=>by rw[e];exact cT rfl⟩
   ·exact⟨max 1 (x+d / 9 % 3 - 1),by omega,fun f=>by rw[e];exact cT rfl⟩
   ·refine⟨1+d / 9 % B,?_,fun f=>by rw[e];exact cT rfl⟩
    have:=Int.emod_nonneg (d / 9) (show B≠0 by omega)
    omega
  refine ax (aw (v:=.int s) (by simp[dv,a5,hx,aJ,b8,p50,a5 hB,hs]) (by simp) rfl) ?_
  simp only[List.set_cons_zero,List.set_cons_succ]
  have ri:=k9 0 m s (decide (d / 80 % 2=0))
  refine bt (bH (v:=.tup [dZ .own 0 m s (decide (d / 80 % 2=0)),.int m,.int s,.bl (decide (d / 80 % 2=0))]) (by simp[dv,a5,ri,aJ]) (by simp)) ⟨_,dZ .bor 0 m s _,m,s,_,rfl,by simp,by simp,by simp,oP m3 s1,oW m1 m3 s1⟩
 ·refine ax (bB (by simp) av) ?_
  refine ax (bB (by simp) av) ?_
  refine ax (bB (by simp) av) ?_
  obtain⟨m0,hm0⟩:∃m:Nat,1+d % 10=(m:Int)∧1≤m∧m≤10:=⟨(1+d % 10).toNat,by omega⟩
  refine ax (aw (v:=.int m0) (by simp[a5,hm0.1]) (by simp) rfl) ?_
  simp only[List.set_cons_zero,List.set_cons_succ]
  refine iJ (fun e=>∃m:Nat,e=[some (.int d),some (.int 3),some (.int m),none]∧1≤m∧m≤10) ?_ ?_
  ·by_cases q:d / 10 % 2=0
   ·obtain⟨m,hm⟩:∃m:Nat,1+d % 4=(m:Int)∧1≤m∧m≤10:=⟨(1+d % 4).toNat,by omega⟩
    exact⟨_,dR (by simp[dv,a5,q]) (aw (v:=.int m) (by simp[a5,hm.1]) (by simp) rfl),m,rfl,hm.2⟩
   ·exact⟨_,bB (by simp[dv,a5,q]) av,m0,rfl,hm0.2⟩
  ·rintro e ⟨m,rfl,m1,m10⟩
   have mp:(0:Int) < m:=by omega
   obtain ⟨rt,hr,hr2⟩:∃ rt:Nat,d / 20 % (m:Int)=(rt:Int)∧rt < m:=⟨(d / 20 % (m:Int)).toNat,by
    have h0:=Int.emod_nonneg (d / 20) (show(m:Int)≠ 0 by omega)
    have h1:=Int.emod_lt_of_pos (d / 20) mp
    omega⟩
   have li:=uP m1 m10
   have fo:=yd m1 m10 hr2
   have e1:jp 2 uZ (ad (ao (aA oB) (ad (ac 2) ai)) (ad (mOp bL (mOp cE (ac 0) (mC (.int (20)))) (ac 2)) ai)) [some (.int d),some (.int 3),some (.int m),none]=.ok (kB .own m rt):=by
    simp only[yx,iw,kD,kC,nr,jW,sh,List.getElem?_cons_zero,List.getElem?_cons_succ,gI,lF,Res.ok_bind,li,dv d 20 (by decide) (by decide),a5 mp,hr,fo]
   exact bt (bH (v:=.tup [kB .own m rt,.int m,.int ((m:Int)+1),.bl true]) (by simp only[yw,iw,e1];simp) (by simp only[c9,uW,gS,i5 (p:=Fl.isLnt) rfl];simp)) ⟨_,kB .bor m rt,m,_,_,rfl,by rw[gp rfl,gp rfl];rfl,i5 rfl,i5 rfl,yX m10,qc m1 m10 hr2⟩
theorem wd3(n:Nat)(s:Int)(al many:Bool):eD n s al many = "turn"∨eD n s al many = "great"∨eD n s al many = "told" := by
 unfold eD
 split
 ·exact .inl rfl
 ·split
  ·exact .inr (.inl rfl)
  ·exact .inr (.inr rfl)
theorem kN(g:Fl→Fl):∀ws:List Bool,mapL g (ws.map PV.bl)=ws.map PV.bl
 | []=>by simp
 | w::ws=>by simp[kN g ws]
theorem kP(p:Fl→Bool):∀ws:List Bool,hasL p (ws.map PV.bl)=false
 | []=>by simp
 | w::ws=>by simp[kP p ws]
theorem law_true(fl:Fl)(ns:List Int)(h:Scr fl)(hl:ns.length≤63):v5 [.lst fl (ns.map .int)]=.ok (.bl true):=by
 rw[rJ]
 refine aG (v:=.bl true) ?_
 show sU [some (.lst fl (iL ns)),none,none,none,none,none,none,none,none,none]=_
 unfold sU
 have pl:fw (.lst fl (iL ns)) (.lst .own [.int 0])=.ok (.lst .own (iL (ns++[0]))):=by
  unfold fw
  dsimp only
  rw[if_pos (by simp;omega)]
  simp[iL]
 have ec:∀l:List Int,kE (iL l) none (some 3)=iL (l.take 3):=fun l=>by
  have:=yC l 0 3 (l:=0) (h:=3) rfl rfl
  rw[List.drop_zero]at this
  rw[← this]
  unfold kE
  simp[HT.sIx]
 have key:∀e:En,e[0]?=some (some (.lst fl (iL ns)))→et (gL (mOp fw (ac 0) (da (ad (mC (.int (0))) ai))) gc (jR (mC (.int (3))))) e=.ok (enP 0 (iL ((ns++[0]).take 3))):=fun e he=>by
  unfold et
  simp only[sh,sf,jW,yz,kC,va,pR,he]
  simp[h.lend,pl,ec,ff,Fl.isLnt]
 generalize(ns++[0]).take 3=L at key
 refine eW (fun k e=>∃x1 x2 x3 x4 x5 x6 x7 x8 x9,e=[some (.lst fl (iL ns)),x1,x2,x3,x4,x5,x6,x7,x8,x9]) (key _ rfl) ⟨_,_,_,_,_,_,_,_,_,rfl⟩ (fun k x e hx hP=>?_) (fun e hP=>?_)
 ·obtain⟨x1,x2,x3,x4,x5,x6,x7,x8,x9,rfl⟩:=hP
  rw[e_]at hx
  obtain⟨y,hy,rfl⟩:=Option.map_eq_some_iff.mp hx
  obtain⟨v,hv,rfl⟩:=kx hy
  rw[Int.zero_add]
  refine⟨[some (.lst fl (iL ns)),some (.int k),some (.int v),x3,x4,x5,x6,x7,x8,x9],rfl,?_⟩
  have d2:cE (.int v) (.int 2)=.ok (.int (v / 2)):=nu (by decide) (by decide)
  have m5:cf (.int 5) (.int k)=.ok (.int (5 * k)):=fC (.inl ⟨by decide,by decide⟩)
  obtain⟨x,hx,u,r,n,s,al,rfl,K⟩:=lI (v / 2+5 * k)
  have nb:hasL Fl.isBor [u,.int n,.int s,.bl al]=false:=by simp[K.nb]
  refine cb (yY (v:=.tup [u,.int n,.int s,.bl al]) (e:=[some (.lst fl (iL ns)),some (.int k),some (.int v),some u,some (.int n),some (.int s),some (.bl al),x7,x8,x9]) (by simp[d2,m5,hx,aJ,K.nb]) (by simp[K.nl]) rfl) ?_
  refine cb (aw (v:=.lst .own ([decide (v % 2=1)].map .bl)) (by simp[a5]) (by simp) rfl) ?_
  simp only[List.set_cons_zero,List.set_cons_succ]
  obtain⟨ws,e0⟩:∃ws:List Bool,mBr (aq (mOp pLt (ac 1) (mC (.int (1))))) (aE 7 (da (ad (mOp pEq (mOp bL (ac 2) (mC (.int (2)))) (mC (.int (1)))) (ad (mOp pEq (mOp bL (ac 2) (mC (.int (2)))) (mC (.int (0)))) (ad (mOp pEq (mOp bL (ac 2) (mC (.int (2)))) (mC (.int (1)))) ai))))) aB [some (.lst fl (iL ns)),some (.int k),some (.int v),some u,some (.int n),some (.int s),some (.bl al),some (.lst .own ([decide (v % 2=1)].map .bl)),x8,x9]=.next [some (.lst fl (iL ns)),some (.int k),some (.int v),some u,some (.int n),some (.int s),some (.bl al),some (.lst .own (ws.map .bl)),x8,x9]:=by
   by_cases q:(k:Int) < 1
   ·exact⟨[decide (v % 2=1),decide (v % 2=0),decide (v % 2=1)],dR (by simp[q]) (aw (v:=.lst .own ([decide (v % 2=1),decide (v % 2=0),decide (v % 2=1)].map .bl)) (by simp[a5]) (by simp) rfl)⟩
   ·exact⟨[decide (v % 2=1)],bB (by simp[q]) av⟩
  refine cb e0 ?_
  refine cb (gT (v:=.lst .own (ws.map .bl)) rfl) ?_
  simp only[List.set_cons_zero,List.set_cons_succ,c_,kN,cw]
  refine pO (fun _ e=>∃x8 x9,e=[some (.lst fl (iL ns)),some (.int k),some (.int v),some u,some (.int n),some (.int s),some (.bl al),some (.lst .frz (ws.map .bl)),x8,x9]) (xs:=ws.map .bl) (eH (f:=.frz) (by simp[kN]) rfl (kP _ _) (kP _ _)) ⟨_,_,rfl⟩ (fun j w e hw hP=>?_) (fun e hP=>?_)
  ·obtain⟨x8,x9,rfl⟩:=hP
   rw[List.getElem?_map]at hw
   obtain⟨many,_,rfl⟩:=Option.map_eq_some_iff.mp hw
   refine⟨[some (.lst fl (iL ns)),some (.int k),some (.int v),some u,some (.int n),some (.int s),some (.bl al),some (.lst .frz (ws.map .bl)),some (.bl many),x9],rfl,?_⟩
   have du:=mX (al:=al) (many:=many) K.at_.n3 K.at_.s1
   have te:=lH (many:=many) K.at_ K.told
   have ba:=lJ (many:=many) K.at_
   have w3:=wd3 n s al many
   generalize eD n s al many=wd at du te ba w3
   refine cb (aw (v:=.str wd) (by simp[du,aJ]) (by simp) rfl) ?_
   simp only[List.set_cons_zero,List.set_cons_succ]
   have n1:pNe (.str wd) (.str wd)=.ok (.bl false):=by
    rcases w3 with rfl | rfl | rfl<;>exact gO (by decide +kernel)
   refine cb (bB (by simp[K.br,te,n1,aJ]) av) ?_
   refine bN (bB ?_ av) ⟨_,_,rfl⟩
   by_cases q:wd = "told"
   ·subst q
    have n2:pNe (.str "told") (.str "told")=.ok (.bl false):=n1
    simp[n2]
   ·have n2:pNe (.str wd) (.str "told")=.ok (.bl true):=by
     rcases w3 with rfl | rfl | rfl
     ·exact gO (by decide +kernel)
     ·exact gO (by decide +kernel)
     ·exact absurd rfl q
    simp[n2,K.br,ba q,aJ]
  ·obtain⟨x8,x9,rfl⟩:=hP
   exact⟨_,_,_,_,_,_,_,_,_,rfl⟩
 ·obtain⟨x1,x2,x3,x4,x5,x6,x7,x8,x9,rfl⟩:=hP
  exact bH (by simp) (by simp)
end G
namespace G
open PySem L2 PR
theorem hb:tj pt.F:=⟨bn1,bn4,bn3,bn2,bn6,bn3,bn2,bn2,bn2,bn2,bn2,bn3,bn1,bn1,bn3,bn5,bn3,bn1,bn4,bn2,bn1,bn2,bn2,bn3,bn2,bn3,bn3,bn3,bn2,bn2,bn2,bn2,bn1,bn2,bn3,bn2,bn3,bn3,bn2,bn3,bn2,bn2,bn1,trivial⟩
theorem hd:tf pe.D:=⟨bd3,bd2,trivial⟩
theorem hds:pe.D.all (fun y=>scB y.1)=true:=by decide +kernel
theorem hs:pt.F.all scB=true:=by decide +kernel
theorem fin{l:PySem.W.OpenLaw}{w:World}{K:PySem.W.Frag}{mg:Str→Option Value}{fa:Addr}(t:Ty pt pe w K mg)(hfa:mg "law" = some (.ref fa)) :
  ∃fd:FuncData,(∀(s:Shared) (u:Value),BindsTo s fd ⟨[u],[]⟩ [("_law_script", u)])∧∀base:Heap,K.In base→base.Ns mainGlobals mg→bR l.prog w K mg base (CXP l.prog w) 8 fa fd ["_law_script"] (nO K):=by
 have e:=hfa.symm.trans (t.tx.gl 42 rfl)
 cases e
 refine⟨dAt K (pt.fa K 42),fun s u=>?_,fun base hB _=>xP (T:=T K) (xL t hB) law_true⟩
 obtain⟨oc,od,kV,doc,pm,an,cdv,ct,osl,e,_⟩:=(t.tx.fn 42).ex
 rw[e]
 exact .of_eq rfl
end G
def PySem.W.Fast.tw10789442908538193327 : Unit := ()
def PySem.W.Fast.tw13559322384031175040 : Unit := ()
def PySem.W.Fast.tw4251912687371793182 : Unit := ()
def PySem.W.Fast.tw8426379252373700936 : Unit := ()
def PySem.W.Fast.tw2330393462484194652 : Unit := ()
def PySem.W.Fast.tw10337519098979729505 : Unit := ()
def PySem.W.Fast.tw18044710234690806131 : Unit := ()
def PySem.W.Fast.tw17073381953814315430 : Unit := ()
def PySem.W.Fast.tw13942992631534106745 : Unit := ()
def PySem.W.Fast.tw461337421740306263 : Unit := ()
def PySem.W.Fast.tw12991636943567824480 : Unit := ()
def PySem.W.Fast.tw10372853938404967635 : Unit := ()
def PySem.W.Fast.tw16553224638466818617 : Unit := ()
def PySem.W.Fast.tw15897060033585023113 : Unit := ()
def PySem.W.Fast.tw15661837815414743993 : Unit := ()
def PySem.W.Fast.tw5199089413654851877 : Unit := ()
def PySem.W.Fast.tw13471971706038188404 : Unit := ()
def PySem.W.Fast.tw4612942099652909661 : Unit := ()
def PySem.W.Fast.tw11258094823046130847 : Unit := ()
def PySem.W.Fast.tw13597204863082988761 : Unit := ()
def PySem.W.Fast.tw11442473227392877312 : Unit := ()
def PySem.W.Fast.tw3964781296938419548 : Unit := ()
def PySem.W.Fast.tw849033024356215567 : Unit := ()
def PySem.W.Fast.tw4098477760333847144 : Unit := ()
def PySem.W.Fast.tw5876503324580229547 : Unit := ()
def PySem.W.Fast.tw14312832840460907512 : Unit := ()
def PySem.W.Fast.tw11046288355496549108 : Unit := ()
def PySem.W.Fast.tw6758078733886566608 : Unit := ()
def PySem.W.Fast.tw4890188258811800711 : Unit := ()
def PySem.W.Fast.tw446843324646614229 : Unit := ()
def PySem.W.Fast.tw10960957573989709425 : Unit := ()
def PySem.W.Fast.tw10796493750161683608 : Unit := ()
def PySem.W.Fast.tw7303334407036494300 : Unit := ()
def PySem.W.Fast.tw78005644858324845 : Unit := ()
def PySem.W.Fast.tw6188408685632166916 : Unit := ()
def PySem.W.Fast.tw10218881638033177162 : Unit := ()
def PySem.W.Fast.tw13579938339046621528 : Unit := ()
def PySem.W.Fast.tw12545080052221687656 : Unit := ()
def PySem.W.Fast.tw8021221630524459601 : Unit := ()
def PySem.W.Fast.tw17414258464415266575 : Unit := ()
def PySem.W.Fast.tw511332002918318384 : Unit := ()
def PySem.W.Fast.tw3158346312739859306 : Unit := ()
def PySem.W.Fast.tw18171607360574793934 : Unit := ()
def PySem.W.Fast.tw8211139097983155039 : Unit := ()
def PySem.W.Fast.tw9219160787088383597 : Unit := ()
def PySem.W.Fast.tw6477634456682072614 : Unit := ()
def PySem.W.Fast.tw13659361162075647758 : Unit := ()
def PySem.W.Fast.tw14471607556391532022 : Unit := ()
def PySem.W.Fast.tw5044854224219423597 : Unit := ()
def PySem.W.Fast.tw8736153783802764568 : Unit := ()
def PySem.W.Fast.tw5956151147318315480 : Unit := ()
def PySem.W.Fast.tw17959369104782986813 : Unit := ()
def PySem.W.Fast.tw10569354163126193423 : Unit := ()
def PySem.W.Fast.tw5320336001658977613 : Unit := ()
def PySem.W.Fast.tw7119101189135569107 : Unit := ()
def PySem.W.Fast.tw13020418406284369935 : Unit := ()
def PySem.W.Fast.tw12115704498949781997 : Unit := ()
def PySem.W.Fast.tw15835443765211912286 : Unit := ()
def PySem.W.Fast.tw12604079081279732009 : Unit := ()
def PySem.W.Fast.tw13506550893617053162 : Unit := ()
def PySem.W.Fast.tw5471417981637055396 : Unit := ()
def PySem.W.Fast.tw10945456298384352821 : Unit := ()
def PySem.W.Fast.tw16983411885834002228 : Unit := ()
def PySem.W.Fast.tw17417644260104642661 : Unit := ()
open PySem PySem.W PyProof.Rows
set_option maxRecDepth 100000 in
set_option maxHeartbeats 0 in
theorem PySem.Challenge.cw_calmring_k37_too_great_holds : PySem.Challenge.rw_calmring_k37_too_great.Holds := by
 w_on;o_law;k_head;(case hw=>w_witness2)
 k_fill
 refine PR.rD (l:=PySem.Challenge.rw_calmring_k37_too_great) (k:=8) (x := "_law_script") rfl rfl ⟨rfl,by decide,by decide⟩ (fun w h Y=>PySem.W.kIn_of Y) ?F
 case F =>
  intro w mg fa h KX G hmg
  refine' _root_.G.fin (_root_.PR.Ty.of KX G (_root_.PR.Tx.of KX G _root_.G.hb _root_.G.hs ?a ?b ?c ?d ?e ?f ?g) _root_.G.hd _root_.G.hds ?h ?i ?j ?k) hmg
  (case a=>exact fun z=>nomatch z)
  (case b=>exact fun z=>nomatch z)
  (case c=>exact fun z=>nomatch z)
  (case d=>kernel_rfl)
  (case e=>kernel_rfl)
  (case f=>kernel_rfl)
  (case g=>kernel_rfl)
  (case h=>kernel_rfl)
  (case i=>kernel_rfl)
  (case j=>kernel_rfl)
  (case k=>kernel_rfl)
