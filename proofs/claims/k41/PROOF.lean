import PyProof.Rows.All
import Wide.All
import OpenK.AllK
import Wide.FinOn
import Lean
import PyProof.EqAt
import PyProof.EqKinds
import PyProof.TupleCall
import PySem.Challenge.RW_calmring_k41_calm_at_and_fair
set_option Elab.async false
set_option linter.all false
set_option maxRecDepth 100000
namespace L2
open PySem PySem.Spec PyProof.Rows
abbrev Key:=Sum Int Str
def yx:Key→Value→Bool
 | .inl k,v=>Value.isInt k v
 | .inr x,v=>Value.isStrOf x v
def Eh(w:World):Key→Int
 | .inl k=>hashInt k
 | .inr x=>hashStr w x
theorem bK:∀{k:Key}{v:Value},yx k v=true→(∃i t,k=Sum.inl i∧v=Value.int i t)∨(∃x t,k=Sum.inr x∧v=Value.str x t)
 | .inl i,v,h=>by
  obtain⟨t,e⟩:=Value.isInt_shape (k:=i) (v:=v) h
  exact .inl ⟨i,t,rfl,e⟩
 | .inr x,v,h=>by
  obtain⟨t,e⟩:=Value.isStrOf_shape (x:=x) (v:=v) h
  exact .inr ⟨x,t,rfl,e⟩
theorem z9(a b:Int):decide ((Sum.inl a:Key)=Sum.inl b)=(a==b):=by
 by_cases e:a=b
 ·subst e;simp
 ·have h:¬(Sum.inl a:Key)=Sum.inl b:=fun q=>e (Sum.inl.inj q)
  rw[decide_eq_false h]
  exact(beq_eq_false_iff_ne.mpr e).symm
theorem z6(a b:Str):decide ((Sum.inr a:Key)=Sum.inr b)=decide (a=b):=by
 by_cases e:a=b
 ·subst e;simp
 ·have h:¬(Sum.inr a:Key)=Sum.inr b:=fun q=>e (Sum.inr.inj q)
  rw[decide_eq_false h,decide_eq_false e]
theorem z8(a:Int)(b:Str):decide ((Sum.inl a:Key)=Sum.inr b)=false:=decide_eq_false (fun q=>nomatch q)
theorem z7(a:Str)(b:Int):decide ((Sum.inr a:Key)=Sum.inl b)=false:=decide_eq_false (fun q=>nomatch q)
def lO(prog:Program)(w:World):PySem.KeyKind prog w Key where
 is:=yx
 hash:=Eh w
 inj:=fun v a b ha hb=>by
  rcases bK ha with⟨i,t,rfl,rfl⟩ |⟨x,t,rfl,rfl⟩
  ·rcases bK hb with⟨j,u,rfl,e⟩ |⟨y,u,rfl,e⟩
   ·injection e with e1 _;rw[e1]
   ·exact nomatch e
  ·rcases bK hb with⟨j,u,rfl,e⟩ |⟨y,u,rfl,e⟩
   ·exact nomatch e
   ·injection e with e1 _;rw[e1]
 byValue:=fun k v h=>by
  rcases bK h with⟨i,t,rfl,rfl⟩ |⟨x,t,rfl,rfl⟩<;>rfl
 pyHash:=fun hv h=>by
  rcases bK hv with⟨i,t,rfl,rfl⟩ |⟨x,t,rfl,rfl⟩
  ·exact wpAny_pyHash_int h
  ·exact wpAny_pyHash_str h
 eqBool:=fun hu hv h=>by
  rcases bK hu with⟨i,t,rfl,rfl⟩ |⟨x,t,rfl,rfl⟩
  ·rcases bK hv with⟨j,u,rfl,rfl⟩ |⟨y,u,rfl,rfl⟩
   ·rw[z9]at h;exact wpAny_eqBool_int h
   ·rw[z8]at h;exact SeqAt.EqAt.int_str i t y u _ _ _ _ h
  ·rcases bK hv with⟨j,u,rfl,rfl⟩ |⟨y,u,rfl,rfl⟩
   ·rw[z7]at h;exact SeqAt.EqAt.str_int x t j u _ _ _ _ h
   ·rw[z6]at h;exact wpAny_eqBool_str h
 «strs»:=fun k x t v h=>by
  rcases bK h with⟨i,u,rfl,e⟩ |⟨y,u,rfl,e⟩
  ·exact nomatch e
  ·injection e with e1 _
   subst e1
   cases v<;>rfl
end L2
namespace L2
open PySem PySem.Spec PyProof.Rows
inductive V where
 | non | bl (b:Bool) | int (i:Int) | str (x:Str) | byt (b:Array UInt8) | flt (b:UInt64) | ref (a:Addr) | ty (n:String)
 deriving DecidableEq
def bg:V→Value→Prop
 | .non,u=>u=Value.none
 | .bl b,u=>u=Value.bool b
 | .int i,u=>∃t,u=Value.int i t
 | .str x,u=>∃t,u=Value.str x t
 | .byt b,u=>∃t,u=Value.bytes b t
 | .flt b,u=>∃t,u=Value.float b t
 | .ref a,u=>u=Value.ref a
 | .ty n,u=>u=Value.type n
abbrev aH:List V→List Value→Prop:=Paired bg
theorem aH.length{xs:List V}{us:List Value}(r:aH xs us):xs.length=us.length:=Paired.length r
theorem aH.get:∀{xs:List V}{us:List Value}{i:Nat}{x:V},aH xs us→xs[i]?=some x→∃u,us[i]?=some u∧bg x u
 | _,_,_,_,.nil,e=>by simp at e
 | _,_,0,_,.cons r _,e=>by simp at e;subst e;exact⟨_,rfl,r⟩
 | _,_,i+1,x,.cons _ t,e=>by
  obtain⟨u,h1,h2⟩:=aH.get (i:=i) (x:=x) t (by simpa using e)
  exact⟨u,by simpa using h1,h2⟩
theorem aH.set{x:V}{u:Value}(r:bg x u):∀{xs:List V}{us:List Value} (i:Nat),aH xs us→aH (xs.set i x) (us.set i u)
 | _,_,_,.nil=>.nil
 | _,_,0,.cons _ t=>.cons r t
 | _,_,i+1,.cons q t=>.cons q (aH.set r i t)
theorem aH.append:∀{xs ys:List V}{us ws:List Value},aH xs us→aH ys ws→aH (xs++ys) (us++ws)
 | _,_,_,_,.nil,s=>s
 | _,_,_,_,.cons r t,s=>.cons r (aH.append t s)
theorem aH.take:∀{xs:List V}{us:List Value} (n:Nat),aH xs us→aH (xs.take n) (us.take n)
 | _,_,0,_=>.nil
 | _,_,_+1,.nil=>.nil
 | _,_,n+1,.cons r t=>.cons r (aH.take n t)
theorem aH.drop:∀{xs:List V}{us:List Value} (n:Nat),aH xs us→aH (xs.drop n) (us.drop n)
 | _,_,0,r=>r
 | _,_,_+1,.nil=>.nil
 | _,_,n+1,.cons _ t=>aH.drop n t
def ka:Option V→Option Value→Prop
 | some v,some u=>bg v u
 | none,none=>True
 | _,_=>False
def KV{κ:Type}:List (κ×V)→List (κ×Value)→Prop:=Paired fun(p:κ×V) (q:κ×Value)=>p.1=q.1∧bg p.2 q.2
def kV:Key→V
 | .inl i=>.int i
 | .inr x=>.str x
inductive HO where
 | lst (xs:List V)
 | tup (xs:List V)
 | dK (kvs:List (Key×V)) | dT (kvs:List (List Key×V))
 | set(S:Int→Bool) (n:Nat)
 | ins (C dx:Addr) (fs:List (Str×V))
 | own (x:Addr)
 | xd (fs:List (Str×V))
 | met (f x:Addr)
 | rng (lo hi:Int)
 | frz (o:Obj) (u:HO)
 | tbl (ps:Array Value)
 | ext (φ:Heap→Prop)
abbrev Hp:=Addr→Option HO
def upd(H:Hp)(a:Addr)(o:HO):Hp:=fun b=>if b=a then some o else H b
theorem bF{H:Hp}{a:Addr}{o:HO}:upd H a o a=some o:=by unfold upd;rw[if_pos rfl]
theorem aI{H:Hp}{a b:Addr}{o:HO}(h:b≠a):upd H a o b=H b:=by unfold upd;rw[if_neg h]
theorem bG{H:Hp}{a b:Addr}{o:HO}(h:H a=some o)(h':H b=none):a≠b:=by
 intro e;subst e;rw[h]at h';cases h'
section
variable(P:Program)(w:World)
def cD(H:Hp)(h:Heap)(a:Addr):HO→Prop
 | .lst xs=>xs.length≤sizeLine∧∃(its:List Value) (n:Nat),aH xs its∧h.get? a=some { cls:=.type "list", data:=.seq its.toArray n }
 | .tup xs=>xs.length≤sizeLine∧∃its:List Value,aH xs its∧IsTup h a its.toArray
 | .dK kvs=>kvs.length≤sizeLine∧(a==sysModules)=false∧∃vs,KV kvs vs∧h.DictOf (lO P w) a vs
 | .dT kvs=>kvs.length≤sizeLine∧(a==sysModules)=false∧∃xs:List (List Key×Addr×Value),
   Paired (fun(p:List Key×V) (q:List Key×Addr×Value)=>p.1=q.1∧H q.2.1=some (.tup (p.1.map kV))∧bg p.2 q.2.2) kvs xs ∧
   ∃o es ep,h.get? a=some o∧o.ExactDict∧o.data=.dict es ep∧es.toList=xs.map (entryOfKey (tupleKind (lO P w)))∧(xs.map (·.1)).Nodup
 | .set S n=>h.SetOf (intKind P w) a S n
 | .ins C dx fs=>H dx=some (.own a)∧fs.length≤1000∧dx≠a∧h.get? a=some (PySem.W.instObj C dx)∧
   ∃mA,h.Ns1 dx mA∧(∀f,ka (fs.lookup f) (mA f))∧PySem.Within mA (fs.map (·.1))
 | .own _=>∃o,h.get? a=some o
 | .xd fs=>∃mA,h.Ns1 a mA∧∀f,ka (fs.lookup f) (mA f)
 | .rng lo hi=>∃t u v,h.get? a=some { cls:=.type "range", data:=.fields #[.int lo t,.int hi u,.int 1 v] }
 | .frz o u=>h.get? a=some o∧cD H h a u
 | .tbl ps=>h.get? a=some { cls:=.none,data:=.fields ps }
 | .met f x=>h.get? a=some (PySem.W.methodObj (.ref f) (.ref x))
 | .ext φ=>φ h∧(∃o,h.get? a=some o)∧∀h1 h2:Heap,φ h1→(∀o,h1.get? a=some o→h2.get? a=some o)→φ h2
def HOk(H:Hp)(h:Heap):Prop:=∀a o,H a=some o→cD P w H h a o
end
section
variable{P:Program}{w:World}{H H':Hp}{h h':Heap}{a:Addr}{o:HO}
theorem cD.lt(x:cD P w H h a o):a < h.objs.size:=by
 cases o with
 | lst xs=>obtain⟨_,_,_,_,e⟩:=x;exact Heap.lt_size e
 | tup xs=>obtain⟨_,_,_,p⟩:=x;exact p.lt
 | dK kvs=>obtain⟨_,_,_,_,o,_,_,e,_⟩:=x;exact Heap.lt_size e
 | dT kvs=>obtain⟨_,_,_,_,o,_,_,e,_⟩:=x;exact Heap.lt_size e
 | set S n=>obtain⟨o,_,_,_,e,_⟩:=x;exact Heap.lt_size e
 | ins C dx fs=>obtain⟨_,_,_,e,_⟩:=x;exact Heap.lt_size e
 | own y=>obtain⟨_,e⟩:=x;exact Heap.lt_size e
 | xd fs=>obtain⟨_,⟨_,_,_,e,_⟩,_⟩:=x;exact Heap.lt_size e
 | rng lo hi=>obtain⟨_,_,_,e⟩:=x;exact Heap.lt_size e
 | frz ob u=>obtain⟨e,_⟩:=x;exact Heap.lt_size e
 | tbl ps=>exact Heap.lt_size (show h.get? a=some _ from x)
 | met f y=>exact Heap.lt_size (show h.get? a=some _ from x)
 | ext φ=>obtain⟨_,⟨_,e⟩,_⟩:=x;exact Heap.lt_size e
theorem Paired.mapP{α β:Type}{F G:α→β→Prop}:∀{l₁:List α}{l₂:List β},Paired F l₁ l₂→(∀a b,F a b→G a b)→Paired G l₁ l₂
 | _,_,.nil,_=>.nil
 | _,_,.cons r t,f=>.cons (f _ _ r) (Paired.mapP t f)
theorem cD.stay(x:cD P w H h a o)(k:∀b u,(b=a∨H b=some (.own a))→h.get? b=some u→h'.get? b=some u)
  (ho:∀b,H b=some (.own a)→H' b=some (.own a)) (ht:∀b xs,H b=some (.tup xs)→H' b=some (.tup xs)):cD P w H' h' a o:=by
 induction o with
 | lst xs=>obtain⟨z,its,n,r,e⟩:=x;exact⟨z,its,n,r,k _ _ (.inl rfl) e⟩
 | tup xs=>obtain⟨z,its,r,ob,e,c⟩:=x;exact⟨z,its,r,ob,k _ _ (.inl rfl) e,c⟩
 | dK kvs=>obtain⟨z,y,vs,r,ob,es,ep,e,c⟩:=x;exact⟨z,y,vs,r,ob,es,ep,k _ _ (.inl rfl) e,c⟩
 | dT kvs =>
  obtain⟨z,y,xs,r,ob,es,ep,e,c⟩:=x
  exact⟨z,y,xs,Paired.mapP r fun p q z=>⟨z.1,ht _ _ z.2.1,z.2.2⟩,ob,es,ep,k _ _ (.inl rfl) e,c⟩
 | set S n=>obtain⟨ob,es,ep,t,e,c⟩:=x;exact⟨ob,es,ep,t,k _ _ (.inl rfl) e,c⟩
 | ins C dx fs =>
  obtain⟨d,z,ne,e,mA,⟨od,es,ep,e2,c⟩,r⟩:=x
  exact⟨ho _ d,z,ne,k _ _ (.inl rfl) e,mA,⟨od,es,ep,k _ _ (.inr d) e2,c⟩,r⟩
 | own y=>obtain⟨ob,e⟩:=x;exact⟨ob,k _ _ (.inl rfl) e⟩
 | xd fs=>obtain⟨mA,⟨od,es,ep,e,c⟩,r⟩:=x;exact⟨mA,⟨od,es,ep,k _ _ (.inl rfl) e,c⟩,r⟩
 | rng lo hi=>obtain⟨t,u,v,e⟩:=x;exact⟨t,u,v,k _ _ (.inl rfl) e⟩
 | frz ob u ih=>obtain⟨e,q⟩:=x;exact⟨k _ _ (.inl rfl) e,ih q⟩
 | tbl ps =>
  have e:h.get? a=some { cls:=.none,data:=.fields ps }:=x
  show h'.get? a=some { cls:=.none,data:=.fields ps }
  exact k a _ (.inl rfl) e
 | met f y =>
  have e:h.get? a=some (PySem.W.methodObj (.ref f) (.ref y)):=x
  show h'.get? a=some (PySem.W.methodObj (.ref f) (.ref y))
  exact k a _ (.inl rfl) e
 | ext φ=>obtain⟨p,⟨o,e⟩,st⟩:=x;exact⟨st _ _ p fun o q=>k _ _ (.inl rfl) q,⟨o,k _ _ (.inl rfl) e⟩,st⟩
theorem HOk.lt(x:HOk P w H h)(e:H a=some o):a < h.objs.size:=(x a o e).lt
theorem HOk.fresh(x:HOk P w H h)(e:h.objs.size≤a):H a=none:=by
 cases q:H a with
 | none=>rfl
 | some u=>exact absurd (Nat.lt_of_lt_of_le (x.lt q) e) (Nat.lt_irrefl _)
theorem HOk.kept(x:HOk P w H h)(k:∀b u,h.get? b=some u→h'.get? b=some u):HOk P w H h':=fun a o e =>
 (x a o e).stay (fun b u _ q=>k b u q) (fun _ q=>q) fun _ _ q=>q
theorem HOk.laid(x:HOk P w H h)(k:∀b u,h.get? b=some u→h'.get? b=some u)(hp:h.objs.size≤a)(new:cD P w (upd H a o) h' a o):HOk P w (upd H a o) h':=fun b u e=>by
 have hn:=x.fresh hp
 by_cases hb:b=a
 ·subst hb;rw[bF]at e;cases e;exact new
 ·rw[aI hb]at e
  exact(x b u e).stay (fun c v _ q=>k c v q) (fun c q=>by rw[aI (bG q hn)];exact q) fun c xs q=>by rw[aI (bG q hn)];exact q
end
def Rd(H:Hp)(a:Addr)(u:HO):Prop:=H a=some u∨∃o,H a=some (.frz o u)
theorem Rd.of{H:Hp}{a:Addr}{u:HO}(h:H a=some u):Rd H a u:=.inl h
theorem Rd.ok{P:Program}{w:World}{H:Hp}{h:Heap}{a:Addr}{u:HO}(r:Rd H a u)(x:HOk P w H h):cD P w H h a u:=by
 rcases r with r |⟨o,r⟩
 ·exact x a u r
 ·obtain⟨_,q⟩:=x a _ r
  exact q
def Mut:Option HO→Prop
 | some (.lst _)=>True
 | some (.dK _)=>True
 | some (.dT _)=>True
 | some (.set _ _)=>True
 | some (.ins _ _ _)=>True
 | some (.ext _)=>True
 | _=>False
section
variable{P:Program}{w:World}{H:Hp}{h h':Heap}{x e:Addr}{o':HO}
theorem HOk.write(ok:HOk P w H h)(mu:Mut (H x))(he:e=x∨H e=some (.own x))(k:∀b u,b≠e→h.get? b=some u→h'.get? b=some u)(heo:∃u,h'.get? e=some u)
  (new:cD P w (upd H x o') h' x o'):HOk P w (upd H x o') h':=fun b u q=>by
 have nown:∀c y,H c=some (.own y)→c≠x:=fun c y r z=>by subst z;rw[r]at mu;exact mu
 have ntup:∀c xs,H c=some (.tup xs)→c≠x:=fun c xs r z=>by subst z;rw[r]at mu;exact mu
 by_cases hb:b=x
 ·subst hb;rw[bF]at q;cases q;exact new
 ·rw[aI hb]at q
  by_cases hbe:b=e
  ·have q':H b=some (.own x):=by
    rcases he with z | z
    ·exact absurd (hbe.trans z) hb
    ·rw[hbe];exact z
   rw[q]at q';cases q'
   obtain⟨v,hv⟩:=heo
   exact⟨v,by rw[hbe];exact hv⟩
  ·refine(ok b u q).stay (fun c v hc r=>k c v ?_ r) (fun c r=>by rw[aI (nown c b r)];exact r) fun c xs r=>by rw[aI (ntup c xs r)];exact r
   rcases hc with rfl | hc
   ·exact hbe
   ·rintro rfl
    rcases he with z | z
    ·exact nown c b hc z
    ·rw[hc]at z;cases z;exact hb rfl
end
structure Un(fs ex:List Addr)(H H':Hp)(h h':Heap):Prop where
 keep:∀b o,h.get? b=some o→H b=none→b∉fs→b∉ex→h'.get? b=some o
 slot:∀b o,h.get? b=some o→H b=none→b∈fs→b∉ex→∃sl,h'.get? b=some { o with slots:=sl }
 free:∀b o,h.get? b=some o→H b=none→b∉ex→H' b=none
 there:∀b o,h.get? b=some o→b∉ex→∃o',h'.get? b=some o'
 tups:∀b xs,H b=some (.tup xs)→H' b=some (.tup xs)
 frzs:∀b o u,H b=some (.frz o u)→H' b=some (.frz o u)
 tbls:∀b ps,H b=some (.tbl ps)→∃more,H' b=some (.tbl (ps++more))
section
variable{fs fs' ex ex':List Addr}{H H1 H2:Hp}{h h1 h2 h':Heap}{a x e:Addr}{o:HO}
theorem Un.any(u:Un fs ex H H1 h h1){b:Addr}{ob:Obj}(q:h.get? b=some ob)(n:H b=none)(hx:b∉ex):∃sl,h1.get? b=some { ob with slots:=sl }:=by
 by_cases hb:b∈fs
 ·exact u.slot b ob q n hb hx
 ·exact⟨ob.slots,u.keep b ob q n hb hx⟩
theorem Un.trans(a:Un fs ex H H1 h h1)(b:Un fs ex H1 H2 h1 h2):Un fs ex H H2 h h2 where
 keep:=fun c ob q n hc hx=>b.keep c ob (a.keep c ob q n hc hx) (a.free c ob q n hx) hc hx
 slot:=fun c ob q n hc hx=>by
  obtain⟨sl,e1⟩:=a.slot c ob q n hc hx
  obtain⟨sl',e2⟩:=b.slot c _ e1 (a.free c ob q n hx) hc hx
  exact⟨sl',e2⟩
 free:=fun c ob q n hx=>by
  obtain⟨o',e1⟩:=a.there c ob q hx
  exact b.free c o' e1 (a.free c ob q n hx) hx
 there:=fun c ob q hx=>by
  obtain⟨o',e1⟩:=a.there c ob q hx
  exact b.there c o' e1 hx
 tups:=fun c xs q=>b.tups c xs (a.tups c xs q)
 frzs:=fun c ob xs q=>b.frzs c ob xs (a.frzs c ob xs q)
 tbls:=fun c ps q=>by
  obtain⟨m1,e1⟩:=a.tbls c ps q
  obtain⟨m2,e2⟩:=b.tbls c _ e1
  exact⟨m1++m2,by rw[e2,Array.append_assoc]⟩
theorem Un.kept(k:∀b u,h.get? b=some u→h'.get? b=some u):Un fs ex H H h h' :=
 ⟨fun b ob q _ _ _=>k b ob q,fun b ob q _ _ _=>⟨ob.slots,k b ob q⟩,fun _ _ _ n _=>n,fun b ob q _=>⟨ob,k b ob q⟩,fun _ _ q=>q,fun _ _ _ q=>q,fun _ ps q=>⟨#[],by rw[q];simp⟩⟩
theorem Un.refl:Un fs ex H H h h:=Un.kept fun _ _ q=>q
theorem Un.laid(k:∀b u,h.get? b=some u→h'.get? b=some u)(hp:h.objs.size≤a)(hn:H a=none):Un fs ex H (upd H a o) h h' where
 keep:=fun b u q _ _ _=>k b u q
 slot:=fun b u q _ _ _=>⟨u.slots,k b u q⟩
 free:=fun b u q n _=>by rw[aI (Nat.ne_of_lt (Nat.lt_of_lt_of_le (Heap.lt_size q) hp))];exact n
 there:=fun b u q _=>⟨u,k b u q⟩
 tups:=fun b xs q=>by rw[aI (bG q hn)];exact q
 frzs:=fun b u xs q=>by rw[aI (bG q hn)];exact q
 tbls:=fun b ps q=>⟨#[],by rw[aI (bG q hn),q];simp⟩
theorem Un.write(mu:Mut (H x))(he:e=x∨H e=some (.own x))(k:∀b u,b≠e→h.get? b=some u→h'.get? b=some u)(heo:∃u,h'.get? e=some u):Un fs ex H (upd H x o) h h':=by
 have hx:∀b,H b=none→b≠x:=fun b n z=>by subst z;rw[n]at mu;exact mu
 have hb:∀b,H b=none→b≠e:=fun b n z=>by
  subst z
  rcases he with r | r
  ·exact hx b n r
  ·rw[n]at r;cases r
 have hm:∀b u,H b=some u→¬Mut (some u)→b≠x:=fun b u q nm z=>by subst z;rw[q]at mu;exact nm mu
 refine ⟨fun b u q n _ _=>k b u (hb b n) q,fun b u q n _ _=>⟨u.slots,k b u (hb b n) q⟩,fun b u q n _=>by rw [aI (hx b n)];exact n,fun b u q _=>?_,
  fun b xs q=>by rw[aI (hm b _ q fun z=>z)];exact q,fun b u xs q=>by rw[aI (hm b _ q fun z=>z)];exact q,fun b ps q=>⟨#[],by rw[aI (hm b _ q fun z=>z),q];simp⟩⟩
 by_cases hbe:b=e
 ·subst hbe;exact heo
 ·exact⟨u,k b u hbe q⟩
theorem Un.mono(u:Un fs ex H H1 h h1)(hs:∀b∈fs,b∈fs')(hx:∀b∈ex,b∈ex'):Un fs' ex' H H1 h h1 :=
 ⟨fun b ob q n hb he=>u.keep b ob q n (fun z=>hb (hs b z)) fun z=>he (hx b z),fun _ _ q n _ he=>u.any q n fun z=>he (hx _ z),fun b ob q n he=>u.free b ob q n fun z=>he (hx b z),fun b ob q he=>u.there b ob q fun z=>he (hx b z),u.tups,u.frzs,u.tbls⟩
end
def trk(h:Heap)(H:Hp):List Addr:=(List.range h.objs.size).filter fun a=>(H a).isSome
def lW(h:Heap)(H:Hp):Heap:=PySem.W.hideAll h (trk h H)
theorem rL(h:Heap)(H:Hp):(lW h H).objs.size=h.objs.size:=PySem.W.hideAll_size _ _
theorem uA{h:Heap}{H:Hp}{b:Addr}{o:Obj}(e:h.get? b=some o)(n:H b=none):(lW h H).get? b=some o :=
 PySem.W.hideAll_get _ e fun hm=>by
  have q:(H b).isSome=true:=(List.mem_filter.mp hm).2
  rw[n]at q;simp at q
theorem xh{h:Heap}{H:Hp}{b:Addr}{o:Obj}(e:(lW h H).get? b=some o):h.get? b=some o∧H b=none:=by
 have e':h.get? b=some o:=PySem.W.of_hideAll (trk h H) e
 refine⟨e',?_⟩
 cases q:H b with
 | none=>rfl
 | some x =>
  have hm:b∈trk h H:=List.mem_filter.mpr ⟨List.mem_range.mpr (Heap.lt_size e'),by simp[q]⟩
  have z:(lW h H).get? b=none:=PySem.W.hideAll_none (trk h H) hm
  rw[z]at e;cases e
def yf(g h:Heap)(L:Addr):List (Addr×Obj):=(List.range h.objs.size).filterMap fun a=>if a=L ∨(g.get? a).isSome=true then none else(h.get? a).map fun o=>(a,o)
def bw(g h:Heap)(L d:Addr):List (Addr×Obj):=(yf g h L).filter fun p=>decide (p.1≠d)
end L2
namespace L2
open PySem PySem.Spec PyProof.Rows
structure Mod(K:PySem.W.Frag)(mg:Str→Option Value)(base:Heap):Prop where
 kin:K.In base
 glob:base.Ns mainGlobals mg
 blt:∃mb,base.Ns builtinsNs mb∧∀x:Str,x≠"__name__" → mb x=bootBuiltins x
 nolimit:base.NoLimit
structure Cx where
 prog:Program
 w:World
 K:PySem.W.Frag
 mg:Str→Option Value
 base:Heap
 A:Around
 N:List Str
 s₀:Shared
 H₀:Hp
 env:Env
 outer:List Env
 stack:List Env
 ex:List Addr
 fn:Str→Bool
 calm:Bool
 pn:List (Addr×Obj)
 xe:Value→Shared→Prop
def frs(l:List Env):List Addr:=l.filterMap (·.frame)
abbrev Cx.fs(X:Cx):List Addr:=frs X.outer
def Vis(sc:Scope)(x:Str):Prop:=sc.names.lookup x=some .local∨sc.names.lookup x=some .cell∨sc.names.lookup x=some .free
def Loc(sc:Scope)(x:Str):Prop:=sc.names.lookup x=some .local∨sc.names.lookup x=some .cell
def Ez(env:Env)(h:Heap)(m:Str→Option Value)(x:Str)(u:Value):Prop :=
 (env.kindOf x=some .local∧m x=some u)∨((env.kindOf x=some .cell∨env.kindOf x=some .free)∧∃c,env.cells.lookup x=some c∧h.IsCell c (some u))
structure Cx.Ok(X:Cx):Prop where
 mod:Mod X.K X.mg X.base
 kind:X.env.scope.kind=.function
 glob:X.env.globals=mainGlobals
 blt:X.env.builtins=builtinsNs
 above:X.s₀.heap.objs.size≤X.env.locals
 inj:∀x y c,X.env.cells.lookup x=some c→X.env.cells.lookup y=some c→x=y
 has:∀x,(X.env.kindOf x=some .cell∨X.env.kindOf x=some .free)→∃c,X.env.cells.lookup x=some c
 cab:∀x c,X.fn x=true→X.env.cells.lookup x=some c→X.s₀.heap.objs.size≤c
 hd:X.calm=true→X.A.handled=none
 frames:X.A.frames=some X.stack
 stk:X.stack=X.outer ∨(X.stack=X.env::X.outer∧X.env.frame=some X.env.locals)
 exf:∀b∈X.ex,b≠X.env.locals∧∀x c,X.env.cells.lookup x=some c→c≠b
 bs:∀b o,X.base.get? b=some o→X.s₀.heap.get? b=some o∧X.H₀ b=none
 bsz:X.base.objs.size≤X.s₀.heap.objs.size
 noex:∀b o,X.base.get? b=some o→b∉X.ex
 exfs:∀b∈X.ex,b∉X.fs
 funs:X.s₀.heap.FunFrames X.base X.outer
 frf:∀b∈X.fs,X.H₀ b=none
structure Inv(X:Cx)(pins:List (Addr×Obj))(σ:List (Option V))(H:Hp)(s:Shared):Prop where
 ok:X.Ok
 os:s.os=X.s₀.os
 bare:AllBare s.gens
 base:Un X.fs X.ex X.H₀ H X.s₀.heap s.heap
 loc:∃m,s.heap.Ns X.env.locals m∧∀(i:Nat) (x:Str) (v:V),X.N[i]?=some x→σ[i]?=some (some v)→Vis X.env.scope x→∃u,bg v u∧Ez X.env s.heap m x u
 cell:∀x c,X.env.cells.lookup x=some c→∃v,s.heap.IsCell c v
 free:H X.env.locals=none
 freeC:∀x c,X.env.cells.lookup x=some c→H c=none
 pin:∀p∈X.pn++pins,s.heap.get? p.1=some p.2∧H p.1=none∧p.1≠X.env.locals∧p.1∉X.fs∧∀v,p.2.data≠.cell v
 hok:HOk X.prog X.w H s.heap
 len:σ.length=X.N.length
section
variable{X:Cx}{pins:List (Addr×Obj)}{σ:List (Option V)}{H H':Hp}{s:Shared}{h':Heap}
theorem Cx.Ok.nofr(ok:X.Ok){b:Addr}{o:Obj}(e:X.base.get? b=some o):b∉X.fs:=fun hb=>by
 have:=(ok.funs.mem hb).1
 rw[e]at this;cases this
theorem Inv.bs(I:Inv X pins σ H s):∀b o,X.base.get? b=some o→s.heap.get? b=some o∧H b=none:=fun b o e =>
 ⟨I.base.keep b o (I.ok.bs b o e).1 (I.ok.bs b o e).2 (I.ok.nofr e) (I.ok.noex b o e),I.base.free b o (I.ok.bs b o e).1 (I.ok.bs b o e).2 (I.ok.noex b o e)⟩
theorem Inv.bk(I:Inv X pins σ H s):∀b o,X.base.get? b=some o→s.heap.get? b=some o:=fun b o e=>(I.bs b o e).1
theorem Inv.mod(I:Inv X pins σ H s):Mod X.K X.mg X.base:=I.ok.mod
theorem Inv.kIn(I:Inv X pins σ H s):X.K.In s.heap:=I.ok.mod.kin.keeps I.bk
theorem Inv.lt(I:Inv X pins σ H s):X.env.locals < s.heap.objs.size:=let⟨_,hn,_⟩:=I.loc;hn.lt
theorem Inv.sz(I:Inv X pins σ H s):X.s₀.heap.objs.size≤s.heap.objs.size:=Nat.le_trans I.ok.above (Nat.le_of_lt I.lt)
theorem Inv.nofs(I:Inv X pins σ H s){a:Addr}(h:s.heap.objs.size≤a):a∉X.fs:=fun hb=>by
 obtain⟨_,o,ho,_⟩:=I.ok.funs.mem hb
 exact absurd (Nat.lt_of_lt_of_le (Heap.lt_size ho) (Nat.le_trans I.sz h)) (Nat.lt_irrefl _)
theorem Inv.cne(I:Inv X pins σ H s):∀x c,X.env.cells.lookup x=some c→c≠X.env.locals:=fun x c e z=>by
 obtain⟨v,o,ho,hd⟩:=I.cell x c e
 obtain⟨m,⟨o',es,ep,ho',hd',_⟩,_⟩:=I.loc
 rw[z,ho']at ho;cases ho;rw[hd']at hd;cases hd
theorem Inv.funs(I:Inv X pins σ H s):s.heap.FunFrames X.base X.outer:=by
 have all:∀(l:List Env),(∀b∈frs l,b∈X.fs)→X.s₀.heap.FunFrames X.base l→s.heap.FunFrames X.base l:=by
  intro l
  induction l with
  | nil=>intro _ _;trivial
  | cons env r ih =>
   intro hs hl
   obtain⟨hk,⟨L,o,hf,hn,ho,hd⟩,hr⟩:=hl
   have hL:L∈X.fs:=hs L (by unfold frs;rw[List.filterMap_cons,hf];exact List.mem_cons_self)
   obtain⟨sl,e⟩:=I.base.slot L o ho (I.ok.frf L hL) hL fun z=>I.ok.exfs L z hL
   exact⟨hk,⟨L,_,hf,hn,e,hd⟩,ih (fun b hb=>hs b (by unfold frs;rw[List.filterMap_cons,hf];exact List.mem_cons_of_mem _ hb)) hr⟩
 exact all X.outer (fun _ hb=>hb) I.ok.funs
theorem Inv.stack(I:Inv X pins σ H s):s.heap.FunFrames X.base X.stack:=by
 rcases I.ok.stk with e |⟨e,hf⟩
 ·rw[e];exact I.funs
 ·rw[e]
  obtain⟨m,hn,_⟩:=I.loc
  refine .cons (by rw[I.ok.kind];decide) hf hn ?_ I.funs
  exact Heap.get?_none_of_le (Nat.le_trans I.ok.bsz I.ok.above)
theorem Inv.stkSub(I:Inv X pins σ H s):∀b∈frs X.stack,b∈X.env.locals::X.fs:=fun b hb=>by
 rcases I.ok.stk with e |⟨e,hf⟩
 ·rw[e]at hb;exact List.mem_cons_of_mem _ hb
 ·rw[e]at hb
  unfold frs at hb
  rw[List.filterMap_cons,hf]at hb
  exact hb
theorem Inv.stkFree(I:Inv X pins σ H s):∀b∈frs X.stack,H b=none:=fun b hb=>by
 rcases List.mem_cons.mp (I.stkSub b hb)with e | hb
 ·rw[e];exact I.free
 ·obtain⟨_,o,ho,_⟩:=I.ok.funs.mem hb
  exact I.base.free b o ho (I.ok.frf b hb) fun z=>I.ok.exfs b z hb
theorem Inv.step{g':Array GenState}{t':Nat}{d':Drawn}{ch:List Addr}(I:Inv X pins σ H s)
  (hch:∀b∈ch,(b∈X.ex∨X.s₀.heap.objs.size≤b)∧b≠X.env.locals∧(∀x c,X.env.cells.lookup x=some c→c≠b)∧∀p∈X.pn++pins,p.1≠b)
  (keep:∀b o,b≠X.env.locals→b∉X.fs→b∉ch→s.heap.get? b=some o→H b=none→h'.get? b=some o)
  (slot:∀b o,b≠X.env.locals→b∈X.fs→b∉ch→s.heap.get? b=some o→H b=none→∃sl,h'.get? b=some { o with slots:=sl }) (free:∀b o,b∉ch→s.heap.get? b=some o→H b=none→H' b=none)
  (there:∀b o,b∉ch→s.heap.get? b=some o→∃o',h'.get? b=some o')
  (tups:∀b xs,H b=some (.tup xs)→H' b=some (.tup xs)) (frzs:∀b o u,H b=some (.frz o u)→H' b=some (.frz o u)) (tbls:∀b ps,H b=some (.tbl ps)→∃more,H' b=some (.tbl (ps++more)))
  (ns:∀m,s.heap.Ns X.env.locals m→h'.Ns X.env.locals m) (hok:HOk X.prog X.w H' h') (hg:AllBare g') :
  Inv X pins σ H' { s with heap:=h',gens:=g',drawn:=d',toks:=t' }:=by
 have neL:∀b o,X.s₀.heap.get? b=some o→b≠X.env.locals:=fun b o e=>Nat.ne_of_lt (Nat.lt_of_lt_of_le (Heap.lt_size e) I.ok.above)
 have neC:∀b o,X.s₀.heap.get? b=some o→b∉X.ex→b∉ch:=fun b o e hx hb=>by
  rcases(hch b hb).1 with z | z
  ·exact hx z
  ·exact absurd (Nat.lt_of_lt_of_le (Heap.lt_size e) z) (Nat.lt_irrefl _)
 have cellK:∀x c,X.env.cells.lookup x=some c→∀v,s.heap.IsCell c v→h'.IsCell c v:=fun x c e v ⟨o,ho,hd⟩=>by
  have nch:c∉ch:=fun z=>(hch c z).2.2.1 x c e rfl
  by_cases hc:c∈X.fs
  ·obtain⟨sl,q⟩:=slot c o (I.cne x c e) hc nch ho (I.freeC x c e)
   exact⟨_,q,hd⟩
  ·exact⟨o,keep c o (I.cne x c e) hc nch ho (I.freeC x c e),hd⟩
 refine⟨I.ok,I.os,hg,⟨fun b o e n hb hx=>?_,fun b o e n hb hx=>?_,fun b o e n hx=>?_,fun b o e hx=>?_,fun b xs e=>tups b xs (I.base.tups b xs e),fun b o xs e=>frzs b o xs (I.base.frzs b o xs e),fun b ps e=>?_⟩,?_,fun x c e=>?_,?_,fun x c e=>?_,fun p hp=>?_,hok,I.len⟩
 ·exact keep b o (neL b o e) hb (neC b o e hx) (I.base.keep b o e n hb hx) (I.base.free b o e n hx)
 ·obtain⟨sl,e1⟩:=I.base.slot b o e n hb hx
  obtain⟨sl',e2⟩:=slot b _ (neL b o e) hb (neC b o e hx) e1 (I.base.free b o e n hx)
  exact⟨sl',e2⟩
 ·obtain⟨o',e1⟩:=I.base.there b o e hx
  exact free b o' (neC b o e hx) e1 (I.base.free b o e n hx)
 ·obtain⟨o',e1⟩:=I.base.there b o e hx
  exact there b o' (neC b o e hx) e1
 ·obtain⟨m1,e1⟩:=I.base.tbls b ps e
  obtain⟨m2,e2⟩:=tbls b _ e1
  exact⟨m1++m2,by rw[e2,Array.append_assoc]⟩
 ·obtain⟨m,hn,hl⟩:=I.loc
  refine⟨m,ns m hn,fun i x v e1 e2 e3=>?_⟩
  obtain⟨u,r,l⟩:=hl i x v e1 e2 e3
  refine⟨u,r,?_⟩
  rcases l with l |⟨k,c,e,z⟩
  ·exact .inl l
  ·exact .inr ⟨k,c,e,cellK x c e _ z⟩
 ·obtain⟨v,z⟩:=I.cell x c e
  exact⟨v,cellK x c e v z⟩
 ·obtain⟨m,⟨o,_,_,ho,_⟩,_⟩:=I.loc
  exact free _ o (fun z=>(hch _ z).2.1 rfl) ho I.free
 ·obtain⟨v,o,ho,hd⟩:=I.cell x c e
  exact free c o (fun z=>(hch c z).2.2.1 x c e rfl) ho (I.freeC x c e)
 ·obtain⟨e,n,ne,nf,d⟩:=I.pin p hp
  have nch:p.1∉ch:=fun z=>(hch p.1 z).2.2.2 p hp rfl
  exact⟨keep p.1 p.2 ne nf nch e n,free p.1 p.2 nch e n,ne,nf,d⟩
theorem Inv.un{t':Nat}(I:Inv X pins σ H s)(u:Un X.fs [] H H' s.heap h')(hok:HOk X.prog X.w H' h'):Inv X pins σ H' { s with heap:=h',toks:=t' }:=by
 obtain⟨m,⟨o,es,ep,ho,r⟩,_⟩:=id I.loc
 obtain⟨sl,hL⟩:=u.any ho I.free (by simp)
 exact I.step (g':=s.gens) (d':=s.drawn) (ch:=[]) (fun _ z=>nomatch z) (fun b o _ hb _ e n=>u.keep b o e n hb (by simp)) (fun b o _ hb _ e n=>u.slot b o e n hb (by simp)) (fun b o _ e n=>u.free b o e n (by simp)) (fun b o _ e=>u.there b o e (by simp)) u.tups u.frzs u.tbls (fun m' hm=>by
  obtain⟨o',es',ep',ho',r'⟩:=hm
  rw[ho]at ho';cases ho'
  exact⟨_,es',ep',hL,r'⟩) hok I.bare
theorem Inv.call{g':Array GenState}{t':Nat}{d':Drawn}{ch:List Addr}(I:Inv X pins σ H s)(u:Un (frs X.stack) ch H H' s.heap h')(hok:HOk X.prog X.w H' h')(hg:AllBare g')
  (hch:∀b∈ch,(b∈X.ex∨X.s₀.heap.objs.size≤b)∧b≠X.env.locals∧(∀x c,X.env.cells.lookup x=some c→c≠b)∧∀p∈X.pn++pins,p.1≠b) :
  Inv X pins σ H' { s with heap:=h',gens:=g',drawn:=d',toks:=t' }:=by
 obtain⟨m,⟨o,es,ep,ho,r⟩,_⟩:=id I.loc
 obtain⟨sl,hL⟩:=u.any ho I.free fun z=>(hch _ z).2.1 rfl
 exact I.step (ch:=ch) hch (fun b o hL hb hc e n=>u.keep b o e n (fun z=>(List.mem_cons.mp (I.stkSub b z)).elim hL hb) hc) (fun b o _ _ hc e n=>u.any e n hc) (fun b o hc e n=>u.free b o e n hc) (fun b o hc e=>u.there b o e hc) u.tups u.frzs u.tbls (fun m' hm=>by
  obtain⟨o',es',ep',ho',r'⟩:=hm
  rw[ho]at ho';cases ho'
  exact⟨_,es',ep',hL,r'⟩) hok hg
theorem Inv.turned{t':Nat}{it:Addr}(I:Inv X pins σ H s)(k:∀b o,b≠it→s.heap.get? b=some o→h'.get? b=some o)(hn:H it=none)(hL:it≠X.env.locals)
  (h1:it∈X.ex∨X.s₀.heap.objs.size≤it) (h2:∀x c,X.env.cells.lookup x=some c→c≠it) (h3:∀p∈X.pn++pins,p.1≠it):Inv X pins σ H { s with heap:=h',toks:=t' }:=by
 have nit:∀b u,H b=some u→b≠it:=fun b u e z=>by rw[z,hn]at e;cases e
 refine I.step (g':=s.gens) (d':=s.drawn) (ch:=[it]) (fun b hb=>?_) (fun b o _ _ hc e _=>k b o (fun z=>hc (by simp[z])) e) (fun b o _ _ hc e _=>⟨o.slots,k b o (fun z=>hc (by simp[z])) e⟩) (fun _ _ _ _ n=>n)
  (fun b o hc e=>⟨o,k b o (fun z=>hc (by simp[z])) e⟩) (fun _ _ e=>e) (fun _ _ _ e=>e) (fun b ps e=>⟨#[],by rw[e];simp⟩) (fun m hm=>?_) (fun b u e=>?_) I.bare
 ·have e:b=it:=by simpa using hb
  subst e
  exact⟨h1,hL,h2,h3⟩
 ·obtain⟨o,es,ep,ho,r⟩:=hm
  exact⟨o,es,ep,k _ o (Ne.symm hL) ho,r⟩
 ·refine(I.hok b u e).stay (fun c v hc q=>k c v ?_ q) (fun _ q=>q) fun _ _ q=>q
  rcases hc with z | z
  ·rw[z];exact nit b u e
  ·exact nit c _ z
theorem Inv.tok(I:Inv X pins σ H s)(t:Nat):Inv X pins σ H { s with toks:=t }:=I.un (h':=s.heap) (t':=t) Un.refl I.hok
theorem Inv.kept{t':Nat}(I:Inv X pins σ H s)(k:∀b u,s.heap.get? b=some u→h'.get? b=some u):Inv X pins σ H { s with heap:=h',toks:=t' }:=I.un (Un.kept k) (I.hok.kept k)
theorem Inv.laid{a:Addr}{o:HO}{t':Nat}(I:Inv X pins σ H s)(k:∀b u,s.heap.get? b=some u→h'.get? b=some u)(hp:s.heap.objs.size≤a)(new:cD X.prog X.w (upd H a o) h' a o) :
  Inv X pins σ (upd H a o) { s with heap:=h',toks:=t' }:=I.un (Un.laid k hp (I.hok.fresh hp)) (I.hok.laid k hp new)
theorem Inv.write{x e:Addr}{o:HO}{t':Nat}(I:Inv X pins σ H s)(mu:Mut (H x))(he:e=x∨H e=some (.own x))(k:∀b u,b≠e→s.heap.get? b=some u→h'.get? b=some u)(heo:∃u,h'.get? e=some u)
  (new:cD X.prog X.w (upd H x o) h' x o):Inv X pins σ (upd H x o) { s with heap:=h',toks:=t' }:=I.un (Un.write mu he k heo) (I.hok.write mu he k heo new)
theorem Inv.pins_of{pins':List (Addr×Obj)}(I:Inv X pins σ H s)(h:∀p∈pins',s.heap.get? p.1=some p.2∧H p.1=none∧p.1≠X.env.locals∧p.1∉X.fs∧∀v,p.2.data≠.cell v):Inv X pins' σ H s :=
 ⟨I.ok,I.os,I.bare,I.base,I.loc,I.cell,I.free,I.freeC,fun p hp=>(List.mem_append.mp hp).elim (fun z=>I.pin p (List.mem_append_left _ z)) (h p),I.hok,I.len⟩
theorem m8{N:List Str}(hN:N.Nodup){i j:Nat}{x:Str}(a:N[i]?=some x)(b:N[j]?=some x):i=j:=by
 obtain⟨h1,e1⟩:=List.getElem?_eq_some_iff.mp a
 obtain⟨h2,e2⟩:=List.getElem?_eq_some_iff.mp b
 exact(List.getElem_inj hN).mp (e1.trans e2.symm)
theorem kf{M:Model}{A:Around}{E:Value→Shared→Prop}{i:Nat}{x:Str}{v:V}{u:Value}{Q:Unit→Shared→Prop}(I:Inv X pins σ H s)(hN:X.N.Nodup)(hi:X.N[i]?=some x)(hx:Loc X.env.scope x)(r:bg v u)
  (h:∀s',Inv X pins (σ.set i (some v)) H s'→(∃a,Heap.SameBut a s.heap s'.heap∧(a=X.env.locals∨X.env.cells.lookup x=some a))→Q () s') (hf:X.fn x=true∨X.env.scope.names.lookup x=some .local:=by first | exact .inl rfl | exact .inr rfl | assumption):wpAny M A (storeName X.env x u) Q E s:=by
 obtain⟨m,hn,hl⟩:=id I.loc
 have hcls:(X.env.scope.kind==.class ||(X.env.scope.kind==.module&&X.env.locals != X.env.globals))=false:=by rw[I.ok.kind];rfl
 have hiσ:i < σ.length:=by rw[I.len];exact(List.getElem?_eq_some_iff.mp hi).1
 have cne:=I.cne
 have tracked:∀{a:Addr}{h':Heap},(∃o,s.heap.get? a=some o∧H a=none)→Heap.SameBut a s.heap h'→HOk X.prog X.w H h':=fun {a h'} ha hs b ob e=>by
  obtain⟨_,_,hfree⟩:=ha
  refine(I.hok b ob e).stay (fun c w' hc q=>(hs.2 c ?_).trans q) (fun _ q=>q) fun _ _ q=>q
  rintro rfl
  rcases hc with rfl | hc
  ·rw[hfree]at e;cases e
  ·rw[hfree]at hc;cases hc
 rcases hx with hk | hk
 ·refine wpAny_storeName_local hk hn (fun h' hn' hs=>?_) hcls
  obtain⟨oL,_,_,hoL,_⟩:=id hn
  refine h _ ⟨I.ok,I.os,I.bare,⟨fun b o e n hb hx=>?_,fun b o e n hb hx=>?_,I.base.free,fun b o e hx=>?_,I.base.tups,I.base.frzs,I.base.tbls⟩,⟨_,hn',fun j y v' e1 e2 e3=>?_⟩,fun y c e=>?_,I.free,I.freeC,fun p hp=>?_,tracked ⟨oL,hoL,I.free⟩ hs,by simpa using I.len⟩ ⟨_,hs,.inl rfl⟩
  ·exact(hs.2 b (Nat.ne_of_lt (Nat.lt_of_lt_of_le (Heap.lt_size e) I.ok.above))).trans (I.base.keep b o e n hb hx)
  ·obtain⟨sl,e1⟩:=I.base.slot b o e n hb hx
   exact⟨sl,(hs.2 b (Nat.ne_of_lt (Nat.lt_of_lt_of_le (Heap.lt_size e) I.ok.above))).trans e1⟩
  ·obtain⟨o',e1⟩:=I.base.there b o e hx
   exact⟨o',(hs.2 b (Nat.ne_of_lt (Nat.lt_of_lt_of_le (Heap.lt_size e) I.ok.above))).trans e1⟩
  ·by_cases hj:j=i
   ·subst hj
    rw[hi]at e1;cases e1
    rw[List.getElem?_set_self hiσ]at e2
    cases e2
    exact⟨u,r,.inl ⟨hk,by simp⟩⟩
   ·rw[List.getElem?_set_ne (Ne.symm hj)]at e2
    obtain⟨u',r',q⟩:=hl j y v' e1 e2 e3
    refine⟨u',r',?_⟩
    rcases q with⟨k,e⟩ |⟨k,c,e,z⟩
    ·refine .inl ⟨k,?_⟩
     have:y≠x:=fun e=>hj (m8 hN e1 (e▸hi))
     simp[this,e]
    ·exact .inr ⟨k,c,e,z.sameBut hs (cne y c e)⟩
  ·obtain⟨w',z⟩:=I.cell y c e
   exact⟨w',z.sameBut hs (cne y c e)⟩
  ·obtain⟨e,n,ne,nf,d⟩:=I.pin p hp
   exact⟨(hs.2 p.1 ne).trans e,n,ne,nf,d⟩
 ·have hfn:X.fn x=true:=by
   rcases hf with z | z
   ·exact z
   ·rw[z]at hk;cases hk
  obtain⟨c,hc⟩:=I.ok.has x (.inl hk)
  obtain⟨w',z⟩:=I.cell x c hc
  refine wpAny_storeName_cell I.ok.kind hk hc z (fun h' hc' hs=>?_)
  obtain⟨oc,hoc,hocd⟩:=id z
  refine h { s with heap:=h' } ⟨I.ok,I.os,I.bare,⟨fun b o e n hb hx=>?_,fun b o e n hb hx=>?_,I.base.free,fun b o e hx=>?_,I.base.tups,I.base.frzs,I.base.tbls⟩,⟨m,hn.sameBut hs (Ne.symm (cne x c hc)),fun j y v' e1 e2 e3=>?_⟩,fun y c' e=>?_,I.free,I.freeC,fun p hp=>?_,tracked ⟨oc,hoc,I.freeC x c hc⟩ hs,by simpa using I.len⟩ ⟨c,hs,.inr hc⟩
  ·exact(hs.2 b (Nat.ne_of_lt (Nat.lt_of_lt_of_le (Heap.lt_size e) (I.ok.cab x c hfn hc)))).trans (I.base.keep b o e n hb hx)
  ·obtain⟨sl,e1⟩:=I.base.slot b o e n hb hx
   exact⟨sl,(hs.2 b (Nat.ne_of_lt (Nat.lt_of_lt_of_le (Heap.lt_size e) (I.ok.cab x c hfn hc)))).trans e1⟩
  ·obtain⟨o',e1⟩:=I.base.there b o e hx
   exact⟨o',(hs.2 b (Nat.ne_of_lt (Nat.lt_of_lt_of_le (Heap.lt_size e) (I.ok.cab x c hfn hc)))).trans e1⟩
  ·by_cases hj:j=i
   ·subst hj
    rw[hi]at e1;cases e1
    rw[List.getElem?_set_self hiσ]at e2
    cases e2
    exact⟨u,r,.inr ⟨.inl hk,c,hc,hc'⟩⟩
   ·rw[List.getElem?_set_ne (Ne.symm hj)]at e2
    obtain⟨u',r',q⟩:=hl j y v' e1 e2 e3
    refine⟨u',r',?_⟩
    rcases q with q |⟨k,c',e,z'⟩
    ·exact .inl q
    ·refine .inr ⟨k,c',e,z'.sameBut hs ?_⟩
     rintro rfl
     exact hj (m8 hN e1 (I.ok.inj _ _ _ e hc▸hi))
  ·by_cases hcc:c'=c
   ·subst hcc;exact⟨_,hc'⟩
   ·obtain⟨w2,z2⟩:=I.cell y c' e
    exact⟨w2,z2.sameBut hs hcc⟩
  ·obtain⟨e,n,ne,nf,d⟩:=I.pin p hp
   refine⟨(hs.2 p.1 ?_).trans e,n,ne,nf,d⟩
   intro q
   rw[q,hoc]at e
   have q':oc=p.2:=Option.some.inj e
   exact d w' (by rw[← q'];exact hocd)
theorem mD{M:Model}{A:Around}{E:Value→Shared→Prop}{i:Nat}{x:Str}{v:V}{u:Value}{Q:Unit→Shared→Prop}(I:Inv X pins σ H s)(hN:X.N.Nodup)(hi:X.N[i]?=some x)(hx:Loc X.env.scope x)(r:bg v u)
  (h:∀s',Inv X pins (σ.set i (some v)) H s'→Q () s') (hf:X.fn x=true∨X.env.scope.names.lookup x=some .local:=by first | exact .inl rfl | exact .inr rfl | assumption):wpAny M A (storeName X.env x u) Q E s :=
 kf I hN hi hx r (fun s' I' _=>h s' I') hf
theorem Inv.call'{s':Shared}{ch:List Addr}(I:Inv X pins σ H s)(ho:s'.os=s.os)(u:Un (frs X.stack) ch H H' s.heap s'.heap)(hok:HOk X.prog X.w H' s'.heap)(hg:AllBare s'.gens)
  (hch:∀b∈ch,(b∈X.ex∨X.s₀.heap.objs.size≤b)∧b≠X.env.locals∧(∀x c,X.env.cells.lookup x=some c→c≠b)∧∀p∈X.pn++pins,p.1≠b):Inv X pins σ H' s':=by
 obtain⟨h',g',d',t',o'⟩:=s'
 have e:o'=s.os:=ho
 subst e
 exact I.call (g':=g') (t':=t') (d':=d') u hok hg hch
end
abbrev XK:=Value→Option Addr→Hp→Prop
abbrev St:=List (Option V)
abbrev VK:=V→Hp→Prop
abbrev TE:=St→Hp→VK→Prop
abbrev TT:=St→Hp→(Bool→Hp→Prop)→Prop
abbrev TA:=St→Hp→(List V→Hp→Prop)→Prop
structure Ends where
 nx:St→Hp→Prop
 rt:VK
 bk:St→Hp→Prop:=fun _ _=>False
 ct:St→Hp→Prop:=fun _ _=>False
abbrev TS:=Ends→St→Hp→Prop
def EP(X:Cx)(pins:List (Addr×Obj))(σ:St)(Q:VK)(u:Value)(s':Shared):Prop:=∃v H',Inv X pins σ H' s'∧bg v u∧Q v H'
def TP(X:Cx)(pins:List (Addr×Obj))(σ:St)(Q:Bool→Hp→Prop)(b:Bool)(s':Shared):Prop:=∃H',Inv X pins σ H' s'∧Q b H'
def AP(X:Cx)(pins:List (Addr×Obj))(σ:St)(Q:List V→Hp→Prop)(us:List Value)(s':Shared):Prop:=∃vs H',Inv X pins σ H' s'∧aH vs us∧Q vs H'
def SP(X:Cx)(pins:List (Addr×Obj))(D:Ends)(f:Flow)(s':Shared):Prop :=
 match f with
 | .next=>∃σ' H',Inv X pins σ' H' s'∧D.nx σ' H'
 | .brk=>∃σ' H',Inv X pins σ' H' s'∧D.bk σ' H'
 | .cont=>∃σ' H',Inv X pins σ' H' s'∧D.ct σ' H'
 | .ret u=>∃v σ' H',Inv X pins σ' H' s'∧bg v u∧D.rt v H'
def PE(X:Cx)(e:Expr)(t:TE):Prop :=
 ∀(pins:List (Addr×Obj)) (s:Shared) (σ:St) (H:Hp) (Q:VK),Inv X pins σ H s→t σ H Q→wpAny (model X.prog X.w) X.A (eval e X.env) (EP X pins σ Q) X.xe s
def PT(X:Cx)(e:Expr)(t:TT):Prop :=
 ∀(pins:List (Addr×Obj)) (s:Shared) (σ:St) (H:Hp) (Q:Bool→Hp→Prop),Inv X pins σ H s→t σ H Q→wpAny (model X.prog X.w) X.A (isTrue e X.env (eval e X.env)) (TP X pins σ Q) X.xe s
def PW(X:Cx)(e:Expr)(t:TT):Prop :=
 ∀(whole:Sem Value) (pins:List (Addr×Obj)) (s:Shared) (σ:St) (H:Hp) (Q:Bool→Hp→Prop),Inv X pins σ H s→t σ H Q→wpAny (model X.prog X.w) X.A (isTrue e X.env whole) (TP X pins σ Q) X.xe s
theorem PW.pt{X:Cx}{e:Expr}{t:TT}(h:PW X e t):PT X e t:=h _
def PA(X:Cx)(es:List Expr)(t:TA):Prop :=
 ∀(pos:Pos) (pins:List (Addr×Obj)) (s:Shared) (σ:St) (H:Hp) (Q:List V→Hp→Prop),Inv X pins σ H s→t σ H Q→wpAny (model X.prog X.w) X.A (spliced (backTo pos (starEach es X.env))) (AP X pins σ Q) X.xe s
def PS(X:Cx)(st:Stmt)(t:TS):Prop :=
 ∀(pins:List (Addr×Obj)) (s:Shared) (σ:St) (H:Hp) (D:Ends),Inv X pins σ H s→t D σ H→wpAny (model X.prog X.w) X.A (exec st X.env) (SP X pins D) X.xe s
def PSs(X:Cx)(st:List Stmt)(t:TS):Prop :=
 ∀(pins:List (Addr×Obj)) (s:Shared) (σ:St) (H:Hp) (D:Ends),Inv X pins σ H s→t D σ H→wpAny (model X.prog X.w) X.A (execs st X.env) (SP X pins D) X.xe s
theorem thn{α:Type}{t:Sem α}{Q Q':α→Shared→Prop}{M:Model}{A:Around}{E:Value→Shared→Prop}{s:Shared}(h:wpAny M A t Q E s)(hQ:∀a s,Q a s→Q' a s):wpAny M A t Q' E s:=wpAny_mono h hQ fun _ _ x=>x
end L2
namespace L2
open PySem PySem.Spec PyProof.Rows
section
variable{X:Cx}
theorem bin{a b:Expr}{ta tb:TE}(ha:PE X a ta)(hb:PE X b tb){pins:List (Addr×Obj)}{s:Shared}{σ:St}{H:Hp}{R:V→V→Hp→Prop}(I:Inv X pins σ H s)(h:ta σ H fun x H1=>tb σ H1 fun y H2=>R x y H2)
  {α:Type}{Q:α→Shared→Prop}{f:Value→Value→Sem α}
  (hf:∀v u s2 x y H2,Inv X pins σ H2 s2→bg x v→bg y u→R x y H2→wpAny (model X.prog X.w) X.A (f v u) Q X.xe s2) :
  wpAny (model X.prog X.w) X.A (eval a X.env) (fun v s₁=>wpAny (model X.prog X.w) X.A (eval b X.env) (fun u s₂=>wpAny (model X.prog X.w) X.A (f v u) Q X.xe s₂) X.xe s₁) X.xe s:=by
 refine thn (ha pins s σ H _ I h) fun v s1 ⟨x,H1,I1,r1,q1⟩=>?_
 refine thn (hb pins s1 σ H1 _ I1 q1) fun u s2 ⟨y,H2,I2,r2,q2⟩=>?_
 exact hf v u s2 x y H2 I2 r1 r2 q2
def v7(i:Nat):TE:=fun σ H Q=>∃v,σ[i]?=some (some v)∧Q v H
def tC(v:V):TE:=fun _ H Q=>Q v H
theorem cX{i:Nat}{x:Str}{pos:Pos}(hN:X.N[i]?=some x)(hv:Vis X.env.scope x)(hd:(x ==("__debug__" : Str))=false:=by decide)(hcd:(x ==("__classdict__" : Str))=false:=by decide):PE X (.Name x pos) (v7 i):=by
 intro pins s σ H Q I h
 obtain⟨v,e,h⟩:=h
 obtain⟨m,hn,hl⟩:=I.loc
 obtain⟨u,r,l⟩:=hl i x v hN e hv
 have fin:EP X pins σ Q u s:=⟨v,H,I,r,h⟩
 rcases l with⟨hk,hm⟩ |⟨hk,c,hc,hcell⟩
 ·exact wpAny_Name (wpAny_loadName_local I.ok.kind hk hn hm fin) hd
 ·rcases hk with hk | hk
  ·exact wpAny_Name (wpAny_loadName_cell I.ok.kind hk hc hcell fin) hd
  ·exact wpAny_Name (wpAny_loadName_free I.ok.kind hk hc hcell fin hcd) hd
theorem lA{i j pos}:PE X (.Constant (.int i) j pos) (tC (.int i)):=fun _ _ _ H _ I h=>wpAny_Constant_int ⟨.int i,H,I.tok _,⟨_,rfl⟩,h⟩
theorem Ca{b j pos}:PE X (.Constant (.bool b) j pos) (tC (.bl b)):=fun _ _ _ H _ I h=>Constant_bool ⟨.bl b,H,I,rfl,h⟩
theorem tK{j pos}:PE X (.Constant .none j pos) (tC .non):=fun _ _ _ H _ I h=>Constant_none ⟨.non,H,I,rfl,h⟩
theorem zh{x j pos}:PE X (.Constant (.str x) j pos) (tC (.str x)):=fun _ _ _ H _ I h=>Calls.Constant_str ⟨.str x,H,I.tok _,⟨_,rfl⟩,h⟩
def Gl(X:Cx)(x:Str):Prop:=X.env.kindOf x=some .globalImplicit
theorem iq{E:Value→Shared→Prop}{pins:List (Addr×Obj)}{s:Shared}{σ:St}{H:Hp}{x:Str}{u:Value}{pos:Pos}{Q:Value→Shared→Prop}(I:Inv X pins σ H s)(hg:Gl X x)(hm:X.mg x=some u)(h:Q u s)
  (hd:(x ==("__debug__" : Str))=false:=by decide):wpAny (model X.prog X.w) X.A (eval (.Name x pos) X.env) Q E s :=
 Calls.Name_function_global I.ok.kind hg (Calls.loadGlobal_global (by rw[I.ok.glob];exact I.mod.glob.keeps I.bk) hm h) hd
theorem eH{E:Value→Shared→Prop}{pins:List (Addr×Obj)}{s:Shared}{σ:St}{H:Hp}{x:Str}{u:Value}{pos:Pos}{Q:Value→Shared→Prop}(I:Inv X pins σ H s)(hg:Gl X x)(hm:X.mg x=none)(hv:bootBuiltins x=some u)(h:Q u s)
  (hn:x≠"__name__" := by decide) (hd:(x ==("__debug__" : Str))=false:=by decide):wpAny (model X.prog X.w) X.A (eval (.Name x pos) X.env) Q E s:=by
 obtain⟨mb,h1,h2⟩:=I.mod.blt
 exact Calls.Name_function_global I.ok.kind hg (Calls.loadGlobal_builtin (by rw[I.ok.glob];exact I.mod.glob.keeps I.bk) hm (by rw[I.ok.blt];exact h1.keeps I.bk) ((h2 x hn).trans hv) h) hd
theorem wW{x:Str}{v:V}{u:Value}{pos:Pos}(hg:Gl X x)(hm:X.mg x=some u)(r:bg v u)(hd:(x ==("__debug__" : Str))=false:=by decide):PE X (.Name x pos) (tC v) :=
 fun _ _ _ H _ I h=>iq I hg hm ⟨v,H,I,r,h⟩ hd
theorem wY{x:Str}{v:V}{u:Value}{pos:Pos}(hg:Gl X x)(hm:X.mg x=none)(hv:bootBuiltins x=some u)(r:bg v u)(hn:x≠"__name__" := by decide)(hd:(x ==("__debug__" : Str))=false:=by decide):PE X (.Name x pos) (tC v) :=
 fun _ _ _ H _ I h=>eH I hg hm hv ⟨v,H,I,r,h⟩ hn hd
variable{a b:Expr}{ta tb:TE}{pos:Pos}
variable{tA tB':TT}{bw:List Expr}
def D2(t u:TT):TT:=fun σ H Q=>t σ H fun c H1=>if c=true then u σ H1 Q else Q false H1
def tOr(t u:TT):TT:=fun σ H Q=>t σ H fun c H1=>if c=true then Q true H1 else u σ H1 Q
def DX(t:TT):TT:=fun σ H Q=>t σ H fun c H1=>Q (!c) H1
theorem wK(ha:PT X a tA):PW X (.BoolOp .And [a] pos) tA:=by
 intro wh pins s σ H Q I h
 refine isTrue_and (thn (ha pins s σ H Q I h) fun c s1 e=>?_)
 cases c with
 | true=>exact isTrue_and_nil e
 | false=>exact e
theorem y8(ha:PT X a tA):PW X (.BoolOp .Or [a] pos) tA:=by
 intro wh pins s σ H Q I h
 refine isTrue_or (thn (ha pins s σ H Q I h) fun c s1 e=>?_)
 cases c with
 | false=>exact isTrue_or_nil e
 | true=>exact e
theorem y9(ha:PT X a tA)(hb:PW X (.BoolOp .And (b::bw) pos) tB'):PW X (.BoolOp .And (a::b::bw) pos) (D2 tA tB'):=by
 intro wh pins s σ H Q I h
 refine isTrue_and (thn (ha pins s σ H _ I h) fun c s1 ⟨H1,I1,q1⟩=>?_)
 cases c with
 | true=>exact hb wh pins s1 σ H1 Q I1 q1
 | false=>exact⟨H1,I1,q1⟩
theorem B5(ha:PT X a tA)(hb:PW X (.BoolOp .Or (b::bw) pos) tB'):PW X (.BoolOp .Or (a::b::bw) pos) (tOr tA tB'):=by
 intro wh pins s σ H Q I h
 refine isTrue_or (thn (ha pins s σ H _ I h) fun c s1 ⟨H1,I1,q1⟩=>?_)
 cases c with
 | true=>exact⟨H1,I1,q1⟩
 | false=>exact hb wh pins s1 σ H1 Q I1 q1
theorem za(ha:PT X a tA):PT X (.UnaryOp .Not a pos) (DX tA):=by
 intro pins s σ H Q I h
 exact isTrue_not (ha pins s σ H (fun c H1=>Q (!c) H1) I h)
def BZ(ta tb:TE):TE:=fun σ H Q=>ta σ H fun x H1=>∃c,x=.bl c∧if c=true then tb σ H1 Q else Q (.bl false) H1
def DW(ta tb:TE):TE:=fun σ H Q=>ta σ H fun x H1=>∃c,x=.bl c∧if c=true then Q (.bl true) H1 else tb σ H1 Q
def BU(ta:TE):TE:=fun σ H Q=>ta σ H fun x H1=>∃c,x=.bl c∧Q (.bl (!c)) H1
theorem zi{op}{t:TE}(h:PE X a t):PE X (.BoolOp op [a] pos) t:=fun pins s σ H Q I hw=>BoolOp_one (h pins s σ H Q I hw)
theorem zn(ha:PE X a ta)(hb:PE X (.BoolOp .And (b::bw) pos) tb):PE X (.BoolOp .And (a::b::bw) pos) (BZ ta tb):=by
 intro pins s σ H Q I h
 refine BoolOp_and (thn (ha pins s σ H _ I h) fun v s1 ⟨x,H1,I1,r1,q1⟩=>?_)
 obtain⟨c,rfl,q1⟩:=q1
 cases r1
 refine wpAny_truthy_bool ?_
 cases c with
 | true=>exact hb pins s1 σ H1 Q I1 q1
 | false=>exact⟨.bl false,H1,I1,rfl,q1⟩
theorem B9(ha:PE X a ta)(hb:PE X (.BoolOp .Or (b::bw) pos) tb):PE X (.BoolOp .Or (a::b::bw) pos) (DW ta tb):=by
 intro pins s σ H Q I h
 refine BoolOp_or (thn (ha pins s σ H _ I h) fun v s1 ⟨x,H1,I1,r1,q1⟩=>?_)
 obtain⟨c,rfl,q1⟩:=q1
 cases r1
 refine wpAny_truthy_bool ?_
 cases c with
 | false=>exact hb pins s1 σ H1 Q I1 q1
 | true=>exact⟨.bl true,H1,I1,rfl,q1⟩
theorem zj(ha:PE X a ta):PE X (.UnaryOp .Not a pos) (BU ta):=by
 intro pins s σ H Q I h
 refine UnaryOp_ (thn (ha pins s σ H _ I h) fun v s1 ⟨x,H1,I1,r1,q1⟩=>?_)
 obtain⟨c,rfl,q1⟩:=q1
 cases r1
 exact not_of (wpAny_truthy_bool ⟨.bl (!c),H1,I1,rfl,q1⟩)
def tIf(t:TT)(ta tb:TE):TE:=fun σ H Q=>t σ H fun c H1=>if c=true then ta σ H1 Q else tb σ H1 Q
theorem tN{c:Expr}(hc:PT X c tA)(ha:PE X a ta)(hb:PE X b tb):PE X (.IfExp c a b pos) (tIf tA ta tb):=by
 intro pins s σ H Q I h
 refine wpAny_IfExp (thn (hc pins s σ H _ I h) fun d s1 ⟨H1,I1,q1⟩=>?_)
 cases d with
 | true=>exact ha pins s1 σ H1 Q I1 q1
 | false=>exact hb pins s1 σ H1 Q I1 q1
end
end L2
namespace L2
open PySem PySem.Spec PyProof.Rows
def SqL(K:PySem.W.Frag)(H:Hp)(a:Addr)(xs:List V):Prop :=
 Rd H a (.lst xs)∨
  ∃(o:Obj) (its:Array Value) (n:Nat),K.lookup a=some o∧o.cls=.type "list" ∧ o.dict=none∧o.data=.seq its n∧its.size≤sizeLine∧aH xs its.toList
def SqT(K:PySem.W.Frag)(H:Hp)(a:Addr)(xs:List V):Prop :=
 Rd H a (.tup xs)∨
  ∃(o:Obj) (its:Array Value) (n:Nat),K.lookup a=some o∧o.cls=.type "tuple" ∧ o.data=.seq its n∧its.size≤sizeLine∧aH xs its.toList
def Ew:Value→Option V
 | .none=>some .non
 | .bool b=>some (.bl b)
 | .int i _=>some (.int i)
 | .str x _=>some (.str x)
 | .bytes b _=>some (.byt b)
 | .float b _=>some (.flt b)
 | .ref a=>some (.ref a)
 | .type n=>some (.ty n)
 | _=>none
theorem bg.abs{x:V}{u:Value}(r:bg x u):Ew u=some x:=by
 cases x with
 | non=>cases r;rfl
 | bl _=>cases r;rfl
 | int _=>obtain⟨t,rfl⟩:=r;rfl
 | str _=>obtain⟨t,rfl⟩:=r;rfl
 | byt _=>obtain⟨t,rfl⟩:=r;rfl
 | flt _=>obtain⟨t,rfl⟩:=r;rfl
 | ref _=>cases r;rfl
 | ty _=>cases r;rfl
theorem bg.inj{x y:V}{u:Value}(r:bg x u)(q:bg y u):x=y:=Option.some.inj (r.abs.symm.trans q.abs)
theorem aH.inj:∀{xs ys:List V}{us:List Value},aH xs us→aH ys us→xs=ys
 | _,_,_,.nil,.nil=>rfl
 | _,_,_,.cons r t,.cons r' t'=>by rw[r.inj r',aH.inj t t']
section
variable{X:Cx}{pins:List (Addr×Obj)}{σ:St}{H:Hp}{s:Shared}{a:Addr}{xs ys:List V}
theorem SqL.of{K:PySem.W.Frag}(h:H a=some (.lst xs)):SqL K H a xs:=.inl (.inl h)
theorem SqT.of{K:PySem.W.Frag}(h:H a=some (.tup xs)):SqT K H a xs:=.inl (.inl h)
theorem Inv.list(I:Inv X pins σ H s)(h:SqL X.K H a xs):∃its:List Value,aH xs its∧PlainL s.heap a its.toArray∧xs.length≤sizeLine:=by
 rcases h with h |⟨o,its,n,hk,hc,hd,hs,hz,r⟩
 ·obtain⟨z,its,n,r,e⟩:=h.ok I.hok
  exact⟨its,r,⟨_,n,e,rfl,rfl,rfl⟩,z⟩
 ·refine⟨its.toList,r,⟨o,n,I.kIn a o hk,hc,hd,by simpa using hs⟩,?_⟩
  have e:=r.length
  simp only[Array.length_toList]at e
  omega
theorem Inv.tuple(I:Inv X pins σ H s)(h:SqT X.K H a xs):∃its:List Value,aH xs its∧IsTup s.heap a its.toArray∧xs.length≤sizeLine:=by
 rcases h with h |⟨o,its,n,hk,hc,hs,hz,r⟩
 ·obtain⟨z,its,r,p⟩:=h.ok I.hok
  exact⟨its,r,p,z⟩
 ·refine⟨its.toList,r,⟨o,I.kIn a o hk,hc,n,by simpa using hs⟩,?_⟩
  have e:=r.length
  simp only[Array.length_toList]at e
  omega
theorem Inv.list_inj(I:Inv X pins σ H s)(h:SqL X.K H a xs)(h':SqL X.K H a ys):xs=ys:=by
 obtain⟨its,r,⟨o,n,e,_,_,d⟩,_⟩:=I.list h
 obtain⟨its',r',⟨o',n',e',_,_,d'⟩,_⟩:=I.list h'
 rw[e]at e';cases e'
 rw[d]at d'
 injection d' with d1 _
 have:its=its':=by simpa using congrArg Array.toList d1
 subst this
 exact r.inj r'
theorem Inv.tuple_inj(I:Inv X pins σ H s)(h:SqT X.K H a xs)(h':SqT X.K H a ys):xs=ys:=by
 obtain⟨its,r,⟨o,e,_,n,d⟩,_⟩:=I.tuple h
 obtain⟨its',r',⟨o',e',_,n',d'⟩,_⟩:=I.tuple h'
 rw[e]at e';cases e'
 rw[d]at d'
 injection d' with d1 _
 have:its=its':=by simpa using congrArg Array.toList d1
 subst this
 exact r.inj r'
end
abbrev Cx.wish(X:Cx)(E:Value→Shared→Prop):Cx:={ X with xe:=E }
abbrev Cx.nox(X:Cx):Cx:=X.wish fun _ _=>False
theorem Cx.Ok.wish{X:Cx}(ok:X.Ok)(E:Value→Shared→Prop):(X.wish E).Ok :=
 ⟨ok.mod,ok.kind,ok.glob,ok.blt,ok.above,ok.inj,ok.has,ok.cab,ok.hd,ok.frames,ok.stk,ok.exf,ok.bs,ok.bsz,ok.noex,ok.exfs,ok.funs,ok.frf⟩
theorem Cx.Ok.unwish{X:Cx}{E:Value→Shared→Prop}(ok:(X.wish E).Ok):X.Ok :=
 ⟨ok.mod,ok.kind,ok.glob,ok.blt,ok.above,ok.inj,ok.has,ok.cab,ok.hd,ok.frames,ok.stk,ok.exf,ok.bs,ok.bsz,ok.noex,ok.exfs,ok.funs,ok.frf⟩
section
variable{X:Cx}{pins:List (Addr×Obj)}{σ:St}{H:Hp}{s:Shared}{E:Value→Shared→Prop}
theorem Inv.wish(I:Inv X pins σ H s)(E:Value→Shared→Prop):Inv (X.wish E) pins σ H s:=⟨I.ok.wish E,I.os,I.bare,I.base,I.loc,I.cell,I.free,I.freeC,I.pin,I.hok,I.len⟩
theorem Inv.unwish(I:Inv (X.wish E) pins σ H s):Inv X pins σ H s:=⟨I.ok.unwish,I.os,I.bare,I.base,I.loc,I.cell,I.free,I.freeC,I.pin,I.hok,I.len⟩
theorem SP.unwish{D:Ends}{f:Flow}{s':Shared}(h:SP (X.wish E) pins D f s'):SP X pins D f s':=by
 cases f with
 | next=>obtain⟨σ',H',I,q⟩:=h;exact⟨σ',H',I.unwish,q⟩
 | brk=>obtain⟨σ',H',I,q⟩:=h;exact⟨σ',H',I.unwish,q⟩
 | cont=>obtain⟨σ',H',I,q⟩:=h;exact⟨σ',H',I.unwish,q⟩
 | ret u=>obtain⟨v,σ',H',I,r,q⟩:=h;exact⟨v,σ',H',I.unwish,r,q⟩
theorem PE.nox{e:Expr}{t:TE}(h:PE X.nox e t):PE X e t:=fun pins s σ H Q I hw =>
 wpAny_mono (h pins s σ H Q (I.wish _) hw) (fun _ _ ⟨v,H',I',r,q⟩=>⟨v,H',I'.unwish,r,q⟩) fun _ _ z=>False.elim z
theorem PT.nox{e:Expr}{t:TT}(h:PT X.nox e t):PT X e t:=fun pins s σ H Q I hw =>
 wpAny_mono (h pins s σ H Q (I.wish _) hw) (fun _ _ ⟨H',I',q⟩=>⟨H',I'.unwish,q⟩) fun _ _ z=>False.elim z
theorem PSs.nox{st:List Stmt}{t:TS}(h:PSs X.nox st t):PSs X st t:=fun pins s σ H D I hw =>
 wpAny_mono (h pins s σ H D (I.wish _) hw) (fun _ _ q=>q.unwish) fun _ _ z=>False.elim z
end
section
variable{X:Cx}{st:Stmt}{bw:List Stmt}{t u:TS}{e:Expr}{te:TE}{pos:Pos}
def BV:TS:=fun D σ H=>D.nx σ H
def BR(t u:TS):TS:=fun D σ H=>t { D with nx:=u D } σ H
theorem wM:PSs X [] BV:=fun _ _ σ H _ I h=>wpAny_execs_nil ⟨σ,H,I,h⟩
theorem mU(h1:PS X st t)(h2:PSs X bw u):PSs X (st::bw) (BR t u):=by
 intro pins s σ H D I h
 refine wpAny_execs_cons (thn (h1 pins s σ H { D with nx:=u D } I h) fun f s1 q=>?_)
 cases f with
 | next =>
  obtain⟨σ',H',I',q⟩:=q
  exact h2 pins s1 σ' H' D I' q
 | ret v=>exact q
 | brk=>exact q
 | cont=>exact q
theorem pG(h1:PS X st t):PSs X [st] t:=by
 intro pins s σ H D I h
 refine wpAny_execs_cons (thn (h1 pins s σ H D I h) fun f s1 q=>?_)
 cases f with
 | next=>exact wpAny_execs_nil q
 | ret v=>exact q
 | brk=>exact q
 | cont=>exact q
theorem Inv.quiet{pins:List (Addr×Obj)}{σ:St}{H:Hp}{s:Shared}(I:Inv X pins σ H s):interactive X.env=false:=by simp[interactive,I.ok.kind]
def BX(te:TE):TS:=fun D σ H=>te σ H fun _ H1=>D.nx σ H1
theorem gv(he:PE X e te)(hs:swapsWith e none pos.line X.env=pure false:=by rfl):PS X (.Expr e pos) (BX te):=by
 intro pins s σ H D I h
 exact wpAny_Expr_any (thn (he pins s σ H _ I h) fun v s1 ⟨x,H1,I1,r1,q1⟩=>⟨σ,H1,I1,q1⟩) I.quiet hs
def DV(te:TE):TS:=fun D σ H=>te σ H D.rt
theorem oB(he:PE X e te):PS X (.Return (some e) pos) (DV te):=by
 intro pins s σ H D I h
 exact wpAny_Return_some (thn (he pins s σ H _ I h) fun v s1 ⟨x,H1,I1,r1,q1⟩=>⟨x,σ,H1,I1,r1,q1⟩)
def BS:TS:=fun D _ H=>D.rt .non H
theorem wN:PS X (.Return none pos) BS:=fun _ _ σ H _ I h=>wpAny_Return_none ⟨.non,σ,H,I,rfl,h⟩
def DZ(c:TT)(t u:TS):TS:=fun D σ H=>c σ H fun b H1=>if b=true then t D σ H1 else u D σ H1
theorem B6{c:Expr}{a b:List Stmt}{tc:TT}(hc:PT X c tc)(ha:PSs X a t)(hb:PSs X b u):PS X (.If c a b pos) (DZ tc t u):=by
 intro pins s σ H D I h
 refine wpAny_If (thn (hc pins s σ H _ I h) fun d s1 ⟨H1,I1,q1⟩=>?_)
 cases d with
 | true=>exact ha pins s1 σ H1 D I1 q1
 | false=>exact hb pins s1 σ H1 D I1 q1
end
abbrev TG:=V→St→Hp→(St→Hp→Prop)→Prop
abbrev TGs:=List V→St→Hp→(St→Hp→Prop)→Prop
def PG(X:Cx)(target:Expr)(t:TG):Prop :=
 ∀(pins:List (Addr×Obj)) (s:Shared) (σ:St) (H:Hp) (v:V) (u:Value) (Q:St→Hp→Prop),Inv X pins σ H s→bg v u→t v σ H Q →
  wpAny (model X.prog X.w) X.A (assign target X.env u) (fun _ s'=>∃σ' H',Inv X pins σ' H' s'∧Q σ' H') X.xe s
def PGs(X:Cx)(ts:List Expr)(t:TGs):Prop :=
 ∀(pins:List (Addr×Obj)) (s:Shared) (σ:St) (H:Hp) (vs:List V) (us:List Value) (Q:St→Hp→Prop),Inv X pins σ H s→aH vs us→t vs σ H Q →
  wpAny (model X.prog X.w) X.A (assignInOrder ((assignEach ts X.env).map (·.2)) us) (fun _ s'=>∃σ' H',Inv X pins σ' H' s'∧Q σ' H') X.xe s
abbrev Bf:=V→V→V→Hp→(Hp→Prop)→Prop
def Dh(X:Cx)(t:Bf):Prop :=
 ∀(pins:List (Addr×Obj)) (s:Shared) (σ:St) (H:Hp) (o i v:V) (ov iv u:Value) (Q:Hp→Prop),Inv X pins σ H s→bg o ov→bg i iv→bg v u→t o i v H Q →
  wpAny (model X.prog X.w) X.A (setItem ov iv u) (fun _ s'=>∃H',Inv X pins σ H' s'∧Q H') X.xe s
section
variable{X:Cx}{pos:Pos}
def yB(i:Nat):TG:=fun v σ H Q=>Q (σ.set i (some v)) H
theorem lz{i:Nat}{x:Str}(hN:X.N.Nodup)(hi:X.N[i]?=some x)(hx:Loc X.env.scope x)(hf:X.fn x=true∨X.env.scope.names.lookup x=some .local:=by first | exact .inl rfl | exact .inr rfl | assumption):PG X (.Name x pos) (yB i):=by
 intro pins s σ H v u Q I r h
 exact wpAny_assign_Name (mD I hN hi hx r (fun s' I'=>⟨_,H,I',h⟩) hf)
def Eo:TGs:=fun vs σ H Q=>vs=[]∧Q σ H
def C7(t:TG)(u:TGs):TGs:=fun vs σ H Q=>∃v r,vs=v::r∧t v σ H fun σ' H'=>u r σ' H' Q
theorem wU:PGs X [] Eo:=by
 intro pins s σ H vs us Q I r h
 obtain⟨e,h⟩:=h
 subst e
 cases r
 exact assignInOrder_nil ⟨σ,H,I,h⟩
theorem tD{e:Expr}{es:List Expr}{t:TG}{u:TGs}(h1:PG X e t)(h2:PGs X es u)
  (hs:(assignEach (e::es) X.env).map (·.2)=assign e X.env::(assignEach es X.env).map (·.2):=by rfl):PGs X (e::es) (C7 t u):=by
 intro pins s σ H vs us Q I r h
 obtain⟨v,vr,e1,h⟩:=h
 subst e1
 cases r with
 | cons r rr =>
  rw[hs]
  refine assignInOrder_cons (thn (h1 pins s σ H _ _ _ I r h) fun _ s1 ⟨σ1,H1,I1,q1⟩=>?_)
  exact h2 pins s1 σ1 H1 _ _ Q I1 rr q1
def El(K:PySem.W.Frag)(n:Nat)(t:TGs):TG:=fun v σ H Q=>∃a xs,v=.ref a∧SqT K H a xs∧xs.length=n∧t xs σ H Q
theorem zf{es:List Expr}{k:Nat}{t:TGs}{n:Nat}(hc:X.calm=true)(h:PGs X es t)
  (hn:(assignEach es X.env).length=n:=by rfl) (hst:(assignEach es X.env).findIdx? (·.1)=none:=by rfl):PG X (.Tuple es k pos) (El X.K n t):=by
 intro pins s σ H v u Q I r hw
 obtain⟨a,xs,e1,hq,hl,hw⟩:=hw
 subst e1
 cases r
 obtain⟨its,rv,ht,hz⟩:=I.tuple hq
 refine assign_Tuple_tuple (I.ok.hd hc) ht (by simp[hn,← hl,rv.length]) hst fun h' hx=>?_
 have I1:Inv X pins σ H { s with heap:=h' }:=I.kept (t':=s.toks) fun b o e=>hx b o (Nat.ne_of_lt (Heap.lt_size e)) e
 exact h pins _ σ H xs _ Q I1 (by simpa using rv) hw
def Em(to ti:TE)(t:Bf):TG:=fun v σ H Q=>to σ H fun o H1=>ti σ H1 fun i H2=>t o i v H2 fun H3=>Q σ H3
theorem zg{o i:Expr}{to ti:TE}{t:Bf}(ho:PE X o to)(hi:PE X i ti)(hs:Dh X t)
  (ha:∀ v,assign (.Subscript o i pos) X.env v=(do
   let ov ← holding [v] (eval o X.env)
   let iv ← holding [v,ov] (eval i X.env)
   standAt pos
   holding [v,ov,iv] (setItem ov iv v)
   release [v,ov,iv] []):=by intro _;rfl):PG X (.Subscript o i pos) (Em to ti t):=by
 intro pins s σ H v u Q I r h
 rw[ha]
 refine wpAny_bind (wpAny_holding (thn (ho pins s σ H _ I h) fun ov s1 ⟨x,H1,I1,r1,q1⟩=>?_))
 refine wpAny_bind (wpAny_holding (thn (hi pins s1 σ H1 _ I1 q1) fun iv s2 ⟨y,H2,I2,r2,q2⟩=>?_))
 refine wpAny_bind (wpAny_standAt (wpAny_bind (wpAny_holding (thn (hs pins s2 σ H2 x y v ov iv u _ I2 r1 r2 r q2) fun _ s3 ⟨H3,I3,q3⟩=>?_))))
 exact wpAny_release ⟨σ,H3,I3,q3⟩
def BY(te:TE)(g:TG):TS:=fun D σ H=>te σ H fun x H1=>g x σ H1 D.nx
theorem zc{tg e:Expr}{te:TE}{g:TG}(he:PE X e te)(hg:PG X tg g)(hs:swapsWithSole [tg] e pos.line X.env=pure false:=by rfl)(hw:swappedStores [tg] e X.env=pure none:=by rfl)
  (h1:(assignEach [tg] X.env).map (·.2)=[assign tg X.env]:=by rfl):PS X (.Assign [tg] e pos) (BY te g):=by
 intro pins s σ H D I h
 refine wpAny_Assign_stores (thn (he pins s σ H _ I h) fun v s1 ⟨x,H1,I1,r1,q1⟩=>?_) hs hw
 rw[h1]
 exact thn (hg pins s1 σ H1 x v _ I1 r1 q1) fun _ s2 q=>q
theorem sZ{i:Nat}{x:Str}{e:Expr}{te:TE}{pos':Pos}(hN:X.N.Nodup)(hi:X.N[i]?=some x)(hx:Loc X.env.scope x)(he:PE X e te)(hs:swapsWith e (some (.Name x pos')) pos.line X.env=pure false:=by rfl)(hf:X.fn x=true∨X.env.scope.names.lookup x=some .local:=by first | exact .inl rfl | exact .inr rfl | assumption) :
  PS X (.Assign [.Name x pos'] e pos) (BY te (yB i)):=by
 intro pins s σ H D I h
 refine wpAny_Assign_Name (thn (he pins s σ H _ I h) fun v s1 ⟨y,H1,I1,r1,q1⟩=>?_) hs
 exact mD I1 hN hi hx r1 (fun s2 I2=>⟨_,H1,I2,q1⟩) hf
end
section
variable{X:Cx}{pos:Pos}
def yJ(c:TT)(tb:TS):TS:=fun D σ H=>∃W:Nat→St→Hp→Prop,(∃m,W m σ H)∧∀m σ H,W m σ H →
 c σ H fun b H1=>if b=true then ∃N:St→Hp→Prop,(∀σ' H',N σ' H'→∃m',m' < m∧W m' σ' H')∧tb { D with nx:=N,ct:=N,bk:=D.nx } σ H1 else D.nx σ H1
theorem sY{c:Expr}{body:List Stmt}{tc:TT}{tb:TS}(hp:PassesOwn (model X.prog X.w) X.A X.env X.xe)(hc:PT X c tc)(hb:PSs X body tb):PS X (.While c body [] pos) (yJ tc tb):=by
 intro pins s σ H D I h
 obtain⟨W,⟨m0,w0⟩,turn⟩:=h
 refine wpAny_While (codeAny_whileLoop (fun n s'=>∃σ' H',Inv X pins σ' H' s'∧W n σ' H') ?_ m0 ⟨σ,H,I,w0⟩)
 rintro n s1 ⟨σ1,H1,I1,w1⟩
 refine wpAny_passesOwn hp (thn (hc pins s1 σ1 H1 _ I1 (turn n σ1 H1 w1)) fun b s2 ⟨H2,I2,q2⟩=>?_)
 cases b with
 | true =>
  obtain⟨N,hN,q2⟩:=q2
  rw[if_pos rfl]
  refine wpAny_passesOwn hp (thn (hb pins s2 σ1 H2 _ I2 q2) fun f s3 q3=>?_)
  cases f with
  | next =>
   obtain⟨σ3,H3,I3,n3⟩:=q3
   obtain⟨m',hm,w3⟩:=hN σ3 H3 n3
   exact⟨m',hm,σ3,H3,I3,w3⟩
  | cont =>
   obtain⟨σ3,H3,I3,n3⟩:=q3
   obtain⟨m',hm,w3⟩:=hN σ3 H3 n3
   exact⟨m',hm,σ3,H3,I3,w3⟩
  | brk=>exact q3
  | ret v=>exact q3
 | false =>
  rw[if_neg Bool.false_ne_true]
  exact wpAny_execs_nil ⟨σ1,H2,I2,q2⟩
end
structure It where
 go:Nat→Hp→Prop
 yld:Nat→Hp→V→Hp→Prop
 stop:Nat→Hp→Prop
def jY(X:Cx)(pins:List (Addr×Obj))(H:Hp)(b:Addr):Prop :=
 H b=none∧b≠X.env.locals∧b∉X.fs∧(b∈X.ex∨X.s₀.heap.objs.size≤b)∧(∀x c,X.env.cells.lookup x=some c→c≠b)∧∀p∈X.pn++pins,p.1≠b
theorem Inv.fpOk{X:Cx}{pins:List (Addr×Obj)}{σ:St}{H H':Hp}{s:Shared}{b:Addr}(I:Inv X pins σ H s)(hb:s.heap.objs.size≤b)(hn:H' b=none):jY X pins H' b:=by
 refine⟨hn,Nat.ne_of_gt (Nat.lt_of_lt_of_le I.lt hb),I.nofs hb,.inr (Nat.le_trans I.sz hb),fun x c e z=>?_,fun p hp z=>?_⟩
 ·obtain⟨v,q⟩:=I.cell x c e
  exact absurd (Nat.lt_of_lt_of_le q.lt (by rw[z];exact hb)) (Nat.lt_irrefl _)
 ·exact absurd (Nat.lt_of_lt_of_le (Heap.lt_size (I.pin p hp).1) (by rw[z];exact hb)) (Nat.lt_irrefl _)
structure o7(P:Program)(w:World)(K:PySem.W.Frag)(tg:Expr)(J:It)(fp:List Addr)(it:Addr)(tn:Nat→Heap→Prop):Prop where
 mem:it∈fp
 obj:∀i h,tn i h→∀b∈fp,∃o,h.get? b=some o∧∀v,o.data≠.cell v
 keep:∀i h h',tn i h→(∀b∈fp,∀o,h.get? b=some o→h'.get? b=some o)→tn i h'
 item:∀(X:Cx),X.prog=P→X.w=w→X.K=K→X.calm=true→∀(i:Nat) (pins:List (Addr×Obj)) (s:Shared) (σ:St) (H:Hp) (E:Value→Shared→Prop),Inv X pins σ H s→(∀b∈fp,jY X pins H b)→tn i s.heap→J.go i H →
  wpAny (model P w) X.A (pyNext (.ref it)) (fun r s1=>∃ u,r=some u ∧
   wpAny (model P w) X.A (letOwnedTupleGo tg (.ref it) u) (fun _ s2=>∃x H',Inv X pins σ H' s2∧bg x u∧J.yld i H x H'∧tn (i+1) s2.heap∧∀b∈fp,H' b=none) E s1) E s
 done:∀(X:Cx),X.prog=P→X.w=w→X.K=K→X.calm=true→∀(i:Nat) (pins:List (Addr×Obj)) (s:Shared) (σ:St) (H:Hp) (E:Value→Shared→Prop),Inv X pins σ H s→(∀b∈fp,jY X pins H b)→tn i s.heap→J.stop i H →
  wpAny (model P w) X.A (pyNext (.ref it)) (fun r s1=>r=none∧Inv X pins σ H s1) E s
 self:∀(A:Around) (i:Nat) (s:Shared) (Q:Value→Shared→Prop) (E:Value→Shared→Prop),tn i s.heap→Q (.ref it) s→wpAny (model P w) A (pyIter (.ref it)) Q E s
abbrev TI:=St→Hp→(It→Hp→Prop)→Prop
def PIE(X:Cx)(pins:List (Addr×Obj))(σ:St)(tg:Expr)(R:It→Hp→Prop)(itv:Value)(s2:Shared):Prop :=
 ∃(it:Addr) (fp:List Addr) (tn:Nat→Heap→Prop) (J:It) (H':Hp),itv=.ref it∧Inv X pins σ H' s2∧o7 X.prog X.w X.K tg J fp it tn∧tn 0 s2.heap∧(∀b∈fp,jY X pins H' b)∧R J H'
def PI(X:Cx)(tg iter:Expr)(wi:TI):Prop :=
 ∀(pins:List (Addr×Obj)) (s:Shared) (σ:St) (H:Hp) (R:It→Hp→Prop),Inv X pins σ H s→wi σ H R →
  wpAny (model X.prog X.w) X.A (eval iter X.env) (fun v s1=>wpAny (model X.prog X.w) X.A (pyIter v) (PIE X pins σ tg R) X.xe s1) X.xe s
theorem uD{M:Model}{A:Around}{E:Value→Shared→Prop}{s:Shared}{tg:Expr}{it:Addr}{u:Value}{o:Obj}{n:String}{vs:Array Value}{Q:Unit→Shared→Prop}(ho:s.heap.get? it=some o)(hc:o.cls=.type n)(hd:o.data=.fields vs)
    (hn:["enumerate", "zip", "dict_itemiterator", "dict_reverseitemiterator", "odict_iterator", "itertools.zip_longest", "itertools.pairwise"].contains n=false) (hQ:Q () s):wpAny M A (letOwnedTupleGo tg (.ref it) u) Q E s:=by
  unfold letOwnedTupleGo
  cases tg<;>first
    | exact wpAny_pure hQ
    | (cases u <;> first
        | exact wpAny_pure hQ
        | (refine wpAny_bind (wpAny_load ho ?_)
           rw[hc,hd]
           show wpAny M A (if(["enumerate", "zip", "dict_itemiterator", "dict_reverseitemiterator", "odict_iterator", "itertools.zip_longest", "itertools.pairwise"].contains n&&vs[0]?==some (rawInt _))=true then _ else _) Q E s
           rw[if_neg (by intro h;rw[hn,Bool.false_and]at h;cases h)]
           exact wpAny_pure hQ))
def Itl(K:PySem.W.Frag)(a:Addr):It :=
 ⟨fun i H=>∃xs x,SqL K H a xs∧xs[i]?=some x,fun i H x H'=>H'=H∧∀xs,SqL K H a xs→xs[i]?=some x,fun i H=>∃xs,SqL K H a xs∧xs.length≤i⟩
def Itt(K:PySem.W.Frag)(a:Addr):It :=
 ⟨fun i H=>∃xs x,SqT K H a xs∧xs[i]?=some x,fun i H x H'=>H'=H∧∀xs,SqT K H a xs→xs[i]?=some x,fun i H=>∃xs,SqT K H a xs∧xs.length≤i⟩
def Itr(lo:Int)(n:Nat):It:=⟨fun i _=>i < n,fun i H x H'=>H'=H∧x=.int (lo+i),fun i _=>n≤i⟩
theorem qA{P:Program}{w:World}{K:PySem.W.Frag}{tg:Expr}(a it:Addr):o7 P w K tg (Itl K a) [it] it (fun i h=>h.IsListIter it a i) where
 mem:=by simp
 obj:=fun i h st b hb=>by
  have e:b=it:=by simpa using hb
  subst e
  obtain⟨o,e,c,d⟩:=st
  exact⟨o,e,fun v z=>by rw[d]at z;cases z⟩
 keep:=fun i h h' st k=>st.at fun o e=>k it (by simp) o e
 item:=by
  intro X hP hw hK hc i pins s σ H E I hf st hg
  subst hP hw hK
  obtain⟨xs,x,hq,hx⟩:=hg
  obtain⟨its,rv,p,hz⟩:=I.list hq
  obtain⟨u,hu,ru⟩:=rv.get hx
  obtain⟨f0,f1,f2,f3,f4,f5⟩:=hf it (by simp)
  refine wpAny_pyNext_list_item st p.isList (x:=u) (by simpa using hu) fun h' st' sb=>?_
  have I1:Inv X pins σ H { s with heap:=h' }:=I.turned (t':=s.toks) (fun b o hb e=>(sb.2 b hb).trans e) f0 f1 f3 f4 f5
  obtain⟨o,e,c,d⟩:=id st'
  exact⟨u,rfl,uD (s:={ s with heap:=h' }) e c d (by decide) ⟨x,H,I1,ru,⟨rfl,fun ys hy=>by rw[I.list_inj hy hq];exact hx⟩,st',fun b hb=>(hf b hb).1⟩⟩
 done:=by
  intro X hP hw hK hc i pins s σ H E I hf st hg
  subst hP hw hK
  obtain⟨xs,hq,hx⟩:=hg
  obtain⟨its,rv,p,hz⟩:=I.list hq
  obtain⟨f0,f1,f2,f3,f4,f5⟩:=hf it (by simp)
  have hl:=rv.length
  exact wpAny_pyNext_list_end (I.ok.hd hc) st p.isList (by simp;omega) fun h' eb=>⟨rfl,I.turned (t':=s.toks) (fun b o hb e=>eb b o hb e) f0 f1 f3 f4 f5⟩
 self:=fun _ _ _ _ _ st h=>wpAny_pyIter_listiter st h
theorem oe{P:Program}{w:World}{K:PySem.W.Frag}{tg:Expr}(a it:Addr):o7 P w K tg (Itt K a) [it] it (fun i h=>h.IsTupleIter it a i) where
 mem:=by simp
 obj:=fun i h st b hb=>by
  have e:b=it:=by simpa using hb
  subst e
  obtain⟨o,e,c,d⟩:=st
  exact⟨o,e,fun v z=>by rw[d]at z;cases z⟩
 keep:=fun i h h' st k=>st.at fun o e=>k it (by simp) o e
 item:=by
  intro X hP hw hK hc i pins s σ H E I hf st hg
  subst hP hw hK
  obtain⟨xs,x,hq,hx⟩:=hg
  obtain⟨its,rv,p,hz⟩:=I.tuple hq
  obtain⟨u,hu,ru⟩:=rv.get hx
  obtain⟨f0,f1,f2,f3,f4,f5⟩:=hf it (by simp)
  refine wpAny_pyNext_tuple_item st (show s.heap.IsTuple a its.toArray from p) (x:=u) (by simpa using hu) fun h' st' sb=>?_
  have I1:Inv X pins σ H { s with heap:=h' }:=I.turned (t':=s.toks) (fun b o hb e=>(sb.2 b hb).trans e) f0 f1 f3 f4 f5
  obtain⟨o,e,c,d⟩:=id st'
  exact⟨u,rfl,uD (s:={ s with heap:=h' }) e c d (by decide) ⟨x,H,I1,ru,⟨rfl,fun ys hy=>by rw[I.tuple_inj hy hq];exact hx⟩,st',fun b hb=>(hf b hb).1⟩⟩
 done:=by
  intro X hP hw hK hc i pins s σ H E I hf st hg
  subst hP hw hK
  obtain⟨xs,hq,hx⟩:=hg
  obtain⟨its,rv,p,hz⟩:=I.tuple hq
  obtain⟨f0,f1,f2,f3,f4,f5⟩:=hf it (by simp)
  have hl:=rv.length
  exact wpAny_pyNext_tuple_end (I.ok.hd hc) st (show s.heap.IsTuple a its.toArray from p) (by simp;omega) fun h' eb=>⟨rfl,I.turned (t':=s.toks) (fun b o hb e=>eb b o hb e) f0 f1 f3 f4 f5⟩
 self:=fun _ _ _ _ _ st h=>wpAny_pyIter_tupleiter st h
theorem jk{P:Program}{w:World}{K:PySem.W.Frag}{tg:Expr}(it:Addr)(lo:Int)(n:Nat):o7 P w K tg (Itr lo n) [it] it (fun i h=>IsRangeIter h it (lo+(i:Nat) * 1) ((n:Int) - (i:Nat)) 1) where
 mem:=by simp
 obj:=fun i h st b hb=>by
  have e:b=it:=by simpa using hb
  subst e
  exact ⟨_,st,fun v z=>by
   have z':Data.fields _=Data.cell v:=z
   cases z'⟩
 keep:=fun i h h' st k=>k it (by simp) _ st
 item:=by
  intro X hP hw hK hc i pins s σ H E I hf st hg
  subst hP hw hK
  obtain⟨f0,f1,f2,f3,f4,f5⟩:=hf it (by simp)
  have W:=Walks.range (prog:=X.prog) (w:=X.w) (I.ok.hd hc) it lo 1 n
  refine W.item i s _ _ hg st fun v h' tk hv st' kk=>?_
  obtain⟨t,rfl⟩:=hv
  have I1:Inv X pins σ H { s with heap:=h',toks:=tk }:=I.turned (fun b o hb e=>kk b o (by simpa using hb) e) f0 f1 f3 f4 f5
  refine⟨_,rfl,uD (s:={ s with heap:=h',toks:=tk }) (n := "range_iterator") st' rfl rfl (by decide) ⟨.int (lo+i),H,I1,⟨t,?_⟩,⟨rfl,rfl⟩,st',fun b hb=>(hf b hb).1⟩⟩
  rw[Int.mul_one]
 done:=by
  intro X hP hw hK hc i pins s σ H E I hf st hg
  subst hP hw hK
  obtain⟨f0,f1,f2,f3,f4,f5⟩:=hf it (by simp)
  exact wpAny_pyNext_range_end (I.ok.hd hc) st (by have:n≤i:=hg;omega) fun h' eb=>⟨rfl,I.turned (t':=s.toks) (fun b o hb e=>eb b o hb e) f0 f1 f3 f4 f5⟩
 self:=fun _ _ _ _ _ st h=>wpAny_pyIter_rangeiter st h
end L2
namespace L2
open PySem PySem.Spec PyProof.Rows
section
variable{X:Cx}{tg:Expr}
theorem jz{pins:List (Addr×Obj)}{σ:St}{H:Hp}{s:Shared}{R:It→Hp→Prop}{E:Value→Shared→Prop}{lo hi:Int}{t u v:Tok}{tk:Nat}(I:Inv X pins σ H s)(h1:-(2 ^ 62)≤ lo)(h2:lo < 2 ^ 62)(h3:-(2 ^ 62)≤ hi)(h4:hi < 2 ^ 62)
  (q:R (Itr lo (hi - lo).toNat) H):wpAny (model X.prog X.w) X.A (pyIter (.ref s.heap.objs.size)) (PIE X pins σ tg R) E { s with heap:=s.heap.push { cls:=.type "range", data:=.fields #[.int lo t,.int hi u,.int 1 v] },toks:=tk }:=by
 refine wpAny_pyIter_range (IsRange.new ..) (small_one h1 h2 h3 h4) ?_
 have I1:Inv X pins σ H { s with heap:=s.heap.push { cls:=.type "range", data:=.fields #[.int lo t,.int hi u,.int 1 v] },toks:=tk }:=I.kept fun b o e=>Heap.get?_push_of_some _ e
 refine ⟨(s.heap.push { cls:=.type "range", data:=.fields #[.int lo t,.int hi u,.int 1 v] }).objs.size,[(s.heap.push { cls:=.type "range", data:=.fields #[.int lo t,.int hi u,.int 1 v] }).objs.size],_,_,H,rfl,
  I1.kept (t':=tk) fun b o e=>Heap.get?_push_of_some _ e,jk _ lo (hi - lo).toNat,?_,fun b hb=>?_,q⟩
 ·have e1:lo+((0:Nat):Int) * 1=lo:=by simp
  have e2:(((hi - lo).toNat:Nat):Int) - ((0:Nat):Int)=Builtin.Range.rangeSize lo hi 1:=by rw[rangeSize_one];split<;>omega
  show IsRangeIter _ _ (lo+((0:Nat):Int) * 1) ((((hi - lo).toNat:Nat):Int) - ((0:Nat):Int)) 1
  rw[e1,e2]
  exact Heap.get?_push_size _ rfl
 ·have e:b=(s.heap.push { cls:=.type "range", data:=.fields #[.int lo t,.int hi u,.int 1 v] }).objs.size:=by simpa using hb
  subst e
  exact I1.fpOk (Nat.le_refl _) (I1.hok.fresh (Nat.le_refl _))
def C4(ta:TA):TI:=fun σ H R=>ta σ H fun vs H1=>∃j:Int,vs=[.int j]∧-(2 ^ 62)≤ j∧j < 2 ^ 62∧R (Itr 0 j.toNat) H1
def C3(ta:TA):TI:=fun σ H R=>ta σ H fun vs H1=>∃i j:Int,vs=[.int i,.int j]∧(-(2 ^ 62)≤ i∧i < 2 ^ 62∧-(2 ^ 62)≤ j∧j < 2 ^ 62)∧R (Itr i (j - i).toNat) H1
theorem ku{a:Expr}{ta:TA}{p pos:Pos}(hg:Gl X "range")(hm:X.mg "range" = none)(ha:PA X [a] ta)(hs:starEach [a] X.env=[(false,eval a X.env)]:=by rfl):PI X tg (.Call (.Name "range" p) [a] [] pos) (C4 ta):=by
 intro pins s σ H R I h
 refine Call_ (eH I hg hm boot_range (PyProof.Rows.callWith_type1 (thn (ha pos pins s σ H _ I h) fun us s1 ⟨vs,H1,I1,r1,q1⟩=>?_) hs rfl))
 obtain⟨j,e,q1,q2,q⟩:=q1
 subst e
 cases r1 with
 | cons r rr =>
  cases rr
  obtain⟨t,rfl⟩:=r
  exact call_range_1 (jz I1 (by omega) (by omega) q1 q2 (by simpa using q))
theorem qX{a b:Expr}{ta:TA}{p pos:Pos}(hg:Gl X "range")(hm:X.mg "range" = none)(ha:PA X [a,b] ta)(hs:starEach [a,b] X.env=[(false,eval a X.env),(false,eval b X.env)]:=by rfl)(hs2:starEach [b] X.env=[(false,eval b X.env)]:=by rfl) :
  PI X tg (.Call (.Name "range" p) [a,b] [] pos) (C3 ta):=by
 intro pins s σ H R I h
 refine Call_ (eH I hg hm boot_range (PyProof.Rows.callWith_type1 (thn (ha pos pins s σ H _ I h) fun us s1 ⟨vs,H1,I1,r1,q1⟩=>?_) (by rw[hs,hs2]) (by rw[hs2];rfl)))
 obtain⟨i,j,e,⟨q1,q2,q3,q4⟩,q⟩:=q1
 subst e
 cases r1 with
 | cons r rr =>
  cases rr with
  | cons r' rr =>
   cases rr
   obtain⟨t,rfl⟩:=r
   obtain⟨t',rfl⟩:=r'
   exact call_range_2 (jz I1 q1 q2 q3 q4 q)
def D0(wi:TI)(g:TG)(tb:TS):TS:=fun D σ H=>wi σ H fun J H1=>∃W:Nat→Nat→St→Hp→Prop,(∃m,W 0 m σ H1)∧∀i m σ H,W i m σ H →
 (J.stop i H∧D.nx σ H)∨(J.go i H∧∃N:St→Hp→Prop,(∀σ' H',N σ' H'→∃m',m' < m∧W (i+1) m' σ' H')∧∀x H',J.yld i H x H'→g x σ H' fun σ2 H2=>tb { D with nx:=N,ct:=N,bk:=D.nx } σ2 H2)
def jB(fp:List Addr)(h:Heap):List (Addr×Obj):=fp.filterMap fun b=>(h.get? b).map fun o=>(b,o)
theorem fv{fp:List Addr}{h:Heap}{b:Addr}{o:Obj}(hb:b∈fp)(e:h.get? b=some o):(b,o)∈ jB fp h:=List.mem_filterMap.mpr ⟨b,hb,by rw[e];rfl⟩
theorem rj{fp:List Addr}{h:Heap}{p:Addr×Obj}(hp:p∈jB fp h):p.1∈fp∧h.get? p.1=some p.2:=by
 obtain⟨b,hb,e⟩:=List.mem_filterMap.mp hp
 cases q:h.get? b with
 | none=>rw[q]at e;cases e
 | some o =>
  rw[q]at e
  have e':(b,o)=p:=Option.some.inj e
  subst e'
  exact⟨hb,q⟩
theorem Inv.pinned{pins:List (Addr×Obj)}{σ:St}{H:Hp}{s:Shared}{fp:List Addr}(I:Inv X pins σ H s)(hf:∀b∈fp,jY X pins H b)(ho:∀b∈fp,∃o,s.heap.get? b=some o∧∀v,o.data≠.cell v):Inv X (pins++jB fp s.heap) σ H s :=
 I.pins_of fun p hp=>(List.mem_append.mp hp).elim (fun z=>I.pin p (List.mem_append_right _ z)) fun z=>by
  obtain⟨hb,e⟩:=rj z
  obtain⟨f0,f1,f2,_⟩:=hf p.1 hb
  obtain⟨o,e',d⟩:=ho p.1 hb
  rw[e]at e';cases e'
  exact⟨e,f0,f1,f2,d⟩
theorem Inv.unpinned{pins pl:List (Addr×Obj)}{σ:St}{H:Hp}{s:Shared}(I:Inv X (pins++pl) σ H s):Inv X pins σ H s:=I.pins_of fun p hp=>I.pin p (List.mem_append_right _ (List.mem_append_left _ hp))
theorem s_{iter:Expr}{body:List Stmt}{wi:TI}{g:TG}{tb:TS}{pos:Pos}(hp:PassesOwn (model X.prog X.w) X.A X.env X.xe)(hc:X.calm=true)(hi:PI X tg iter wi)(hg:PG X tg g)(hb:PSs X body tb)
  (hs:∀x,foldedSetIterable iter X.env x=pure x:=by intro _;rfl):PS X (.For tg iter body [] pos) (D0 wi g tb):=by
 intro pins s σ H D I h
 refine wpAny_For (thn (hi pins s σ H _ I h) fun v s1 h1=>thn h1 fun itv s2 h2=>?_) hs
 obtain⟨it,fp,tn,J,H2,e,I2,T,st2,f2,W,⟨m0,w0⟩,turn⟩:=h2
 subst e
 have stat:∀{H':Hp},(∀b∈fp,H' b=none)→∀b∈fp,jY X pins H' b:=fun hn b hb=>⟨hn b hb,(f2 b hb).2⟩
 refine codeAny_forLoop_any (fun n s'=>∃i σ' H',Inv X pins σ' H' s'∧tn i s'.heap∧(∀b∈fp,H' b=none)∧W i n σ' H') ?_ m0 ⟨0,σ,H2,I2,st2,fun b hb=>(f2 b hb).1,w0⟩
 rintro n s3 ⟨i,σ3,H3,I3,st3,fr3,w3⟩
 rcases turn i n σ3 H3 w3 with⟨stop,qn⟩ |⟨go,N,hN,step⟩
 ·refine wpAny_passesOwn hp (thn (T.done X rfl rfl rfl hc i pins s3 σ3 H3 X.xe I3 (stat fr3) st3 stop) fun r s4 ⟨hr,I4⟩=>?_)
  subst hr
  exact wpAny_execs_nil ⟨σ3,H3,I4,qn⟩
 ·refine wpAny_passesOwn hp (thn (T.item X rfl rfl rfl hc i pins s3 σ3 H3 X.xe I3 (stat fr3) st3 go) fun r s4 ⟨u,hr,h4⟩=>?_)
  subst hr
  refine wpAny_passesOwn hp (thn h4 fun _ s5 ⟨x,H5,I5,r5,y5,st5,fr5⟩=>?_)
  have I5':=I5.pinned (stat fr5) (T.obj _ _ st5)
  refine wpAny_passesOwn hp (thn (hg _ s5 σ3 H5 x u _ I5' r5 (step x H5 y5)) fun _ s6 ⟨σ6,H6,I6,q6⟩=>?_)
  refine wpAny_passesOwn hp (thn (hb _ s6 σ6 H6 _ I6 q6) fun f s7 q7=>?_)
  have again:∀{σ7:St}{H7:Hp},Inv X (pins++jB fp s5.heap) σ7 H7 s7→N σ7 H7→∃m,m < n∧∃i σ' H',Inv X pins σ' H' s7∧tn i s7.heap∧(∀b∈fp,H' b=none)∧W i m σ' H':=fun {σ7 H7} I7 n7=>by
   obtain⟨m',hm,w7⟩:=hN σ7 H7 n7
   refine⟨m',hm,i+1,σ7,H7,I7.unpinned,T.keep _ _ _ st5 fun b hb o e=>(I7.pin (b,o) (List.mem_append_right _ (List.mem_append_right _ (fv hb e)))).1,fun b hb=>?_,w7⟩
   obtain⟨o,e,d⟩:=T.obj _ _ st5 b hb
   exact(I7.pin (b,o) (List.mem_append_right _ (List.mem_append_right _ (fv hb e)))).2.1
  cases f with
  | next=>obtain⟨σ7,H7,I7,n7⟩:=q7;exact again I7 n7
  | cont=>obtain⟨σ7,H7,I7,n7⟩:=q7;exact again I7 n7
  | brk=>obtain⟨σ7,H7,I7,q7⟩:=q7;exact⟨σ7,H7,I7.unpinned,q7⟩
  | ret v=>obtain⟨x7,σ7,H7,I7,r7,q7⟩:=q7;exact⟨x7,σ7,H7,I7.unpinned,r7,q7⟩
end
end L2
namespace L2
open PySem PySem.Spec PyProof.Rows
abbrev R2:=V→V→Hp→VK→Prop
def OpR(X:Cx)(f:Value→Value→Sem Value)(r:R2):Prop :=
 ∀(pins:List (Addr×Obj)) (s:Shared) (σ:St) (H:Hp) (x y:V) (v u:Value) (Q:VK),Inv X pins σ H s→bg x v→bg y u→r x y H Q →
  wpAny (model X.prog X.w) X.A (f v u) (EP X pins σ Q) X.xe s
def UnR(X:Cx)(f:Value→Sem Value)(r:V→Hp→VK→Prop):Prop :=
 ∀(pins:List (Addr×Obj)) (s:Shared) (σ:St) (H:Hp) (x:V) (v:Value) (Q:VK),Inv X pins σ H s→bg x v→r x H Q →
  wpAny (model X.prog X.w) X.A (f v) (EP X pins σ Q) X.xe s
def cW(X:Cx)(f:Value)(r:List V→Hp→VK→Prop):Prop :=
 ∀(pins:List (Addr×Obj)) (s:Shared) (σ:St) (H:Hp) (xs:List V) (us:List Value) (Q:VK),Inv X pins σ H s→aH xs us→r xs H Q →
  wpAny (model X.prog X.w) X.A (call f us) (EP X pins σ Q) X.xe s
def Ex(X:Cx)(r:V→Hp→(Bool→Hp→Prop)→Prop):Prop :=
 ∀(pins:List (Addr×Obj)) (s:Shared) (σ:St) (H:Hp) (x:V) (v:Value) (Q:Bool→Hp→Prop),Inv X pins σ H s→bg x v→r x H Q →
  wpAny (model X.prog X.w) X.A (truthy v) (TP X pins σ Q) X.xe s
def tOp(r:R2)(ta tb:TE):TE:=fun σ H Q=>ta σ H fun x H1=>tb σ H1 fun y H2=>r x y H2 Q
def tUn(r:V→Hp→VK→Prop)(ta:TE):TE:=fun σ H Q=>ta σ H fun x H1=>r x H1 Q
def rI(C:Int→Int→Prop)(g:Int→Int→V):R2:=fun x y H Q=>∃i j,x=.int i∧y=.int j∧C i j∧Q (g i j) H
def rI0(g:Int→Int→V):R2:=fun x y H Q=>∃i j,x=.int i∧y=.int j∧Q (g i j) H
def rU(g:Int→V):V→Hp→VK→Prop:=fun x H Q=>∃i,x=.int i∧Q (g i) H
section
variable{X:Cx}{a b c:Expr}{ta tb tc:TE}{pos:Pos}
theorem AM(ha:PE X a ta)(hb:PE X b tb){pins:List (Addr×Obj)}{s:Shared}{σ:St}{H:Hp}{R:V→V→Hp→Prop}(I:Inv X pins σ H s)
  (h:ta σ H fun x H1=>tb σ H1 fun y H2=>R x y H2) {Q:Value→Shared→Prop}{f:Value→Value→Sem Value}
  (hf:∀v u s2 x y H2,Inv X pins σ H2 s2→bg x v→bg y u→R x y H2→wpAny (model X.prog X.w) X.A (f v u) Q X.xe s2) :
  wpAny (model X.prog X.w) X.A (eval a X.env) (fun v s₁=>wpAny (model X.prog X.w) X.A (eval b X.env) (fun u s₂=>wpAny (model X.prog X.w) X.A (f v u) Q X.xe s₂) X.xe s₁) X.xe s:=by
 refine thn (ha pins s σ H _ I h) fun v s1 ⟨x,H1,I1,r1,q1⟩=>?_
 refine thn (hb pins s1 σ H1 _ I1 q1) fun u s2 ⟨y,H2,I2,r2,q2⟩=>?_
 exact hf v u s2 x y H2 I2 r1 r2 q2
theorem B_{op:Operator}{r:R2}(ho:OpR X (binaryOp op) r)(ha:PE X a ta)(hb:PE X b tb):PE X (.BinOp a op b pos) (tOp r ta tb):=by
 intro pins s σ H Q I h
 exact wpAny_BinOp (AM ha hb I h fun v u s2 x y H2 I2 rx ry q=>ho pins s2 σ H2 x y v u Q I2 rx ry q)
theorem B8{op:UnaryOp}{r:V→Hp→VK→Prop}(ho:UnR X (unaryOp op) r)(ha:PE X a ta):PE X (.UnaryOp op a pos) (tUn r ta):=by
 intro pins s σ H Q I h
 exact UnaryOp_ (thn (ha pins s σ H _ I h) fun v s1 ⟨x,H1,I1,r1,q1⟩=>ho pins s1 σ H1 x v Q I1 r1 q1)
theorem opI{f:Value→Value→Sem Value}{C:Int→Int→Prop}{g:Int→Int→Int}
  (rule:∀(i j:Int) (t u:Tok) (s:Shared) (Q:Value→Shared→Prop) (E:Value→Shared→Prop),C i j→Q (.int (g i j) s.toks) { s with toks:=s.toks+1 }→wpAny (model X.prog X.w) X.A (f (.int i t) (.int j u)) Q E s) :
  OpR X f (rI C fun i j=>.int (g i j)):=by
 intro pins s σ H x y v u Q I rx ry h
 obtain⟨i,j,rfl,rfl,hc,q⟩:=h
 obtain⟨t,rfl⟩:=rx
 obtain⟨t',rfl⟩:=ry
 exact rule i j t t' s _ _ hc ⟨.int (g i j),H,I.tok _,⟨_,rfl⟩,q⟩
theorem Ch{f:Value→Value→Sem Value}{g:Int→Int→Int}
  (rule:∀(i j:Int) (t u:Tok) (s:Shared) (Q:Value→Shared→Prop) (E:Value→Shared→Prop),Q (.int (g i j) s.toks) { s with toks:=s.toks+1 }→wpAny (model X.prog X.w) X.A (f (.int i t) (.int j u)) Q E s) :
  OpR X f (rI0 fun i j=>.int (g i j)):=by
 intro pins s σ H x y v u Q I rx ry h
 obtain⟨i,j,rfl,rfl,q⟩:=h
 obtain⟨t,rfl⟩:=rx
 obtain⟨t',rfl⟩:=ry
 exact rule i j t t' s _ _ ⟨.int (g i j),H,I.tok _,⟨_,rfl⟩,q⟩
theorem zy{f:Value→Value→Sem Value}{g:Int→Int→Bool}
  (rule:∀(i j:Int) (t u:Tok) (s:Shared) (Q:Value→Shared→Prop) (E:Value→Shared→Prop),Q (.bool (g i j)) s→wpAny (model X.prog X.w) X.A (f (.int i t) (.int j u)) Q E s) :
  OpR X f (rI0 fun i j=>.bl (g i j)):=by
 intro pins s σ H x y v u Q I rx ry h
 obtain⟨i,j,rfl,rfl,q⟩:=h
 obtain⟨t,rfl⟩:=rx
 obtain⟨t',rfl⟩:=ry
 exact rule i j t t' s _ _ ⟨.bl (g i j),H,I,rfl,q⟩
def EG(i j:Int):Prop:=0 < j∧j < 1073741824
def EF(i j:Int):Prop:=0≤j∧j≤1000000∧i.natAbs < 2 ^ 64
def Bl(i j:Int):Prop:=(-(2 ^ 64) < i∧i < 2 ^ 64)∨(-(2 ^ 64) < j∧j < 2 ^ 64)
theorem Bl.ok{i j:Int}(h:Bl i j):IntMulOk i j:=by
 rcases h with⟨h1,h2⟩ |⟨h1,h2⟩
 ·exact .of_left (intBits_le_64 h1 h2)
 ·exact .of_right (intBits_le_64 h1 h2)
theorem n_(k:Nat):(0:Int)≤ 2 ^ k:=by
 rw[two_pow_cast]
 exact Int.natCast_nonneg _
theorem zx:OpR X (binaryOp .Add) (rI0 fun i j=>.int (i+j)):=Ch fun _ _ _ _ _ _ _ q=>add_int q
theorem zq:OpR X (binaryOp .Sub) (rI0 fun i j=>.int (i - j)):=Ch fun _ _ _ _ _ _ _ q=>sub_int q
theorem zu:OpR X (binaryOp .Mult) (rI Bl fun i j=>.int (i * j)):=opI fun _ _ _ _ _ _ _ hc q=>mul_int q hc.ok
theorem w_:OpR X (binaryOp .FloorDiv) (rI EG fun i j=>.int (i / j)):=opI fun i j _ _ _ _ _ hc q=>by
 have h1:(0:Int) < j:=hc.1
 have h2:j < 1073741824:=hc.2
 exact floordiv_int (by omega) (by rw[Int.fdiv_eq_ediv_of_nonneg i (by omega)];exact q) (.inl (PyProof.noPylong_small (by omega)))
theorem zv:OpR X (binaryOp .Mod) (rI (fun _ j=>0 < j) fun i j=>.int (i % j)):=opI fun i j _ _ _ _ _ hc q=>by
 have h1:(0:Int) < j:=hc
 exact mod_int' (by omega) (by rw[Int.fmod_eq_emod_of_nonneg i (by omega)];exact q)
theorem zt:OpR X (binaryOp .Pow) (rI EF fun i j=>.int (i ^ j.toNat)):=opI fun _ _ _ _ _ _ _ hc q=>pow_int_small hc.1 hc.2.1 hc.2.2 q
theorem zr:OpR X (binaryOp .RShift) (rI (fun _ j=>0≤j) fun i j=>.int (i / 2 ^ j.toNat)):=opI fun i j _ _ _ _ _ hc q =>
 rshift_int hc (by rw[Int.fdiv_eq_ediv_of_nonneg i (n_ _)];exact q)
theorem unI{f:Value→Sem Value}{g:Int→Int}
  (rule:∀(i:Int) (t:Tok) (s:Shared) (Q:Value→Shared→Prop) (E:Value→Shared→Prop),Q (.int (g i) s.toks) { s with toks:=s.toks+1 }→wpAny (model X.prog X.w) X.A (f (.int i t)) Q E s) :
  UnR X f (rU fun i=>.int (g i)):=by
 intro pins s σ H x v Q I rx h
 obtain⟨i,rfl,q⟩:=h
 obtain⟨t,rfl⟩:=rx
 exact rule i t s _ _ ⟨.int (g i),H,I.tok _,⟨_,rfl⟩,q⟩
theorem yH:UnR X (unaryOp .USub) (rU fun i=>.int (-i)):=unI fun _ _ _ _ _ q=>neg_int q
end
def scal:V→V→Bool
 | .non,.non=>true | .non,.int _=>true | .int _,.non=>true | .non,.bl _=>true | .bl _,.non=>true | .non,.str _=>true | .str _,.non=>true
 | .int _,.int _=>true | .bl _,.bl _=>true | .str _,.str _=>true | .byt _,.byt _=>true
 | .int _,.str _=>true | .str _,.int _=>true | .bl _,.str _=>true | .str _,.bl _=>true
 | _,_=>false
section
variable{X:Cx}{a b c:Expr}{ta tb tc:TE}{pos:Pos}
theorem uK{pins:List (Addr×Obj)}{σ:St}{H:Hp}{s:Shared}{Q:VK}{k k':Bool}(I:Inv X pins σ H s)(q:Q (.bl k) H)(e:k=k'):EP X pins σ Q (.bool k') s:=by
 subst e
 exact⟨.bl k,H,I,rfl,q⟩
theorem Ce:OpR X (compareOp .Lt) (rI0 fun i j=>.bl (decide (i < j))):=zy fun _ _ _ _ _ _ _ q=>lt_int q
theorem Cf:OpR X (compareOp .Gt) (rI0 fun i j=>.bl (decide (j < i))):=zy fun _ _ _ _ _ _ _ q=>gt_int q
theorem Cg:OpR X (compareOp .GtE) (rI0 fun i j=>.bl (decide (j≤i))):=zy fun _ _ _ _ _ _ _ q=>ge_int q
theorem tV:OpR X (compareOp .Is) (fun x y H Q=>y=.non∧Q (.bl (decide (x=.non))) H):=by
 intro pins s σ H x y v u Q I rx ry h
 obtain⟨rfl,q⟩:=h
 cases ry
 refine is_none_gen (uK I q ?_)
 cases x<;>first
  |(cases rx;rfl)
  |(obtain⟨t,rfl⟩:=rx;rfl)
theorem w8:OpR X (compareOp .IsNot) (fun x y H Q=>y=.non∧Q (.bl (!decide (x=.non))) H):=by
 intro pins s σ H x y v u Q I rx ry h
 obtain⟨rfl,q⟩:=h
 cases ry
 refine isnot_none_gen (uK I q ?_)
 cases x<;>first
  |(cases rx;rfl)
  |(obtain⟨t,rfl⟩:=rx;rfl)
theorem OpR.or{f:Value→Value→Sem Value}{r r':R2}(h:OpR X f r)(h':OpR X f r'):OpR X f (fun x y H Q=>r x y H Q∨r' x y H Q):=by
 intro pins s σ H x y v u Q I rx ry q
 rcases q with q | q
 ·exact h pins s σ H x y v u Q I rx ry q
 ·exact h' pins s σ H x y v u Q I rx ry q
theorem dE(b:Expr){op:CmpOp}(h:op≠.In:=by decide)(h2:op≠.NotIn:=by decide):behindInMarks op b=false:=by
 have e1:(op==CmpOp.In)=false:=by cases op<;>first | rfl | exact absurd rfl h
 have e2:(op==CmpOp.NotIn)=false:=by cases op<;>first | rfl | exact absurd rfl h2
 cases b<;>simp[behindInMarks,e1,e2]
theorem wX{op:CmpOp}{r:R2}(ho:OpR X (compareOp op) r)(ha:PE X a ta)(hb:PE X b tb)(hm:behindInMarks op b=false):PE X (.Compare a [op] [b] pos) (tOp r ta tb):=by
 intro pins s σ H Q I h
 exact wpAny_Compare1 (AM ha hb I h fun v u s2 x y H2 I2 rx ry q=>ho pins s2 σ H2 x y v u Q I2 rx ry q) hm
def BQ(t:TE):TT:=fun σ H Q=>t σ H fun x H'=>∃k,x=.bl k∧Q k H'
theorem wL{op:CmpOp}{r:R2}(ho:OpR X (compareOp op) r)(ha:PE X a ta)(hb:PE X b tb)(hm:behindInMarks op b=false):PT X (.Compare a [op] [b] pos) (BQ (tOp r ta tb)):=by
 intro pins s σ H Q I h
 refine wpAny_isTrue_Compare1 (thn (ha pins s σ H _ I h) fun v s1 ⟨x,H1,I1,r1,q1⟩=>thn (hb pins s1 σ H1 _ I1 q1) fun u s2 ⟨y,H2,I2,r2,q2⟩ =>
  thn (ho pins s2 σ H2 x y v u _ I2 r1 r2 q2) fun c s3 ⟨z,H3,I3,r3,k,e,q3⟩=>?_) hm
 subst e
 cases r3
 exact wpAny_truthy_bool ⟨H3,I3,q3⟩
def Dg(K:PySem.W.Frag)(x:V)(H:Hp)(k:Bool):Prop :=
 match x with
 | .non=>k=false
 | .bl b=>k=b
 | .int i=>k=(i != 0)
 | .str y=>y.length≤sizeLine∧k=((y.length:Int) != 0)
 | .byt y=>y.size≤sizeLine∧k=((y.size:Int) != 0)
 | .ref p=>(∃xs,SqL K H p xs∧k=!xs.isEmpty)∨(∃xs,SqT K H p xs∧k=!xs.isEmpty)∨ ∃kvs,H p=some (.dK kvs)∧k=!kvs.isEmpty
 | _=>False
theorem oR{κ:Type}{kvs:List (κ×V)}{vs:List (κ×Value)}(r:KV kvs vs):(!vs.isEmpty)=!kvs.isEmpty:=by
 cases r<;>rfl
theorem jM{xs:List V}{its:List Value}(r:aH xs its):(!its.toArray.isEmpty)=!xs.isEmpty:=by
 cases r<;>simp
theorem iN:(sizeLine:Nat) < 2 ^ 63:=by rw[sizeLine_eq];decide
theorem yI:Ex X (fun x H Q=>∃k,Dg X.K x H k∧Q k H):=by
 intro pins s σ H x v Q I rx h
 obtain⟨k,e,q⟩:=h
 have hl:=iN
 have hs:sizeLine=16777216:=sizeLine_eq
 cases x with
 | non =>
  cases rx
  have e':k=false:=e
  subst e'
  exact truthy_none ⟨H,I,q⟩
 | bl b =>
  cases rx
  have e':k=b:=e
  subst e'
  exact wpAny_truthy_bool ⟨H,I,q⟩
 | int i =>
  obtain⟨t,rfl⟩:=rx
  have e':k=(i != 0):=e
  subst e'
  exact PySem.P.truthy_int ⟨H,I,q⟩
 | str y =>
  obtain⟨t,rfl⟩:=rx
  obtain⟨hy,e'⟩:y.length≤sizeLine∧k=((y.length:Int) != 0):=e
  subst e'
  exact PySem.P.truthy_str (by omega) ⟨H,I.tok _,q⟩
 | byt y =>
  obtain⟨t,rfl⟩:=rx
  obtain⟨hy,e'⟩:y.size≤sizeLine∧k=((y.size:Int) != 0):=e
  subst e'
  exact PySem.W.truthy_bytes (by omega) ⟨H,I.tok _,q⟩
 | ref p =>
  cases rx
  have e':(∃xs,SqL X.K H p xs∧k=!xs.isEmpty)∨(∃xs,SqT X.K H p xs∧k=!xs.isEmpty)∨ ∃kvs,H p=some (.dK kvs)∧k=!kvs.isEmpty:=e
  rcases e' with⟨xs,hx,e'⟩ |⟨xs,hx,e'⟩ |⟨kvs,hx,e'⟩
  ·subst e'
   obtain⟨its,r,pl,hz⟩:=I.list hx
   have hlen:=r.length
   exact wpAny_truthy_list pl.isList (by simp only[List.size_toArray];omega) ⟨H,I.tok _,by rw[jM r];exact q⟩
  ·subst e'
   obtain⟨its,r,pl,hz⟩:=I.tuple hx
   have hlen:=r.length
   exact truthy_tuple pl (by simp only[List.size_toArray];omega) ⟨H,I.tok _,by rw[jM r];exact q⟩
  ·subst e'
   obtain⟨hz,hS,vs,r,m⟩:kvs.length≤sizeLine∧(p==sysModules)=false∧∃vs,KV kvs vs∧s.heap.DictOf (lO X.prog X.w) p vs:=I.hok p _ hx
   have hlen:kvs.length=vs.length:=Paired.length r
   exact wpAny_truthy_dict hS m (by omega) ⟨H,I.tok _,by rw[oR r];exact q⟩
 | _=>exact(show False from e).elim
theorem sX(ha:PE X a ta)(he:∀whole,isTrue a X.env whole=(do let v ← whole;standAt a.pos;holding [v] (truthy v))) :
  PT X a (fun σ H Q=>ta σ H fun x H'=>∃k,Dg X.K x H' k∧Q k H'):=by
 intro pins s σ H Q I h
 exact isTrue_plain (thn (ha pins s σ H _ I h) fun v s1 ⟨x,H1,I1,r1,q1⟩=>yI pins s1 σ H1 x v Q I1 r1 q1) (he _)
theorem cU{x:V}{us:List Value}(r:aH [x] us):∃u,us=[u]∧bg x u:=by
 cases r with
 | cons r1 r2=>cases r2;exact⟨_,rfl,r1⟩
theorem yk{x y:V}{us:List Value}(r:aH [x,y] us):∃u w',us=[u,w']∧bg x u∧bg y w':=by
 cases r with
 | cons r1 r2 =>
  cases r2 with
  | cons r3 r4=>cases r4;exact⟨_,_,rfl,r1,r3⟩
theorem sd(hc:X.calm=true):cW X (.builtin "max") (fun xs H Q=>∃i j,xs=[.int i,.int j]∧Q (.int (if j > i then j else i)) H):=by
 intro pins s σ H xs us Q I r h
 obtain⟨i,j,rfl,q⟩:=h
 obtain⟨u,w',rfl,⟨t,rfl⟩,⟨t',rfl⟩⟩:=yk r
 refine max_two_ints (I.ok.hd hc) fun h' tk k=>⟨_,H,I.kept k,?_,q⟩
 by_cases hj:j > i
 ·rw[if_pos hj,if_pos hj];exact⟨_,rfl⟩
 ·rw[if_neg hj,if_neg hj];exact⟨_,rfl⟩
theorem r_(hc:X.calm=true):cW X (.builtin "min") (fun xs H Q=>∃i j,xs=[.int i,.int j]∧Q (.int (if j < i then j else i)) H):=by
 intro pins s σ H xs us Q I r h
 obtain⟨i,j,rfl,q⟩:=h
 obtain⟨u,w',rfl,⟨t,rfl⟩,⟨t',rfl⟩⟩:=yk r
 refine min_two_ints (I.ok.hd hc) fun h' tk k=>⟨_,H,I.kept k,?_,q⟩
 by_cases hj:j < i
 ·rw[if_pos hj,if_pos hj];exact⟨_,rfl⟩
 ·rw[if_neg hj,if_neg hj];exact⟨_,rfl⟩
end
end L2
namespace L2
open PySem PySem.Spec PyProof.Rows
structure o8(h:Heap)(x dx C:Addr)(mA:Str→Option Value):Prop where
 obj:h.get? x=some (PySem.W.instObj C dx)
 ns:h.Ns1 dx mA
 ne:dx≠x
theorem rD{h:Heap}{dx:Addr}{mA:Str→Option Value}(n:h.Ns1 dx mA):∃od,h.get? dx=some od∧∀name,PySem.W.lookIn name od=some (mA name):=by
 obtain⟨o,es,ep,ho,hd,hk,_,hm⟩:=n
 refine⟨o,ho,fun name=>?_⟩
 have e:=hm name
 unfold nsFind findBy at e
 rw[← Array.find?_toList]at e
 unfold PySem.W.lookIn
 rw[hd]
 dsimp only
 split
 ·rename_i y q
  rw[q]at e
  exact congrArg some e
 ·rename_i q
  rw[q]at e
  have a:es.toList.any (·.refKey)=false:=by
   rw[List.any_eq_false]
   intro y hy
   obtain⟨z,t,hkey⟩:=hk y (Array.mem_toList_iff.mp hy)
   simp[DictEntry.refKey,hkey]
  have a':¬es.toList.any (·.refKey)=true:=by rw[a];exact Bool.false_ne_true
  rw[if_neg a']
  exact congrArg some e
theorem o8.look{h:Heap}{x dx C:Addr}{mA:Str→Option Value}(I:o8 h x dx C mA):∃od,PySem.W.InstAt h x (PySem.W.instObj C dx) C (some od)∧∀name,PySem.W.lookIn name od=some (mA name) :=
 let⟨od,ho,hl⟩:=rD I.ns
 ⟨od,⟨I.obj,rfl,rfl,ho⟩,hl⟩
section
variable{prog:Program}{w:World}{A:Around}{E:Value→Shared→Prop}{s:Shared}{K:PySem.W.Frag}{x dx C f:Addr}{mA:Str→Option Value}{name:Str}{v:Value}
theorem xG{expr:Bool}{Q:Value→Shared→Prop}(X:K.In s.heap)(I:o8 s.heap x dx C mA)(hg:PySem.W.plainGet K C name=true)(hh:PySem.W.hasDictIn K C=true)
  (ha:PySem.W.findIn K (.ref C) name=some none) (hv:mA name=some v) (hv':PySem.W.handedIn v=true) (h:Q v { s with toks:=s.toks+1 }) :
  wpAny (model prog w) A (getAttr (.ref x) name expr) Q E s:=by
 obtain⟨od,J,hl⟩:=I.look
 exact PySem.W.get_value X J (PySem.W.plainGet_of hg).1 (PySem.W.findObj_own hh ha rfl (by rw[hl,hv])) hv' h
theorem uF{pl:Sem Bool}{Q:Value×List Value→Shared→Prop}(X:K.In s.heap)(I:o8 s.heap x dx C mA)(hg:PySem.W.plainGet K C name=true)
  (hf:PySem.W.findIn K (.ref C) name=some (some (.ref f))) (ht:PySem.W.isFn K (.ref f)=true) (hv:mA name=none) (h:Q (.ref f,[.ref x]) s) :
  wpAny (model prog w) A (getMethod (.ref x) name pl) Q E s:=by
 obtain⟨od,J,hl⟩:=I.look
 exact PySem.W.method_fn X J (PySem.W.plainGet_of hg).1 (PySem.W.plainGet_of hg).2 hf (beq_iff_eq.mp ht) (by show(PySem.W.lookIn name od).map (·.isSome)=some false;rw[hl,hv];rfl) h
theorem wg{ns:List Str}{Q:Unit→Shared→Prop}(X:K.In s.heap)(I:o8 s.heap x dx C mA)
  (hs:PySem.W.findIn K (.ref C) "__setattr__" = some (some (.builtin "object.__setattr__"))) (hp:PySem.W.plainOver K C=true) (ht:PySem.W.takerIn K C name=some none) (hh:PySem.W.hasDictIn K C=true)
  (hw:PySem.Within mA ns) (hsz:ns.length≤sizeLine)
  (h:∀h',o8 h' x dx C (fun y=>if y=name then some v else mA y)→Heap.SameBut dx s.heap h'→Q () { s with heap:=h',toks:=s.toks+2 }) :
  wpAny (model prog w) A (setAttr (.ref x) name v) Q E s:=by
 obtain⟨od,J,hl⟩:=I.look
 refine PySem.W.set_plain X J hs (PySem.W.osa_open (s:={ s with toks:=s.toks+1 }) (r:=none) X J hp ht fun b=>?_)
 obtain⟨cd,hc,hd'⟩:=PySem.W.any_some hh
 have hx:s.heap.get? x=some ⟨.ref C,some dx,.plain,#[]⟩:=I.obj
 refine wpAny_bind (wpAny_pure (wpAny_bind (wpAny_bind (wpAny_loadPart hx (wpAny_bind (PySem.W.Looks.here (s:={ s with toks:=s.toks+1 }) (PySem.W.looks_clsIn X hc) ?_))))))
 rw[hd']
 refine wpAny_pure (a:=some dx) (wpAny_bind (wpAny_pure (wpAny_bind ?_)))
 refine wpAny_nsSet1 (s:={ s with toks:=s.toks+1 }) I.ns fun h' hn2 hs2=>?_
 obtain⟨oD,esD,epD,hoD,hdD,hcD⟩:=hn2.count (PySem.Within.cons name v hw)
 refine wpAny_bind (wpAny_lookBehind hoD (by rw[hdD];exact pastItsLine_dict (Nat.le_trans hcD (by rw[List.length_cons];omega))) ?_)
 exact wpAny_pure (h _ ⟨(hs2.2 _ (Ne.symm I.ne)).trans I.obj,hn2,I.ne⟩ hs2)
theorem ul{R:Result→Shared→Prop}{vs:List Value}{kw:List (Str×Value)}(X:K.In s.heap)(hm:PySem.W.makesIn K C=true)
  (hi:PySem.W.findIn K (.ref C) "__init__" = some (some (.ref f))) (hf:PySem.W.typeIn K (.ref f)=some (.type "function"))
  (h:codeAny (model prog w) (A.under (.builtin "type.__call__" ⟨.ref C::vs,kw⟩)) (.call (.ref f) ⟨.ref (s.heap.objs.size+1)::vs,kw⟩) (PySem.W.InitBack (s.heap.objs.size+1) R)
   { s with heap:=(s.heap.push PySem.W.emptyDict).push (PySem.W.instObj C s.heap.objs.size) }) :
  codeAny (model prog w) A (.call (.ref C) ⟨vs,kw⟩) R s:=by
 obtain⟨hh,g,d,t,os⟩:=s
 exact PySem.W.make_core (PySem.W.makes_of X hm) (PySem.W.looks_findIn X hi) (fun self=>PySem.W.bind_fn X self hf) (.inl rfl) h
end
def fe(f:Str)(v:V):List (Str×V)→List (Str×V)
 | []=>[(f,v)]
 |(g,x)::r=>if g=f then(g,v)::r else(g,x)::fe f v r
theorem i4(f g:Str)(v:V):∀fs:List (Str×V),(fe f v fs).lookup g=if g=f then some v else fs.lookup g
 | []=>by
  show List.lookup g [(f,v)]=_
  by_cases h:g=f
  ·have hb:(g==f)=true:=beq_iff_eq.mpr h
   simp only[List.lookup,hb,if_pos h]
  ·have hb:(g==f)=false:=beq_eq_false_iff_ne.mpr h
   simp only[List.lookup,hb,if_neg h]
 |(k,x)::r=>by
  have ih:=i4 f g v r
  rw[show fe f v ((k,x)::r)=(if k=f then(k,v)::r else(k,x)::fe f v r)from rfl]
  by_cases hk:k=f
  ·rw[if_pos hk]
   by_cases h:g=k
   ·have hb:(g==k)=true:=beq_iff_eq.mpr h
    simp only[List.lookup,hb,if_pos (h.trans hk)]
   ·have hb:(g==k)=false:=beq_eq_false_iff_ne.mpr h
    simp only[List.lookup,hb,if_neg (fun e:g=f=>h (e.trans hk.symm))]
  ·rw[if_neg hk]
   by_cases h:g=k
   ·have hb:(g==k)=true:=beq_iff_eq.mpr h
    simp only[List.lookup,hb,if_neg (fun e:g=f=>hk (h.symm.trans e))]
   ·have hb:(g==k)=false:=beq_eq_false_iff_ne.mpr h
    simp only[List.lookup,hb]
    exact ih
theorem iO(f:Str)(v:V):∀fs:List (Str×V),f ∈(fe f v fs).map (·.1)∧∀g,g∈fs.map (·.1)→g ∈(fe f v fs).map (·.1)
 | []=>⟨by simp[fe],fun g h=>by simp at h⟩
 |(k,x)::r=>by
  obtain⟨i1,i2⟩:=iO f v r
  rw[show fe f v ((k,x)::r)=(if k=f then(k,v)::r else(k,x)::fe f v r)from rfl]
  by_cases hk:k=f
  ·rw[if_pos hk]
   subst hk
   exact⟨by simp,fun g h=>by simpa using h⟩
  ·rw[if_neg hk]
   refine⟨?_,fun g h=>?_⟩
   ·rw[List.map_cons]
    exact List.mem_cons_of_mem _ i1
   ·rw[List.map_cons]at h ⊢
    rcases List.mem_cons.mp h with e | e
    ·exact List.mem_cons.mpr (.inl e)
    ·exact List.mem_cons_of_mem _ (i2 g e)
theorem i6(f:Str)(v:V):∀fs:List (Str×V),(fe f v fs).length≤fs.length+1
 | []=>by simp[fe]
 |(k,x)::r=>by
  have ih:=i6 f v r
  rw[show fe f v ((k,x)::r)=(if k=f then(k,v)::r else(k,x)::fe f v r)from rfl]
  by_cases hk:k=f
  ·rw[if_pos hk,List.length_cons,List.length_cons];omega
  ·rw[if_neg hk,List.length_cons,List.length_cons];omega
theorem ka.some_of{v:V}{o:Option Value}(r:ka (some v) o):∃u,o=some u∧bg v u:=by
 cases o with
 | none=>exact(show False from r).elim
 | some u=>exact⟨u,rfl,r⟩
theorem ka.none_of{o:Option Value}(r:ka none o):o=none:=by
 cases o with
 | none=>rfl
 | some u=>exact(show False from r).elim
theorem rN{v:V}{u:Value}(r:bg v u):PySem.W.handedIn u=true:=by
 cases v with
 | non=>cases(show u=Value.none from r);rfl
 | bl b=>cases(show u=Value.bool b from r);rfl
 | int i=>obtain⟨t,e⟩:=(show ∃t,u=Value.int i t from r);cases e;rfl
 | str x=>obtain⟨t,e⟩:=(show ∃t,u=Value.str x t from r);cases e;rfl
 | byt b=>obtain⟨t,e⟩:=(show ∃t,u=Value.bytes b t from r);cases e;rfl
 | flt b=>obtain⟨t,e⟩:=(show ∃t,u=Value.float b t from r);cases e;rfl
 | ref a=>cases(show u=Value.ref a from r);rfl
 | ty n=>cases(show u=Value.type n from r);rfl
section
variable{P:Program}{w:World}{H H':Hp}{h h':Heap}{a C dx:Addr}{fs fs':List (Str×V)}
theorem lU(hok:HOk P w H h)(e:H a=some (.ins C dx fs)):∃mA,o8 h a dx C mA∧(∀f,ka (fs.lookup f) (mA f))∧PySem.Within mA (fs.map (·.1))∧fs.length≤1000∧H dx=some (.own a):=by
 obtain⟨d,z,ne,ob,mA,n,r,q⟩:=(show cD P w H h a (.ins C dx fs)from hok a _ e)
 exact⟨mA,⟨ob,n,ne⟩,r,q,z,d⟩
end
structure Cls(K:PySem.W.Frag)(C:Addr):Prop where
 pg:PySem.W.plainGet K C Str.empty=true
 hd:PySem.W.hasDictIn K C=true
 po:PySem.W.plainOver K C=true
 sa:PySem.W.findIn K (.ref C) "__setattr__" = some (some (.builtin "object.__setattr__"))
theorem Cls.get{K:PySem.W.Frag}{C:Addr}(c:Cls K C)(f:Str):PySem.W.plainGet K C f=true:=c.pg
def dG(K:PySem.W.Frag)(C:Addr)(f:Str):Prop:=PySem.W.findIn K (.ref C) f=some none
theorem dG.taker{K:PySem.W.Frag}{C:Addr}{f:Str}(n:dG K C f):PySem.W.takerIn K C f=some none:=by
 unfold PySem.W.takerIn
 rw[show PySem.W.findIn K (.ref C) f=some none from n]
 rfl
structure Con(K:PySem.W.Frag)(C:Addr)(f:Str)(v:V)(u:Value):Prop where
 at_:PySem.W.findIn K (.ref C) f=some (some u)
 rel:bg v u
 get:PySem.W.specialIn K u "__get__" = some none
 cp:PySem.W.copiedNames.contains f=false
structure yg(K:PySem.W.Frag)(C:Addr)(m:Str)(f:Addr):Prop where
 at_:PySem.W.findIn K (.ref C) m=some (some (.ref f))
 fn:PySem.W.isFn K (.ref f)=true
 kp:PySem.W.keepIn K (.ref f)=true
section
variable{X:Cx}{pins:List (Addr×Obj)}{σ:St}{H:Hp}{s:Shared}{a C dx:Addr}{fs:List (Str×V)}{f:Str}{v:V}{A:Around}{E:Value→Shared→Prop}
theorem oX{b:Bool}{Q:Value→Shared→Prop}(I:Inv X pins σ H s)(e:H a=some (.ins C dx fs))(c:Cls X.K C)(n:dG X.K C f)(l:fs.lookup f=some v)
  (h:∀u s',Inv X pins σ H s'→bg v u→Q u s'):wpAny (model X.prog X.w) A (getAttr (.ref a) f b) Q E s:=by
 obtain⟨mA,O,r,_,_,_⟩:=lU I.hok e
 obtain⟨u,hu,ru⟩:=ka.some_of (v:=v) (o:=mA f) (by rw[← l];exact r f)
 exact xG I.kIn O (c.get f) c.hd n hu (rN ru) (h u _ (I.tok _) ru)
theorem oW{m:Str}{g:Addr}{pl:Sem Bool}{Q:Value×List Value→Shared→Prop}(I:Inv X pins σ H s)(e:H a=some (.ins C dx fs))(c:Cls X.K C)(k:yg X.K C m g)(l:fs.lookup m=none)
  (h:Q (.ref g,[.ref a]) s):wpAny (model X.prog X.w) A (getMethod (.ref a) m pl) Q E s:=by
 obtain⟨mA,O,r,_,_,_⟩:=lU I.hok e
 have hn:mA m=none:=ka.none_of (by rw[← l];exact r m)
 exact uF I.kIn O (c.get m) k.at_ k.fn hn h
theorem ou{y:V}{u:Value}{Q:Unit→Shared→Prop}(I:Inv X pins σ H s)(e:H a=some (.ins C dx fs))(c:Cls X.K C)(n:dG X.K C f)(hl:fs.length < 1000)(ry:bg y u)
  (h:∀s',Inv X pins σ (upd H a (.ins C dx (fe f y fs))) s'→Q () s'):wpAny (model X.prog X.w) A (setAttr (.ref a) f u) Q E s:=by
 obtain⟨mA,O,r,wi,_,ho⟩:=lU I.hok e
 have hz:(fs.map (·.1)).length≤sizeLine:=by rw[List.length_map,sizeLine_eq];omega
 refine wg I.kIn O c.sa c.po n.taker c.hd wi hz fun h' O' sb=>h _ ?_
 have hd:∃o,h'.get? dx=some o:=let⟨o,_,_,e',_⟩:=O'.ns;⟨o,e'⟩
 refine I.write (x:=a) (e:=dx) (by rw[e];exact True.intro) (.inr ho) (fun b q hb z=>(sb.2 b hb).trans z) hd ?_
 refine⟨by rw[aI O.ne];exact ho,?_,O.ne,O'.obj,_,O'.ns,fun g=>?_,fun g hg=>?_⟩
 ·have:=i6 f y fs;omega
 ·show ka ((fe f y fs).lookup g) (if g=f then some u else mA g)
  rw[i4]
  by_cases q:g=f
  ·rw[if_pos q,if_pos q];exact ry
  ·rw[if_neg q,if_neg q];exact r g
 ·by_cases q:g=f
  ·rw[q];exact(iO f y fs).1
  ·refine(iO f y fs).2 g (wi g fun z=>hg ?_)
   show(if g=f then some u else mA g)=none
   rw[if_neg q];exact z
theorem Inv.made(I:Inv X pins σ H s):Inv X pins σ (upd (upd H s.heap.objs.size (.own (s.heap.objs.size+1))) (s.heap.objs.size+1) (.ins C s.heap.objs.size []))
  { s with heap:=(s.heap.push PySem.W.emptyDict).push (PySem.W.instObj C s.heap.objs.size) }:=by
 have e1:(s.heap.push PySem.W.emptyDict).get? s.heap.objs.size=some PySem.W.emptyDict:=Heap.get?_push_size s.heap rfl
 have e2:((s.heap.push PySem.W.emptyDict).push (PySem.W.instObj C s.heap.objs.size)).get? (s.heap.objs.size+1)=some (PySem.W.instObj C s.heap.objs.size):=by
  have:=Heap.get?_push_size (s.heap.push PySem.W.emptyDict) (o:=PySem.W.instObj C s.heap.objs.size) rfl
  rwa [Heap.size_push]at this
 have e3:(s.heap.push PySem.W.emptyDict).Ns s.heap.objs.size (fun _=>none):=⟨PySem.W.emptyDict,#[],_,e1,rfl,(fun e he=>absurd he (by simp)),fun _=>rfl⟩
 have I1:=I.laid (a:=s.heap.objs.size) (o:=.own (s.heap.objs.size+1)) (h':=s.heap.push PySem.W.emptyDict) (t':=s.toks) (fun b u q=>Heap.get?_push_of_some _ q) (Nat.le_refl _) ⟨_,e1⟩
 refine I1.laid (a:=s.heap.objs.size+1) (o:=.ins C s.heap.objs.size []) (t':=s.toks) (fun b u q=>Heap.get?_push_of_some _ q) (Nat.le_of_eq (Heap.size_push _ _)) ?_
 have ne:s.heap.objs.size≠s.heap.objs.size+1:=Nat.ne_of_lt (Nat.lt_succ_self _)
 refine⟨by rw[aI ne,bF],Nat.zero_le _,ne,e2,fun _=>none,(Heap.Ns1.of_empty e3).at fun o q=>Heap.get?_push_of_some _ q,fun _=>True.intro,fun y hy=>absurd rfl hy⟩
theorem ye{prog:Program}{w:World}{env:Env}{e:Expr}{f:Str}{pos:Pos}{s:Shared}{Q:Value→Shared→Prop}(hb:attributeBase e f env (eval e env)=eval e env)
  (h:wpAny (model prog w) A (eval e env) (fun o s₁=>wpAny (model prog w) A (getAttr o f true) Q E s₁) E s):wpAny (model prog w) A (eval (.Attribute e f pos) env) Q E s :=
 Attribute_any_ h (by rw[arm_eval_Attribute,hb])
end
def BW(K:PySem.W.Frag)(ta:TE)(f:Str):TE:=fun σ H Q=>ta σ H fun x H1=>∃a C dx fs v,x=.ref a∧H1 a=some (.ins C dx fs)∧Cls K C∧dG K C f∧fs.lookup f=some v∧Q v H1
def sFld(K:PySem.W.Frag)(ta tv:TE)(f:Str):TS:=fun D σ H=>tv σ H fun y H1=>ta σ H1 fun x H2=>∃a C dx fs,x=.ref a∧H2 a=some (.ins C dx fs)∧Cls K C∧dG K C f∧fs.length < 1000 ∧
 D.nx σ (upd H2 a (.ins C dx (fe f y fs)))
section
variable{X:Cx}{o e value:Expr}{f:Str}{pos pos' tpos:Pos}{ta tv:TE}
theorem zl(he:PE X e ta)(hb:attributeBase e f X.env (eval e X.env)=eval e X.env):PE X (.Attribute e f pos) (BW X.K ta f):=by
 intro pins s σ H Q I h
 refine ye hb (thn (he pins s σ H _ I h) fun u s1 ⟨x,H1,I1,rx,a,C,dx,fs,v,ex,ea,c,n,l,q⟩=>?_)
 subst ex
 obtain rfl:u=Value.ref a:=rx
 exact oX I1 ea c n l fun u' s2 I2 ru=>⟨v,H1,I2,ru,q⟩
theorem zb(ha:PE X o ta)(hv:PE X value tv)(hs:swapsWith value (some (.Attribute o f pos')) pos.line X.env=pure false):PS X (.Assign [.Attribute o f pos'] value pos) (sFld X.K ta tv f):=by
 intro pins s σ H D I h
 refine plainObj_wpAny_Assign_Attribute (thn (hv pins s σ H _ I h) fun u s1 ⟨y,H1,I1,ry,q⟩=>thn (ha pins s1 σ H1 _ I1 q) fun ov s2 ⟨x,H2,I2,rx,a,C,dx,fs,ex,ea,c,n,l,q2⟩=>?_) hs
 subst ex
 obtain rfl:ov=Value.ref a:=rx
 exact ou I2 ea c n l ry fun s3 I3=>⟨σ,_,I3,q2⟩
end
section
variable{X:Cx}{pins:List (Addr×Obj)}{σ:St}{H:Hp}{s:Shared}{A:Around}{E:Value→Shared→Prop}{Q:Value→Shared→Prop}{c:Value}{b:Bool}
inductive jW(K:PySem.W.Frag)(H:Hp):V→Value→Prop where
 | non:jW K H .non (.type "NoneType")
 | bl (x:Bool):jW K H (.bl x) (.type "bool")
 | int (i:Int):jW K H (.int i) (.type "int")
 | str (x:Str):jW K H (.str x) (.type "str")
 | flt (x:UInt64):jW K H (.flt x) (.type "float")
 | lst {a:Addr}{xs:List V} (e:H a=some (.lst xs)):jW K H (.ref a) (.type "list")
 | frz {a:Addr}{o:Obj}{xs:List V} (e:H a=some (.frz o (.lst xs))):jW K H (.ref a) (.type "list")
 | tup {a:Addr}{xs:List V} (e:H a=some (.tup xs)):jW K H (.ref a) (.type "tuple")
 | dK {a:Addr}{kvs:List (Key×V)} (e:H a=some (.dK kvs)):jW K H (.ref a) (.type "dict")
 | dT {a:Addr}{kvs:List (List Key×V)} (e:H a=some (.dT kvs)):jW K H (.ref a) (.type "dict")
 | ins {a C dx:Addr}{fs:List (Str×V)} (e:H a=some (.ins C dx fs)) (cl:Cls K C) (ha:PySem.W.findIn K (.ref C) "__class__" = some (some (.builtin "object.__class__")))
   (hn:PySem.W.specialIn K (.builtin "object.__class__") "__get__" = some (some (.builtin "getset_descriptor.__get__"))) (htk:PySem.W.takesIn K (.builtin "object.__class__")=some true)
   (hm:PySem.W.mroIn K C (.type "object")=some true):jW K H (.ref a) (.ref C)
end
end L2
namespace L2
open PySem PySem.Spec PyProof.Rows
structure cT(k:Nat)(A:Around):Prop where
 hd:A.handled=none
 dp:A.depth+3 * k+5 < recursionLimit
 un:A.units+16 * k+200 < cLine
theorem cT.mono{j k:Nat}{A:Around}(r:cT k A)(h:j≤k):cT j A:=⟨r.hd,by have:=r.dp;omega,by have:=r.un;omega⟩
theorem cT.deeper{k:Nat}{A:Around}(r:cT (k+1) A)(env:Env):cT k (A.deeper env) :=
 ⟨r.hd,by have:=r.dp;show A.depth+1+3 * k+5 < _;omega,by have:=r.un;show A.units+3+16 * k+200 < _;omega⟩
theorem oO{A:Around}{C:Addr}{us:List Value}{kw:List (Str×Value)}:(A.under (.builtin "type.__call__" ⟨.ref C::us,kw⟩)).depth=A.depth+1:=by
 first | rfl | simp[Around.under,Code.weight,Code.isCreation,Code.isGuard,Code.isCaller,Code.frames,Code.isFrame,guardIds]
theorem oN{A:Around}{C:Addr}{us:List Value}{kw:List (Str×Value)}:(A.under (.builtin "type.__call__" ⟨.ref C::us,kw⟩)).units=A.units+1:=by
 first | rfl | simp[Around.under,Code.cUnits,Code.frames,Code.isFrame]
theorem cT.make{k:Nat}{A:Around}(r:cT (k+1) A)(C:Addr)(us:List Value)(kw:List (Str×Value)):cT k (A.under (.builtin "type.__call__" ⟨.ref C::us,kw⟩)) :=
 ⟨r.hd,by have:=r.dp;rw[oO];omega,by have:=r.un;rw[oN];omega⟩
theorem cT.depth{k:Nat}{A:Around}(r:cT k A):A.depth < recursionLimit:=by have:=r.dp;omega
theorem cT.units{k:Nat}{A:Around}(r:cT k A):A.units+64 < cLine:=by have:=r.un;omega
def yK:TA:=fun _ H Q=>Q [] H
def ph(ta:TE)(tr:TA):TA:=fun σ H Q=>ta σ H fun x H1=>tr σ H1 fun xs H2=>Q (x::xs) H2
section
variable{X:Cx}{e:Expr}{es:List Expr}{te:TE}{t:TA}{pos:Pos}
theorem f7:PA X [] yK:=fun _ _ _ _ H Q I h=>Calls.spliced_nil ⟨[],H,I,.nil,h⟩
theorem cK(ha:PE X e te)(hr:PA X es t)(hs:starEach (e::es) X.env=(false,eval e X.env)::starEach es X.env:=by rfl):PA X (e::es) (ph te t):=by
 intro pos pins s σ H Q I h
 rw[hs]
 show wpAny _ _ (spliced ((false,eval e X.env)::backTo pos (starEach es X.env))) _ _ s
 refine Calls.spliced_cons (thn (ha pins s σ H _ I h) fun u s1 ⟨x,H1,I1,r1,q1⟩=>?_)
 exact thn (hr pos pins s1 σ H1 _ I1 q1) fun us s2 ⟨xs,H2,I2,r2,q2⟩=>⟨x::xs,H2,I2,.cons r1 r2,q2⟩
def DU(t:TA):TE:=fun σ H Q=>t σ H fun xs H1=>xs.length≤sizeLine∧∀p,H1 p=none→Q (.ref p) (upd H1 p (.tup xs))
def DY(t:TA):TE:=fun σ H Q=>t σ H fun xs H1=>xs.length≤sizeLine∧∀p,H1 p=none→Q (.ref p) (upd H1 p (.lst xs))
theorem tH{x1}(h:PA X es t):PE X (.Tuple es x1 pos) (DU t):=by
 intro pins s σ H Q I hq
 refine wpAny_Tuple_spliced (thn (h pos pins s σ H _ I hq) fun us s1 ⟨xs,H1,I1,r,z,q⟩=>⟨by rw[← r.length];exact z,?_⟩)
 have hf:H1 s1.heap.objs.size=none:=I1.hok.fresh (Nat.le_refl _)
 refine⟨.ref s1.heap.objs.size,upd H1 s1.heap.objs.size (.tup xs),I1.laid (t':=s1.toks) (fun b u e=>Heap.get?_push_of_some _ e) (Nat.le_refl _) ?_,rfl,q _ hf⟩
 exact⟨z,us,r,⟨_,Heap.get?_push_size _ rfl,rfl,_,rfl⟩⟩
theorem zk(h:PA X es t):PE X (.List es pos) (DY t):=by
 intro pins s σ H Q I hq
 refine wpAny_List_spliced (thn (h pos pins s σ H _ I hq) fun us s1 ⟨xs,H1,I1,r,z,q⟩=>⟨by rw[← r.length];exact z,?_⟩)
 have hf:H1 s1.heap.objs.size=none:=I1.hok.fresh (Nat.le_refl _)
 refine⟨.ref s1.heap.objs.size,upd H1 s1.heap.objs.size (.lst xs),I1.laid (t':=s1.toks) (fun b u e=>Heap.get?_push_of_some _ e) (Nat.le_refl _) ?_,rfl,q _ hf⟩
 exact⟨z,us,0,r,Heap.get?_push_size _ rfl⟩
end
abbrev Sp:=List V→Hp→VK→XK→Prop
abbrev CXT:=List Env→Hp→Shared→XK→Value→Shared→Prop
structure o9(P:Program)(w:World)(K:PySem.W.Frag)(mg:Str→Option Value)(base:Heap)(A:Around)(outer:List Env)(s:Shared)(H:Hp):Prop where
 frames:A.frames=some outer
 mod:Mod K mg base
 bs:∀b o,base.get? b=some o→s.heap.get? b=some o∧H b=none
 bsz:base.objs.size≤s.heap.objs.size
 funs:s.heap.FunFrames base outer
 frf:∀b∈frs outer,H b=none
 hok:HOk P w H s.heap
 bare:AllBare s.gens
def CE(outer:List Env)(P:Program)(w:World)(H:Hp)(s:Shared)(Q:VK)(u:Value)(s':Shared):Prop :=
 ∃v H',s'.os=s.os∧AllBare s'.gens∧Un (frs outer) [] H H' s.heap s'.heap∧HOk P w H' s'.heap∧bg v u∧Q v H'
def CR(CX:CXT)(outer:List Env)(P:Program)(w:World)(H:Hp)(s:Shared)(Q:VK)(E:XK)(r:Result)(s':Shared):Prop :=
 match r with
 | .ok (.ret u)=>CE outer P w H s Q u s'
 | .ok _=>False
 | .error e=>CX outer H s E e s'
structure cq(P:Program)(w:World)(K:PySem.W.Frag)(mg:Str→Option Value)(base:Heap)(CX:CXT)(k:Nat)(f:Addr)(fd:FuncData)(ps:List Str)(sp:Sp):Prop where
 len:∀vs H Q E,sp vs H Q E→vs.length=ps.length
 run:∀(A:Around) (outer:List Env) (s:Shared) (H:Hp) (args:Args) (us:List Value) (vs:List V) (Q:VK) (E:XK),cT k A→o9 P w K mg base A outer s H→BindsTo s fd args (ps.zip us)→aH vs us→sp vs H Q E →
  codeAny (model P w) A (.call (.ref f) args) (CR CX outer P w H s Q E) s
theorem cq.mono{P:Program}{w:World}{K:PySem.W.Frag}{mg:Str→Option Value}{base:Heap}{CX:CXT}{j k:Nat}{f:Addr}{fd:FuncData}{ps:List Str}{sp:Sp}(F:cq P w K mg base CX j f fd ps sp)(h:j≤k) :
  cq P w K mg base CX k f fd ps sp:=⟨F.len,fun A outer s H args us vs Q E hr=>F.run A outer s H args us vs Q E (hr.mono h)⟩
theorem cq.imp{P:Program}{w:World}{K:PySem.W.Frag}{mg:Str→Option Value}{base:Heap}{CX:CXT}{k:Nat}{f:Addr}{fd:FuncData}{ps:List Str}{sp sp':Sp}(F:cq P w K mg base CX k f fd ps sp)
  (h:∀vs H Q E,sp' vs H Q E→sp vs H Q E):cq P w K mg base CX k f fd ps sp' :=
 ⟨fun vs H Q E q=>F.len vs H Q E (h _ _ _ _ q),fun A outer s H args us vs Q E hr he hb hv hs=>F.run A outer s H args us vs Q E hr he hb hv (h _ _ _ _ hs)⟩
theorem o9.make{P:Program}{w:World}{K:PySem.W.Frag}{mg:Str→Option Value}{base:Heap}{A:Around}{outer:List Env}{s:Shared}{H:Hp}(e:o9 P w K mg base A outer s H)(C:Addr)(us:List Value)(kw:List (Str×Value)) :
  o9 P w K mg base (A.under (.builtin "type.__call__" ⟨.ref C::us,kw⟩)) outer s H:=⟨by first | exact e.frames |(simpa[Around.under,Code.envs,Code.isFrame,pushEnvs]using e.frames),e.mod,e.bs,e.bsz,e.funs,e.frf,e.hok,e.bare⟩
section
variable{X:Cx}{pins:List (Addr×Obj)}{σ:St}{H:Hp}{s s':Shared}
theorem Inv.env0(I:Inv X pins σ H s):o9 X.prog X.w X.K X.mg X.base X.A X.stack s H :=
 ⟨I.ok.frames,I.ok.mod,I.bs,Nat.le_trans I.ok.bsz I.sz,I.stack,I.stkFree,I.hok,I.bare⟩
theorem Inv.after{Q:VK}{u:Value}(I:Inv X pins σ H s)(h:CE X.stack X.prog X.w H s Q u s'):EP X pins σ Q u s':=by
 obtain⟨v,H',os,bare,un,hok,r,q⟩:=h
 obtain⟨hh,g,d,t,os'⟩:=s'
 obtain rfl:os'=s.os:=os
 exact⟨v,H',I.call (h':=hh) (g':=g) (d':=d) (t':=t) (ch:=[]) un hok bare (fun b z=>absurd z (by simp)),r,q⟩
end
def dJ(K:PySem.W.Frag)(fd:FuncData)(ps:List Str)(ds:List Value):Prop :=
 ∀(s:Shared) (us:List Value),K.In s.heap→(us++ds).length=ps.length→BindsTo s fd ⟨us,[]⟩ (ps.zip (us++ds))
theorem dJ.all{K:PySem.W.Frag}{fd:FuncData}{ps:List Str}(h:∀us:List Value,us.length=ps.length→bindArgs fd ⟨us,[]⟩=pure (ps.zip us)):dJ K fd ps []:=fun s us _ hl=>by
 rw[List.append_nil]at hl ⊢
 exact .of_eq (h us hl)
section
variable{X:Cx}{CX:CXT}{k:Nat}{f C:Addr}{fd:FuncData}{ps:List Str}{sp:Sp}{dvs:List V}{ds:List Value}{E:XK}{x m:Str}{p pos apos:Pos}{e o:Expr}{es:List Expr}{ta:TE}{t:TA}
structure Mk(K:PySem.W.Frag)(C f:Addr):Prop where
 makes:PySem.W.makesIn K C=true
 init:PySem.W.findIn K (.ref C) "__init__" = some (some (.ref f))
 fn:PySem.W.isFn K (.ref f)=true
 kp:PySem.W.keepIn K (.ref C)=true
end
def PK(X:Cx)(kws:List Keyword)(t:TA):Prop :=
 ∀(pos:Pos) (pins:List (Addr×Obj)) (s:Shared) (σ:St) (H:Hp) (Q:List V→Hp→Prop),Inv X pins σ H s→t σ H Q→wpAny (model X.prog X.w) X.A (evalAll ((backToKw pos (keywordEach kws X.env)).map (·.2))) (AP X pins σ Q) X.xe s
section
variable{X:Cx}{CX:CXT}{k:Nat}{f C:Addr}{fd:FuncData}{ps ks:List Str}{sp:Sp}{E:XK}{x m:Str}{p pos apos kpos:Pos}{e o:Expr}{es:List Expr}{kws:List Keyword}{te ta:TE}{t tk:TA}{nm:Option Str}
theorem tq:PK X [] yK:=fun _ _ _ _ H Q I h=>wpAny_evalAll_nil ⟨[],H,I,.nil,h⟩
theorem pI(ha:PE X e te)(hr:PK X kws t):PK X (⟨nm,e,kpos⟩::kws) (ph te t):=by
 intro pos pins s σ H Q I h
 show wpAny _ _ (evalAll ((do let v ← eval e X.env;standAt pos;pure v)::(backToKw pos (keywordEach kws X.env)).map (·.2))) _ _ s
 refine wpAny_evalAll_cons (wpAny_bind (thn (ha pins s σ H _ I h) fun u s1 ⟨x,H1,I1,r1,q1⟩=>wpAny_bind (wpAny_standAt (wpAny_pure ?_))))
 exact thn (hr pos pins s1 σ H1 _ I1 q1) fun us s2 ⟨xs,H2,I2,r2,q2⟩=>⟨x::xs,H2,I2,.cons r1 r2,q2⟩
structure EA(K:PySem.W.Frag)(fd:FuncData)(ps ks:List Str)(g:List Value→List Value→List Value)(gV:List V→List V→List V):Prop where
 to:∀(s:Shared) (us ws:List Value),K.In s.heap→(g us ws).length=ps.length→BindsTo s fd ⟨us,ks.zip ws⟩ (ps.zip (g us ws))
 rel:∀{vs:List V}{us:List Value}{zs:List V}{ws:List Value},aH vs us→aH zs ws→aH (gV vs zs) (g us ws)
variable{g:List Value→List Value→List Value}{gV:List V→List V→List V}
end
structure du(N P:List Str)(sc:Scope):Prop where
 kind:sc.kind=.function
 co:sc.isCoroutine=false
 gen:sc.isGenerator=false
 nd:N.Nodup
 pre:N.take P.length=P
 par:∀x∈P,sc.names.lookup x=some .local∨sc.names.lookup x=some .cell
 nofree:∀y∈sc.names,y.2≠.free
theorem kY{kindOf:Str→Option NameKind}{x:Str}:∀{binds:List (Str×Value)}{m:Str→Option Value},(∀v,(x,v)∉ binds)→bindL kindOf binds m x=m x
 | [],_,_=>rfl
 |(n,v)::r,m,h=>by
  unfold bindL
  rw[kY fun w hw=>h w (List.mem_cons_of_mem _ hw)]
  split
  ·have:x≠n:=by rintro rfl;exact h v List.mem_cons_self
   simp[this]
  ·rfl
theorem k6{kindOf:Str→Option NameKind}{x:Str}:∀{binds:List (Str×Value)}{m:Str→Option Value},(∀v,(x,v)∉ binds)→bindC kindOf binds m x=m x
 | [],_,_=>rfl
 |(n,v)::r,m,h=>by
  unfold bindC
  rw[k6 fun w hw=>h w (List.mem_cons_of_mem _ hw)]
  split
  ·rfl
  ·have:x≠n:=by rintro rfl;exact h v List.mem_cons_self
   simp[this]
theorem kZ{kindOf:Str→Option NameKind}{x:Str}{v:Value}:∀{P:List Str}{vs:List Value}{i:Nat}{m:Str→Option Value},P.Nodup→P[i]?=some x→vs[i]?=some v→kindOf x=some .local →
  bindL kindOf (P.zip vs) m x=some v
 | [],_,_,_,_,h,_,_=>by simp at h
 | _::_,[],_,_,_,_,h,_=>by simp at h
 | p::P,w::vs,0,m,nd,h1,h2,hk=>by
  simp at h1 h2;subst h1;subst h2
  show bindL kindOf ((p,w)::P.zip vs) m p=_
  unfold bindL
  rw[kY fun v hv=>(List.nodup_cons.mp nd).1 (List.of_mem_zip hv).1,if_pos hk]
  simp
 | p::P,w::vs,i+1,m,nd,h1,h2,hk=>by
  show bindL kindOf ((p,w)::P.zip vs) m x=_
  unfold bindL
  exact kZ (i:=i) (List.nodup_cons.mp nd).2 (by simpa using h1) (by simpa using h2) hk
theorem k7{kindOf:Str→Option NameKind}{x:Str}{v:Value}:∀{P:List Str}{vs:List Value}{i:Nat}{m:Str→Option Value},P.Nodup→P[i]?=some x→vs[i]?=some v→kindOf x≠some .local →
  bindC kindOf (P.zip vs) m x=some v
 | [],_,_,_,_,h,_,_=>by simp at h
 | _::_,[],_,_,_,_,h,_=>by simp at h
 | p::P,w::vs,0,m,nd,h1,h2,hk=>by
  simp at h1 h2;subst h1;subst h2
  show bindC kindOf ((p,w)::P.zip vs) m p=_
  unfold bindC
  rw[k6 fun v hv=>(List.nodup_cons.mp nd).1 (List.of_mem_zip hv).1,if_neg hk]
  simp
 | p::P,w::vs,i+1,m,nd,h1,h2,hk=>by
  show bindC kindOf ((p,w)::P.zip vs) m x=_
  unfold bindC
  exact k7 (i:=i) (List.nodup_cons.mp nd).2 (by simpa using h1) (by simpa using h2) hk
def start(N:List Str)(vs:List V):St:=vs.map some++List.replicate (N.length - vs.length) none
def dO(CX:CXT)(P:Program)(w:World)(K:PySem.W.Frag)(mg:Str→Option Value)(base:Heap)(N:List Str)(qual:Str)(scope:Scope)(f:Addr)(cd:Value)(A:Around)(outer:List Env)(s:Shared)(H:Hp)(E:XK):Cx where
 prog:=P
 w:=w
 K:=K
 mg:=mg
 base:=base
 A:=A.deeper (envOfC qual scope s.heap.objs.size f cd)
 N:=N
 s₀:=s
 H₀:=H
 env:=envOfC qual scope s.heap.objs.size f cd
 outer:=outer
 stack:=envOfC qual scope s.heap.objs.size f cd::outer
 ex:=[]
 calm:=true
 fn:=fun _=>true
 pn:=[]
 xe:=fun e s'=>wpAny (model P w) (A.deeper (envOfC qual scope s.heap.objs.size f cd)) (leaving (envOfC qual scope s.heap.objs.size f cd) e) (fun _ s''=>CX outer H s E e s'') (fun e' s''=>CX outer H s E e' s'') s'
theorem nT{sc:Scope}{n:Nat}{x:Str}(h:sc.names.lookup x=some .cell):∃c,(cellsFrom n sc.names []).lookup x=some c:=by
 have q:=PySem.W.cellsFrom_some sc.names n [] (.inl h)
 exact Option.isSome_iff_exists.mp q
theorem rG{CX:CXT}{P:Program}{w:World}{K:PySem.W.Frag}{mg:Str→Option Value}{base:Heap}{N ps:List Str}{qual:Str}{scope:Scope}{f:Addr}{cd:Value}{A:Around}{outer:List Env}{s s1:Shared}{H:Hp}{E:XK}{us:List Value}{vs:List V}
  (S:du N ps scope) (hd:A.handled=none) (e0:o9 P w K mg base A outer s H) (hl:vs.length=ps.length) (r:aH vs us)
  (x:InCallC s s.heap.objs.size (bindL (envOfC qual scope s.heap.objs.size f cd).kindOf (ps.zip us) fun _=>none) (cellsFrom (s.heap.objs.size+1) scope.names []) (bindC (envOfC qual scope s.heap.objs.size f cd).kindOf (ps.zip us) fun _=>none) s1) :
  Inv (dO CX P w K mg base N qual scope f cd A outer s H E) [] (start N vs) H s1:=by
 have hpl:ps.length≤N.length:=by have:=congrArg List.length S.pre;rw[List.length_take]at this;omega
 obtain⟨h1,tk,rfl,hk⟩:=x.done
 have noA:∀b:Addr,b ∉(dO CX P w K mg base N qual scope f cd A outer s H E).ex:=fun b z=>absurd (show b ∈([]:List Addr)from z) (by simp)
 refine ⟨⟨e0.mod,S.kind,rfl,rfl,Nat.le_refl _,fun y z c h1 h2=>?_,fun y hy=>?_,fun y c _ h=>?_,fun _=>hd,Around.frames_deeper e0.frames,.inr ⟨rfl,rfl⟩,fun b z=>absurd z (noA b),e0.bs,e0.bsz,fun b _ _=>noA b,fun b z=>absurd z (noA b),e0.funs,e0.frf⟩,
  rfl,e0.bare,Un.kept hk,⟨_,x.toInCall.ns,fun i y v h1 h2 h3=>?_⟩,fun y c h=>⟨_,x.cell y c h⟩,e0.hok.fresh (Nat.le_refl _),fun y c h=>?_,fun p hp=>absurd (show p ∈([]:List (Addr×Obj))from hp) (by simp),e0.hok.kept hk,?_⟩
 ·exact name_of_addr x.apart (PySem.mem_of_lookup h1) (PySem.mem_of_lookup h2)
 ·have hy:scope.names.lookup y=some .cell∨scope.names.lookup y=some .free:=hy
  rcases hy with hy | hy
  ·exact nT hy
  ·exact absurd rfl (S.nofree _ (PySem.mem_of_lookup hy))
 ·exact Nat.le_of_lt (x.above y c (PySem.mem_of_lookup h))
 ·have hi:i < vs.length:=by
   unfold start at h2
   by_cases hi:i < vs.length
   ·exact hi
   ·rw[List.getElem?_append_right (by simpa using hi)]at h2
    rw[List.getElem?_replicate]at h2
    split at h2<;>cases h2
  have ha:vs[i]?=some v:=by
   unfold start at h2
   rw[List.getElem?_append_left (by simpa using hi),List.getElem?_map]at h2
   cases e:vs[i]? with
   | none=>rw[e]at h2;cases h2
   | some a=>rw[e]at h2;cases h2;rfl
  obtain⟨u,hu,rv⟩:=r.get ha
  have hp:ps[i]?=some y:=by
   rw[← S.pre,List.getElem?_take_of_lt (by omega)];exact h1
  have ndP:ps.Nodup:=by rw[← S.pre];exact S.nd.sublist (List.take_sublist _ _)
  refine⟨u,rv,?_⟩
  rcases S.par y (List.mem_of_getElem? hp)with k | k
  ·exact .inl ⟨k,kZ ndP hp hu k⟩
  ·obtain⟨c,e⟩:=nT (n:=s.heap.objs.size+1) k
   refine .inr ⟨.inl k,c,e,?_⟩
   have q:=x.cell y c e
   rw[k7 ndP hp hu (by show scope.names.lookup y≠_;rw[k];decide)]at q
   exact q
 ·exact e0.hok.fresh (Nat.le_of_lt (x.above y c (PySem.mem_of_lookup h)))
 ·unfold start
  show _=N.length
  rw[List.length_append,List.length_map,List.length_replicate]
  omega
theorem uH{CX:CXT}{P:Program}{w:World}{K:PySem.W.Frag}{mg:Str→Option Value}{base:Heap}{k:Nat}{f:Addr}{name qual:Str}{params:Arguments}{body:List Stmt}{scope:Scope}{dV kV doc pm cdv ct oc:Value}{an od:Option Addr}
  {osl:Array (Option Value)}{N ps:List Str}{sp:Sp} (lk:K.lookup f=some ⟨oc,od,.func (PySem.W.fnOf name qual params body scope dV kV doc pm an cdv ct),osl⟩) (hcd:PySem.W.codeIn K cdv qual=true) (S:du N ps scope)
  (len:∀vs H Q E,sp vs H Q E→vs.length=ps.length)
  (hbody:∀ (A:Around) (outer:List Env) (s:Shared) (H:Hp) (vs:List V) (Q:VK) (E:XK),cT k (A.deeper (envOfC qual scope s.heap.objs.size f cdv))→sp vs H Q E →
   ∃t,PSs (dO CX P w K mg base N qual scope f cdv A outer s H E) body t∧t { nx:=fun _ H'=>Q .non H',rt:=Q } (start N vs) H) :
  cq P w K mg base CX (k+1) f (PySem.W.fnOf name qual params body scope dV kV doc pm an cdv ct) ps sp:=by
 refine⟨len,fun A outer s H args us vs Q E hr e0 hb r hsp=>?_⟩
 have hl:=len _ _ _ _ hsp
 have KX:K.In s.heap:=e0.mod.kin.keeps fun b o e=>(e0.bs b o e).1
 have lim:s.heap.NoLimit:=e0.mod.nolimit.keeps fun b o e=>(e0.bs b o e).1
 have hkind:∀y∈ps.zip us,scope.names.lookup y.1=some .local ∨(scope.names.lookup y.1=some .cell∧((cellsFrom (s.heap.objs.size+1) scope.names []).lookup y.1).isSome=true):=fun⟨n,v⟩ hy=>by
  rcases S.par n (List.of_mem_zip hy).1 with q | q
  ·exact .inl q
  ·exact .inr ⟨q,PySem.W.cellsFrom_some _ _ _ (.inl q)⟩
 refine codeAny_call_function hr.depth (KX _ _ lk) rfl S.co S.gen rfl (PySem.W.codeRec_of KX hcd) (hb _ _ _ _ ?_)
 refine wpAny_newFunctionEnv_cells S.kind hkind fun env he s1 x=>?_
 subst he
 refine⟨lim.keeps x.toInCall.keep,codeAny_func ?_⟩
 obtain⟨t,ht,hq⟩:=hbody A outer s H vs Q E (hr.deeper _) hsp
 have I:Inv (dO CX P w K mg base N qual scope f cdv A outer s H E) [] (start N vs) H s1:=rG S hr.hd e0 hl r x
 refine wpAny_mono (ht [] s1 (start N vs) H _ I hq) (fun fl s' hs=>?_) fun e s' hs=>hs
 have fin:∀{σ':St}{H':Hp}{v:V}{u:Value},Inv (dO CX P w K mg base N qual scope f cdv A outer s H E) [] σ' H' s'→bg v u→Q v H'→CE outer P w H s Q u s' :=
  fun {σ' H' v u} J rv q=>⟨v,H',J.os,J.bare,J.base,J.hok,rv,q⟩
 cases fl with
 | ret u =>
  obtain⟨v,σ',H',J,rv,q⟩:=hs
  exact fin J rv q
 | next =>
  obtain⟨σ',H',J,q⟩:=hs
  exact fin (v:=V.non) (u:=Value.none) J rfl q
 | brk =>
  obtain⟨_,_,_,q⟩:=hs
  exact False.elim q
 | cont =>
  obtain⟨_,_,_,q⟩:=hs
  exact False.elim q
end L2
namespace L2
open PySem PySem.Spec PyProof.Rows
section
variable{X:Cx}{x:Str}{p pos:Pos}{e:Expr}{es:List Expr}{t:TA}{id T:String}{r:List V→Hp→VK→Prop}
def tCB(r:List V→Hp→VK→Prop)(t:TA):TE:=fun σ H Q=>t σ H fun vs H1=>r vs H1 Q
theorem jC(hc:cW X (.builtin id) r)(hg:Gl X x)(hm:X.mg x=none)(hv:bootBuiltins x=some (.builtin id))(ha:PA X (e::es) t)(hn:x≠"__name__" := by decide)(hdb:(x ==("__debug__" : Str))=false:=by decide)
  (he:starEach (e::es) X.env=(false,eval e X.env)::starEach es X.env:=by rfl) (hpl:(backTo pos (starEach es X.env)).any (·.1)=false:=by rfl):PE X (.Call (.Name x p) (e::es) [] pos) (tCB r t):=by
 intro pins s σ H Q I h
 refine wpAny_Call_Name_kw (eH I hg hm hv ?_ hn hdb)
 exact PyProof.Rows.callWith_builtin1 (thn (ha pos pins s σ H _ I h) fun us s1 ⟨vs,H1,I1,r1,q1⟩=>hc pins s1 σ H1 vs us Q I1 r1 q1) he hpl
theorem kx(hc:cW X (.type T) r)(hg:Gl X x)(hm:X.mg x=none)(hv:bootBuiltins x=some (.type T))(ha:PA X (e::es) t)(hn:x≠"__name__" := by decide)(hdb:(x ==("__debug__" : Str))=false:=by decide)
  (he:starEach (e::es) X.env=(false,eval e X.env)::starEach es X.env:=by rfl) (hpl:(backTo pos (starEach es X.env)).any (·.1)=false:=by rfl):PE X (.Call (.Name x p) (e::es) [] pos) (tCB r t):=by
 intro pins s σ H Q I h
 refine wpAny_Call_Name_kw (eH I hg hm hv ?_ hn hdb)
 exact PyProof.Rows.callWith_type1 (thn (ha pos pins s σ H _ I h) fun us s1 ⟨vs,H1,I1,r1,q1⟩=>hc pins s1 σ H1 vs us Q I1 r1 q1) he hpl
end
end L2
namespace HT
open PySem PyProof.Rows
section
open PySem.SeqAt
open PySem.AutoSeq1 (wpAny_loadPart')
open PySem.MeetsSeq PySem.MeetsSeq2 PySem.MeetsSeq3
end
section
variable{prog:Program}{w:World}{A:Around}{E:Value→Shared→Prop}{s:Shared}
def sIx(n d:Nat):Option Int→Nat
 | none=>d
 | some v=>if v < 0 then(v+(n:Int)).toNat else min v.toNat n
theorem sIx_none(n d:Nat):sIx n d none=d:=rfl
theorem sIx_nat(n d k:Nat):sIx n d (some (k:Int))=min k n:=by
 show(if(k:Int) < 0 then((k:Int)+(n:Int)).toNat else min (k:Int).toNat n)=min k n
 rw[if_neg (by omega),Int.toNat_natCast]
end
end HT
namespace L2
open PySem PySem.Spec PyProof.Rows
abbrev TO:=St→Hp→(Option Int→Hp→Prop)→Prop
def PO(X:Cx)(e:Option Expr)(t:TO):Prop :=
 ∀(pins:List (Addr×Obj)) (s:Shared) (σ:St) (H:Hp) (Q:Option Int→Hp→Prop),Inv X pins σ H s→t σ H Q →
  wpAny (model X.prog X.w) X.A (evalPart e X.env) (fun u s'=>∃o H',Inv X pins σ H' s'∧IsPart u o∧Q o H') X.xe s
def v8:TO:=fun _ H Q=>Q none H
def BT(t:TE):TO:=fun σ H Q=>t σ H fun x H1=>∃i,x=.int i∧Q (some i) H1
section
variable{X:Cx}{e:Expr}{te:TE}{lo hi:Option Expr}{tl th:TO}{pos p2:Pos}
theorem wR:PO X none v8:=by
 intro pins s σ H Q I h
 rw[evalPart_none]
 exact wpAny_pure ⟨none,H,I,.none,h⟩
theorem wQ(h:PE X e te):PO X (some e) (BT te):=by
 intro pins s σ H Q I hw
 rw[evalPart_some]
 refine thn (h pins s σ H _ I hw) fun u s1 ⟨x,H1,I1,r1,q1⟩=>?_
 obtain⟨i,rfl,q⟩:=q1
 obtain⟨t,rfl⟩:=r1
 exact⟨some i,H1,I1,.int i t,q⟩
def SlR(X:Cx)(r:V→Option Int→Option Int→Hp→VK→Prop):Prop :=
 ∀(pins:List (Addr×Obj)) (s:Shared) (σ:St) (H:Hp) (x:V) (v vl vu:Value) (lo hi:Option Int) (sl:Addr) (Q:VK),Inv X pins σ H s→bg x v→s.heap.IsSliceOf sl vl vu .none→IsPart vl lo→IsPart vu hi→r x lo hi H Q →
  ∃T id,typeLookup (.type T) "__getitem__" = pure (some (.builtin id))∧s.TypeIs v T∧wpAny (model X.prog X.w) X.A (getItem v (.ref sl)) (EP X pins σ Q) X.xe s
def tSl(r:V→Option Int→Option Int→Hp→VK→Prop)(te:TE)(tl th:TO):TE:=fun σ H Q=>te σ H fun x H1=>tl σ H1 fun l H2=>th σ H2 fun u H3=>r x l u H3 Q
theorem tJ{r:V→Option Int→Option Int→Hp→VK→Prop}(hr:SlR X r)(he:PE X e te)(hl:PO X lo tl)(hu:PO X hi th):PE X (.Subscript e (.Slice lo hi none p2) pos) (tSl r te tl th):=by
 intro pins s σ H Q I h
 refine Subscript_ (thn (he pins s σ H _ I h) fun v s1 ⟨x,H1,I1,r1,q1⟩=>?_)
 refine wpAny_Slice (thn (hl pins s1 σ H1 _ I1 q1) fun vl s2 ⟨l,H2,I2,pl,q2⟩=>thn (hu pins s2 σ H2 _ I2 q2) fun vu s3 ⟨u,H3,I3,pu,q3⟩=>?_)
 rw[evalPart_none]
 refine wpAny_pure ?_
 have I4:Inv X pins σ H3 { s3 with heap:=s3.heap.push { cls:=.type "slice", data:=.fields #[vl,vu,.none] } }:=I3.kept (t':=s3.toks) fun b ob q=>Heap.get?_push_of_some _ q
 obtain⟨T,id,hT,ht,hg⟩:=hr pins { s3 with heap:=s3.heap.push { cls:=.type "slice", data:=.fields #[vl,vu,.none] } } σ H3 x v vl vu l u s3.heap.objs.size Q I4 r1 (Heap.IsSliceOf.new ..) pl pu q3
 show wpAny (model X.prog X.w) X.A (subscriptTail e (.Slice lo hi none p2) v (.ref s3.heap.objs.size)) (EP X pins σ Q) X.xe { s3 with heap:=s3.heap.push { cls:=.type "slice", data:=.fields #[vl,vu,.none] } }
 exact tail_any (ops:=[.ref s3.heap.objs.size,v]) ht hT hg (by with_unfolding_all rfl)
def vf(xs:List V)(lo hi:Option Int):List V:=(xs.drop (HT.sIx xs.length 0 lo)).take (HT.sIx xs.length xs.length hi - HT.sIx xs.length 0 lo)
theorem nR(xs:List V)(lo hi:Option Int):(vf xs lo hi).length≤xs.length:=by
 unfold vf
 rw[List.length_take,List.length_drop]
 omega
end
end L2
namespace L2
open PySem PySem.Spec PyProof.Rows
def ixN(n:Nat)(i:Int):Option Nat:=if 0≤i then(if i < n then some i.toNat else none)else if -(n:Int)≤ i then some (i+n).toNat else none
def atI{α:Type}(xs:List α)(i:Int):Option α:=(ixN xs.length i).bind fun j=>xs[j]?
theorem p0{n:Nat}{i:Int}{j:Nat}(h:ixN n i=some j):seqIndex? i n=some j∧j < n∧-(n:Int)≤ i∧i < n:=by
 unfold ixN at h
 by_cases h0:0≤i
 ·rw[if_pos h0]at h
  by_cases h1:i < n
  ·rw[if_pos h1]at h
   have e:i.toNat=j:=Option.some.inj h
   exact⟨by rw[seqIndex_of h0 h1,e],by omega,by omega,h1⟩
  ·rw[if_neg h1]at h;cases h
 ·rw[if_neg h0]at h
  by_cases h1:-(n:Int)≤ i
  ·rw[if_pos h1]at h
   have e:(i+n).toNat=j:=Option.some.inj h
   exact⟨by rw[seqIndex_neg (by omega) h1,e],by omega,h1,by omega⟩
  ·rw[if_neg h1]at h;cases h
theorem mf{α:Type}{xs:List α}{i:Int}{v:α}(h:atI xs i=some v):∃j,seqIndex? i xs.length=some j∧xs[j]?=some v∧j < xs.length∧-(xs.length:Int)≤ i∧i < xs.length:=by
 unfold atI at h
 cases e:ixN xs.length i with
 | none=>rw[e]at h;cases h
 | some j =>
  rw[e]at h
  obtain⟨h1,h2,h3,h4⟩:=p0 e
  exact⟨j,h1,h,h2,h3,h4⟩
theorem atI_last{α:Type}(xs:List α)(v:α):atI (xs++[v]) (-1)=some v:=by
 have hl:(xs++[v]).length=xs.length+1:=by simp
 have e:ixN (xs++[v]).length (-1)=some xs.length:=by
  unfold ixN
  rw[hl,if_neg (by decide),if_pos (by omega)]
  congr 1
  omega
 unfold atI
 rw[e]
 show(xs++[v])[xs.length]?=some v
 simp
def fG(b:Expr):Prop:=∀o i,subscripted b false o i=operate [o,i] (getItem o i)
def IxR(X:Cx)(r:R2):Prop :=
 ∀(value slice:Expr) (pins:List (Addr×Obj)) (s:Shared) (σ:St) (H:Hp) (x y:V) (v u:Value) (Q:VK),Inv X pins σ H s→bg x v→bg y u→r x y H Q →
  subscripted slice false v u=operate [v,u] (getItem v u)→wpAny (model X.prog X.w) X.A (subscriptTail value slice v u) (EP X pins σ Q) X.xe s
def MtR(X:Cx)(id:String)(r:V→List V→Hp→VK→Prop):Prop :=
 ∀(pins:List (Addr×Obj)) (s:Shared) (σ:St) (H:Hp) (x:V) (xs:List V) (v:Value) (us:List Value) (Q:VK),Inv X pins σ H s→bg x v→aH xs us→r x xs H Q →
  wpAny (model X.prog X.w) X.A (call (.builtin id) (v::us)) (EP X pins σ Q) X.xe s
section
variable{X:Cx}{a b:Expr}{ta tb:TE}{pos:Pos}
theorem IxR.or{r r':R2}(h:IxR X r)(h':IxR X r'):IxR X (fun x y H Q=>r x y H Q∨r' x y H Q):=by
 intro value slice pins s σ H x y v u Q I rx ry q hs
 rcases q with q | q
 ·exact h value slice pins s σ H x y v u Q I rx ry q hs
 ·exact h' value slice pins s σ H x y v u Q I rx ry q hs
theorem tL{r:R2}(hr:IxR X r)(ha:PE X a ta)(hb:PE X b tb)(hs:fG b):PE X (.Subscript a b pos) (tOp r ta tb):=by
 intro pins s σ H Q I h
 exact Subscript_ (AM ha hb I h fun v u s2 x y H2 I2 rx ry q=>hr a b pins s2 σ H2 x y v u Q I2 rx ry q (hs _ _))
def wH(K:PySem.W.Frag):R2:=fun x y H Q=>∃p xs i v,x=.ref p∧y=.int i∧SqL K H p xs∧atI xs i=some v∧Q v H
def wF(K:PySem.W.Frag):R2:=fun x y H Q=>∃p xs i v,x=.ref p∧y=.int i∧SqT K H p xs∧atI xs i=some v∧Q v H
def wG:R2:=fun x y H Q=>∃z i c,x=.str z∧y=.int i∧z.length≤sizeLine∧atI z.cps.toList i=some c∧Q (.str ⟨#[c]⟩) H
theorem xC:IxR X (wH X.K):=by
 intro value slice pins s σ H x y v u Q I rx ry h hs
 obtain⟨p,xs,i,z,rfl,rfl,hq,he,q⟩:=h
 cases rx
 obtain⟨t,rfl⟩:=ry
 obtain⟨its,r,pl,hz⟩:=I.list hq
 obtain⟨j,h1,h2,h3,h4,h5⟩:=mf he
 obtain⟨w,ew,rw'⟩:=r.get h2
 have hl:=r.length
 have hn:=iN
 have fin:EP X pins σ Q w s:=⟨z,H,I,rw',q⟩
 by_cases h0:0≤i
 ·have hj:i.toNat=j:=by
   rw[seqIndex_of h0 h5]at h1
   exact Option.some.inj h1
  exact item_listR pl.isList h0 (by omega) (by rw[hj];simpa using ew) fin hs
 ·have hj:(i+(its.toArray.size:Int)).toNat=j:=by
   rw[seqIndex_neg (by omega) h4]at h1
   rw[List.size_toArray,← hl]
   exact Option.some.inj h1
  exact subscriptTail_builtinR (x:=w) pl.isList.typeIs slot_list_getitem.lookup
   (wpAny_getItem_list_neg (Q:=fun r s'=>r=w∧EP X pins σ Q r s') pl.isList (by omega) (by rw[List.size_toArray]<;>omega) (by omega) (by rw[hj];simpa using ew) ⟨rfl,fin⟩) hs
theorem z_:IxR X (wF X.K):=by
 intro value slice pins s σ H x y v u Q I rx ry h hs
 obtain⟨p,xs,i,z,rfl,rfl,hq,he,q⟩:=h
 cases rx
 obtain⟨t,rfl⟩:=ry
 obtain⟨its,r,pl,hz⟩:=I.tuple hq
 obtain⟨j,h1,h2,h3,h4,h5⟩:=mf he
 obtain⟨w,ew,rw'⟩:=r.get h2
 have hl:=r.length
 have hn:=iN
 have fin:EP X pins σ Q w s:=⟨z,H,I,rw',q⟩
 exact subscriptTail_builtinR (x:=w) pl.typeIs slot_tuple_getitem.lookup
  (getItem_tuple (j:=j) (Q:=fun r s'=>r=w∧EP X pins σ Q r s') pl (by omega) (by omega) (by rw[List.size_toArray,← hl];exact h1) (by simpa using ew) ⟨rfl,fin⟩) hs
theorem Aa:IxR X wG:=by
 intro value slice pins s σ H x y v u Q I rx ry h hs
 obtain⟨z,i,c,rfl,rfl,hz,he,q⟩:=h
 obtain⟨t,rfl⟩:=rx
 obtain⟨t',rfl⟩:=ry
 obtain⟨j,h1,h2,h3,h4,h5⟩:=mf he
 have hl:z.cps.toList.length=z.length:=by simp[Str.length]
 rw[hl]at h1 h4 h5
 have hn:=iN
 exact tail_any (typeIs_str s z t) slot_str_getitem.lookup (getItem_str (c:=c) (by
  have e1:decide (i < -(2 ^ 63:Int))=false:=decide_eq_false (by omega)
  have e2:decide (i ≥ 2 ^ 63)=false:=decide_eq_false (by omega)
  rw[e1,e2,Bool.or_false]) (by rw[h1];simpa using h2) ⟨.str ⟨#[c]⟩,H,I.tok _,⟨_,rfl⟩,q⟩) hs
def rIx(K:PySem.W.Frag):R2:=fun x y H Q=>wH K x y H Q∨wF K x y H Q∨wG x y H Q
theorem lR:IxR X (rIx X.K):=xC.or (z_.or Aa)
theorem oM(its:List Value)(n j:Nat)(u:Value):Obj.mapSeq (·.setIfInBounds j u) { cls:=.type "list", data:=.seq its.toArray n }={ cls:=.type "list", data:=.seq (its.set j u).toArray n }:=by
 simp[Obj.mapSeq]
theorem Inv.lst{pins:List (Addr×Obj)}{σ:St}{H:Hp}{s:Shared}{p:Addr}{xs:List V}(I:Inv X pins σ H s)(h:H p=some (.lst xs)) :
  ∃(its:List Value) (n:Nat),aH xs its∧s.heap.get? p=some { cls:=.type "list", data:=.seq its.toArray n }∧xs.length≤sizeLine:=by
 obtain⟨z,its,n,r,e⟩:=I.hok p _ h
 exact⟨its,n,r,e,z⟩
theorem Inv.lstUpd{pins:List (Addr×Obj)}{σ:St}{H:Hp}{s:Shared}{p:Addr}{xs ys:List V}{its its':List Value}{n n':Nat}{f:Obj→Obj}(I:Inv X pins σ H s)(h:H p=some (.lst xs))
  (ho:s.heap.get? p=some { cls:=.type "list", data:=.seq its.toArray n }) (hf:f { cls:=.type "list", data:=.seq its.toArray n }={ cls:=.type "list", data:=.seq its'.toArray n' }) (r:aH ys its') (hz:ys.length≤sizeLine) (t:Nat) :
  Inv X pins σ (upd H p (.lst ys)) { s with heap:=s.heap.update p f,toks:=t }:=by
 have e:(s.heap.update p f).get? p=some { cls:=.type "list", data:=.seq its'.toArray n' }:=by
  rw[Heap.get?_update_self f ho (by rw[hf]<;>rfl),hf]
 refine I.write (x:=p) (e:=p) (by rw[h];trivial) (.inl rfl) (fun b u hb q=>(Heap.get?_update_other _ _ (Ne.symm hb)).trans q) ⟨_,e⟩ ?_
 exact⟨hz,its',n',r,e⟩
def B4:V→V→V→Hp→(Hp→Prop)→Prop:=fun o i v H Q=>∃p xs k j,o=.ref p∧i=.int k∧H p=some (.lst xs)∧ixN xs.length k=some j∧Q (upd H p (.lst (xs.set j v)))
theorem sJ:Dh X B4:=by
 intro pins s σ H o i v ov iv u Q I ro ri rv h
 obtain⟨p,xs,k,j,rfl,rfl,hp,hj,q⟩:=h
 cases ro
 obtain⟨t,rfl⟩:=ri
 obtain⟨its,n,r,ho,hz⟩:=I.lst hp
 obtain⟨h1,h2,h3,h4⟩:=p0 hj
 have hl:=r.length
 have hn:=iN
 have I':Inv X pins σ (upd H p (.lst (xs.set j v))) { s with heap:=s.heap.update p (Obj.mapSeq (·.setIfInBounds j u)) } :=
  I.lstUpd hp ho (oM its n j u) (r.set rv j) (by rw[List.length_set];exact hz) s.toks
 by_cases h0:0≤k
 ·have hk:k.toNat=j:=by
   rw[seqIndex_of h0 h4]at h1
   exact Option.some.inj h1
  exact PySem.W.ki_setAt ho h0 (by omega) (by rw[List.size_toArray,← hl];exact h4) (by rw[hk];exact⟨_,I',q⟩)
 ·have hk:(k+(its.toArray.size:Int)).toNat=j:=by
   rw[seqIndex_neg (by omega) h3]at h1
   rw[List.size_toArray,← hl]
   exact Option.some.inj h1
  exact PySem.W.ki_setBack ho (by omega) (by rw[List.size_toArray,← hl];exact h3) (by omega) (by rw[hk];exact⟨_,I',q⟩)
theorem lm(lo hi:Option Int)(n:Nat):(sliceBounds lo hi none n).1=((HT.sIx n 0 lo:Nat):Int)∧(sliceBounds lo hi none n).2.1=((HT.sIx n n hi:Nat):Int)∧(sliceBounds lo hi none n).2.2=1:=by
 refine⟨?_,?_,rfl⟩
 ·cases lo with
  | none=>simp[sliceBounds,HT.sIx]
  | some i =>
   simp only[sliceBounds,HT.sIx,Option.getD_none,show(1:Int) > 0 by decide,if_true]
   by_cases h:i < 0
   ·simp only[h,if_true]<;>omega
   ·simp only[h,if_false]<;>omega
 ·cases hi with
  | none=>simp[sliceBounds,HT.sIx]
  | some i =>
   simp only[sliceBounds,HT.sIx,Option.getD_none,show(1:Int) > 0 by decide,if_true]
   by_cases h:i < 0
   ·simp only[h,if_true]<;>omega
   ·simp only[h,if_false]<;>omega
theorem jZ(its:List Value)(lo hi:Option Int):slicePick its.toArray lo hi none=((its.drop (HT.sIx its.length 0 lo)).take (HT.sIx its.length its.length hi - HT.sIx its.length 0 lo)).toArray:=by
 obtain⟨h1,h2,h3⟩:=lm lo hi its.toArray.size
 unfold slicePick
 rw[h1,h2,h3]
 simp only[sliceRange_one,pick_run,List.size_toArray]<;>rfl
def D4(K:PySem.W.Frag):V→Option Int→Option Int→Hp→VK→Prop:=fun x lo hi H Q=>∃a xs,x=.ref a∧SqL K H a xs∧∀p,H p=none→Q (.ref p) (upd H p (.lst (vf xs lo hi)))
theorem wc:SlR X (D4 X.K):=by
 intro pins s σ H x v vl vu lo hi sl Q I rx hs pl pu h
 obtain⟨a,xs,rfl,hx,q⟩:=h
 cases rx
 obtain⟨its,r,ht,hz⟩:=I.list hx
 have hlen:=r.length
 refine⟨"list", _,slot_list_getitem.lookup,ht.isList.typeIs,?_⟩
 refine wpAny_getItem_list_slice ht.isList hs pl pu .none (by simp) ?_ (by rw[List.size_toArray]<;>omega)
 rw[jZ,← hlen]
 refine⟨.ref s.heap.objs.size,_,I.laid (t':=s.toks) (o:=.lst (vf xs lo hi)) (fun b ob q=>Heap.get?_push_of_some _ q) (Nat.le_refl _) ?_,rfl,q _ (I.hok.fresh (Nat.le_refl _))⟩
 exact⟨Nat.le_trans (nR xs lo hi) hz,_,0,(r.drop (HT.sIx xs.length 0 lo)).take (HT.sIx xs.length xs.length hi - HT.sIx xs.length 0 lo),Heap.get?_push_size _ rfl⟩
theorem l8:cW X (.builtin "len") (fun xs H Q=>∃p ys,xs=[.ref p]∧(SqL X.K H p ys∨SqT X.K H p ys)∧Q (.int ys.length) H):=by
 intro pins s σ H xs us Q I r h
 obtain⟨p,ys,rfl,hq,q⟩:=h
 obtain⟨u,rfl,rx⟩:=cU r
 cases rx
 have hn:=iN
 rcases hq with hq | hq
 ·obtain⟨its,r',pl,hz⟩:=I.list hq
  have hlen:=r'.length
  exact Calls.call_len_list pl.isList (by simp only[List.size_toArray]<;>omega) ⟨.int ys.length,H,I.tok _,⟨s.toks+1,by rw[List.size_toArray,hlen]⟩,q⟩
 ·obtain⟨its,r',pl,hz⟩:=I.tuple hq
  have hlen:=r'.length
  exact len_tuple pl (by simp only[List.size_toArray]<;>omega) ⟨.int ys.length,H,I.tok _,⟨s.toks+1,by rw[List.size_toArray,hlen]⟩,q⟩
theorem l7:cW X (.type "list") (fun xs H Q=>∃p ys,xs=[.ref p]∧(SqL X.K H p ys∨SqT X.K H p ys)∧∀l,H l=none→Q (.ref l) (upd H l (.lst ys))):=by
 intro pins s σ H xs us Q I r h
 obtain⟨p,ys,rfl,hq,q⟩:=h
 obtain⟨u,rfl,rx⟩:=cU r
 cases rx
 have fin:∀(its:List Value),aH ys its→ys.length≤sizeLine→∀(h':Heap) (c':Nat),(∀b o',s.heap.get? b=some o'→h'.get? b=some o')→
   h'.get? s.heap.objs.size=some { cls:=.type "list", dict:=none,data:=.seq its.toArray c',slots:=#[] }→EP X pins σ Q (.ref s.heap.objs.size) { s with heap:=h' }:=fun its r' hz h' c' kp e =>
  ⟨.ref s.heap.objs.size,_,I.laid (t':=s.toks) kp (Nat.le_refl _) (show cD X.prog X.w _ h' _ (.lst ys)from⟨hz,its,c',r',e⟩),rfl,q _ (I.hok.fresh (Nat.le_refl _))⟩
 rcases hq with hq | hq
 ·obtain⟨its,r',pl,hz⟩:=I.list hq
  have hlen:=r'.length
  obtain⟨o,ho,hc,n,hd⟩:=pl.isList
  exact call_list_seq p (.inl rfl) ho hc hd (fun h' c' kp e=>fin its r' hz h' c' kp e) (by simp only[List.size_toArray]<;>omega)
 ·obtain⟨its,r',pl,hz⟩:=I.tuple hq
  have hlen:=r'.length
  obtain⟨o,ho,hc,n,hd⟩:=pl
  exact call_list_seq p (.inr rfl) ho hc hd (fun h' c' kp e=>fin its r' hz h' c' kp e) (by simp only[List.size_toArray]<;>omega)
theorem j8:cW X (.type "tuple") (fun xs H Q=>∃p ys,xs=[.ref p]∧((SqL X.K H p ys∧∀l,H l=none→Q (.ref l) (upd H l (.tup ys)))∨(SqT X.K H p ys∧Q (.ref p) H))):=by
 intro pins s σ H xs us Q I r h
 obtain⟨p,ys,rfl,h⟩:=h
 obtain⟨u,rfl,rx⟩:=cU r
 cases rx
 rcases h with⟨hq,q⟩ |⟨hq,q⟩
 ·obtain⟨its,r',pl,hz⟩:=I.list hq
  have hlen:=r'.length
  refine call_tuple_list pl.isList (fun h' kp=>?_) (by simp only[List.size_toArray]<;>omega)
  have I1:Inv X pins σ H { s with heap:=h' }:=I.kept (t':=s.toks) kp
  have I2:Inv X pins σ (upd H h'.objs.size (.tup ys)) { s with heap:=h'.push { cls:=.type "tuple", data:=.seq its.toArray } } :=
   I1.laid (t':=s.toks) (fun b o e=>Heap.get?_push_of_some _ e) (Nat.le_refl _) (show cD X.prog X.w _ _ _ (.tup ys)from⟨hz,its,r',IsTup.new _ _⟩)
  exact⟨.ref h'.objs.size,_,I2,rfl,q _ (I1.hok.fresh (Nat.le_refl _))⟩
 ·obtain⟨its,r',pl,hz⟩:=I.tuple hq
  exact call_tuple_same pl ⟨.ref p,H,I,rfl,q⟩
def tyV(K:PySem.W.Frag)(T:String)(x:V)(H:Hp):Prop:=match x with
 | .str _=>T = "str"
 | .int _=>T = "int"
 | .ref p=>(T = "list" ∧ ∃xs,SqL K H p xs)∨(T = "tuple" ∧ ∃o,K.lookup p=some o∧o.cls=.type "tuple" ∧ o.dict=none)∨
   (T = "dict" ∧((∃kvs,H p=some (.dK kvs))∨ ∃kvs,H p=some (.dT kvs)))∨(T = "set" ∧ ∃S n,H p=some (.set S n))
 | _=>False
theorem sw{pins:List (Addr×Obj)}{σ:St}{H:Hp}{s:Shared}{T:String}{x:V}{v:Value}(I:Inv X pins σ H s)(r:bg x v)(ty:tyV X.K T x H) :
  s.TypeIs v T∧∀a,v=.ref a→∃ob,s.heap.get? a=some ob∧ob.dict=none:=by
 cases x with
 | str z =>
  obtain⟨t,rfl⟩:=r
  cases(show T = "str" from ty)
  exact⟨typeIs_str s z t,fun _ e=>nomatch e⟩
 | int i =>
  obtain⟨t,rfl⟩:=r
  cases(show T = "int" from ty)
  exact⟨typeIs_int s i t,fun _ e=>nomatch e⟩
 | ref p =>
  cases r
  rcases ty with⟨rfl,xs,hq⟩ |⟨rfl,o,hk,hc,hd⟩ |⟨rfl,hk⟩ |⟨rfl,S,n,hk⟩
  ·obtain⟨its,_,pl,_⟩:=I.list hq
   refine⟨pl.isList.typeIs,fun a e=>?_⟩
   cases e
   obtain⟨o,n,e,c,hd,_⟩:=pl
   exact⟨o,e,hd⟩
  ·refine⟨⟨o,I.kIn p o hk,hc⟩,fun a e=>?_⟩
   cases e
   exact⟨o,I.kIn _ o hk,hd⟩
  ·have z:∃o,s.heap.get? p=some o∧o.ExactDict:=by
    rcases hk with⟨kvs,hk⟩ |⟨kvs,hk⟩
    ·obtain⟨_,_,_,_,o,_,_,e,ex,_⟩:=I.hok p _ hk
     exact⟨o,e,ex⟩
    ·obtain⟨_,_,_,_,o,_,_,e,ex,_⟩:=I.hok p _ hk
     exact⟨o,e,ex⟩
   obtain⟨o,e,ex⟩:=z
   refine⟨⟨o,e,ex.1⟩,fun a e2=>?_⟩
   cases e2
   exact⟨o,e,ex.2.1⟩
  ·obtain⟨o,_,_,_,e,ex,_⟩:=I.hok p _ hk
   refine⟨⟨o,e,ex.1⟩,fun a e2=>?_⟩
   cases e2
   exact⟨o,e,ex.2.1⟩
 | _=>exact False.elim ty
def D1(K:PySem.W.Frag)(T:String)(r:V→List V→Hp→VK→Prop)(to:TE):TE:=fun σ H Q=>to σ H fun x H1=>tyV K T x H1∧r x [] H1 Q
def tBM(K:PySem.W.Frag)(T:String)(r:V→List V→Hp→VK→Prop)(to:TE)(t:TA):TE:=fun σ H Q=>to σ H fun x H1=>tyV K T x H1∧t σ H1 fun xs H2=>r x xs H2 Q
variable{o e:Expr}{es:List Expr}{to:TE}{t:TA}{name:Str}{apos cpos:Pos}{T id:String}{r:V→List V→Hp→VK→Prop}
theorem zm(pa:PlainAttrs T)(slot:Slot T name id)(hty:typeOf (.builtin id)=pure (.type "method_descriptor"))(hm:MtR X id r)(ho:PE X o to)
  (hbase:attributeBase o name X.env (eval o X.env)=eval o X.env:=by rfl) (hline:(apos.endLine==cpos.line)=true:=by rfl):PE X (.Call (.Attribute o name apos) [] [] cpos) (D1 X.K T r to):=by
 intro pins s σ H Q I h
 refine wpAny_Call_method0_late hbase hline (thn (ho pins s σ H _ I h) fun v s1 ⟨x,H1,I1,r1,ty,q1⟩=>?_)
 obtain⟨h1,h2⟩:=sw I1 r1 ty
 exact⟨T,id,pa,slot,hty,h1,h2,Calls.callWith_builtin rfl (PySem.evalArgs_none (hm pins s1 σ H1 x [] v [] Q I1 r1 .nil q1))⟩
theorem tP(pa:PlainAttrs T)(slot:Slot T name id)(hty:typeOf (.builtin id)=pure (.type "method_descriptor"))(hm:MtR X id r)(ho:PE X o to)(ha:PA X (e::es) t)
  (hbase:attributeBase o name X.env (eval o X.env)=eval o X.env:=by rfl)
  (hfew:((backTo cpos (starEach (e::es) X.env)).all (fun x=>!x.1) && (backToKw cpos (keywordEach [] X.env)).all (fun x=>x.1.isSome)
   && decide ((e::es).length+([]:List Keyword).length+(if([]:List Keyword).isEmpty then 0 else 1) < 30))=true:=by rfl)
  (hline:(apos.endLine==cpos.line)=true:=by rfl) (hs:starEach (e::es) X.env=(false,eval e X.env)::starEach es X.env:=by rfl) (hplain:(backTo cpos (starEach es X.env)).any (·.1)=false:=by rfl) :
  PE X (.Call (.Attribute o name apos) (e::es) [] cpos) (tBM X.K T r to t):=by
 intro pins s σ H Q I h
 refine wpAny_Call_method_late hbase hfew hline rfl (thn (ho pins s σ H _ I h) fun v s1 ⟨x,H1,I1,r1,ty,q1⟩=>?_)
 obtain⟨h1,h2⟩:=sw I1 r1 ty
 refine⟨T,id,pa,slot,hty,h1,h2,?_⟩
 have hA:=ha cpos pins s1 σ H1 _ I1 q1
 rw[hs]at hA ⊢
 refine Calls.callWith_builtin (by show(false ||(backTo cpos (starEach es X.env)).any (·.1))=false;rw[hplain]<;>rfl) (Calls.evalArgs_plain ?_)
 exact thn hA fun us s2 ⟨vs,H2,I2,r2,q2⟩=>hm pins s2 σ H2 x vs v us Q I2 r1 r2 q2
end
end L2
namespace L2
open PySem PySem.Spec PyProof.Rows
def MtM(X:Cx)(id:String)(r:V→List V→Hp→VK→Prop):Prop :=
 ∀(pins:List (Addr×Obj)) (s:Shared) (σ:St) (H:Hp) (x:V) (xs:List V) (v:Value) (us:List Value) (Q:VK),Inv X pins σ H s→bg x v→aH xs us→r x xs H Q →
  wpAny (model X.prog X.w) X.A (call (.builtin id) (v::us)) (EP X pins σ Q) X.xe s
theorem aH.one:∀{x:V}{us:List Value},aH [x] us→∃u,us=[u]∧bg x u
 | _,_,.cons r .nil=>⟨_,rfl,r⟩
theorem aH.zero:∀{us:List Value},aH [] us→us=[]
 | _,.nil=>rfl
section
variable{X:Cx}{pins:List (Addr×Obj)}{σ:St}{H:Hp}{s:Shared}{l b:Addr}{xs ys zs:List V}
theorem Inv.lset{its its':List Value}{n:Nat}{f:Array Value→Array Value}{t':Nat}(I:Inv X pins σ H s)(hH:H l=some (.lst xs))
  (e:s.heap.get? l=some { cls:=.type "list", data:=.seq its.toArray n }) (hf:f its.toArray=its'.toArray) (hv:aH ys its') (hz:ys.length≤sizeLine) :
  Inv X pins σ (upd H l (.lst ys)) { s with heap:=s.heap.update l (Obj.mapSeq f),toks:=t' }:=by
 have q:=PySem.IsL.update e f
 rw[hf]at q
 refine I.write (x:=l) (e:=l) (by rw[hH];exact trivial) (.inl rfl) (fun b' u hb hu=>(Heap.get?_update_other s.heap (Obj.mapSeq f) (Ne.symm hb)).trans hu) ⟨_,q⟩ ?_
 exact⟨hz,its',_,hv,q⟩
theorem Inv.lnew{its:List Value}{t':Nat}(I:Inv X pins σ H s)(hv:aH ys its)(hz:ys.length≤sizeLine) :
  Inv X pins σ (upd H s.heap.objs.size (.lst ys)) { s with heap:=s.heap.push { cls:=.type "list", data:=.seq its.toArray },toks:=t' } :=
 I.laid (fun _ _ q=>Heap.get?_push_of_some _ q) (Nat.le_refl _) ⟨hz,its,0,hv,Heap.get?_push_size _ rfl⟩
theorem Inv.fresh(I:Inv X pins σ H s):H s.heap.objs.size=none:=I.hok.fresh (Nat.le_refl _)
theorem Inv.lstM(I:Inv X pins σ H s)(hH:H l=some (.lst xs)):xs.length≤sizeLine∧∃(its:List Value) (n:Nat),aH xs its∧xs.length=its.length∧s.heap.get? l=some { cls:=.type "list", data:=.seq its.toArray n }:=by
 obtain⟨z,its,n,r,e⟩:=I.hok l _ hH
 exact⟨z,its,n,r,r.length,e⟩
end
section
variable{X:Cx}
def wJ:V→List V→Hp→VK→Prop:=fun x vs H Q=>∃l xs y,x=.ref l∧vs=[y]∧H l=some (.lst xs)∧xs.length < sizeLine∧Q .non (upd H l (.lst (xs++[y])))
theorem iK:MtM X "list.append" wJ:=by
 intro pins s σ H x vs v us Q I rx rv h
 obtain⟨l,xs,y,rfl,rfl,hH,hz,q⟩:=h
 cases rx
 obtain⟨u,rfl,ru⟩:=rv.one
 obtain⟨z,its,n,r,hl,e⟩:=I.lstM hH
 refine call_meets F.slot_list_append ⟨_,e,rfl⟩ F.entry_list_append (F.args_list_append_2 _ _) (PySem.list_append l its.toArray n u (by rw[List.size_toArray];omega)) ⟨e,?_⟩
 refine⟨.non,_,I.lset (its':=its++[u]) hH e (by simp) (r.append (.cons ru .nil)) ?_,rfl,q⟩
 rw[List.length_append,List.length_singleton]
 omega
def y7:V→List V→Hp→VK→Prop:=fun x vs H Q=>∃l xs,x=.ref l∧vs=[]∧H l=some (.lst xs)∧Q .non (upd H l (.lst []))
theorem ub:MtM X "list.clear" y7:=by
 intro pins s σ H x vs v us Q I rx rv h
 obtain⟨l,xs,rfl,rfl,hH,q⟩:=h
 cases rx
 have hus:=rv.zero
 subst hus
 obtain⟨z,its,n,r,hl,e⟩:=I.lstM hH
 refine call_meets F.slot_list_clear ⟨_,e,rfl⟩ F.entry_list_clear (F.args_list_clear_1 _) (AutoSeq1.list_clear_list_0 l its.toArray n (by rw[List.size_toArray];omega)) ⟨e,?_⟩
 exact⟨.non,_,I.lset (its':=[]) (ys:=[]) hH e rfl .nil (Nat.zero_le _),rfl,q⟩
end
section
variable{prog:Program}{w:World}{A:Around}{E:Value→Shared→Prop}{s:Shared}
end
section
variable{X:Cx}
end
end L2
namespace Att
open PySem PySem.W PySem.Calls PyProof.Rows
theorem jd{P:Params}{h:Heap}:∀(ns:List Int) (vs:List Value),WellAll P h vs (ns.map WData.int)→IntsAre vs ns:=by
 intro ns
 induction ns with
 | nil =>
  intro vs w
  rw[List.map_nil]at w
  cases w
  exact .nil
 | cons n ns ih =>
  intro vs w
  rw[List.map_cons]at w
  cases w with
  | cons a b =>
   cases a
   exact .cons _ _ (ih _ b)
theorem qI{l:OpenLaw}{n:Nat}(hn:l.most=some n){P:Params}{h:Heap}{args:List WData}{vals:List Value}
  (hpre:l.row.toRowW.claim.pre args=true) (hwl:WellAll P h vals args) :
  ∃a vs ns,vals=[Value.ref a]∧args=[WData.list (ns.map WData.int)]∧h.get? a=some { cls:=.type "list", data:=.seq vs.toArray }∧IntsAre vs ns∧ns.length≤n:=by
 have hsh:WShape.hasAll [] args [.list .int]=true:=(pre_splitW hpre).1
 have hc:l.pre.holds [] { args:=args }=true:=(pre_splitW hpre).2
 obtain⟨d,r,rfl,h1,h2⟩:=hasAllW_cons hsh
 obtain rfl:=hasAllW_nil h2
 obtain⟨xs,rfl,h3⟩:=hasW_list h1
 obtain⟨ns,rfl⟩:=items_int h3
 have hlen:ns.length≤n:=by
  unfold OpenLaw.pre at hc
  have h4:(WTm.not (.lt (.lit (.int (n:Int))) (.len (.arg 0)))).holds [] { args:=[.list (ns.map .int)] }=true:=by
   have h4:=(holds_andW hc).1
   rw[hn]at h4
   exact h4
  have h5:=condW_of h4 (w_not (w_lt w_lit (w_len_list (w_arg rfl))))
  rw[List.length_map]at h5
  refine Nat.le_of_not_lt fun q=>?_
  have q':(n:Int) <((ns.length:Nat):Int):=by omega
  first
   |(rw[decide_eq_true q']at h5;exact absurd h5 (by decide))
   |(simp at h5;omega)
 cases hwl with
 | cons w1 w2 =>
  cases w2
  cases w1 with
  | list ho hall=>exact⟨_,_,ns,rfl,rfl,ho,jd ns _ hall,hlen⟩
theorem qS(l:OpenLaw)(args:List WData):l.row.toRowW.claim.post args (.bool true) args=true :=
 postW_of (r:=l.row.toRowW) (X:=(true==true))
  (show WShape.has [] (.bool true) .bool=true by first | rfl | decide | simp[WShape.has,WShape.arms,WShape.armsAll])
  (show(WTm.eq .res (.lit (.bool true))).value [] { args:=args,res:=some (.bool true),after:=args }=some (.bool (true==true))from w_eq_bool (w_res rfl) w_lit) rfl
theorem attach_call{l:OpenLaw}{n:Nat}{q:Program}{loose:List Str}{XP:(Str→Option Value)→Heap→Prop}{YP:World→Heap→Prop}{d:DefRec}
  (hn:l.most=some n) (hdf:d.params.defaults=[])
  (call:∀ (w:World) (s₀ s₁:Shared) (mg mb:Str→Option Value) (fa:Addr) (o:Obj) (pm cd doc:Value) (a:Addr) (vs:List Value) (ns:List Int),
   Ground q loose [] XP w s₀ mg mb s₁.heap→YP w s₁.heap →
   s₁.heap.get? fa=some o→o.data=.func (docDef d.name d.params d.body d.scope pm cd doc)→s₁.heap.CodeRec cd d.name→mg d.name=some (.ref fa)→
   s₁.heap.get? a=some { cls:=.type "list", data:=.seq vs.toArray }→IntsAre vs ns→ns.length≤n→s₁.gens=#[]→
   codeAny (model l.prog w) callerA (.call (.ref fa) ⟨[.ref a],[]⟩) (fun r s'=>r=.ok (.ret (.bool true))∧OldK s₁.heap s'.heap∧s'.os=s₁.os∧AllBare s'.gens) s₁) :
  WalkO q loose XP YP l.row.toRowW d [] (fun f vs=>PySem.call f vs):=by
 intro w s₀ s₁ mg mb G Y fa o pm cd doc dV kV ho hd hcd hD hmg hg args vals as hpre hlay hrd hwl hlo
 obtain rfl:dV=.none:=Dflts.none hD hdf
 obtain rfl:kV=.none:=Dflts.noKw hD
 obtain⟨a,vs,ns,rfl,rfl,hobj,hints,hlen⟩:=qI hn hpre hwl
 refine enter_call (codeAny_mono (call w s₀ s₁ mg mb fa o pm cd doc a vs ns G Y ho (fd_plain hd) hcd hmg hobj hints hlen hg) fun r s' hq=>?_)
 obtain⟨rfl,h2,h3,h4⟩:=hq
 exact⟨.inl ⟨.bool true,.bool true,[],rfl,fun _=>rfl,.bool true,qS l _,fun _=>⟨List.Pairwise.nil,fun _ hm=>(nomatch hm)⟩⟩,h2,h3,h4⟩
section
variable{prog:Program}{w:World}{A:Around}{E:Value→Shared→Prop}{s:Shared}{K:Frag}
end
end Att
namespace L2
open PySem PySem.Spec PyProof.Rows
theorem kb:∀{vs:List Value}{ns:List Int},IntsAre vs ns→aH (ns.map V.int) vs
 | _,_,.nil=>.nil
 | _,_,.cons n t h=>.cons ⟨t,rfl⟩ (kb h)
def Bg(H:Hp):Prop:=∀b,H b=none∨∃o xs,H b=some (.frz o (.lst xs))
theorem ut{P:Program}{w:World}{K:PySem.W.Frag}{mg mb:Str→Option Value}{CX:CXT}{k:Nat}{fa a:Addr}{fd:FuncData}{x:Str}{sp:Sp}{s₁:Shared}{vs:List Value}{ns:List Int}
  (KX:K.In s₁.heap) (hns:s₁.heap.Ns mainGlobals mg) (hb:s₁.heap.Ns builtinsNs mb) (hbb:∀x:Str,x≠"__name__" → mb x=bootBuiltins x) (hlim:s₁.heap.NoLimit) (hg:s₁.gens=#[])
  (ha:s₁.heap.get? a=some { cls:=.type "list", data:=.seq vs.toArray }) (hi:IntsAre vs ns) (hl:ns.length≤sizeLine) (hr:cT k callerA)
  (F:∀base:Heap,K.In base→base.Ns mainGlobals mg→cq P w K mg base CX k fa fd [x] sp) (hbind:∀(s:Shared) (u:Value),BindsTo s fd ⟨[u],[]⟩ [(x,u)])
  (hsp:∀H:Hp,Bg H→SqL K H a (ns.map V.int)→sp [.ref a] H (fun v _=>v=.bl true) fun _ _ _=>False)
  (hCX:∀H e s',CX [] H s₁ (fun _ _ _=>False) e s'→False) :
  codeAny (model P w) callerA (.call (.ref fa) ⟨[.ref a],[]⟩) (fun r s'=>r=.ok (.ret (.bool true))∧OldK s₁.heap s'.heap∧s'.os=s₁.os∧AllBare s'.gens) s₁:=by
 have rv:=kb hi
 have lenV:=hi.length
 have core:∀H:Hp,Bg H→SqL K H a (ns.map V.int)→HOk P w H s₁.heap→(∀b,H b≠none→b=a)→(H a≠none→K.lookup a=none)→
   codeAny (model P w) callerA (.call (.ref fa) ⟨[.ref a],[]⟩) (fun r s'=>r=.ok (.ret (.bool true))∧OldK s₁.heap s'.heap∧s'.os=s₁.os∧AllBare s'.gens) s₁:=by
  intro H hO hS hok hA hK
  have base_of:∀{b:Addr}{o:Obj},s₁.heap.get? b=some o→H b=none→(lW s₁.heap H).get? b=some o:=fun e n=>uA e n
  have noA:∀{b:Addr}{o:Obj}{es:Array DictEntry}{ep:Nat},s₁.heap.get? b=some o→o.data=.dict es ep→H b=none:=fun {b o es ep} e d=>by
   cases q:H b with
   | none=>rfl
   | some u =>
    have e':b=a:=hA b (by rw[q];simp)
    subst e'
    rw[ha]at e;cases e
    have d':Data.seq vs.toArray _=Data.dict es ep:=d
    cases d'
  have nsK:∀{b:Addr}{m:Str→Option Value},s₁.heap.Ns b m→(lW s₁.heap H).Ns b m:=fun {b m} ⟨o,es,ep,e,d,r⟩=>⟨o,es,ep,base_of e (noA e d),d,r⟩
  have hKb:K.In (lW s₁.heap H):=fun b o e=>base_of (KX b o e) (by
   cases q:H b with
   | none=>rfl
   | some u =>
    have e':b=a:=hA b (by rw[q];simp)
    subst e'
    rw[hK (by rw[q];simp)]at e;cases e)
  have hM:Mod K mg (lW s₁.heap H):=⟨hKb,nsK hns,⟨mb,nsK hb,hbb⟩,let⟨mc,h1,h2⟩:=hlim;⟨mc,nsK h1,h2⟩⟩
  have e0:o9 P w K mg (lW s₁.heap H) callerA [] s₁ H:=⟨rfl,hM,fun b o e=>xh e,Nat.le_of_eq (rL _ _),trivial,fun b hb=>absurd (show b ∈([]:List Addr)from hb) (by simp),hok,.of_eq hg⟩
  refine codeAny_mono ((F _ hKb (nsK hns)).run callerA [] s₁ H ⟨[.ref a],[]⟩ [.ref a] [.ref a] _ _ hr e0 (hbind s₁ (.ref a)) (.cons rfl .nil) (hsp H hO hS)) fun r s' h=>?_
  cases r with
  | error e=>exact(hCX H e s' h).elim
  | ok fl =>
   cases fl with
   | next=>exact False.elim h
   | brk=>exact False.elim h
   | cont=>exact False.elim h
   | ret u =>
    obtain⟨v,H',os,bare,un,hok',r',q⟩:=h
    have q':v=.bl true:=q
    subst q'
    obtain rfl:u=Value.bool true:=r'
    refine⟨rfl,OldK.of_keep fun b o e=>?_,os,bare⟩
    cases q:H b with
    | none=>exact un.keep b o e q (by intro z;exact absurd (show b ∈([]:List Addr)from z) (by simp)) (by simp)
    | some u =>
     rcases hO b with z |⟨ob,xs,z⟩
     ·rw[q]at z;cases z
     ·have z2:=un.frzs b ob _ z
      obtain⟨e1,_⟩:=hok b _ z
      obtain⟨e2,_⟩:=hok' b _ z2
      rw[e]at e1;cases e1
      exact e2
 cases hk:K.lookup a with
 | some o =>
  have e:=KX a o hk
  rw[ha]at e
  cases e
  refine core (fun _=>none) (fun _=>.inl rfl) (.inr ⟨_,vs.toArray,_,hk,rfl,rfl,rfl,by rw[List.size_toArray,lenV];exact hl,by simpa using rv⟩) (fun b u z=>by have z':(none:Option HO)=some u:=z;cases z') (fun b z=>absurd rfl z) fun z=>absurd rfl z
 | none =>
  refine core (fun b=>if b=a then some (.frz { cls:=.type "list", data:=.seq vs.toArray } (.lst (ns.map V.int)))else none) (fun b=>?_) (.inl (.inr ⟨{ cls:=.type "list", data:=.seq vs.toArray },if_pos rfl⟩)) (fun b u z=>?_) (fun b z=>?_) fun _=>hk
  ·by_cases hb:b=a
   ·exact .inr ⟨_,_,if_pos hb⟩
   ·exact .inl (if_neg hb)
  ·by_cases hb:b=a
   ·have z':=(if_pos hb).symm.trans z
    cases z'
    subst hb
    exact⟨ha,by rw[List.length_map];exact hl,vs,_,rv,ha⟩
   ·have z':=(if_neg hb).symm.trans z
    cases z'
  ·by_cases hb:b=a
   ·exact hb
   ·exact absurd (if_neg hb) z
end L2
namespace L2
open PySem PySem.Spec PyProof.Rows
theorem v5{l:PySem.W.OpenLaw}{n k:Nat}{q:Program}{loose:List Str}{XP:(Str→Option Value)→Heap→Prop}{YP:World→Heap→Prop}{d:DefRec}{K:Params→PySem.W.Frag}{CX:World→CXT}{sp:World→Sp}{x:Str}
  (hn:l.most=some n) (hn2:n≤sizeLine) (hdf:d.params.defaults=[]) (hr:cT k callerA)
  (hY:∀(w:World) (h:Heap),YP w h→(K w.params).In h)
  (F:∀ (w:World) (mg:Str→Option Value) (fa:Addr) (h:Heap),(K w.params).In h→h.Ns mainGlobals mg→mg d.name=some (.ref fa) →
   ∃fd:FuncData,(∀(s:Shared) (u:Value),BindsTo s fd ⟨[u],[]⟩ [(x,u)])∧
    ∀base:Heap,(K w.params).In base→base.Ns mainGlobals mg→cq l.prog w (K w.params) mg base (CX w) k fa fd [x] (sp w))
  (hsp:∀(w:World) (H:Hp) (a:Addr) (ns:List Int),ns.length≤n→Bg H→SqL (K w.params) H a (ns.map V.int)→sp w [.ref a] H (fun v _=>v=.bl true) fun _ _ _=>False)
  (hCX:∀(w:World) (H:Hp) (s:Shared) (e:Value) (s':Shared),CX w [] H s (fun _ _ _=>False) e s'→False) :
  PySem.W.WalkO q loose XP YP l.row.toRowW d [] (fun f vs=>PySem.call f vs):=by
 refine Att.attach_call hn hdf fun w s₀ s₁ mg mb fa o pm cd doc a vs ns G Y ho hd hcd hmg hobj hints hlen hg=>?_
 have KX:=hY w _ Y
 obtain⟨fd,hb,hF⟩:=F w mg fa _ KX G.T.g hmg
 exact ut KX G.T.g G.T.b G.T.builtins G.T.nolimit hg hobj hints (Nat.le_trans hlen hn2) hr hF hb (fun H hO hS=>hsp w H a ns hlen hO hS) fun H e s'=>hCX w H s₁ e s'
end L2
namespace L2
open PySem PySem.Spec PyProof.Rows
def xF(s:Stmt)(j:Nat):Stmt:=match s with
 | .ClassDef _ _ _ body _ _ _ _ _ _ _=>body.getD j (.Pass ⟨0,0,0,0⟩)
 | _=>.Pass ⟨0,0,0,0⟩
def cR(s:Stmt):Arguments:=match s with
 | .FunctionDef _ a _ _ _ _ _ _ _ _=>a
 | _=>{ posonlyargs:=[],args:=[],vararg:=none,kwonlyargs:=[],kw_defaults:=[],kwarg:=none,defaults:=[] }
def bI(s:Stmt):List Stmt:=match s with
 | .FunctionDef _ _ b _ _ _ _ _ _ _=>b
 | _=>[]
def aA(s:Stmt):Scope:=match s with
 | .FunctionDef _ _ _ _ _ _ sc _ _ _=>sc
 | _=>{ kind:=.function,names:=[],isGenerator:=false,isCoroutine:=false }
abbrev CX0:CXT:=fun _ _ _ _ _ _=>False
structure Fun(K:PySem.W.Frag)(x qual:Str)(st:Stmt)(f:Addr)(fd:FuncData):Prop where
 ex:∃(oc:Value) (od:Option Addr) (kV doc pm:Value) (an:Option Addr) (cdv ct:Value) (osl:Array (Option Value)),
  fd=PySem.W.fnOf x qual (cR st) (bI st) (aA st) .none kV doc pm an cdv ct∧K.lookup f=some ⟨oc,od,.func fd,osl⟩∧PySem.W.codeIn K cdv qual=true
 kp:PySem.W.keepIn K (.ref f)=true
section
variable{P:Program}{w:World}{K:PySem.W.Frag}{mg:Str→Option Value}{base:Heap}
theorem Fun.ok{x qual:Str}{st:Stmt}{f:Addr}{fd:FuncData}{N ps:List Str}{k:Nat}{sp:Sp}(F:Fun K x qual st f fd)(S:du N ps (aA st))(len:∀vs H Q E,sp vs H Q E→vs.length=ps.length)
  (hbody:∀ (cdv:Value) (A:Around) (outer:List Env) (s:Shared) (H:Hp) (vs:List V) (Q:VK) (E:XK),cT k (A.deeper (envOfC qual (aA st) s.heap.objs.size f cdv))→sp vs H Q E →
   ∃t,PSs (dO CX0 P w K mg base N qual (aA st) f cdv A outer s H E).nox (bI st) t∧t { nx:=fun _ H'=>Q .non H',rt:=Q } (start N vs) H):cq P w K mg base CX0 (k+1) f fd ps sp:=by
 obtain⟨oc,od,kV,doc,pm,an,cdv,ct,osl,rfl,lk,hcd⟩:=F.ex
 refine uH lk hcd S len fun A outer s H vs Q E hr hsp=>?_
 obtain⟨t,h,q⟩:=hbody cdv A outer s H vs Q E hr hsp
 exact⟨t,h.nox,q⟩
theorem Fun.binds{x qual:Str}{st:Stmt}{f:Addr}{fd:FuncData}{ps:List Str}(F:Fun K x qual st f fd)
  (h:∀(kV doc pm:Value) (an:Option Addr) (cdv ct:Value) (us:List Value),us.length=ps.length→bindArgs (PySem.W.fnOf x qual (cR st) (bI st) (aA st) .none kV doc pm an cdv ct) ⟨us,[]⟩=pure (ps.zip us)):dJ K fd ps []:=by
 obtain⟨oc,od,kV,doc,pm,an,cdv,ct,osl,rfl,lk,hcd⟩:=F.ex
 exact .all (h kV doc pm an cdv ct)
end
section
variable{X:Cx}
theorem pv(i:Nat){x:Str}{pos:Pos}(hN:X.N[i]?=some x:=by rfl)(hv:Vis X.env.scope x:=by first | exact Or.inl rfl | exact Or.inr (Or.inl rfl) | exact Or.inr (Or.inr rfl))(hd:(x ==("__debug__" : Str))=false:=by decide)
  (hcd:(x ==("__classdict__" : Str))=false:=by decide):PE X (.Name x pos) (v7 i):=cX hN hv hd hcd
end
def n8(H H':Hp):Prop:=∀b o,H b=some o→H' b=some o
theorem n8.trans{H H1 H2:Hp}(a:n8 H H1)(b:n8 H1 H2):n8 H H2:=fun c o h=>b c o (a c o h)
theorem n8.free{H H':Hp}(e:n8 H H'){l:Addr}(h:H' l=Option.none):H l=Option.none:=by
 cases q:H l with
 | none=>rfl
 | some o =>
  rw[e l o q]at h
  cases h
theorem n8.seq{K:PySem.W.Frag}{H H':Hp}{a:Addr}{xs:List V}(e:n8 H H')(h:SqL K H a xs):SqL K H' a xs:=by
 rcases h with(h |⟨o,h⟩) | h
 ·exact .inl (.inl (e _ _ h))
 ·exact .inl (.inr ⟨o,e _ _ h⟩)
 ·exact .inr h
end L2
set_option maxHeartbeats 4000000
namespace PR
open PySem
inductive Fl where
 | own | frz | bor | lnt | mod
 deriving DecidableEq
inductive PV where
 | non
 | bl (b:Bool)
 | int (i:Int)
 | str (x:Str)
 | lst (f:Fl) (xs:List PV)
 | tup (xs:List PV)
 | obj (f:Fl) (c:Nat) (ks:List Nat) (vs:List PV)
 | exc (c:Nat)
mutual
def PV.mapF(g:Fl→Fl):PV→PV
 | .non=>.non
 | .bl b=>.bl b
 | .int i=>.int i
 | .str x=>.str x
 | .lst f xs=>.lst (g f) (mapL g xs)
 | .tup xs=>.tup (mapL g xs)
 | .obj f c ks vs=>.obj (g f) c ks (mapL g vs)
 | .exc c=>.exc c
def mapL(g:Fl→Fl):List PV→List PV
 | []=>[]
 | x::xs=>x.mapF g::mapL g xs
end
mutual
def PV.has(p:Fl→Bool):PV→Bool
 | .non=>false
 | .bl _=>false
 | .int _=>false
 | .str _=>false
 | .lst f xs=>p f||hasL p xs
 | .tup xs=>hasL p xs
 | .obj f _ _ vs=>p f||hasL p vs
 | .exc _=>false
def hasL(p:Fl→Bool):List PV→Bool
 | []=>false
 | x::xs=>x.has p||hasL p xs
end
def Fl.isLnt:Fl→Bool
 | .lnt=>true
 | _=>false
def Fl.isBor:Fl→Bool
 | .bor=>true
 | _=>false
def Fl.lend:Fl→Fl
 | .own=>.lnt
 | f=>f
def Fl.freeze:Fl→Fl
 | .own=>.frz
 | f=>f
def Fl.toBor:Fl→Fl
 | .lnt=>.bor
 | f=>f
inductive Res(α:Type) where
 | ok (a:α)
 | exc (c:Nat)
 | stuck
def Res.bind{α β:Type}:Res α→(α→Res β)→Res β
 | .ok a,k=>k a
 | .exc c,_=>.exc c
 | .stuck,_=>.stuck
@[simp] theorem Res.ok_bind{α β:Type}(a:α)(k:α→Res β):(Res.ok a).bind k=k a:=by simp only[Res.bind]
@[simp] theorem Res.exc_bind{α β:Type}(c:Nat)(k:α→Res β):(Res.exc c:Res α).bind k=.exc c:=rfl
@[simp] theorem Res.stuck_bind{α β:Type}(k:α→Res β):(Res.stuck:Res α).bind k=.stuck:=rfl
abbrev En:=List (Option PV)
abbrev ME:=En→Res PV
abbrev MT:=En→Res Bool
abbrev MA:=En→Res (List PV)
inductive Out where
 | next (e:En)
 | ret (v:PV)
 | brk (e:En)
 | cont (e:En)
 | exc (c:Nat) (e:En)
 | stuck
abbrev MS:=En→Out
def mC(v:PV):ME:=fun _=>.ok v
def ac(i:Nat):ME:=fun env=>match env[i]? with
 | some (some v)=>.ok (v.mapF Fl.lend)
 | _=>.stuck
def am:MA:=fun _=>.ok []
def ae(a:ME)(r:MA):MA:=fun env=>(a env).bind fun x=>(r env).bind fun xs=>.ok (x::xs)
def mUn(f:PV→Res PV)(a:ME):ME:=fun env=>(a env).bind f
def mOp(f:PV→PV→Res PV)(a b:ME):ME:=fun env=>(a env).bind fun x=>(b env).bind fun y=>f x y
def jD(g:Int→Int→PV):PV→PV→Res PV
 | .int i,.int j=>.ok (g i j)
 | _,_=>.stuck
def dD(C:Int→Int→Bool)(g:Int→Int→PV):PV→PV→Res PV
 | .int i,.int j=>if C i j then .ok (g i j)else .stuck
 | _,_=>.stuck
def lB:PV→Res Bool
 | .non=>.ok false
 | .bl b=>.ok b
 | .int i=>.ok (i != 0)
 | .lst _ xs=>.ok (!xs.isEmpty)
 | .tup xs=>.ok (!xs.isEmpty)
 | _=>.stuck
def ax(a:ME):MT:=fun env=>(a env).bind fun
 | .bl b=>.ok b
 | _=>.stuck
def cr(a:ME):MT:=fun env=>(a env).bind lB
def i3(a:MT):MT:=fun env=>(a env).bind fun b=>.ok (!b)
def gG(a b:MT):MT:=fun env=>(a env).bind fun x=>if x then b env else .ok false
def gz(a b:MT):MT:=fun env=>(a env).bind fun x=>if x then .ok true else b env
def um(c:MT)(a b:ME):ME:=fun env=>(c env).bind fun x=>if x then a env else b env
def aP:MS:=.next
def au(a b:MS):MS:=fun env=>match a env with
 | .next e=>b e
 | o=>o
def mBr(c:MT)(a b:MS):MS:=fun env=>match c env with
 | .ok true=>a env
 | .ok false=>b env
 | .exc k=>.exc k env
 | .stuck=>.stuck
def PV.noLnt(v:PV):Bool:=!v.has Fl.isLnt
def b6(env:List (Option PV)):Bool:=match env[0]? with
 | some (some (PV.obj _ _ _ _))=>true
 | _=>false
def aL(i:Nat)(env:En):Bool:=if i=0 then !b6 env else true
def a9(i:Nat)(e:ME):MS:=fun env=>match e env with
 | .ok v=>if v.noLnt&&aL i env then .next (env.set i (some v))else .stuck
 | .exc k=>.exc k env
 | .stuck=>.stuck
def ba(e:ME):MS:=fun env=>match e env with
 | .ok v=>if v.noLnt then .ret v else .stuck
 | .exc k=>.exc k env
 | .stuck=>.stuck
def dH(i:Nat):MS:=fun env=>match env[i]? with
 | some (some v)=>.ret v
 | _=>.stuck
def f_(e:ME):MS:=fun env=>match e env with
 | .ok _=>.next env
 | .exc k=>.exc k env
 | .stuck=>.stuck
def gA(i:Nat):MS:=fun env=>match env[i]? with
 | some (some v)=>.next (env.set i (some (v.mapF Fl.freeze)))
 | _=>.stuck
def j5(body:PV→MS):List PV→En→Out
 | [],env=>.next env
 | x::xs,env=>match body x env with
  | .next e=>j5 body xs e
  | .cont e=>j5 body xs e
  | .brk e=>.next e
  | o=>o
end PR
namespace PR
open PySem PySem.Spec L2
structure Tb where
 K:PySem.W.Frag
 nc:Nat
 cls:Nat→Addr
 att:Nat→Str
 inj:∀i j,att i=att j→i=j
 xcl:Nat→Addr
def ED(C a:Addr):HO:=.ext fun h=>∃o,h.get? a=some o∧o.cls=.ref C
def KL(K:PySem.W.Frag)(a:Addr)(xs:List V):Prop:=∃(o:Obj) (its:Array Value) (n:Nat),K.lookup a=some o∧o.cls=.type "list" ∧ o.dict=none∧o.data=.seq its n∧its.size≤sizeLine∧aH xs its.toList
def yi:Fl→Addr→List Addr→List Addr→Prop
 | .own,a,fp',fp=>fp=a::fp'
 | _,_,fp',fp=>fp'=[]∧fp=[]
def EB(F B L:Addr→Prop):Fl→Addr→Prop
 | .own,_=>True
 | .frz,a=>F a
 | .bor,a=>B a
 | .lnt,a=>L a
 | .mod,_=>False
def n9(T:Tb)(F B L:Addr→Prop)(H:Hp):Fl→Addr→List V→Prop
 | .own,a,vs=>H a=some (.lst vs)
 | .lnt,a,vs=>L a∧H a=some (.lst vs)
 | .frz,a,vs=>F a∧Rd H a (.lst vs)
 | .bor,a,vs=>B a∧Rd H a (.lst vs)
 | .mod,a,vs=>KL T.K a vs
theorem n9.sq{T:Tb}{F B L:Addr→Prop}{H:Hp}{f:Fl}{a:Addr}{vs:List V}(h:n9 T F B L H f a vs):SqL T.K H a vs:=by
 cases f with
 | own=>exact SqL.of h
 | lnt=>exact SqL.of h.2
 | frz=>exact .inl h.2
 | bor=>exact .inl h.2
 | mod=>exact .inr h
mutual
def Rel(T:Tb)(F B L:Addr→Prop)(H:Hp):PV→V→List Addr→Prop
 | .non,v,fp=>v=.non∧fp=[]
 | .bl b,v,fp=>v=.bl b∧fp=[]
 | .int i,v,fp=>v=.int i∧fp=[]
 | .str x,v,fp=>v=.str x∧fp=[]
 | .lst f xs,v,fp=>∃a vs fp',v=.ref a∧n9 T F B L H f a vs∧RelL T F B L H xs vs fp'∧yi f a fp' fp
 | .tup xs,v,fp=>∃a vs,v=.ref a∧SqT T.K H a vs∧RelL T F B L H xs vs fp
 | .obj f c ks xs,v,fp=>∃a dx vs fp',v=.ref a∧H a=some (.ins (T.cls c) dx ((ks.map T.att).zip vs))∧(ks.length=xs.length∧c < T.nc)∧RelL T F B L H xs vs fp'∧yi f a fp' fp∧EB F B L f a
 | .exc c,v,fp=>∃a,v=.ref a∧H a=some (ED (T.xcl c) a)∧fp=[]
def RelL(T:Tb)(F B L:Addr→Prop)(H:Hp):List PV→List V→List Addr→Prop
 | [],vs,fp=>vs=[]∧fp=[]
 | x::xs,vs,fp=>∃v ws f1 f2,vs=v::ws∧Rel T F B L H x v f1∧RelL T F B L H xs ws f2∧fp=f1++f2
end
def iu:HO→Prop
 | .tup _=>True
 | .frz _ (.tup _)=>True
 | .ext _=>True
 | _=>False
section
variable{T:Tb}{F F' B B' L L':Addr→Prop}{H H':Hp}
theorem Rd.tr{a:Addr}{u:HO}(h:∀o,H a=some o→H' a=some o)(q:Rd H a u):Rd H' a u:=by
 rcases q with q |⟨o,q⟩
 ·exact .inl (h _ q)
 ·exact .inr ⟨o,h _ q⟩
theorem SqT.tr{K:PySem.W.Frag}{a:Addr}{vs:List V}(h:∀o,H a=some o→iu o→H' a=some o)(q:SqT K H a vs):SqT K H' a vs:=by
 rcases q with(q |⟨o,q⟩) | q
 ·exact .inl (.inl (h _ q True.intro))
 ·exact .inl (.inr ⟨o,h _ q True.intro⟩)
 ·exact .inr q
mutual
theorem Rel.tr(hF:∀a,F a→F' a)(hB:∀a,B a→B' a)(hL:∀a,L a→L' a)(hx:∀a o,H a=some o→(F a∨B a∨L a∨iu o)→H' a=some o) :
  ∀{x:PV}{v:V}{fp:List Addr},(∀a∈fp,∀o,H a=some o→H' a=some o)→Rel T F B L H x v fp→Rel T F' B' L' H' x v fp
 | .non,_,_,_,h=>by unfold Rel at h ⊢;exact h
 | .bl _,_,_,_,h=>by unfold Rel at h ⊢;exact h
 | .int _,_,_,_,h=>by unfold Rel at h ⊢;exact h
 | .str _,_,_,_,h=>by unfold Rel at h ⊢;exact h
 | .lst f xs,_,fp,hp,h=>by
  unfold Rel at h ⊢
  obtain⟨a,vs,fp',e,hl,hr,hf⟩:=h
  cases f with
  | own =>
   obtain rfl:fp=a::fp':=hf
   exact⟨a,vs,fp',e,hp a List.mem_cons_self _ hl,RelL.tr hF hB hL hx (fun b hb=>hp b (List.mem_cons_of_mem _ hb)) hr,rfl⟩
  | frz =>
   obtain⟨rfl,rfl⟩:=hf
   exact⟨a,vs,[],e,⟨hF a hl.1,Rd.tr (fun o q=>hx a o q (.inl hl.1)) hl.2⟩,RelL.tr hF hB hL hx hp hr,rfl,rfl⟩
  | bor =>
   obtain⟨rfl,rfl⟩:=hf
   exact⟨a,vs,[],e,⟨hB a hl.1,Rd.tr (fun o q=>hx a o q (.inr (.inl hl.1))) hl.2⟩,RelL.tr hF hB hL hx hp hr,rfl,rfl⟩
  | lnt =>
   obtain⟨rfl,rfl⟩:=hf
   exact⟨a,vs,[],e,⟨hL a hl.1,hx a _ hl.2 (.inr (.inr (.inl hl.1)))⟩,RelL.tr hF hB hL hx hp hr,rfl,rfl⟩
  | mod =>
   obtain⟨rfl,rfl⟩:=hf
   exact⟨a,vs,[],e,hl,RelL.tr hF hB hL hx hp hr,rfl,rfl⟩
 | .tup xs,_,fp,hp,h=>by
  unfold Rel at h ⊢
  obtain⟨a,vs,e,hl,hr⟩:=h
  exact⟨a,vs,e,SqT.tr (fun o q z=>hx a o q (.inr (.inr (.inr z)))) hl,RelL.tr hF hB hL hx hp hr⟩
 | .obj f c ks xs,_,fp,hp,h=>by
  unfold Rel at h ⊢
  obtain⟨a,dx,vs,fp',e,hl,hk,hr,hf,ha⟩:=h
  cases f with
  | own =>
   obtain rfl:fp=a::fp':=hf
   exact⟨a,dx,vs,fp',e,hp a List.mem_cons_self _ hl,hk,RelL.tr hF hB hL hx (fun b hb=>hp b (List.mem_cons_of_mem _ hb)) hr,rfl,True.intro⟩
  | frz =>
   obtain⟨rfl,rfl⟩:=hf
   exact⟨a,dx,vs,[],e,hx a _ hl (.inl ha),hk,RelL.tr hF hB hL hx hp hr,⟨rfl,rfl⟩,hF a ha⟩
  | bor =>
   obtain⟨rfl,rfl⟩:=hf
   exact⟨a,dx,vs,[],e,hx a _ hl (.inr (.inl ha)),hk,RelL.tr hF hB hL hx hp hr,⟨rfl,rfl⟩,hB a ha⟩
  | lnt =>
   obtain⟨rfl,rfl⟩:=hf
   exact⟨a,dx,vs,[],e,hx a _ hl (.inr (.inr (.inl ha))),hk,RelL.tr hF hB hL hx hp hr,⟨rfl,rfl⟩,hL a ha⟩
  | mod=>exact ha.elim
 | .exc c,_,fp,hp,h=>by
  unfold Rel at h ⊢
  obtain⟨a,e,hl,hf⟩:=h
  exact⟨a,e,hx a _ hl (.inr (.inr (.inr True.intro))),hf⟩
theorem RelL.tr(hF:∀a,F a→F' a)(hB:∀a,B a→B' a)(hL:∀a,L a→L' a)(hx:∀a o,H a=some o→(F a∨B a∨L a∨iu o)→H' a=some o) :
  ∀{xs:List PV}{vs:List V}{fp:List Addr},(∀a∈fp,∀o,H a=some o→H' a=some o)→RelL T F B L H xs vs fp→RelL T F' B' L' H' xs vs fp
 | [],_,_,_,h=>by unfold RelL at h ⊢;exact h
 | x::xs,_,fp,hp,h=>by
  unfold RelL at h ⊢
  obtain⟨v,ws,f1,f2,e,h1,h2,rfl⟩:=h
  exact⟨v,ws,f1,f2,e,Rel.tr hF hB hL hx (fun b hb=>hp b (List.mem_append_left _ hb)) h1,RelL.tr hF hB hL hx (fun b hb=>hp b (List.mem_append_right _ hb)) h2,rfl⟩
end
def Ext(H H':Hp):Prop:=∀a o,H a=some o→H' a=some o
theorem Ext.refl{H:Hp}:Ext H H:=fun _ _ h=>h
theorem Ext.trans{H H1 H2:Hp}(a:Ext H H1)(b:Ext H1 H2):Ext H H2:=fun c o h=>b c o (a c o h)
theorem Ext.upd{H:Hp}{a:Addr}{o:HO}(h:H a=none):Ext H (L2.upd H a o):=fun b u e=>by rw[aI (bG e h)];exact e
theorem Ext.free{H H':Hp}(x:Ext H H'){a:Addr}(h:H' a=none):H a=none:=by
 cases e:H a with
 | none=>rfl
 | some o=>rw[x a o e]at h;cases h
theorem Rel.ext{x:PV}{v:V}{fp:List Addr}(e:Ext H H')(hF:∀a,F a→F' a)(h:Rel T F B L H x v fp):Rel T F' B L H' x v fp :=
 Rel.tr hF (fun _ h=>h) (fun _ h=>h) (fun a o q _=>e a o q) (fun a _ o q=>e a o q) h
theorem RelL.ext{xs:List PV}{vs:List V}{fp:List Addr}(e:Ext H H')(hF:∀a,F a→F' a)(h:RelL T F B L H xs vs fp):RelL T F' B L H' xs vs fp :=
 RelL.tr hF (fun _ h=>h) (fun _ h=>h) (fun a o q _=>e a o q) (fun a _ o q=>e a o q) h
theorem RelL.length:∀{xs:List PV}{vs:List V}{fp:List Addr},RelL T F B L H xs vs fp→xs.length=vs.length
 | [],_,_,h=>by unfold RelL at h;rw[h.1];rfl
 | x::xs,_,_,h=>by
  unfold RelL at h
  obtain⟨v,ws,f1,f2,rfl,_,h2,_⟩:=h
  simp[RelL.length h2]
mutual
theorem Rel.there:∀{x:PV}{v:V}{fp:List Addr},Rel T F B L H x v fp→∀a∈fp,∃o,H a=some o
 | .non,_,_,h=>by unfold Rel at h;rw[h.2];exact fun _ z=>nomatch z
 | .bl _,_,_,h=>by unfold Rel at h;rw[h.2];exact fun _ z=>nomatch z
 | .int _,_,_,h=>by unfold Rel at h;rw[h.2];exact fun _ z=>nomatch z
 | .str _,_,_,h=>by unfold Rel at h;rw[h.2];exact fun _ z=>nomatch z
 | .lst f xs,_,fp,h=>by
  unfold Rel at h
  obtain⟨a,vs,fp',e,hl,hr,hf⟩:=h
  cases f with
  | own =>
   obtain rfl:fp=a::fp':=hf
   intro b hb
   rcases List.mem_cons.mp hb with rfl | hb
   ·exact⟨_,hl⟩
   ·exact RelL.there hr b hb
  | frz=>obtain⟨rfl,rfl⟩:=hf;exact fun _ z=>nomatch z
  | bor=>obtain⟨rfl,rfl⟩:=hf;exact fun _ z=>nomatch z
  | lnt=>obtain⟨rfl,rfl⟩:=hf;exact fun _ z=>nomatch z
  | mod=>obtain⟨rfl,rfl⟩:=hf;exact fun _ z=>nomatch z
 | .tup xs,_,fp,h=>by
  unfold Rel at h
  obtain⟨a,vs,e,hl,hr⟩:=h
  exact RelL.there hr
 | .obj f c ks xs,_,fp,h=>by
  unfold Rel at h
  obtain⟨a,dx,vs,fp',e,hl,hk,hr,hf,ha⟩:=h
  cases f with
  | own =>
   obtain rfl:fp=a::fp':=hf
   intro b hb
   rcases List.mem_cons.mp hb with rfl | hb
   ·exact⟨_,hl⟩
   ·exact RelL.there hr b hb
  | frz=>obtain⟨rfl,rfl⟩:=hf;exact fun _ z=>nomatch z
  | bor=>obtain⟨rfl,rfl⟩:=hf;exact fun _ z=>nomatch z
  | lnt=>obtain⟨rfl,rfl⟩:=hf;exact fun _ z=>nomatch z
  | mod=>obtain⟨rfl,rfl⟩:=hf;exact fun _ z=>nomatch z
 | .exc c,_,fp,h=>by
  unfold Rel at h
  obtain⟨a,e,hl,rfl⟩:=h
  exact fun _ z=>nomatch z
theorem RelL.there:∀{xs:List PV}{vs:List V}{fp:List Addr},RelL T F B L H xs vs fp→∀a∈fp,∃o,H a=some o
 | [],_,_,h=>by unfold RelL at h;rw[h.2];exact fun _ z=>nomatch z
 | x::xs,_,_,h=>by
  unfold RelL at h
  obtain⟨v,ws,f1,f2,_,h1,h2,rfl⟩:=h
  intro b hb
  rcases List.mem_append.mp hb with hb | hb
  ·exact Rel.there h1 b hb
  ·exact RelL.there h2 b hb
end
def Chg:HO→Prop
 | .lst _=>True
 | .ins _ _ _=>True
 | _=>False
mutual
theorem Rel.chg:∀{x:PV}{v:V}{fp:List Addr},Rel T F B L H x v fp→∀a∈fp,∃o,H a=some o∧Chg o
 | .non,_,_,h=>by unfold Rel at h;rw[h.2];exact fun _ z=>nomatch z
 | .bl _,_,_,h=>by unfold Rel at h;rw[h.2];exact fun _ z=>nomatch z
 | .int _,_,_,h=>by unfold Rel at h;rw[h.2];exact fun _ z=>nomatch z
 | .str _,_,_,h=>by unfold Rel at h;rw[h.2];exact fun _ z=>nomatch z
 | .lst f xs,_,fp,h=>by
  unfold Rel at h
  obtain⟨a,vs,fp',e,hl,hr,hf⟩:=h
  cases f with
  | own =>
   obtain rfl:fp=a::fp':=hf
   intro b hb
   rcases List.mem_cons.mp hb with rfl | hb
   ·exact⟨_,hl,True.intro⟩
   ·exact RelL.chg hr b hb
  | frz=>obtain⟨rfl,rfl⟩:=hf;exact fun _ z=>nomatch z
  | bor=>obtain⟨rfl,rfl⟩:=hf;exact fun _ z=>nomatch z
  | lnt=>obtain⟨rfl,rfl⟩:=hf;exact fun _ z=>nomatch z
  | mod=>obtain⟨rfl,rfl⟩:=hf;exact fun _ z=>nomatch z
 | .tup xs,_,fp,h=>by
  unfold Rel at h
  obtain⟨a,vs,e,hl,hr⟩:=h
  exact RelL.chg hr
 | .obj f c ks xs,_,fp,h=>by
  unfold Rel at h
  obtain⟨a,dx,vs,fp',e,hl,hk,hr,hf,ha⟩:=h
  cases f with
  | own =>
   obtain rfl:fp=a::fp':=hf
   intro b hb
   rcases List.mem_cons.mp hb with rfl | hb
   ·exact⟨_,hl,True.intro⟩
   ·exact RelL.chg hr b hb
  | frz=>obtain⟨rfl,rfl⟩:=hf;exact fun _ z=>nomatch z
  | bor=>obtain⟨rfl,rfl⟩:=hf;exact fun _ z=>nomatch z
  | lnt=>obtain⟨rfl,rfl⟩:=hf;exact fun _ z=>nomatch z
  | mod=>obtain⟨rfl,rfl⟩:=hf;exact fun _ z=>nomatch z
 | .exc c,_,fp,h=>by
  unfold Rel at h
  obtain⟨a,e,hl,rfl⟩:=h
  exact fun _ z=>nomatch z
theorem RelL.chg:∀{xs:List PV}{vs:List V}{fp:List Addr},RelL T F B L H xs vs fp→∀a∈fp,∃o,H a=some o∧Chg o
 | [],_,_,h=>by unfold RelL at h;rw[h.2];exact fun _ z=>nomatch z
 | x::xs,_,_,h=>by
  unfold RelL at h
  obtain⟨v,ws,f1,f2,_,h1,h2,rfl⟩:=h
  intro b hb
  rcases List.mem_append.mp hb with hb | hb
  ·exact Rel.chg h1 b hb
  ·exact RelL.chg h2 b hb
end
mutual
theorem Rel.lend:∀{x:PV}{v:V}{fp:List Addr},(∀a∈fp,L a)→Rel T F B L H x v fp→Rel T F B L H (x.mapF Fl.lend) v []
 | .non,_,_,_,h=>by unfold Rel at h;simp only[PV.mapF];unfold Rel;exact⟨h.1,rfl⟩
 | .bl _,_,_,_,h=>by unfold Rel at h;simp only[PV.mapF];unfold Rel;exact⟨h.1,rfl⟩
 | .int _,_,_,_,h=>by unfold Rel at h;simp only[PV.mapF];unfold Rel;exact⟨h.1,rfl⟩
 | .str _,_,_,_,h=>by unfold Rel at h;simp only[PV.mapF];unfold Rel;exact⟨h.1,rfl⟩
 | .lst f xs,_,fp,hp,h=>by
  unfold Rel at h
  obtain⟨a,vs,fp',e,hl,hr,hf⟩:=h
  simp only[PV.mapF]
  unfold Rel
  cases f with
  | own =>
   obtain rfl:fp=a::fp':=hf
   exact⟨a,vs,[],e,⟨hp a List.mem_cons_self,hl⟩,RelL.lend (fun b hb=>hp b (List.mem_cons_of_mem _ hb)) hr,rfl,rfl⟩
  | frz=>obtain⟨rfl,rfl⟩:=hf;exact⟨a,vs,[],e,hl,RelL.lend hp hr,rfl,rfl⟩
  | bor=>obtain⟨rfl,rfl⟩:=hf;exact⟨a,vs,[],e,hl,RelL.lend hp hr,rfl,rfl⟩
  | lnt=>obtain⟨rfl,rfl⟩:=hf;exact⟨a,vs,[],e,hl,RelL.lend hp hr,rfl,rfl⟩
  | mod=>obtain⟨rfl,rfl⟩:=hf;exact⟨a,vs,[],e,hl,RelL.lend hp hr,rfl,rfl⟩
 | .tup xs,_,fp,hp,h=>by
  unfold Rel at h
  obtain⟨a,vs,e,hl,hr⟩:=h
  simp only[PV.mapF]
  unfold Rel
  exact⟨a,vs,e,hl,RelL.lend hp hr⟩
 | .obj f c ks xs,_,fp,hp,h=>by
  unfold Rel at h
  obtain⟨a,dx,vs,fp',e,hl,hk,hr,hf,ha⟩:=h
  simp only[PV.mapF]
  unfold Rel
  cases f with
  | own =>
   obtain rfl:fp=a::fp':=hf
   have r:=RelL.lend (fun b hb=>hp b (List.mem_cons_of_mem _ hb)) hr
   exact⟨a,dx,vs,[],e,hl,⟨by rw[r.length,hk.1,hr.length],hk.2⟩,r,⟨rfl,rfl⟩,hp a List.mem_cons_self⟩
  | frz=>obtain⟨rfl,rfl⟩:=hf;have r:=RelL.lend hp hr;exact⟨a,dx,vs,[],e,hl,⟨by rw[r.length,hk.1,hr.length],hk.2⟩,r,⟨rfl,rfl⟩,ha⟩
  | bor=>obtain⟨rfl,rfl⟩:=hf;have r:=RelL.lend hp hr;exact⟨a,dx,vs,[],e,hl,⟨by rw[r.length,hk.1,hr.length],hk.2⟩,r,⟨rfl,rfl⟩,ha⟩
  | lnt=>obtain⟨rfl,rfl⟩:=hf;have r:=RelL.lend hp hr;exact⟨a,dx,vs,[],e,hl,⟨by rw[r.length,hk.1,hr.length],hk.2⟩,r,⟨rfl,rfl⟩,ha⟩
  | mod=>exact ha.elim
 | .exc c,_,fp,hp,h=>by
  unfold Rel at h
  obtain⟨a,e,hl,rfl⟩:=h
  simp only[PV.mapF]
  unfold Rel
  exact⟨a,e,hl,rfl⟩
theorem RelL.lend:∀{xs:List PV}{vs:List V}{fp:List Addr},(∀a∈fp,L a)→RelL T F B L H xs vs fp→RelL T F B L H (mapL Fl.lend xs) vs []
 | [],_,_,_,h=>by unfold RelL at h;simp only[mapL];unfold RelL;exact⟨h.1,rfl⟩
 | x::xs,_,fp,hp,h=>by
  unfold RelL at h
  obtain⟨v,ws,f1,f2,e,h1,h2,rfl⟩:=h
  simp only[mapL]
  unfold RelL
  exact⟨v,ws,[],[],e,Rel.lend (fun b hb=>hp b (List.mem_append_left _ hb)) h1,RelL.lend (fun b hb=>hp b (List.mem_append_right _ hb)) h2,rfl⟩
end
end
end PR
namespace L2
open PySem PySem.Spec
theorem PE.wk{X:Cx}{e:Expr}{t t':TE}(h:PE X e t)(w:∀σ H Q,t' σ H Q→t σ H Q):PE X e t':=fun pins s σ H Q I q=>h pins s σ H Q I (w σ H Q q)
theorem PA.wk{X:Cx}{e:List Expr}{t t':TA}(h:PA X e t)(w:∀σ H Q,t' σ H Q→t σ H Q):PA X e t':=fun pos pins s σ H Q I q=>h pos pins s σ H Q I (w σ H Q q)
theorem PT.wk{X:Cx}{e:Expr}{t t':TT}(h:PT X e t)(w:∀σ H Q,t' σ H Q→t σ H Q):PT X e t':=fun pins s σ H Q I q=>h pins s σ H Q I (w σ H Q q)
theorem PW.wk{X:Cx}{e:Expr}{t t':TT}(h:PW X e t)(w:∀σ H Q,t' σ H Q→t σ H Q):PW X e t':=fun wh pins s σ H Q I q=>h wh pins s σ H Q I (w σ H Q q)
theorem PS.wk{X:Cx}{e:Stmt}{t t':TS}(h:PS X e t)(w:∀D σ H,t' D σ H→t D σ H):PS X e t':=fun pins s σ H D I q=>h pins s σ H D I (w D σ H q)
theorem PSs.wk{X:Cx}{e:List Stmt}{t t':TS}(h:PSs X e t)(w:∀D σ H,t' D σ H→t D σ H):PSs X e t':=fun pins s σ H D I q=>h pins s σ H D I (w D σ H q)
end L2
namespace PR
open PySem PySem.Spec L2
structure Zn where
 H0:Hp
 F0:Addr→Prop
 fp0:Addr→Prop
 B:Addr→Prop
 pin:Option V:=none
abbrev NoL:Addr→Prop:=fun _=>False
structure d5(T:Tb)(Z:Zn)(F:Addr→Prop)(H:Hp):Prop where
 bo:∀a,Z.B a→(∃o,Z.H0 a=some o)∧¬Z.fp0 a
 keep:∀a o,Z.H0 a=some o→¬Z.fp0 a→H a=some o
 f0:∀a,Z.F0 a→F a
 fn:∀a,F a→Z.F0 a∨Z.H0 a=none∨Z.fp0 a
 ft:∀a,F a→∃o,H a=some o
structure ar(T:Tb)(Z:Zn)(F:Addr→Prop)(H:Hp)(σ:St)(env:En)(fp:Nat→List Addr):Prop where
 hp:d5 T Z F H
 len:σ.length=env.length
 rel:∀(i:Nat) (pv:PV),env[i]?=some (some pv)→∃v,σ[i]?=some (some v)∧Rel T F Z.B NoL H pv v (fp i)
 nd:∀i,(fp i).Nodup
 dj:∀i j,i≠j→∀a∈fp i,a∉fp j
 dis:∀i,∀a∈fp i,¬F a∧∃o,H a=some o
 new:∀i,∀a∈fp i,Z.H0 a=none∨Z.fp0 a
 ch:∀i,∀a∈fp i,∃o,H a=some o∧Chg o
 pn:∀v,Z.pin=some v→σ[0]?=some (some v)∧b6 env=true
def Own(fp:Nat→List Addr):Addr→Prop:=fun a=>∃i,a∈fp i
structure Gr(F:Addr→Prop)(H:Hp)(F':Addr→Prop)(H':Hp):Prop where
 ext:Ext H H'
 mono:∀a,F a→F' a
 only:∀a,F' a→F a∨H a=none
 dom:∀a,F' a→∃o,H' a=some o
theorem Gr.refl{F:Addr→Prop}{H:Hp}(h:∀a,F a→∃o,H a=some o):Gr F H F H:=⟨Ext.refl,fun _ h=>h,fun _ h=>.inl h,h⟩
theorem Gr.trans{F F1 F2:Addr→Prop}{H H1 H2:Hp}(a:Gr F H F1 H1)(b:Gr F1 H1 F2 H2):Gr F H F2 H2 :=
 ⟨a.ext.trans b.ext,fun c h=>b.mono c (a.mono c h),fun c h=>(b.only c h).elim (a.only c) fun z=>.inr (a.ext.free z),b.dom⟩
theorem Gr.same{F:Addr→Prop}{H H':Hp}(h:∀a,F a→∃o,H a=some o)(e:Ext H H'):Gr F H F H':=⟨e,fun _ h=>h,fun _ h=>.inl h,fun a q=>let⟨o,z⟩:=h a q;⟨o,e a o z⟩⟩
section
variable{T:Tb}{Z:Zn}{F F':Addr→Prop}{H H':Hp}{σ:St}{env:En}{fp:Nat→List Addr}
theorem d5.grow(S:d5 T Z F H)(g:Gr F H F' H'):d5 T Z F' H' :=
 ⟨S.bo,fun a o h n=>g.ext a o (S.keep a o h n),fun a h=>g.mono a (S.f0 a h),fun a h=>by
  rcases g.only a h with z | z
  ·exact S.fn a z
  ·refine .inr ?_
   by_cases q:Z.fp0 a
   ·exact .inr q
   ·refine .inl ?_
    cases w:Z.H0 a with
    | none=>rfl
    | some o=>rw[S.keep a o w q]at z;exact(nomatch z),g.dom⟩
theorem ar.grow(S:ar T Z F H σ env fp)(g:Gr F H F' H'):ar T Z F' H' σ env fp :=
 ⟨S.hp.grow g,S.len,fun i pv h=>let ⟨v,q1,q2⟩:=S.rel i pv h;⟨v,q1,q2.ext g.ext g.mono⟩,S.nd,S.dj,fun i a h=>by
  obtain⟨n,o,q⟩:=S.dis i a h
  refine⟨fun z=>?_,o,g.ext a o q⟩
  rcases g.only a z with z | z
  ·exact n z
  ·rw[q]at z;exact(nomatch z),S.new,fun i a h=>let⟨o,q,c⟩:=S.ch i a h;⟨o,g.ext a o q,c⟩,S.pn⟩
end
def GE(T:Tb)(W:Nat→St→Hp→Prop)(B F L:Addr→Prop)(σ:St)(H:Hp)(Q:VK):Res PV→Prop
 | .ok pv=>∀v H' F' f,Gr F H F' H'→Rel T F' B L H' pv v f→(∀a∈f,¬F' a)→f.Nodup→(∀a∈f,H a=none)→Q v H'
 | .exc c=>∀H',Ext H H'→W c σ H'
 | .stuck=>False
def GA(T:Tb)(W:Nat→St→Hp→Prop)(B F L:Addr→Prop)(σ:St)(H:Hp)(Q:List V→Hp→Prop):Res (List PV)→Prop
 | .ok pvs=>∀vs H' F' f,Gr F H F' H'→RelL T F' B L H' pvs vs f→(∀a∈f,¬F' a)→f.Nodup→(∀a∈f,H a=none)→Q vs H'
 | .exc c=>∀H',Ext H H'→W c σ H'
 | .stuck=>False
def GT(W:Nat→St→Hp→Prop)(F:Addr→Prop)(σ:St)(H:Hp)(Q:Bool→Hp→Prop):Res Bool→Prop
 | .ok b=>∀H' F',Gr F H F' H'→Q b H'
 | .exc c=>∀H',Ext H H'→W c σ H'
 | .stuck=>False
def tE(T:Tb)(W:Nat→St→Hp→Prop)(m:ME):TE:=fun σ H Q=>∃Z F env fp,ar T Z F H σ env fp∧GE T W Z.B F (Own fp) σ H Q (m env)
def tA(T:Tb)(W:Nat→St→Hp→Prop)(m:MA):TA:=fun σ H Q=>∃Z F env fp,ar T Z F H σ env fp∧GA T W Z.B F (Own fp) σ H Q (m env)
def tT(T:Tb)(W:Nat→St→Hp→Prop)(m:MT):TT:=fun σ H Q=>∃Z F env fp,ar T Z F H σ env fp∧GT W F σ H Q (m env)
abbrev SE(X:Cx)(T:Tb)(W:Nat→St→Hp→Prop)(e:Expr)(m:ME):Prop:=PE X e (tE T W m)
abbrev SA(X:Cx)(T:Tb)(W:Nat→St→Hp→Prop)(es:List Expr)(m:MA):Prop:=PA X es (tA T W m)
abbrev ST(X:Cx)(T:Tb)(W:Nat→St→Hp→Prop)(e:Expr)(m:MT):Prop:=PT X e (tT T W m)
section
variable{X:Cx}{T:Tb}{W:Nat→St→Hp→Prop}{Z:Zn}{F F' B L:Addr→Prop}{H H':Hp}{σ:St}{env:En}{fp:Nat→List Addr}
theorem GE.scal{Q:VK}{pv:PV}{v:V}(q:GE T W B F L σ H Q (.ok pv))(g:Gr F H F' H')(r:Rel T F' B L H' pv v []):Q v H' :=
 q v H' F' [] g r (fun _ z=>(nomatch z)) List.nodup_nil (fun _ z=>(nomatch z))
theorem jq{e:Expr}{v:V}{pv:PV}(h:PE X e (tC v))(r:∀F B L H,Rel T F B L H pv v []):SE X T W e (mC pv):=PE.wk h fun σ H Q ⟨Z,F,env,fp,S,q⟩=>q.scal (Gr.refl S.hp.ft) (r _ _ _ _)
theorem ai{i j pos}:SE X T W (.Constant (.int i) j pos) (mC (.int i)):=jq lA fun _ _ _ _=>by unfold Rel;exact⟨rfl,rfl⟩
theorem d_{b j pos}:SE X T W (.Constant (.bool b) j pos) (mC (.bl b)):=jq Ca fun _ _ _ _=>by unfold Rel;exact⟨rfl,rfl⟩
theorem fU{j pos}:SE X T W (.Constant .none j pos) (mC .non):=jq tK fun _ _ _ _=>by unfold Rel;exact⟨rfl,rfl⟩
theorem bQ{x j pos}:SE X T W (.Constant (.str x) j pos) (mC (.str x)):=jq zh fun _ _ _ _=>by unfold Rel;exact⟨rfl,rfl⟩
theorem yQ{i:Nat}{x:Str}{pos:Pos}(hN:X.N[i]?=some x)(hv:Vis X.env.scope x)(hd:(x ==("__debug__" : Str))=false:=by decide)(hcd:(x ==("__classdict__" : Str))=false:=by decide):SE X T W (.Name x pos) (ac i) :=
 PE.wk (cX hN hv hd hcd) fun σ H Q ⟨Z,F,env,fp,S,q⟩=>by
  unfold ac at q
  split at q
  ·rename_i pv e
   obtain⟨v,e1,r⟩:=S.rel i pv e
   refine⟨v,e1,q.scal (Gr.refl S.hp.ft) ?_⟩
   exact Rel.lend (fun a h=>⟨i,h⟩) (Rel.tr (fun _ h=>h) (fun _ h=>h) (fun _ h=>h.elim) (fun a o q _=>q) (fun a _ o q=>q) r)
  ·exact q.elim
theorem tE.bind{m:ME}{Q:VK}(S:ar T Z F H σ env fp)(hx:∀c,m env=.exc c→∀H',Ext H H'→W c σ H')(hs:m env≠.stuck)
  (k:∀pv v H' F' f,m env=.ok pv→Gr F H F' H'→Rel T F' Z.B (Own fp) H' pv v f→(∀a∈f,¬F' a)→f.Nodup→(∀a∈f,H a=none)→Q v H'):tE T W m σ H Q:=by
 refine⟨Z,F,env,fp,S,?_⟩
 cases e:m env with
 | ok pv=>exact fun v H' F' f g r h1 h2 h3=>k pv v H' F' f e g r h1 h2 h3
 | exc c=>exact hx c e
 | stuck=>exact hs e
theorem tA.bind{m:MA}{Q:List V→Hp→Prop}(S:ar T Z F H σ env fp)(hx:∀c,m env=.exc c→∀H',Ext H H'→W c σ H')(hs:m env≠.stuck)
  (k:∀pvs vs H' F' f,m env=.ok pvs→Gr F H F' H'→RelL T F' Z.B (Own fp) H' pvs vs f→(∀a∈f,¬F' a)→f.Nodup→(∀a∈f,H a=none)→Q vs H'):tA T W m σ H Q:=by
 refine⟨Z,F,env,fp,S,?_⟩
 cases e:m env with
 | ok pv=>exact fun v H' F' f g r h1 h2 h3=>k pv v H' F' f e g r h1 h2 h3
 | exc c=>exact hx c e
 | stuck=>exact hs e
theorem tT.bind{m:MT}{Q:Bool→Hp→Prop}(S:ar T Z F H σ env fp)(hx:∀c,m env=.exc c→∀H',Ext H H'→W c σ H')(hs:m env≠.stuck)
  (k:∀b H' F',m env=.ok b→Gr F H F' H'→Q b H'):tT T W m σ H Q:=by
 refine⟨Z,F,env,fp,S,?_⟩
 cases e:m env with
 | ok pv=>exact fun H' F' g=>k pv H' F' e g
 | exc c=>exact hx c e
 | stuck=>exact hs e
theorem ag:SA X T W [] am:=PA.wk f7 fun σ H Q ⟨Z,F,env,fp,S,q⟩=>q [] H F [] (Gr.refl S.hp.ft) (by unfold RelL;exact⟨rfl,rfl⟩) (fun _ z=>(nomatch z)) List.nodup_nil (fun _ z=>(nomatch z))
theorem aa{e:Expr}{es:List Expr}{m:ME}{ms:MA}(ha:SE X T W e m)(hr:SA X T W es ms)(hs:starEach (e::es) X.env=(false,eval e X.env)::starEach es X.env:=by rfl):SA X T W (e::es) (ae m ms) :=
 PA.wk (cK ha hr hs) fun σ H Q ⟨Z,F,env,fp,S,q⟩=>by
  unfold ae at q
  refine tE.bind S (fun c e=>by rw[e]at q;exact q) (fun e=>by rw[e]at q;exact q) fun x v H1 F1 f1 e1 g1 r1 n1 d1 w1=>?_
  rw[e1]at q
  simp only[Res.ok_bind]at q
  refine tA.bind (S.grow g1) (fun c e=>by rw[e]at q;exact fun H' x=>q H' (g1.ext.trans x)) (fun e=>by rw[e]at q;exact q) fun xs vs H2 F2 f2 e2 g2 r2 n2 d2 w2=>?_
  rw[e2]at q
  simp only[Res.ok_bind]at q
  have new1:∀a∈f1,¬F2 a:=fun a ha z=>by
   rcases g2.only a z with z | z
   ·exact n1 a ha z
   ·obtain⟨o,ho⟩:=r1.there a ha
    rw[ho]at z;cases z
  refine q (v::vs) H2 F2 (f1++f2) (g1.trans g2) (by unfold RelL;exact⟨v,vs,f1,f2,rfl,r1.ext g2.ext g2.mono,r2,rfl⟩) (fun a ha=>?_) ?_ (fun a ha=>?_)
  ·rcases List.mem_append.mp ha with ha | ha
   ·exact new1 a ha
   ·exact n2 a ha
  ·refine List.nodup_append.mpr ⟨d1,d2,fun a ha b hb z=>?_⟩
   subst z
   obtain⟨o,ho⟩:=r1.there a ha
   rw[w2 a hb]at ho;cases ho
  ·rcases List.mem_append.mp ha with ha | ha
   ·exact w1 a ha
   ·exact g1.ext.free (w2 a ha)
def ap(f:List PV→Res PV)(ms:MA):ME:=fun env=>(ms env).bind f
def Mir(T:Tb)(W:Nat→St→Hp→Prop)(f:List PV→Res PV)(r:List V→Hp→VK→Prop):Prop :=
 ∀(B F L:Addr→Prop) (σ:St) (H:Hp) (Q:VK) (F':Addr→Prop) (H':Hp) (xs:List PV) (vs:List V) (fx:List Addr),Gr F H F' H'→RelL T F' B L H' xs vs fx→(∀a∈fx,¬F' a)→fx.Nodup→(∀a∈fx,H a=none)→
  GE T W B F L σ H Q (f xs)→r vs H' Q
theorem tA.mir{f:List PV→Res PV}{r:List V→Hp→VK→Prop}{ms:MA}{Q:VK}(hm:Mir T W f r)(h:tE T W (ap f ms) σ H Q):tA T W ms σ H fun vs H1=>r vs H1 Q:=by
 obtain⟨Z,F,env,fp,S,q⟩:=h
 unfold ap at q
 refine tA.bind S (fun c e=>by rw[e]at q;exact q) (fun e=>by rw[e]at q;exact q) fun xs vs H1 F1 f1 e1 g1 r1 n1 d1 w1=>?_
 rw[e1]at q
 exact hm Z.B F (Own fp) σ H Q F1 H1 xs vs f1 g1 r1 n1 d1 w1 q
theorem cH{id:String}{x:Str}{p pos:Pos}{e:Expr}{es:List Expr}{f:List PV→Res PV}{r:List V→Hp→VK→Prop}{ms:MA}(hc:cW X (.builtin id) r)(hmir:Mir T W f r)(hg:Gl X x)(hm:X.mg x=none)(hv:bootBuiltins x=some (.builtin id))(ha:SA X T W (e::es) ms)
  (hn:x≠"__name__" := by decide) (hdb:(x ==("__debug__" : Str))=false:=by decide)
  (he:starEach (e::es) X.env=(false,eval e X.env)::starEach es X.env:=by rfl) (hpl:(backTo pos (starEach es X.env)).any (·.1)=false:=by rfl):SE X T W (.Call (.Name x p) (e::es) [] pos) (ap f ms) :=
 PE.wk (jC hc hg hm hv ha hn hdb he hpl) fun σ H Q h=>tA.mir hmir h
theorem kn{id:String}{x:Str}{p pos:Pos}{e:Expr}{es:List Expr}{f:List PV→Res PV}{r:List V→Hp→VK→Prop}{ms:MA}(hc:cW X (.type id) r)(hmir:Mir T W f r)(hg:Gl X x)(hm:X.mg x=none)(hv:bootBuiltins x=some (.type id))(ha:SA X T W (e::es) ms)
  (hn:x≠"__name__" := by decide) (hdb:(x ==("__debug__" : Str))=false:=by decide)
  (he:starEach (e::es) X.env=(false,eval e X.env)::starEach es X.env:=by rfl) (hpl:(backTo pos (starEach es X.env)).any (·.1)=false:=by rfl):SE X T W (.Call (.Name x p) (e::es) [] pos) (ap f ms) :=
 PE.wk (kx hc hg hm hv ha hn hdb he hpl) fun σ H Q h=>tA.mir hmir h
def gB(T:Tb)(W:Nat→St→Hp→Prop)(f:PV→PV→Res PV)(r:R2):Prop :=
 ∀(B F L:Addr→Prop) (σ:St) (H:Hp) (Q:VK) (F':Addr→Prop) (H':Hp) (x y:PV) (v u:V) (fx fy:List Addr),Gr F H F' H'→Rel T F' B L H' x v fx→Rel T F' B L H' y u fy→(∀a∈fx++fy,¬F' a)→(fx++fy).Nodup→(∀a∈fx++fy,H a=none)→
  GE T W B F L σ H Q (f x y)→r v u H' Q
theorem tE.mir2{f:PV→PV→Res PV}{r:R2}{ma mb:ME}{Q:VK}(hm:gB T W f r)(h:tE T W (mOp f ma mb) σ H Q):tOp r (tE T W ma) (tE T W mb) σ H Q:=by
 obtain⟨Z,F,env,fp,S,q⟩:=h
 unfold mOp at q
 refine tE.bind S (fun c e=>by rw[e]at q;exact q) (fun e=>by rw[e]at q;exact q) fun x v H1 F1 f1 e1 g1 r1 n1 d1 w1=>?_
 rw[e1]at q
 simp only[Res.ok_bind]at q
 refine tE.bind (S.grow g1) (fun c e=>by rw[e]at q;exact fun H' x=>q H' (g1.ext.trans x)) (fun e=>by rw[e]at q;exact q) fun y u H2 F2 f2 e2 g2 r2 n2 d2 w2=>?_
 rw[e2]at q
 simp only[Res.ok_bind]at q
 have new1:∀a∈f1,¬F2 a:=fun a ha z=>by
  rcases g2.only a z with z | z
  ·exact n1 a ha z
  ·obtain⟨o,ho⟩:=r1.there a ha
   rw[ho]at z;cases z
 refine hm Z.B F (Own fp) σ H Q F2 H2 x y v u f1 f2 (g1.trans g2) (r1.ext g2.ext g2.mono) r2 (fun a ha=>?_) ?_ (fun a ha=>?_) q
 ·rcases List.mem_append.mp ha with ha | ha
  ·exact new1 a ha
  ·exact n2 a ha
 ·refine List.nodup_append.mpr ⟨d1,d2,fun a ha b hb z=>?_⟩
  subst z
  obtain⟨o,ho⟩:=r1.there a ha
  rw[w2 a hb]at ho;cases ho
 ·rcases List.mem_append.mp ha with ha | ha
  ·exact w1 a ha
  ·exact g1.ext.free (w2 a ha)
theorem jt{a b:Expr}{ma mb:ME}{op:Operator}{r:R2}{f:PV→PV→Res PV}{pos:Pos}(ho:OpR X (binaryOp op) r)(hm:gB T W f r)(ha:SE X T W a ma)(hb:SE X T W b mb):SE X T W (.BinOp a op b pos) (mOp f ma mb) :=
 PE.wk (B_ (pos:=pos) ho ha hb) fun σ H Q h=>tE.mir2 hm h
theorem jv{a b:Expr}{ma mb:ME}{op:CmpOp}{r:R2}{f:PV→PV→Res PV}{pos:Pos}(ho:OpR X (compareOp op) r)(hm:gB T W f r)(ha:SE X T W a ma)(hb:SE X T W b mb)(hk:behindInMarks op b=false):SE X T W (.Compare a [op] [b] pos) (mOp f ma mb) :=
 PE.wk (wX (pos:=pos) ho ha hb hk) fun σ H Q h=>tE.mir2 hm h
theorem yo{a b:Expr}{ma mb:ME}{r:R2}{f:PV→PV→Res PV}{pos:Pos}(hr:IxR X r)(hm:gB T W f r)(ha:SE X T W a ma)(hb:SE X T W b mb)(hs:fG b):SE X T W (.Subscript a b pos) (mOp f ma mb) :=
 PE.wk (tL (pos:=pos) hr ha hb hs) fun σ H Q h=>tE.mir2 hm h
theorem lP{g:Int→Int→V}{g':Int→Int→PV}(hg:∀i j F B L H,Rel T F B L H (g' i j) (g i j) []):gB T W (jD g') (rI0 g):=by
  intro B F L σ H Q F' H' x y v u fx fy gr rx ry _ _ _ q
  cases x<;>cases y<;>first
    | exact q.elim
    | (unfold Rel at rx ry
       exact⟨_,_,rx.1,ry.1,q.scal gr (hg _ _ _ _ _ _)⟩)
theorem ng{C:Int→Int→Prop}{C':Int→Int→Bool}{g:Int→Int→V}{g':Int→Int→PV}(hc:∀i j,C' i j=true→C i j)(hg:∀i j F B L H,Rel T F B L H (g' i j) (g i j) []):gB T W (dD C' g') (rI C g):=by
  intro B F L σ H Q F' H' x y v u fx fy gr rx ry _ _ _ q
  cases x<;>cases y<;>first
    | exact q.elim
    | (unfold Rel at rx ry
       simp only[dD]at q
       split at q
       · rename_i hh
         exact⟨_,_,rx.1,ry.1,hc _ _ hh,q.scal gr (hg _ _ _ _ _ _)⟩
       · exact q.elim)
theorem eE{i:Int}:Rel T F B L H (.int i) (.int i) []:=by unfold Rel;exact⟨rfl,rfl⟩
theorem ib{i:Bool}:Rel T F B L H (.bl i) (.bl i) []:=by unfold Rel;exact⟨rfl,rfl⟩
theorem B3:Rel T F B L H .non .non []:=by unfold Rel;exact⟨rfl,rfl⟩
def lD:PV→PV→Res PV:=jD fun i j=>.int (i - j)
def dU:PV→PV→Res PV:=dD (fun i j=>decide ((-(2 ^ 64) < i∧i < 2 ^ 64)∨(-(2 ^ 64) < j∧j < 2 ^ 64))) fun i j=>.int (i * j)
def bM:PV→PV→Res PV:=dD (fun _ j=>decide (0 < j)) fun i j=>.int (i % j)
def cZ:PV→PV→Res PV:=dD (fun _ j=>decide (0 < j∧j < 1073741824)) fun i j=>.int (i / j)
def lE:PV→PV→Res PV:=dD (fun i j=>decide (0≤j∧j≤1000000∧i.natAbs < 2 ^ 64)) fun i j=>.int (i ^ j.toNat)
def pLt:PV→PV→Res PV:=jD fun i j=>.bl (decide (i < j))
def pLe:PV→PV→Res PV:=jD fun i j=>.bl (decide (i≤j))
def pGt:PV→PV→Res PV:=jD fun i j=>.bl (decide (j < i))
def pGe:PV→PV→Res PV:=jD fun i j=>.bl (decide (j≤i))
variable{a b:Expr}{ma mb:ME}{pos:Pos}
theorem iF(ha:SE X T W a ma)(hb:SE X T W b mb):SE X T W (.BinOp a .Sub b pos) (mOp lD ma mb):=jt zq (lP fun _ _ _ _ _ _=>eE) ha hb
theorem e_(ha:SE X T W a ma)(hb:SE X T W b mb):SE X T W (.BinOp a .Mult b pos) (mOp dU ma mb):=jt zu (ng (fun i j h=>(by simpa using h:(-(2 ^ 64) < i∧i < 2 ^ 64)∨(-(2 ^ 64) < j∧j < 2 ^ 64))) fun _ _ _ _ _ _=>eE) ha hb
theorem aZ(ha:SE X T W a ma)(hb:SE X T W b mb):SE X T W (.BinOp a .Mod b pos) (mOp bM ma mb):=jt zv (ng (fun _ _ h=>of_decide_eq_true h) fun _ _ _ _ _ _=>eE) ha hb
theorem dB(ha:SE X T W a ma)(hb:SE X T W b mb):SE X T W (.BinOp a .FloorDiv b pos) (mOp cZ ma mb):=jt w_ (ng (fun i j h=>(by simpa using h:0 < j∧j < 1073741824)) fun _ _ _ _ _ _=>eE) ha hb
theorem sL(ha:SE X T W a ma)(hb:SE X T W b mb):SE X T W (.BinOp a .Pow b pos) (mOp lE ma mb):=jt zt (ng (fun i j h=>(by simpa using h:0≤j∧j≤1000000∧i.natAbs < 2 ^ 64)) fun _ _ _ _ _ _=>eE) ha hb
end
end PR
namespace PR
open PySem PySem.Spec L2
def GS(T:Tb)(W:Nat→St→Hp→Prop)(Z:Zn)(D:Ends):Out→Prop
 | .next e=>∀F H σ fp,ar T Z F H σ e fp→D.nx σ H
 | .ret pv=>∀F H v f,d5 T Z F H→Rel T F Z.B NoL H pv v f→f.Nodup→(∀a∈f,¬F a)→(∀a∈f,Z.H0 a=none∨Z.fp0 a)→D.rt v H
 | .brk e=>∀F H σ fp,ar T Z F H σ e fp→D.bk σ H
 | .cont e=>∀F H σ fp,ar T Z F H σ e fp→D.ct σ H
 | .exc c e=>∀F H σ fp,ar T Z F H σ e fp→W c σ H
 | .stuck=>False
def tS(T:Tb)(W:Nat→St→Hp→Prop)(m:MS):TS:=fun D σ H=>∃Z F env fp,ar T Z F H σ env fp∧GS T W Z D (m env)
abbrev SS(X:Cx)(T:Tb)(W:Nat→St→Hp→Prop)(st:Stmt)(m:MS):Prop:=PS X st (tS T W m)
abbrev SSs(X:Cx)(T:Tb)(W:Nat→St→Hp→Prop)(sts:List Stmt)(m:MS):Prop:=PSs X sts (tS T W m)
mutual
theorem Rel.noL{T:Tb}{F B L L':Addr→Prop}{H:Hp}:∀{x:PV}{v:V}{fp:List Addr},x.has Fl.isLnt=false→Rel T F B L H x v fp→Rel T F B L' H x v fp
 | .non,_,_,_,h=>by unfold Rel at h ⊢;exact h
 | .bl _,_,_,_,h=>by unfold Rel at h ⊢;exact h
 | .int _,_,_,_,h=>by unfold Rel at h ⊢;exact h
 | .str _,_,_,_,h=>by unfold Rel at h ⊢;exact h
 | .lst f xs,_,fp,hp,h=>by
  unfold Rel at h ⊢
  simp only[PV.has,Bool.or_eq_false_iff]at hp
  obtain⟨a,vs,fp',e,hl,hr,hf⟩:=h
  refine⟨a,vs,fp',e,?_,RelL.noL hp.2 hr,hf⟩
  cases f with
  | lnt=>exact absurd hp.1 (by decide)
  | own=>exact hl
  | frz=>exact hl
  | bor=>exact hl
  | mod=>exact hl
 | .tup xs,_,fp,hp,h=>by
  unfold Rel at h ⊢
  simp only[PV.has]at hp
  obtain⟨a,vs,e,hl,hr⟩:=h
  exact⟨a,vs,e,hl,RelL.noL hp hr⟩
 | .obj f c ks xs,_,fp,hp,h=>by
  unfold Rel at h ⊢
  simp only[PV.has,Bool.or_eq_false_iff]at hp
  obtain⟨a,dx,vs,fp',e,hl,hk,hr,hf,ha⟩:=h
  refine⟨a,dx,vs,fp',e,hl,hk,RelL.noL hp.2 hr,hf,?_⟩
  cases f with
  | lnt=>exact absurd hp.1 (by decide)
  | own=>exact ha
  | frz=>exact ha
  | bor=>exact ha
  | mod=>exact ha
 | .exc c,_,fp,hp,h=>by
  unfold Rel at h ⊢
  exact h
theorem RelL.noL{T:Tb}{F B L L':Addr→Prop}{H:Hp}:∀{xs:List PV}{vs:List V}{fp:List Addr},hasL Fl.isLnt xs=false→RelL T F B L H xs vs fp→RelL T F B L' H xs vs fp
 | [],_,_,_,h=>by unfold RelL at h ⊢;exact h
 | x::xs,_,fp,hp,h=>by
  unfold RelL at h ⊢
  simp only[hasL,Bool.or_eq_false_iff]at hp
  obtain⟨v,ws,f1,f2,e,h1,h2,rfl⟩:=h
  exact⟨v,ws,f1,f2,e,Rel.noL hp.1 h1,RelL.noL hp.2 h2,rfl⟩
end
section
variable{X:Cx}{T:Tb}{W:Nat→St→Hp→Prop}{Z:Zn}{F F' B L:Addr→Prop}{H H':Hp}{σ:St}{env:En}{fp:Nat→List Addr}{D:Ends}
def br(fp:Nat→List Addr)(i:Nat)(f:List Addr):Nat→List Addr:=fun j=>if j=i then f else fp j
theorem ar.put(S:ar T Z F H σ env fp){i:Nat}{pv:PV}{v:V}{f:List Addr}(r:Rel T F Z.B NoL H pv v f)(nd:f.Nodup)(nf:∀a∈f,¬F a)(new:∀a∈f,Z.H0 a=none∨Z.fp0 a)(dj:∀a∈f,∀j,j≠i→a∉fp j)(ho:aL i env=true) :
  ar T Z F H (σ.set i (some v)) (env.set i (some pv)) (br fp i f):=by
 refine⟨S.hp,by rw[List.length_set,List.length_set,S.len],fun j pv' e=>?_,fun j=>?_,fun j k hjk a ha=>?_,fun j a ha=>?_,fun j a ha=>?_,fun j a ha=>?_,fun w hw=>?_⟩
 ·by_cases hj:j=i
  ·subst hj
   have hl:j < env.length:=by
    have:=(List.getElem?_eq_some_iff.mp e).1
    simpa using this
   rw[List.getElem?_set_self hl]at e
   cases e
   refine⟨v,List.getElem?_set_self (by rw[S.len];exact hl),?_⟩
   unfold br
   rw[if_pos rfl]
   exact r
  ·rw[List.getElem?_set_ne (Ne.symm hj)]at e
   obtain⟨w,h1,h2⟩:=S.rel j pv' e
   refine⟨w,by rw[List.getElem?_set_ne (Ne.symm hj)];exact h1,?_⟩
   unfold br
   rw[if_neg hj]
   exact h2
 ·unfold br;split
  ·exact nd
  ·exact S.nd j
 ·unfold br at ha ⊢
  by_cases h1:j=i
  ·subst h1
   rw[if_pos rfl]at ha
   rw[if_neg (Ne.symm hjk)]
   exact dj a ha k (Ne.symm hjk)
  ·rw[if_neg h1]at ha
   by_cases h2:k=i
   ·subst h2
    rw[if_pos rfl]
    exact fun z=>dj a z j h1 ha
   ·rw[if_neg h2]
    exact S.dj j k hjk a ha
 ·unfold br at ha
  by_cases h1:j=i
  ·rw[if_pos h1]at ha;exact⟨nf a ha,r.there a ha⟩
  ·rw[if_neg h1]at ha;exact S.dis j a ha
 ·unfold br at ha
  by_cases h1:j=i
  ·rw[if_pos h1]at ha;exact new a ha
  ·rw[if_neg h1]at ha;exact S.new j a ha
 ·unfold br at ha
  by_cases h1:j=i
  ·rw[if_pos h1]at ha;exact r.chg a ha
  ·rw[if_neg h1]at ha;exact S.ch j a ha
 ·obtain⟨h1,h2⟩:=S.pn w hw
  have hi:i≠0:=fun z=>by
   rw[z]at ho
   simp[aL,h2]at ho
  refine⟨by rw[List.getElem?_set_ne hi];exact h1,?_⟩
  unfold b6 at h2 ⊢
  rw[List.getElem?_set_ne hi]
  exact h2
theorem ar.putN(S:ar T Z F H σ env fp)(g:Gr F H F' H'){i:Nat}{pv:PV}{v:V}{f:List Addr}(ho:aL i env=true)(r:Rel T F' Z.B L H' pv v f)(hl:pv.noLnt=true)(nf:∀a∈f,¬F' a)(nd:f.Nodup)(w:∀a∈f,H a=none) :
  ar T Z F' H' (σ.set i (some v)) (env.set i (some pv)) (br fp i f):=by
 refine(S.grow g).put (Rel.noL (by simpa[PV.noLnt]using hl) r) nd nf (fun a ha=>?_) (fun a ha j _ hj=>?_) ho
 ·by_cases q:Z.fp0 a
  ·exact .inr q
  ·refine .inl ?_
   cases e:Z.H0 a with
   | none=>rfl
   | some o =>
    have:=S.hp.keep a o e q
    rw[w a ha]at this;cases this
 ·obtain⟨_,o,ho⟩:=S.dis j a hj
  rw[w a ha]at ho;cases ho
theorem aJ:SSs X T W [] aP:=PSs.wk wM fun D σ H ⟨Z,F,env,fp,S,q⟩=>q F H σ fp S
theorem ah{st:Stmt}{bw:List Stmt}{a b:MS}(h1:SS X T W st a)(h2:SSs X T W bw b):SSs X T W (st::bw) (au a b) :=
 PSs.wk (mU h1 h2) fun D σ H ⟨Z,F,env,fp,S,q⟩=>by
  refine⟨Z,F,env,fp,S,?_⟩
  unfold au at q
  cases e:a env with
  | next e'=>rw[e]at q;exact fun F' H' σ' fp' S'=>⟨Z,F',e',fp',S',q⟩
  | ret v=>rw[e]at q;exact q
  | brk e'=>rw[e]at q;exact q
  | cont e'=>rw[e]at q;exact q
  | exc c e'=>rw[e]at q;exact q
  | stuck=>rw[e]at q;exact q
theorem ak{st:Stmt}{a:MS}(h1:SS X T W st a):SSs X T W [st] a:=pG h1
theorem aU{c:Expr}{a b:List Stmt}{mc:MT}{ma mb:MS}{pos:Pos}(hc:ST X T W c mc)(ha:SSs X T W a ma)(hb:SSs X T W b mb):SS X T W (.If c a b pos) (mBr mc ma mb) :=
 PS.wk (B6 (pos:=pos) hc ha hb) fun D σ H ⟨Z,F,env,fp,S,q⟩=>by
  unfold mBr at q
  refine tT.bind S (fun c e H' x=>?_) (fun e=>by rw[e]at q;exact q) fun b H' F' e g=>?_
  ·rw[e]at q
   exact q F H' σ fp (S.grow (Gr.same S.hp.ft x))
  ·cases b with
   | true=>rw[e]at q;exact(if_pos rfl).mpr ⟨Z,F',env,fp,S.grow g,q⟩
   | false=>rw[e]at q;exact(if_neg (by decide)).mpr ⟨Z,F',env,fp,S.grow g,q⟩
theorem yN{i:Nat}{x:Str}{e:Expr}{m:ME}{pos pos':Pos}(hN:X.N.Nodup)(hi:X.N[i]?=some x)(hx:Loc X.env.scope x)(he:SE X T W e m)(hs:swapsWith e (some (.Name x pos')) pos.line X.env=pure false:=by rfl)
  (hf:X.fn x=true∨X.env.scope.names.lookup x=some .local:=by first | exact .inl rfl | exact .inr rfl | assumption):SS X T W (.Assign [.Name x pos'] e pos) (a9 i m) :=
 PS.wk (sZ (pos:=pos) hN hi hx he hs hf) fun D σ H ⟨Z,F,env,fp,S,q⟩=>by
  unfold a9 at q
  refine tE.bind S (fun c e H' x=>?_) (fun e=>by rw[e]at q;exact q) fun pv v H1 F1 f e g r h1 h2 h3=>?_
  ·rw[e]at q
   exact q F H' σ fp (S.grow (Gr.same S.hp.ft x))
  ·rw[e]at q
   simp only at q
   split at q
   ·rename_i hl
    rw[Bool.and_eq_true]at hl
    exact q F1 H1 _ _ (S.putN g hl.2 r hl.1 h1 h2 h3)
   ·exact q.elim
theorem d5.newE(S:d5 T Z F H){f:List Addr}(w:∀a∈f,H a=none):∀a∈f,Z.H0 a=none∨Z.fp0 a:=fun a ha=>by
 by_cases q:Z.fp0 a
 ·exact .inr q
 ·refine .inl ?_
  cases e:Z.H0 a with
  | none=>rfl
  | some o =>
   have:=S.keep a o e q
   rw[w a ha]at this;cases this
theorem aD{e:Expr}{m:ME}{pos:Pos}(he:SE X T W e m):SS X T W (.Return (some e) pos) (ba m) :=
 PS.wk (oB (pos:=pos) he) fun D σ H ⟨Z,F,env,fp,S,q⟩=>by
  unfold ba at q
  refine tE.bind S (fun c e H' x=>?_) (fun e=>by rw[e]at q;exact q) fun pv v H1 F1 f e g r h1 h2 h3=>?_
  ·rw[e]at q
   exact q F H' σ fp (S.grow (Gr.same S.hp.ft x))
  ·rw[e]at q
   simp only at q
   split at q
   ·rename_i hl
    exact q F1 H1 v f (S.hp.grow g) (Rel.noL (by simpa[PV.noLnt]using hl) r) h2 h1 (S.hp.newE h3)
   ·exact q.elim
theorem d9{i:Nat}{x:Str}{pos pos':Pos}(hN:X.N[i]?=some x)(hv:Vis X.env.scope x)(hd:(x ==("__debug__" : Str))=false:=by decide)(hcd:(x ==("__classdict__" : Str))=false:=by decide):SS X T W (.Return (some (.Name x pos')) pos) (dH i) :=
 PS.wk (oB (pos:=pos) (cX hN hv hd hcd)) fun D σ H ⟨Z,F,env,fp,S,q⟩=>by
  unfold dH at q
  split at q
  ·rename_i pv e
   obtain⟨v,e1,r⟩:=S.rel i pv e
   exact⟨v,e1,q F H v (fp i) S.hp r (S.nd i) (fun a ha=>(S.dis i a ha).1) (S.new i)⟩
  ·exact q.elim
theorem Dm{pos:Pos}:SS X T W (.Return none pos) (ba (mC .non)) :=
 PS.wk (wN (pos:=pos)) fun D σ H ⟨Z,F,env,fp,S,q⟩=>q F H .non [] S.hp B3 List.nodup_nil (fun _ z=>(nomatch z)) (fun _ z=>(nomatch z))
theorem e9{e:Expr}{m:ME}{pos:Pos}(he:SE X T W e m)(hs:swapsWith e none pos.line X.env=pure false:=by rfl):SS X T W (.Expr e pos) (f_ m) :=
 PS.wk (gv (pos:=pos) he hs) fun D σ H ⟨Z,F,env,fp,S,q⟩=>by
  unfold f_ at q
  refine tE.bind S (fun c e H' x=>?_) (fun e=>by rw[e]at q;exact q) fun pv v H1 F1 f e g r h1 h2 h3=>?_
  ·rw[e]at q
   exact q F H' σ fp (S.grow (Gr.same S.hp.ft x))
  ·rw[e]at q
   exact q F1 H1 σ fp (S.grow g)
mutual
theorem Rel.freeze(hF:∀a,F a→F' a):∀{x:PV}{v:V}{fp:List Addr},(∀a∈fp,F' a)→Rel T F B L H x v fp→Rel T F' B L H (x.mapF Fl.freeze) v []
 | .non,_,_,_,h=>by unfold Rel at h;simp only[PV.mapF];unfold Rel;exact⟨h.1,rfl⟩
 | .bl _,_,_,_,h=>by unfold Rel at h;simp only[PV.mapF];unfold Rel;exact⟨h.1,rfl⟩
 | .int _,_,_,_,h=>by unfold Rel at h;simp only[PV.mapF];unfold Rel;exact⟨h.1,rfl⟩
 | .str _,_,_,_,h=>by unfold Rel at h;simp only[PV.mapF];unfold Rel;exact⟨h.1,rfl⟩
 | .lst f xs,_,fp,hp,h=>by
  unfold Rel at h
  obtain⟨a,vs,fp',e,hl,hr,hf⟩:=h
  simp only[PV.mapF]
  unfold Rel
  cases f with
  | own =>
   obtain rfl:fp=a::fp':=hf
   exact⟨a,vs,[],e,⟨hp a List.mem_cons_self,.inl hl⟩,RelL.freeze hF (fun b hb=>hp b (List.mem_cons_of_mem _ hb)) hr,rfl,rfl⟩
  | frz=>obtain⟨rfl,rfl⟩:=hf;exact⟨a,vs,[],e,⟨hF a hl.1,hl.2⟩,RelL.freeze hF hp hr,rfl,rfl⟩
  | bor=>obtain⟨rfl,rfl⟩:=hf;exact⟨a,vs,[],e,hl,RelL.freeze hF hp hr,rfl,rfl⟩
  | lnt=>obtain⟨rfl,rfl⟩:=hf;exact⟨a,vs,[],e,hl,RelL.freeze hF hp hr,rfl,rfl⟩
  | mod=>obtain⟨rfl,rfl⟩:=hf;exact⟨a,vs,[],e,hl,RelL.freeze hF hp hr,rfl,rfl⟩
 | .tup xs,_,fp,hp,h=>by
  unfold Rel at h
  obtain⟨a,vs,e,hl,hr⟩:=h
  simp only[PV.mapF]
  unfold Rel
  exact⟨a,vs,e,hl,RelL.freeze hF hp hr⟩
 | .obj f c ks xs,_,fp,hp,h=>by
  unfold Rel at h
  obtain⟨a,dx,vs,fp',e,hl,hk,hr,hf,ha⟩:=h
  simp only[PV.mapF]
  unfold Rel
  cases f with
  | own =>
   obtain rfl:fp=a::fp':=hf
   have r:=RelL.freeze hF (fun b hb=>hp b (List.mem_cons_of_mem _ hb)) hr
   exact⟨a,dx,vs,[],e,hl,⟨by rw[r.length,hk.1,hr.length],hk.2⟩,r,⟨rfl,rfl⟩,hp a List.mem_cons_self⟩
  | frz=>obtain⟨rfl,rfl⟩:=hf;have r:=RelL.freeze hF hp hr;exact⟨a,dx,vs,[],e,hl,⟨by rw[r.length,hk.1,hr.length],hk.2⟩,r,⟨rfl,rfl⟩,hF a ha⟩
  | bor=>obtain⟨rfl,rfl⟩:=hf;have r:=RelL.freeze hF hp hr;exact⟨a,dx,vs,[],e,hl,⟨by rw[r.length,hk.1,hr.length],hk.2⟩,r,⟨rfl,rfl⟩,ha⟩
  | lnt=>obtain⟨rfl,rfl⟩:=hf;have r:=RelL.freeze hF hp hr;exact⟨a,dx,vs,[],e,hl,⟨by rw[r.length,hk.1,hr.length],hk.2⟩,r,⟨rfl,rfl⟩,ha⟩
  | mod=>exact ha.elim
 | .exc c,_,fp,hp,h=>by
  unfold Rel at h
  obtain⟨a,e,hl,rfl⟩:=h
  simp only[PV.mapF]
  unfold Rel
  exact⟨a,e,hl,rfl⟩
theorem RelL.freeze(hF:∀a,F a→F' a):∀{xs:List PV}{vs:List V}{fp:List Addr},(∀a∈fp,F' a)→RelL T F B L H xs vs fp→RelL T F' B L H (mapL Fl.freeze xs) vs []
 | [],_,_,_,h=>by unfold RelL at h;simp only[mapL];unfold RelL;exact⟨h.1,rfl⟩
 | x::xs,_,fp,hp,h=>by
  unfold RelL at h
  obtain⟨v,ws,f1,f2,e,h1,h2,rfl⟩:=h
  simp only[mapL]
  unfold RelL
  exact⟨v,ws,[],[],e,Rel.freeze hF (fun b hb=>hp b (List.mem_append_left _ hb)) h1,RelL.freeze hF (fun b hb=>hp b (List.mem_append_right _ hb)) h2,rfl⟩
end
theorem ar.frz(S:ar T Z F H σ env fp){i:Nat}{pv:PV}(e:env[i]?=some (some pv)):ar T Z (fun a=>F a∨a∈fp i) H σ (env.set i (some (pv.mapF Fl.freeze))) (br fp i []):=by
 have hi:i < env.length:=(List.getElem?_eq_some_iff.mp e).1
 refine⟨⟨S.hp.bo,S.hp.keep,fun a h=>.inl (S.hp.f0 a h),fun a h=>h.elim (S.hp.fn a) fun z=>.inr (S.new i a z),fun a h=>h.elim (S.hp.ft a) fun z=>(S.dis i a z).2⟩,by rw[List.length_set,S.len],fun j pv' e'=>?_,fun j=>?_,fun j k hjk a ha=>?_,fun j a ha=>?_,fun j a ha=>?_,fun j a ha=>?_,fun w hw=>?_⟩
 ·by_cases hj:j=i
  ·subst hj
   rw[List.getElem?_set_self hi]at e'
   cases e'
   obtain⟨v,h1,h2⟩:=S.rel j pv e
   refine⟨v,h1,?_⟩
   unfold br
   rw[if_pos rfl]
   exact Rel.freeze (fun _ h=>.inl h) (fun a h=>.inr h) h2
  ·rw[List.getElem?_set_ne (Ne.symm hj)]at e'
   obtain⟨w,h1,h2⟩:=S.rel j pv' e'
   refine⟨w,h1,?_⟩
   unfold br
   rw[if_neg hj]
   exact h2.ext Ext.refl fun _ h=>.inl h
 ·unfold br;split
  ·exact List.nodup_nil
  ·exact S.nd j
 ·unfold br at ha ⊢
  by_cases h1:j=i
  ·rw[if_pos h1]at ha;cases ha
  ·rw[if_neg h1]at ha
   by_cases h2:k=i
   ·rw[if_pos h2];exact fun z=>nomatch z
   ·rw[if_neg h2];exact S.dj j k hjk a ha
 ·unfold br at ha
  by_cases h1:j=i
  ·rw[if_pos h1]at ha;cases ha
  ·rw[if_neg h1]at ha
   exact⟨fun z=>z.elim (S.dis j a ha).1 fun z=>S.dj j i h1 a ha z,(S.dis j a ha).2⟩
 ·unfold br at ha
  by_cases h1:j=i
  ·rw[if_pos h1]at ha;cases ha
  ·rw[if_neg h1]at ha;exact S.new j a ha
 ·unfold br at ha
  by_cases h1:j=i
  ·rw[if_pos h1]at ha;cases ha
  ·rw[if_neg h1]at ha;exact S.ch j a ha
 ·obtain⟨h1,h2⟩:=S.pn w hw
  refine⟨h1,?_⟩
  unfold b6 at h2 ⊢
  by_cases hi0:i=0
  ·subst hi0
   rw[e]at h2
   rw[List.getElem?_set_self hi]
   cases pv<;>first | exact h2 |(cases h2;done) | rfl
  ·rw[List.getElem?_set_ne hi0]
   exact h2
theorem eD{i:Nat}{sts:List Stmt}{m:MS}(h:SSs X T W sts m):SSs X T W sts (au (gA i) m):=PSs.wk h fun D σ H ⟨Z,F,env,fp,S,q⟩=>by
 cases e:env[i]? with
 | none=>simp[au,gA,e]at q;exact q.elim
 | some w =>
  cases w with
  | none=>simp[au,gA,e]at q;exact q.elim
  | some pv =>
   simp only[au,gA,e]at q
   exact⟨Z,_,_,_,S.frz e,q⟩
def Zn.re(Z:Zn)(F:Addr→Prop)(H:Hp)(fp:Nat→List Addr):Zn:=⟨H,F,Own fp,Z.B,Z.pin⟩
theorem ar.enter(S:ar T Z F H σ env fp):ar T (Z.re F H fp) F H σ env fp :=
 ⟨⟨fun a h=>by
   obtain⟨⟨o,h1⟩,h2⟩:=S.hp.bo a h
   refine⟨⟨o,S.hp.keep a o h1 h2⟩,fun⟨i,hi⟩=>?_⟩
   rcases S.new i a hi with z | z
   ·rw[h1]at z;cases z
   ·exact h2 z,fun _ _ h _=>h,fun _ h=>h,fun _ h=>.inl h,S.hp.ft⟩,S.len,S.rel,S.nd,S.dj,S.dis,fun i a ha=>.inr ⟨i,ha⟩,S.ch,S.pn⟩
theorem d5.leave(S:ar T Z F H σ env fp)(S':d5 T (Z.re F H fp) F' H'):d5 T Z F' H' :=
 ⟨S.hp.bo,fun a o h n=>S'.keep a o (S.hp.keep a o h n) fun ⟨i,hi⟩=>by
   rcases S.new i a hi with z | z
   ·rw[h]at z;cases z
   ·exact n z,fun a h=>S'.f0 a (S.hp.f0 a h),fun a h=>by
  rcases S'.fn a h with z | z |⟨i,hi⟩
  ·exact S.hp.fn a z
  ·refine .inr ?_
   by_cases q:Z.fp0 a
   ·exact .inr q
   ·refine .inl ?_
    cases w:Z.H0 a with
    | none=>rfl
    | some o =>
     have z':H a=none:=z
     rw[S.hp.keep a o w q]at z';cases z'
  ·exact .inr (S.new i a hi),S'.ft⟩
theorem ar.newL(S:ar T Z F H σ env fp){a:Addr}(h:(Z.re F H fp).H0 a=none ∨(Z.re F H fp).fp0 a):Z.H0 a=none∨Z.fp0 a:=by
 rcases h with z |⟨i,hi⟩
 ·by_cases q:Z.fp0 a
  ·exact .inr q
  ·refine .inl ?_
   cases w:Z.H0 a with
   | none=>rfl
   | some o =>
    have z':H a=none:=z
    rw[S.hp.keep a o w q]at z';cases z'
 ·exact S.new i a hi
theorem ar.leave{σ':St}{env':En}{fp':Nat→List Addr}(S:ar T Z F H σ env fp)(S':ar T (Z.re F H fp) F' H' σ' env' fp'):ar T Z F' H' σ' env' fp' :=
 ⟨d5.leave S S'.hp,S'.len,S'.rel,S'.nd,S'.dj,S'.dis,fun i a ha=>S.newL (S'.new i a ha),S'.ch,S'.pn⟩
end
end PR
namespace PR
open PySem PySem.Spec L2
section
variable{X:Cx}{T:Tb}{W:Nat→St→Hp→Prop}{Z:Zn}{F F' B L:Addr→Prop}{H H':Hp}{σ:St}{env:En}{fp:Nat→List Addr}{D:Ends}
abbrev SW(X:Cx)(T:Tb)(W:Nat→St→Hp→Prop)(e:Expr)(m:MT):Prop:=PW X e (tT T W m)
theorem tT.test{m:ME}{Q:Bool→Hp→Prop}(h:tT T W (ax m) σ H Q):tE T W m σ H fun x H'=>∃k,x=.bl k∧Q k H':=by
 obtain⟨Z,F,env,fp,S,q⟩:=h
 unfold ax at q
 refine tE.bind S (fun c e=>by rw[e]at q;exact q) (fun e=>by rw[e]at q;exact q) fun x v H1 F1 f1 e1 g1 r1 n1 d1 w1=>?_
 rw[e1]at q
 cases x with
 | bl b =>
  unfold Rel at r1
  exact⟨b,r1.1,q H1 F1 g1⟩
 | _=>exact q.elim
theorem eC{a b:Expr}{ma mb:ME}{op:CmpOp}{r:R2}{f:PV→PV→Res PV}{pos:Pos}(ho:OpR X (compareOp op) r)(hm:gB T W f r)(ha:SE X T W a ma)(hb:SE X T W b mb)(hk:behindInMarks op b=false):ST X T W (.Compare a [op] [b] pos) (ax (mOp f ma mb)) :=
 PT.wk (wL (pos:=pos) ho ha hb hk) fun σ H Q h=>by
  obtain⟨Z,F,env,fp,S,q⟩:=tT.test h
  exact tE.mir2 hm ⟨Z,F,env,fp,S,q⟩
theorem jo{a:Expr}{m:MT}{pos:Pos}(h:ST X T W a m):ST X T W (.UnaryOp .Not a pos) (i3 m):=PT.wk (za (pos:=pos) h) fun σ H Q ⟨Z,F,env,fp,S,q⟩=>by
 unfold i3 at q
 refine tT.bind S (fun c e=>by rw[e]at q;exact q) (fun e=>by rw[e]at q;exact q) fun b H1 F1 e1 g1=>?_
 rw[e1]at q
 exact q H1 F1 g1
theorem gs{a:Expr}{m:MT}{pos:Pos}(h:ST X T W a m):SW X T W (.BoolOp .And [a] pos) m:=wK h
theorem dA{a:Expr}{m:MT}{pos:Pos}(h:ST X T W a m):SW X T W (.BoolOp .Or [a] pos) m:=y8 h
theorem gL{a b:Expr}{bw:List Expr}{m n:MT}{pos:Pos}(h:ST X T W a m)(h2:SW X T W (.BoolOp .And (b::bw) pos) n):SW X T W (.BoolOp .And (a::b::bw) pos) (gG m n):=PW.wk (y9 h h2) fun σ H Q ⟨Z,F,env,fp,S,q⟩=>by
 unfold gG at q
 refine tT.bind S (fun c e=>by rw[e]at q;exact q) (fun e=>by rw[e]at q;exact q) fun b H1 F1 e1 g1=>?_
 rw[e1]at q
 cases b with
 | true =>
  refine(if_pos rfl).mpr ⟨Z,F1,env,fp,S.grow g1,?_⟩
  simp only[Res.ok_bind,if_true]at q
  cases e2:n env with
  | ok b=>rw[e2]at q;exact fun H2 F2 g2=>q H2 F2 (g1.trans g2)
  | exc c=>rw[e2]at q;exact fun H' x=>q H' (g1.ext.trans x)
  | stuck=>rw[e2]at q;exact q
 | false=>exact(if_neg (by decide)).mpr (q H1 F1 g1)
theorem fI{a b:Expr}{bw:List Expr}{m n:MT}{pos:Pos}(h:ST X T W a m)(h2:SW X T W (.BoolOp .Or (b::bw) pos) n):SW X T W (.BoolOp .Or (a::b::bw) pos) (gz m n):=PW.wk (B5 h h2) fun σ H Q ⟨Z,F,env,fp,S,q⟩=>by
 unfold gz at q
 refine tT.bind S (fun c e=>by rw[e]at q;exact q) (fun e=>by rw[e]at q;exact q) fun b H1 F1 e1 g1=>?_
 rw[e1]at q
 cases b with
 | false =>
  refine(if_neg (by decide)).mpr ⟨Z,F1,env,fp,S.grow g1,?_⟩
  simp only[Res.ok_bind,Bool.false_eq_true,if_false]at q
  cases e2:n env with
  | ok b=>rw[e2]at q;exact fun H2 F2 g2=>q H2 F2 (g1.trans g2)
  | exc c=>rw[e2]at q;exact fun H' x=>q H' (g1.ext.trans x)
  | stuck=>rw[e2]at q;exact q
 | true=>exact(if_pos rfl).mpr (q H1 F1 g1)
theorem SW.st{e:Expr}{m:MT}(h:SW X T W e m):ST X T W e m:=PW.pt h
theorem b_{a:Expr}{m:ME}(hK:X.K=T.K)(h:SE X T W a m)(he:∀whole,isTrue a X.env whole=(do let v ← whole;standAt a.pos;holding [v] (truthy v)):=by intro _;rfl):ST X T W a (cr m):=PT.wk (sX h he) fun σ H Q ⟨Z,F,env,fp,S,q⟩=>by
 unfold cr at q
 refine tE.bind S (fun c e=>by rw[e]at q;exact q) (fun e=>by rw[e]at q;exact q) fun x v H1 F1 f1 e1 g1 r1 n1 d1 w1=>?_
 rw[e1]at q
 rw[hK]
 cases x with
 | non=>unfold Rel at r1;rw[r1.1];exact⟨false,rfl,q H1 F1 g1⟩
 | bl b=>unfold Rel at r1;rw[r1.1];exact⟨b,rfl,q H1 F1 g1⟩
 | int i=>unfold Rel at r1;rw[r1.1];exact⟨_,rfl,q H1 F1 g1⟩
 | str i=>exact q.elim
 | lst f xs =>
  unfold Rel at r1
  obtain⟨a,vs,fp',rfl,hl,hr,_⟩:=r1
  have hl':SqL T.K H1 a vs:=hl.sq
  have e:(!xs.isEmpty)=!vs.isEmpty:=by
   have:=hr.length
   cases xs<;>cases vs<;>simp_all
  exact⟨_,.inl ⟨vs,hl',rfl⟩,by rw[← e];exact q H1 F1 g1⟩
 | tup xs =>
  unfold Rel at r1
  obtain⟨a,vs,rfl,hl,hr⟩:=r1
  have e:(!xs.isEmpty)=!vs.isEmpty:=by
   have:=hr.length
   cases xs<;>cases vs<;>simp_all
  exact⟨_,.inr (.inl ⟨vs,hl,rfl⟩),by rw[← e];exact q H1 F1 g1⟩
 | obj f c ks xs=>exact q.elim
 | exc c=>exact q.elim
theorem mM{c a b:Expr}{mc:MT}{ma mb:ME}{pos:Pos}(hc:ST X T W c mc)(ha:SE X T W a ma)(hb:SE X T W b mb):SE X T W (.IfExp c a b pos) (um mc ma mb):=PE.wk (tN (pos:=pos) hc ha hb) fun σ H Q ⟨Z,F,env,fp,S,q⟩=>by
 unfold um at q
 refine tT.bind S (fun c e=>by rw[e]at q;exact q) (fun e=>by rw[e]at q;exact q) fun b H1 F1 e1 g1=>?_
 rw[e1]at q
 have lift:∀m:ME,GE T W Z.B F (Own fp) σ H Q (m env)→tE T W m σ H1 Q:=fun m q=>by
  refine⟨Z,F1,env,fp,S.grow g1,?_⟩
  cases e2:m env with
  | ok b=>rw[e2]at q;exact fun v H2 F2 f g2 r n d w=>q v H2 F2 f (g1.trans g2) r n d fun a ha=>g1.ext.free (w a ha)
  | exc c=>rw[e2]at q;exact fun H' x=>q H' (g1.ext.trans x)
  | stuck=>rw[e2]at q;exact q
 cases b with
 | true=>exact(if_pos rfl).mpr (lift ma q)
 | false=>exact(if_neg (by decide)).mpr (lift mb q)
def pW(a:ME):ME:=fun env=>(a env).bind fun
 | .bl b=>.ok (.bl (!b))
 | _=>.stuck
def gH(a b:ME):ME:=fun env=>(a env).bind fun
 | .bl true=>b env
 | .bl false=>.ok (.bl false)
 | _=>.stuck
def rA(a b:ME):ME:=fun env=>(a env).bind fun
 | .bl false=>b env
 | .bl true=>.ok (.bl true)
 | _=>.stuck
theorem yT{a:Expr}{ma:ME}{pos:Pos}(ha:SE X T W a ma):SE X T W (.UnaryOp .Not a pos) (pW ma):=PE.wk (zj (pos:=pos) ha) fun σ H Q ⟨Z,F,env,fp,S,q⟩=>by
 unfold pW at q
 refine tE.bind S (fun c e=>by rw[e]at q;exact q) (fun e=>by rw[e]at q;exact q) fun x v H1 F1 f1 e1 g1 r1 n1 d1 w1=>?_
 rw[e1]at q
 cases x with
 | bl b=>unfold Rel at r1;exact⟨b,r1.1,q.scal g1 ib⟩
 | _=>exact q.elim
theorem iG{a:Expr}{ma:ME}{op:BoolOp}{pos:Pos}(ha:SE X T W a ma):SE X T W (.BoolOp op [a] pos) ma:=zi ha
theorem tE.later{m:ME}{Q:VK}(S:ar T Z F H σ env fp)(g1:Gr F H F' H')(q:GE T W Z.B F (Own fp) σ H Q (m env)):tE T W m σ H' Q:=by
 refine⟨Z,F',env,fp,S.grow g1,?_⟩
 cases e2:m env with
 | ok b=>rw[e2]at q;exact fun v H2 F2 f g2 r n d w=>q v H2 F2 f (g1.trans g2) r n d fun a ha=>g1.ext.free (w a ha)
 | exc c=>rw[e2]at q;exact fun H' x=>q H' (g1.ext.trans x)
 | stuck=>rw[e2]at q;exact q
theorem jw{a b:Expr}{bw:List Expr}{ma mb:ME}{pos:Pos}(ha:SE X T W a ma)(hb:SE X T W (.BoolOp .And (b::bw) pos) mb):SE X T W (.BoolOp .And (a::b::bw) pos) (gH ma mb):=PE.wk (zn ha hb) fun σ H Q ⟨Z,F,env,fp,S,q⟩=>by
 unfold gH at q
 refine tE.bind S (fun c e=>by rw[e]at q;exact q) (fun e=>by rw[e]at q;exact q) fun x v H1 F1 f1 e1 g1 r1 n1 d1 w1=>?_
 rw[e1]at q
 cases x with
 | bl b =>
  unfold Rel at r1
  refine⟨b,r1.1,?_⟩
  cases b with
  | true=>exact(if_pos rfl).mpr (tE.later S g1 q)
  | false=>exact(if_neg (by decide)).mpr (q.scal g1 ib)
 | _=>exact q.elim
theorem B1{a b:Expr}{bw:List Expr}{ma mb:ME}{pos:Pos}(ha:SE X T W a ma)(hb:SE X T W (.BoolOp .Or (b::bw) pos) mb):SE X T W (.BoolOp .Or (a::b::bw) pos) (rA ma mb):=PE.wk (B9 ha hb) fun σ H Q ⟨Z,F,env,fp,S,q⟩=>by
 unfold rA at q
 refine tE.bind S (fun c e=>by rw[e]at q;exact q) (fun e=>by rw[e]at q;exact q) fun x v H1 F1 f1 e1 g1 r1 n1 d1 w1=>?_
 rw[e1]at q
 cases x with
 | bl b =>
  unfold Rel at r1
  refine⟨b,r1.1,?_⟩
  cases b with
  | false=>exact(if_neg (by decide)).mpr (tE.later S g1 q)
  | true=>exact(if_pos rfl).mpr (q.scal g1 ib)
 | _=>exact q.elim
def Di(T:Tb)(W:Nat→St→Hp→Prop)(f:PV→Res PV)(r:V→Hp→VK→Prop):Prop :=
 ∀(B F L:Addr→Prop) (σ:St) (H:Hp) (Q:VK) (F':Addr→Prop) (H':Hp) (x:PV) (v:V) (fx:List Addr),Gr F H F' H'→Rel T F' B L H' x v fx→(∀a∈fx,¬F' a)→fx.Nodup→(∀a∈fx,H a=none)→GE T W B F L σ H Q (f x)→r v H' Q
theorem tE.mir1{f:PV→Res PV}{r:V→Hp→VK→Prop}{m:ME}{Q:VK}(hm:Di T W f r)(h:tE T W (mUn f m) σ H Q):tUn r (tE T W m) σ H Q:=by
 obtain⟨Z,F,env,fp,S,q⟩:=h
 unfold mUn at q
 refine tE.bind S (fun c e=>by rw[e]at q;exact q) (fun e=>by rw[e]at q;exact q) fun x v H1 F1 f1 e1 g1 r1 n1 d1 w1=>?_
 rw[e1]at q
 exact hm Z.B F (Own fp) σ H Q F1 H1 x v f1 g1 r1 n1 d1 w1 q
def D6:PV→Res PV
 | .int i=>.ok (.int (-i))
 | _=>.stuck
def aS(k:Nat):List Nat→List PV→Option PV
 | j::ks,v::vs=>if j=k then some v else aS k ks vs
 | _,_=>none
def Fl.isOwn:Fl→Bool
 | .own=>true
 | _=>false
def ao(k:Nat):PV→Res PV
 | .obj f _ ks vs=>match aS k ks vs with
  | some v=>if f.isOwn&&v.has Fl.isOwn then .stuck else .ok v
  | none=>.stuck
 | _=>.stuck
mutual
theorem Rel.noOwn:∀{x:PV}{v:V}{fp:List Addr},x.has Fl.isOwn=false→Rel T F B L H x v fp→fp=[]
 | .non,_,_,_,h=>by unfold Rel at h;exact h.2
 | .bl _,_,_,_,h=>by unfold Rel at h;exact h.2
 | .int _,_,_,_,h=>by unfold Rel at h;exact h.2
 | .str _,_,_,_,h=>by unfold Rel at h;exact h.2
 | .lst f xs,_,fp,hp,h=>by
  unfold Rel at h
  simp only[PV.has,Bool.or_eq_false_iff]at hp
  obtain⟨a,vs,fp',e,hl,hr,hf⟩:=h
  cases f with
  | own=>exact absurd hp.1 (by decide)
  | frz=>exact hf.2
  | bor=>exact hf.2
  | lnt=>exact hf.2
  | mod=>exact hf.2
 | .tup xs,_,fp,hp,h=>by
  unfold Rel at h
  simp only[PV.has]at hp
  obtain⟨a,vs,e,hl,hr⟩:=h
  exact RelL.noOwn hp hr
 | .obj f c ks xs,_,fp,hp,h=>by
  unfold Rel at h
  simp only[PV.has,Bool.or_eq_false_iff]at hp
  obtain⟨a,dx,vs,fp',e,hl,hk,hr,hf,ha⟩:=h
  cases f with
  | own=>exact absurd hp.1 (by decide)
  | frz=>exact hf.2
  | bor=>exact hf.2
  | lnt=>exact hf.2
  | mod=>exact hf.2
 | .exc c,_,fp,hp,h=>by
  unfold Rel at h
  obtain⟨a,_,_,e⟩:=h
  exact e
theorem RelL.noOwn:∀{xs:List PV}{vs:List V}{fp:List Addr},hasL Fl.isOwn xs=false→RelL T F B L H xs vs fp→fp=[]
 | [],_,_,_,h=>by unfold RelL at h;exact h.2
 | x::xs,_,fp,hp,h=>by
  unfold RelL at h
  simp only[hasL,Bool.or_eq_false_iff]at hp
  obtain⟨v,ws,f1,f2,e,h1,h2,rfl⟩:=h
  rw[Rel.noOwn hp.1 h1,RelL.noOwn hp.2 h2]
  rfl
end
theorem RelL.get:∀{xs:List PV}{vs:List V}{fp:List Addr}{i:Nat}{x:PV},RelL T F B L H xs vs fp→xs[i]?=some x→∃v f,vs[i]?=some v∧Rel T F B L H x v f∧f.Sublist fp
 | [],_,_,_,_,_,e=>by simp at e
 | y::xs,_,fp,0,x,h,e=>by
  unfold RelL at h
  obtain⟨v,ws,f1,f2,rfl,h1,h2,rfl⟩:=h
  simp at e
  subst e
  exact⟨v,f1,by simp,h1,List.sublist_append_left _ _⟩
 | y::xs,_,fp,i+1,x,h,e=>by
  unfold RelL at h
  obtain⟨v,ws,f1,f2,rfl,h1,h2,rfl⟩:=h
  obtain⟨w,f,e1,r,s⟩:=RelL.get (i:=i) h2 (by simpa using e)
  exact⟨w,f,by simpa using e1,r,s.trans (List.sublist_append_right _ _)⟩
theorem nG{k:Nat}:∀{ks:List Nat}{xs:List PV}{vs:List V}{fp:List Addr}{x:PV},RelL T F B L H xs vs fp→aS k ks xs=some x→∃v f,((ks.map T.att).zip vs).lookup (T.att k)=some v∧Rel T F B L H x v f∧f.Sublist fp
 | [],_,_,_,_,_,e=>by simp[aS]at e
 | j::ks,[],_,_,_,_,e=>by simp[aS]at e
 | j::ks,y::xs,_,fp,x,h,e=>by
  unfold RelL at h
  obtain⟨v,ws,f1,f2,rfl,h1,h2,rfl⟩:=h
  unfold aS at e
  by_cases hj:j=k
  ·rw[if_pos hj]at e
   cases e
   subst hj
   exact⟨v,f1,by simp,h1,List.sublist_append_left _ _⟩
  ·rw[if_neg hj]at e
   obtain⟨w,f,e1,r,s⟩:=nG (ks:=ks) h2 e
   refine⟨w,f,?_,r,s.trans (List.sublist_append_right _ _)⟩
   have:(T.att k==T.att j)=false:=by
    rw[beq_eq_false_iff_ne]
    exact fun z=>hj (T.inj _ _ z).symm
   rw[List.map_cons,List.zip_cons_cons,List.lookup_cons,this]
   exact e1
theorem v9{m:ME}{k:Nat}{f:Str}(hK:X.K=T.K)(hf:T.att k=f)(hc:∀c < T.nc,Cls T.K (T.cls c))(hn:∀c < T.nc,dG T.K (T.cls c) f){Q:VK}(h:tE T W (mUn (ao k) m) σ H Q):BW X.K (tE T W m) f σ H Q:=by
 obtain⟨Z,F,env,fp,S,q⟩:=h
 unfold mUn at q
 refine tE.bind S (fun c e=>by rw[e]at q;exact q) (fun e=>by rw[e]at q;exact q) fun x v H1 F1 f1 e1 g1 r1 n1 d1 w1=>?_
 rw[e1]at q
 cases x with
 | obj fl c ks xs =>
  simp only[Res.ok_bind,ao]at q
  cases e2:aS k ks xs with
  | none=>rw[e2]at q;exact q.elim
  | some y =>
   rw[e2]at q
   dsimp only at q
   unfold Rel at r1
   obtain⟨a,dx,vs,fp',rfl,hl,hk,hr,hfl,_⟩:=r1
   obtain⟨w,f',l1,l2,l3⟩:=nG hr e2
   have e0:f'=[]:=by
    cases fl with
    | own =>
     simp only[Fl.isOwn,Bool.true_and]at q
     by_cases ho:y.has Fl.isOwn=true
     ·rw[if_pos ho]at q;exact q.elim
     ·exact Rel.noOwn (by simpa using ho) l2
    | frz=>obtain⟨rfl,_⟩:=hfl;exact List.sublist_nil.mp l3
    | bor=>obtain⟨rfl,_⟩:=hfl;exact List.sublist_nil.mp l3
    | lnt=>obtain⟨rfl,_⟩:=hfl;exact List.sublist_nil.mp l3
    | mod=>obtain⟨rfl,_⟩:=hfl;exact List.sublist_nil.mp l3
   subst e0
   by_cases hb:(fl.isOwn&&y.has Fl.isOwn)=true
   ·rw[if_pos hb]at q;exact q.elim
   ·rw[if_neg hb]at q
    rw[hK]
    exact⟨a,_,dx,_,w,rfl,hl,hc c hk.2,hn c hk.2,by rw[← hf];exact l1,q.scal g1 l2⟩
 | _=>exact q.elim
theorem wu{e:Expr}{m:ME}{k:Nat}{f:Str}{pos:Pos}(hK:X.K=T.K)(hf:T.att k=f)(hc:∀c < T.nc,Cls T.K (T.cls c))(hn:∀c < T.nc,dG T.K (T.cls c) f)(he:SE X T W e m)(hb:attributeBase e f X.env (eval e X.env)=eval e X.env:=by rfl) :
  SE X T W (.Attribute e f pos) (mUn (ao k) m):=PE.wk (zl (pos:=pos) he hb) fun σ H Q h=>v9 hK hf hc hn h
end
end PR
namespace L2
open PySem PySem.Spec
theorem cD.there{P:Program}{w:World}{H:Hp}{h:Heap}{a:Addr}{o:HO}(x:cD P w H h a o):∃u,h.get? a=some u:=by
 cases o with
 | lst xs=>obtain⟨_,_,_,_,e⟩:=x;exact⟨_,e⟩
 | tup xs=>obtain⟨_,_,_,o,e,_⟩:=x;exact⟨_,e⟩
 | dK kvs=>obtain⟨_,_,_,_,o,_,_,e,_⟩:=x;exact⟨_,e⟩
 | dT kvs=>obtain⟨_,_,_,_,o,_,_,e,_⟩:=x;exact⟨_,e⟩
 | set S n=>obtain⟨o,_,_,_,e,_⟩:=x;exact⟨_,e⟩
 | ins C dx fs=>obtain⟨_,_,_,e,_⟩:=x;exact⟨_,e⟩
 | own y=>exact x
 | xd fs=>obtain⟨_,⟨_,_,_,e,_⟩,_⟩:=x;exact⟨_,e⟩
 | rng lo hi=>obtain⟨_,_,_,e⟩:=x;exact⟨_,e⟩
 | frz ob u=>obtain⟨e,_⟩:=x;exact⟨_,e⟩
 | tbl ps=>exact⟨_,(show h.get? a=some _ from x)⟩
 | met f y=>exact⟨_,(show h.get? a=some _ from x)⟩
 | ext φ=>obtain⟨_,q,_⟩:=x;exact q
end L2
namespace PR
open PySem PySem.Spec L2
structure Fly(P:Program)(w:World)(outer:List Env)(H:Hp)(s:Shared)(cls:Value)(H':Hp)(e:Value)(s':Shared):Prop where
 os:s'.os=s.os
 bare:PyProof.Rows.AllBare s'.gens
 un:Un (frs outer) [] H H' s.heap s'.heap
 hok:HOk P w H' s'.heap
 fly:∃x a0 Bh,e=.ref x∧Heap.FlyingW Bh outer x cls a0 s'.heap∧(∀b o u,H' b=some u→s'.heap.get? b=some o→Bh.get? b=some o)∧
  (∀b o o',s'.heap.get? b=some o→s.heap.get? b=some o'→b∉frs outer→Bh.get? b=some o)
def CXP(P:Program)(w:World):CXT:=fun outer H s E e s'=>∃cls H',Fly P w outer H s cls H' e s'∧E cls none H'
def XF(X:Cx)(T:Tb)(W:Nat→St→Hp→Prop):Prop:=∀(pins:List (Addr×Obj)) (σ:St) (H:Hp) (s:Shared) (c:Nat) (H':Hp) (e:Value) (s':Shared),L2.Inv X pins σ H s→Fly X.prog X.w X.stack H s (.ref (T.xcl c)) H' e s'→W c σ H'→X.xe e s'
def XM(X:Cx)(T:Tb)(W:Nat→St→Hp→Prop):Prop:=∀(pins:List (Addr×Obj)) (σ:St) (H:Hp) (s:Shared) (c:Nat) (h':Heap) (e:Addr) (vs:List Value),L2.Inv X pins σ H s→Heap.MadeExcOf s.heap h' e (.ref (T.xcl c)) vs→W c σ H→X.xe (.ref e) { s with heap:=h' }
section
variable{P:Program}{w:World}{K:PySem.W.Frag}{mg:Str→Option Value}{base:Heap}{N:List Str}{qual:Str}{scope:Scope}{f:Addr}{cd:Value}{A:Around}{outer:List Env}{s:Shared}{H:Hp}{E:XK}
theorem xI{H:Hp}{h h' Bh:Heap}(ok:HOk P w H h)(k:∀b o u,H b=some u→h.get? b=some o→Bh.get? b=some o)(st:Bh.StaysIn h'):HOk P w H h':=fun a o e =>
 (ok a o e).stay (fun b u hb q=>by
  rcases hb with rfl | hb
  ·exact st _ _ (k b u _ e q)
  ·exact st _ _ (k b u _ hb q)) (fun _ q=>q) fun _ _ q=>q
theorem kJ{X:Cx}{pins:List (Addr×Obj)}{σ:St}{H1:Hp}{s1:Shared}(I:L2.Inv X pins σ H1 s1)(hst:X.stack=X.env::X.outer)(hex:X.ex=[])(hfrm:X.env.frame=some X.env.locals){H2:Hp}{h2 h' Bh:Heap}{g2:Array GenState}{d2:Drawn}{t2:Nat}{os2:OsState}{cls a0:Value}{x:Addr}
  (hos:os2=s1.os) (hb:PyProof.Rows.AllBare g2) (u2:Un (frs X.stack) [] H1 H2 s1.heap h2) (ok:HOk X.prog X.w H2 h2) (tr:∀b o u,H2 b=some u→h2.get? b=some o→Bh.get? b=some o)
  (ol:∀b o o',h2.get? b=some o→s1.heap.get? b=some o'→b∉frs X.stack→Bh.get? b=some o) (fl:Heap.FlyingW Bh X.outer x cls a0 h') (up:h2.UpToSlots h') :
  Fly X.prog X.w X.outer X.H₀ X.s₀ cls H2 (.ref x) ⟨h',g2,d2,t2,os2⟩:=by
 have u1:=I.base
 rw[hex]at u1
 have hfs:frs X.stack=X.env.locals::frs X.outer:=by
  rw[hst]
  show List.filterMap _ _=_
  rw[List.filterMap_cons,hfrm]
  rfl
 have u:Un (frs X.stack) [] X.H₀ H2 X.s₀.heap h2:=(u1.mono (fun b hb=>by rw[hfs];exact List.mem_cons_of_mem _ hb) fun _ z=>z).trans u2
 have neL:∀b o,X.s₀.heap.get? b=some o→b≠X.env.locals:=fun b o e=>Nat.ne_of_lt (Nat.lt_of_lt_of_le (Heap.lt_size e) I.ok.above)
 have nst:∀b o,X.s₀.heap.get? b=some o→b∉frs X.outer→b∉frs X.stack:=fun b o e hn hb=>by
  rw[hfs]at hb
  rcases List.mem_cons.mp hb with z | z
  ·exact neL b o e z
  ·exact hn z
 have data:∀b o,X.s₀.heap.get? b=some o→b∈frs X.outer→∀vs,o.data≠.fields vs:=fun b o e hb vs z=>by
  obtain⟨_,o',ho',hd'⟩:=I.ok.funs.mem hb
  rw[e]at ho'
  cases ho'
  exact hd' vs z
 refine⟨hos.trans I.os,hb,⟨fun b o e n hf _=>?_,fun b o e n hf _=>?_,u.free,fun b o e _=>?_,u.tups,u.frzs,u.tbls⟩,xI ok tr fl.1,⟨x,a0,Bh,rfl,fl,fun b o v e q=>?_,fun b o o' e q hf=>?_⟩⟩
 ·have q:=u.keep b o e n (nst b o e hf) (by simp)
  obtain⟨o1,e1⟩:=u1.there b o e (by simp)
  exact fl.1 b o (ol b o o1 q e1 (nst b o e hf))
 ·obtain⟨sl,q⟩:=u.slot b o e n (by rw[hfs];exact List.mem_cons_of_mem _ hf) (by simp)
  obtain⟨sl',q'⟩:=up b _ q (data b o e hf)
  exact⟨sl',q'⟩
 ·by_cases hf:b∈frs X.outer
  ·obtain⟨_,o2,ho2,_⟩:=fl.2.2.1.mem hf
   exact⟨o2,ho2⟩
  ·obtain⟨o1,e1⟩:=u1.there b o e (by simp)
   obtain⟨o2,e2⟩:=u2.there b o1 e1 (by simp)
   exact⟨o2,fl.1 b o2 (ol b o2 o1 e2 e1 (nst b o e hf))⟩
 ·have hlt:=ok.lt e
  obtain⟨o2,e2⟩:∃o2,h2.get? b=some o2:=by
   have x:=ok b v e
   exact cD.there x
  have:=fl.1 b o2 (tr b o2 v e e2)
  rw[q]at this
  cases this
  exact tr b o v e e2
 ·obtain⟨o1,e1⟩:=u1.there b o' q (by simp)
  obtain⟨o2,e2⟩:=u2.there b o1 e1 (by simp)
  have hB:=ol b o2 o1 e2 e1 (nst b o' q hf)
  have:=fl.1 b o2 hB
  rw[e]at this
  cases this
  exact hB
end
end PR
namespace PR
open PySem PySem.Spec L2
section
variable{P:Program}{w:World}{K:PySem.W.Frag}{mg:Str→Option Value}{base:Heap}{N:List Str}{qual:Str}{scope:Scope}{f:Addr}{cd:Value}{A:Around}{outer:List Env}{s:Shared}{H:Hp}{E:XK}{T:Tb}
abbrev WD(T:Tb)(E:XK):Nat→St→Hp→Prop:=fun c _ H=>E (.ref (T.xcl c)) none H
theorem yG:XF (dO (CXP P w) P w K mg base N qual scope f cd A outer s H E) T (WD T E):=by
 intro pins σ H1 s1 c H2 e s2 I fl hW
 obtain⟨x,a0,Bh,rfl,fly,tr,ol⟩:=fl.fly
 refine wpAny_leaves_onW (L:=s.heap.objs.size) I.ok.frames rfl fly fun h' fly' up=>?_
 obtain⟨h2,g2,d2,t2,os2⟩:=s2
 exact⟨_,H2,kJ I rfl rfl rfl fl.os fl.bare fl.un fl.hok tr ol fly' up,hW⟩
theorem bO:XM (dO (CXP P w) P w K mg base N qual scope f cd A outer s H E) T (WD T E):=by
 intro pins σ H1 s1 c h2 e vs I mx hW
 have hin:∀env ∈(dO (CXP P w) P w K mg base N qual scope f cd A outer s H E).stack,∀b,env.frame=some b→b∈frs (dO (CXP P w) P w K mg base N qual scope f cd A outer s H E).stack:=fun env he b hb=>List.mem_filterMap.mpr ⟨env,he,hb⟩
 refine wpAny_leaves_madeW (base:=PySem.W.hideAll s1.heap (frs (dO (CXP P w) P w K mg base N qual scope f cd A outer s H E).stack)) (h:=s1.heap) (L:=s.heap.objs.size) I.ok.frames rfl (fun b o q=>PySem.W.of_hideAll _ q) (PySem.W.funFrames_hide I.stack hin) mx fun h' t fly' _ _ up=>?_
 obtain⟨h1,g1,d1,t1,os1⟩:=s1
 have fresh:∀b o,h1.get? b=some o→h2.get? b=some o:=mx.keeps
 have nfr:∀b u,H1 b=some u→b∉frs (dO (CXP P w) P w K mg base N qual scope f cd A outer s H E).stack:=fun b u e hb=>by
  rw[I.stkFree b hb]at e;cases e
 refine⟨_,H1,kJ I rfl rfl rfl rfl I.bare (h2:=h2) (Bh:=PySem.W.hideAll h1 (frs (dO (CXP P w) P w K mg base N qual scope f cd A outer s H E).stack)) (Un.kept fresh) (I.hok.kept fresh) (fun b o u e q=>?_) (fun b o o' e q hb=>?_) fly' up,hW⟩
 ·obtain⟨o1,e1⟩:=cD.there (I.hok b u e)
  have:=fresh b o1 e1
  rw[q]at this;cases this
  exact PySem.W.hideAll_get _ e1 (nfr b u e)
 ·have:=fresh b o' q
  rw[e]at this;cases this
  exact PySem.W.hideAll_get _ q hb
end
structure Ey(X:Cx)(x:Str)(C:Addr):Prop where
 bm:X.mg x=some (.ref C)
 obj:∃bm N nm q bs hdct sn sub ab col dd k0 k1 k2 k3 k5 mN,X.base.get? C=some (excClassObj nm q C N bs bm hdct sn sub ab col dd k0 k1 k2 k3 k5 "ValueError.__new__")∧X.base.Ns N mN∧mN "__init__" = none ∧
  OwnTail X.base [.type "ValueError", .type "Exception", .type "BaseException", .type "object"] bm
section
variable{X:Cx}{T:Tb}{W:Nat→St→Hp→Prop}
theorem sF{c:Nat}{x:Str}{e:Expr}{es:List Expr}{ms:MA}{np cpos pos:Pos}(O:Ey X x (T.xcl c))(hx:XM X T W)(hc:X.calm=true)(hg:Gl X x)(ha:SA X T W (e::es) ms)(hne:∀env pvs,ms env=.ok pvs→pvs.length≤100)(hd:(x ==("__debug__" : Str))=false:=by decide)
  (he:starEach (e::es) X.env=(false,eval e X.env)::starEach es X.env:=by rfl) (hpl:(backTo cpos (starEach es X.env)).any (·.1)=false:=by rfl) :
  SS X T W (.Raise (some (.Call (.Name x np) (e::es) [] cpos)) none pos) (fun env=>match ms env with
   | .ok _=>.exc c env
   | .exc k=>.exc k env
   | .stuck=>.stuck):=by
 intro pins s σ H D I h
 obtain⟨Z,F,env,fp,S,q⟩:=h
 dsimp only at q
 obtain⟨tl,N,nm,qn,bs,hdct,sn,sub,ab,col,dd,k0,k1,k2,k3,k5,mN,hC,hN,hni,TL⟩:=O.obj
 refine wpAny_Raise_call_subT (C:=T.xcl c) (nm:=nm) (q:=qn) (N:=N) (bs:=bs) (bm:=tl) (hdct:=hdct) (sn:=sn) (sub:=sub) (ab:=ab) (col:=col) (dd:=dd) (k0:=k0) (k1:=k1) (k2:=k2) (k3:=k3) (k5:=k5)
  PySem.F.excBase_ValueError (mN:=mN) (TL.hasType PySem.F.excBase_ValueError.hasBase) (I.ok.hd hc) (by rw[he];show(false ||(backTo cpos (starEach es X.env)).any (·.1))=false;rw[hpl];rfl) hni (iq I hg O.bm ⟨rfl,?_⟩ hd)
 have h2:=ha cpos pins s σ H (fun vs H'=>vs.length ≤ 100∧W c σ H') I (tA.bind S (fun k e H' x=>by rw [e] at q;exact q F H' σ fp (S.grow (Gr.same S.hp.ft x))) (fun e=>by rw [e] at q;exact q) fun pvs vs H' F' f e g r _ _ _=>by
  rw[e]at q
  exact⟨by rw[← r.length];exact hne env pvs e,q F' H' σ fp (S.grow g)⟩)
 rw[he]at h2 ⊢
 refine Calls.evalArgs_plain (wpAny_mono h2 (fun vs s₂ h₂=>?_) fun _ _ y=>y)
 obtain⟨vs',H',I2,rv,hl,hw⟩:=h₂
 refine⟨rfl,?_,I2.bk _ _ hC,hN.keeps I2.bk,TL.keeps I2.bk,fun h' e' mx=>hx pins σ H' s₂ c h' e' vs I2 mx hw⟩
 rw[← rv.length,sizeLine_eq]
 omega
end
end PR
namespace PR
open PySem PySem.Spec L2
def aG(m:List PV→Res PV)(xs:List PV):Res PV:=match m (mapL Fl.toBor xs)with
 | .ok v=>if v.has Fl.isBor then .stuck else .ok v
 | .exc c=>.exc c
 | .stuck=>.stuck
def bj(n:Nat)(m:MS)(args:List PV):Res PV:=match m (args.map some++List.replicate (n - args.length) none)with
 | .next _=>.ok .non
 | .ret v=>.ok v
 | .exc c _=>.exc c
 | _=>.stuck
def GF(T:Tb)(Z:Zn)(Q:VK)(E:XK):Res PV→Prop
 | .ok pv=>∀F H v f,d5 T Z F H→Rel T F Z.B NoL H pv v f→f.Nodup→(∀a∈f,¬F a)→(∀a∈f,Z.H0 a=none∨Z.fp0 a)→Q v H
 | .exc c=>∀H,(∀a o,Z.H0 a=some o→¬Z.fp0 a→H a=some o)→E (.ref (T.xcl c)) none H
 | .stuck=>False
structure sj(T:Tb)(F B:Addr→Prop)(H:Hp)(pvs:List PV)(vs:List V)(f:List Addr):Prop where
 rel:RelL T F B NoL H pvs vs f
 nd:f.Nodup
 nf:∀a∈f,¬F a
 bo:∀a,B a→(∃o,H a=some o)∧a∉f
 ft:∀a,F a→∃o,H a=some o
def spM(T:Tb)(n:Nat)(m:List PV→Res PV):Sp:=fun vs H Q E=>vs.length=n∧∃pvs F B f,sj T F B H pvs vs f∧GF T ⟨H,F,(·∈f),B,none⟩ Q E (m pvs)
theorem RelL.split{T:Tb}{F B L:Addr→Prop}{H:Hp}:∀{xs:List PV}{vs:List V}{f:List Addr},RelL T F B L H xs vs f→f.Nodup →
  ∃g:Nat→List Addr,(∀(i:Nat) x v,xs[i]?=some x→vs[i]?=some v→Rel T F B L H x v (g i))∧(∀i,(g i).Nodup)∧(∀i j,i≠j→∀a∈g i,a∉g j)∧∀i a,a∈g i→a∈f
 | [],_,_,_,_=>⟨fun _=>[],fun i x v e=>by simp at e,fun _=>List.nodup_nil,fun _ _ _ _ z=>(nomatch z),fun _ _ z=>(nomatch z)⟩
 | x::xs,_,_,h,nd=>by
  unfold RelL at h
  obtain⟨v,ws,f1,f2,rfl,h1,h2,rfl⟩:=h
  obtain⟨n1,n2,n3⟩:=List.nodup_append.mp nd
  obtain⟨g,g1,g2,g3,g4⟩:=RelL.split h2 n2
  refine⟨fun i=>match i with | 0=>f1 | j+1=>g j,fun i y u e1 e2=>?_,fun i=>?_,fun i j hij a ha=>?_,fun i a ha=>?_⟩
  ·cases i with
   | zero=>simp at e1 e2;subst e1 e2;exact h1
   | succ i=>exact g1 i y u (by simpa using e1) (by simpa using e2)
  ·cases i with
   | zero=>exact n1
   | succ i=>exact g2 i
  ·cases i with
   | zero =>
    cases j with
    | zero=>exact absurd rfl hij
    | succ j=>exact fun z=>n3 a ha a (g4 j a z) rfl
   | succ i =>
    cases j with
    | zero=>exact fun z=>n3 a z a (g4 i a ha) rfl
    | succ j=>exact g3 i j (fun z=>hij (by rw[z])) a ha
  ·cases i with
   | zero=>exact List.mem_append_left _ ha
   | succ i=>exact List.mem_append_right _ (g4 i a ha)
section
variable{P:Program}{w:World}{K:PySem.W.Frag}{mg:Str→Option Value}{base:Heap}{T:Tb}
theorem k8{F B:Addr→Prop}{H:Hp}{pvs:List PV}{vs:List V}{f:List Addr}(N:List Str)(R:sj T F B H pvs vs f)(pin:Option V)(hpin:∀v,pin=some v→vs[0]?=some v∧∃fl c ks xs,pvs[0]?=some (.obj fl c ks xs)) :
  ∃fp,ar T ⟨H,F,(·∈f),B,pin⟩ F H (L2.start N vs) (pvs.map some++List.replicate (N.length - pvs.length) none) fp:=by
 obtain⟨g,g1,g2,g3,g4⟩:=R.rel.split R.nd
 have hl:=R.rel.length
 refine⟨g,⟨R.bo,fun _ _ h _=>h,fun _ h=>h,fun _ h=>.inl h,R.ft⟩,?_,fun i pv e=>?_,g2,g3,fun i a ha=>⟨R.nf a (g4 i a ha),R.rel.there a (g4 i a ha)⟩,fun i a ha=>.inr (g4 i a ha),fun i a ha=>R.rel.chg a (g4 i a ha),fun v hv=>?_⟩
 ·unfold L2.start
  simp[hl]
 ·by_cases hi:i < pvs.length
  ·rw[List.getElem?_append_left (by simpa using hi),List.getElem?_map]at e
   obtain⟨x,e1,e2⟩:=Option.map_eq_some_iff.mp e
   cases e2
   obtain⟨v,_,ev,_⟩:=R.rel.get e1
   refine⟨v,?_,g1 i pv v e1 ev⟩
   unfold L2.start
   rw[List.getElem?_append_left (by simpa[← hl]using hi),List.getElem?_map,ev]
   rfl
  ·rw[List.getElem?_append_right (by simpa using hi),List.getElem?_replicate]at e
   split at e<;>cases e
 ·obtain⟨h1,fl,c,ks,xs,h2⟩:=hpin v hv
  have hl0:0 < vs.length:=(List.getElem?_eq_some_iff.mp h1).1
  have hp0:0 < pvs.length:=(List.getElem?_eq_some_iff.mp h2).1
  unfold L2.start b6
  rw[List.getElem?_append_left (by simpa using hl0),List.getElem?_append_left (by simpa using hp0),List.getElem?_map,List.getElem?_map,h1,h2]
  exact⟨rfl,rfl⟩
theorem C9{x qual:Str}{st:Stmt}{f:Addr}{fd:FuncData}{N ps:List Str}{k:Nat}{m:MS}(F:Fun K x qual st f fd)(S:du N ps (aA st))
  (body:∀ (cdv:Value) (A:Around) (outer:List Env) (s:Shared) (H:Hp) (E:XK),cT k (A.deeper (PyProof.Rows.envOfC qual (aA st) s.heap.objs.size f cdv)) →
   SSs (dO (CXP P w) P w K mg base N qual (aA st) f cdv A outer s H E) T (WD T E) (bI st) m):cq P w K mg base (CXP P w) (k+1) f fd ps (spM T ps.length (bj N.length m)):=by
 obtain⟨oc,od,kV,doc,pm,an,cdv,ct,osl,rfl,lk,hcd⟩:=F.ex
 refine uH lk hcd S (fun vs H Q E h=>h.1) fun A outer s H vs Q E hr hsp=>⟨_,body cdv A outer s H E hr,?_⟩
 obtain⟨_,pvs,F,B,fl,R,q⟩:=hsp
 obtain⟨fp,S0⟩:=k8 N R none (fun _ h=>nomatch h)
 refine⟨_,F,_,fp,S0,?_⟩
 unfold bj at q
 cases e:m (pvs.map some++List.replicate (N.length - pvs.length) none)with
 | next e'=>rw[e]at q;exact fun F' H' σ' fp' S'=>q F' H' .non [] S'.hp B3 List.nodup_nil (fun _ z=>(nomatch z)) (fun _ z=>(nomatch z))
 | ret v=>rw[e]at q;exact q
 | brk e'=>rw[e]at q;exact q.elim
 | cont e'=>rw[e]at q;exact q.elim
 | exc c e'=>rw[e]at q;exact fun F' H' σ' fp' S'=>q H' S'.hp.keep
 | stuck=>rw[e]at q;exact q.elim
end
mutual
theorem Rel.toBor{T:Tb}{F B B' L L':Addr→Prop}{H:Hp}(hB:∀a,B a→B' a)(hL:∀a,L a→B' a):∀{x:PV}{v:V}{fp:List Addr},Rel T F B L H x v fp→Rel T F B' L' H (x.mapF Fl.toBor) v fp
 | .non,_,_,h=>by unfold Rel at h;simp only[PV.mapF];unfold Rel;exact h
 | .bl _,_,_,h=>by unfold Rel at h;simp only[PV.mapF];unfold Rel;exact h
 | .int _,_,_,h=>by unfold Rel at h;simp only[PV.mapF];unfold Rel;exact h
 | .str _,_,_,h=>by unfold Rel at h;simp only[PV.mapF];unfold Rel;exact h
 | .lst f xs,_,fp,h=>by
  unfold Rel at h
  obtain⟨a,vs,fp',e,hl,hr,hf⟩:=h
  simp only[PV.mapF]
  unfold Rel
  cases f with
  | own=>exact⟨a,vs,fp',e,hl,RelL.toBor hB hL hr,hf⟩
  | frz=>exact⟨a,vs,fp',e,hl,RelL.toBor hB hL hr,hf⟩
  | bor=>exact⟨a,vs,fp',e,⟨hB a hl.1,hl.2⟩,RelL.toBor hB hL hr,hf⟩
  | lnt=>exact⟨a,vs,fp',e,⟨hL a hl.1,.inl hl.2⟩,RelL.toBor hB hL hr,hf⟩
  | mod=>exact⟨a,vs,fp',e,hl,RelL.toBor hB hL hr,hf⟩
 | .tup xs,_,fp,h=>by
  unfold Rel at h
  obtain⟨a,vs,e,hl,hr⟩:=h
  simp only[PV.mapF]
  unfold Rel
  exact⟨a,vs,e,hl,RelL.toBor hB hL hr⟩
 | .obj f c ks xs,_,fp,h=>by
  unfold Rel at h
  obtain⟨a,dx,vs,fp',e,hl,hk,hr,hf,ha⟩:=h
  simp only[PV.mapF]
  unfold Rel
  have r:=RelL.toBor hB hL (L':=L') hr
  have hk':ks.length=(mapL Fl.toBor xs).length∧c < T.nc:=⟨by rw[r.length,hk.1,hr.length],hk.2⟩
  cases f with
  | own=>exact⟨a,dx,vs,fp',e,hl,hk',r,hf,ha⟩
  | frz=>exact⟨a,dx,vs,fp',e,hl,hk',r,hf,ha⟩
  | bor=>exact⟨a,dx,vs,fp',e,hl,hk',r,hf,hB a ha⟩
  | lnt=>exact⟨a,dx,vs,fp',e,hl,hk',r,hf,hL a ha⟩
  | mod=>exact ha.elim
 | .exc c,_,fp,h=>by unfold Rel at h;simp only[PV.mapF];unfold Rel;exact h
theorem RelL.toBor{T:Tb}{F B B' L L':Addr→Prop}{H:Hp}(hB:∀a,B a→B' a)(hL:∀a,L a→B' a):∀{xs:List PV}{vs:List V}{fp:List Addr},RelL T F B L H xs vs fp→RelL T F B' L' H (mapL Fl.toBor xs) vs fp
 | [],_,_,h=>by unfold RelL at h;simp only[mapL];unfold RelL;exact h
 | x::xs,_,fp,h=>by
  unfold RelL at h
  obtain⟨v,ws,f1,f2,e,h1,h2,rfl⟩:=h
  simp only[mapL]
  unfold RelL
  exact⟨v,ws,f1,f2,e,Rel.toBor hB hL h1,RelL.toBor hB hL h2,rfl⟩
end
mutual
theorem Rel.noB{T:Tb}{F B B' L:Addr→Prop}{H:Hp}:∀{x:PV}{v:V}{fp:List Addr},x.has Fl.isBor=false→Rel T F B L H x v fp→Rel T F B' L H x v fp
 | .non,_,_,_,h=>by unfold Rel at h ⊢;exact h
 | .bl _,_,_,_,h=>by unfold Rel at h ⊢;exact h
 | .int _,_,_,_,h=>by unfold Rel at h ⊢;exact h
 | .str _,_,_,_,h=>by unfold Rel at h ⊢;exact h
 | .lst f xs,_,fp,hp,h=>by
  unfold Rel at h ⊢
  simp only[PV.has,Bool.or_eq_false_iff]at hp
  obtain⟨a,vs,fp',e,hl,hr,hf⟩:=h
  refine⟨a,vs,fp',e,?_,RelL.noB hp.2 hr,hf⟩
  cases f with
  | bor=>exact absurd hp.1 (by decide)
  | own=>exact hl
  | frz=>exact hl
  | lnt=>exact hl
  | mod=>exact hl
 | .tup xs,_,fp,hp,h=>by
  unfold Rel at h ⊢
  simp only[PV.has]at hp
  obtain⟨a,vs,e,hl,hr⟩:=h
  exact⟨a,vs,e,hl,RelL.noB hp hr⟩
 | .obj f c ks xs,_,fp,hp,h=>by
  unfold Rel at h ⊢
  simp only[PV.has,Bool.or_eq_false_iff]at hp
  obtain⟨a,dx,vs,fp',e,hl,hk,hr,hf,ha⟩:=h
  refine⟨a,dx,vs,fp',e,hl,hk,RelL.noB hp.2 hr,hf,?_⟩
  cases f with
  | bor=>exact absurd hp.1 (by decide)
  | own=>exact ha
  | frz=>exact ha
  | lnt=>exact ha
  | mod=>exact ha
 | .exc c,_,fp,hp,h=>by
  unfold Rel at h ⊢
  exact h
theorem RelL.noB{T:Tb}{F B B' L:Addr→Prop}{H:Hp}:∀{xs:List PV}{vs:List V}{fp:List Addr},hasL Fl.isBor xs=false→RelL T F B L H xs vs fp→RelL T F B' L H xs vs fp
 | [],_,_,_,h=>by unfold RelL at h ⊢;exact h
 | x::xs,_,fp,hp,h=>by
  unfold RelL at h ⊢
  simp only[hasL,Bool.or_eq_false_iff]at hp
  obtain⟨v,ws,f1,f2,e,h1,h2,rfl⟩:=h
  exact⟨v,ws,f1,f2,e,Rel.noB hp.1 h1,RelL.noB hp.2 h2,rfl⟩
end
theorem RelL.append{T:Tb}{F B L:Addr→Prop}{H:Hp}:∀{xs ys:List PV}{vs us:List V}{f g:List Addr},RelL T F B L H xs vs f→RelL T F B L H ys us g→RelL T F B L H (xs++ys) (vs++us) (f++g)
 | [],_,_,_,_,_,h,r=>by unfold RelL at h;obtain⟨rfl,rfl⟩:=h;exact r
 | x::xs,_,_,_,_,_,h,r=>by
  unfold RelL at h
  obtain⟨v,ws,f1,f2,rfl,h1,h2,rfl⟩:=h
  show RelL T F B L H (x::(xs++_)) (v::(ws++_)) _
  unfold RelL
  exact⟨v,_,f1,_,rfl,h1,RelL.append h2 r,by rw[List.append_assoc]⟩
section
variable{X:Cx}{T:Tb}{W:Nat→St→Hp→Prop}{Z:Zn}{F F1:Addr→Prop}{H H1:Hp}{σ:St}{env:En}{fp:Nat→List Addr}
theorem yp{k:Nat}{f:Addr}{fd:FuncData}{ps:List Str}{m:List PV→Res PV}{xs:List PV}{vs:List V}{us ds:List Value}{fx:List Addr}{Q:VK}{pins:List (Addr×Obj)}{s1:Shared}{dvs:List V}{dps:List PV}
  (G:cq X.prog X.w X.K X.mg X.base (CXP X.prog X.w) k f fd ps (spM T ps.length m)) (hr:cT k X.A) (hb:dJ X.K fd ps ds) (hd:aH dvs ds) (hdp:∀F B L H,RelL T F B L H dps dvs []) (hx:XF X T W)
  (S:ar T Z F H σ env fp) (g:Gr F H F1 H1) (r:RelL T F1 Z.B (Own fp) H1 xs vs fx) (nf:∀a∈fx,¬F1 a) (nd:fx.Nodup) (new:∀a∈fx,H a=none) (q:GE T W Z.B F (Own fp) σ H Q (aG m (xs++dps)))
  (I1:L2.Inv X pins σ H1 s1) (rv:aH vs us) (hlen:vs.length+dvs.length=ps.length):wpAny (model X.prog X.w) X.A (call (.ref f) us) (EP X pins σ Q) X.xe s1:=by
 have r2:aH (vs++dvs) (us++ds):=rv.append hd
 have hl:(us++ds).length=ps.length:=by rw[← r2.length,List.length_append];exact hlen
 have rr:RelL T F1 Z.B (Own fp) H1 (xs++dps) (vs++dvs) fx:=by
  have:=RelL.append r (hdp F1 Z.B (Own fp) H1)
  rwa [List.append_nil]at this
 have hBo:∀a,Z.B a→(∃o,H1 a=some o)∧a∉fx:=fun a h=>by
  obtain⟨⟨o,h1⟩,h2⟩:=S.hp.bo a h
  have h3:=S.hp.keep a o h1 h2
  exact⟨⟨o,g.ext a o h3⟩,fun z=>by rw[new a z]at h3;cases h3⟩
 have hOw:∀a,Own fp a→(∃o,H1 a=some o)∧a∉fx:=fun a ⟨i,hi⟩=>by
  obtain⟨_,o,ho⟩:=S.dis i a hi
  exact⟨⟨o,g.ext a o ho⟩,fun z=>by rw[new a z]at ho;cases ho⟩
 have R:sj T F1 (fun a=>(∃o,H1 a=some o)∧a∉fx) H1 (mapL Fl.toBor (xs++dps)) (vs++dvs) fx:=⟨RelL.toBor hBo hOw rr,nd,nf,fun a h=>h,g.dom⟩
 refine wpAny_call (codeAny_mono (G.run X.A X.stack s1 H1 ⟨us,[]⟩ (us ++ ds) (vs ++ dvs) Q (fun cls _ H'=>∃ c,cls=.ref (T.xcl c)∧W c σ H') hr I1.env0 (hb s1 us I1.kIn hl) r2
  ⟨by rw[r2.length,hl],_,F1,_,fx,R,?_⟩) fun rs s' hq=>?_)
 ·unfold aG at q
  cases e:m (mapL Fl.toBor (xs++dps))with
  | ok v =>
   rw[e]at q
   dsimp only at q
   intro F2 H2 u f2 hp2 r3 nd2 nf2 new2
   by_cases hbr:v.has Fl.isBor=true
   ·rw[if_pos hbr]at q;exact q.elim
   ·rw[if_neg hbr]at q
    have hbr':v.has Fl.isBor=false:=by simpa using hbr
    refine q u H2 F2 f2 ⟨fun a o h=>hp2.keep a o (g.ext a o h) fun z=>(by rw[new a z]at h;cases h),fun a h=>hp2.f0 a (g.mono a h),fun a h=>?_,hp2.ft⟩ ?_ nf2 nd2 fun a ha=>?_
    ·rcases hp2.fn a h with z | z | z
     ·exact g.only a z
     ·exact .inr (g.ext.free z)
     ·exact .inr (new a z)
    ·exact Rel.tr (fun _ h=>h) (fun _ h=>h) (fun _ h=>h.elim) (fun _ _ h _=>h) (fun _ _ _ h=>h) (Rel.noB (B':=Z.B) hbr' r3)
    ·rcases new2 a ha with z | z
     ·exact g.ext.free z
     ·exact new a z
  | exc c =>
   rw[e]at q
   exact fun H' h=>⟨c,rfl,q H' fun a o z=>h a o (g.ext a o z) fun z'=>by rw[new a z']at z;cases z⟩
  | stuck=>rw[e]at q;exact q.elim
 ·cases rs with
  | error e =>
   obtain⟨cls,H',fl,c,rfl,hw⟩:=hq
   exact hx pins σ H1 s1 c H' e s' I1 fl hw
  | ok fl =>
   cases fl with
   | ret u=>exact I1.after hq
   | next=>exact False.elim hq
   | brk=>exact False.elim hq
   | cont=>exact False.elim hq
theorem wt{k:Nat}{f:Addr}{fd:FuncData}{ps:List Str}{m:List PV→Res PV}{x:Str}{p pos:Pos}{e:Expr}{es:List Expr}{ms:MA}{ds:List Value}{dvs:List V}{dps:List PV}
  (G:cq X.prog X.w X.K X.mg X.base (CXP X.prog X.w) k f fd ps (spM T ps.length m)) (hr:cT k X.A) (hg:Gl X x) (hm:X.mg x=some (.ref f)) (hk:PySem.W.keepIn X.K (.ref f)=true) (hb:dJ X.K fd ps ds) (hd:aH dvs ds) (hdp:∀F B L H,RelL T F B L H dps dvs []) (hx:XF X T W)
  (hn:∀env xs,ms env=.ok xs→xs.length+dvs.length=ps.length) (ha:SA X T W (e::es) ms)
  (hdb:(x ==("__debug__" : Str))=false:=by decide) (he:starEach (e::es) X.env=(false,eval e X.env)::starEach es X.env:=by rfl) (hpl:(backTo pos (starEach es X.env)).any (·.1)=false:=by rfl) :
  SE X T W (.Call (.Name x p) (e::es) [] pos) (ap (fun xs=>aG m (xs++dps)) ms):=by
 intro pins s σ H Q I h
 obtain⟨Z,F,env,fp,S,q⟩:=h
 unfold ap at q
 refine wpAny_Call_Name_kw (iq I hg hm ?_ hdb)
 refine PySem.W.callWith_K (h₀:=X.base) I.ok.mod.kin hk (thn (ha pos pins s σ H (fun vs H1=>∀ us s1,L2.Inv X pins σ H1 s1→aH vs us→wpAny (model X.prog X.w) X.A (call (.ref f) us) (EP X pins σ Q) X.xe s1) I
  (tA.bind S (fun c e=>by rw[e]at q;exact q) (fun e=>by rw[e]at q;exact q) fun xs vs H1 F1 f1 e1 g1 r1 n1 d1 w1 us s1 I1 rv=>?_)) fun us s1 ⟨vs,H1,I1,r,q1⟩=>⟨I1.kIn,q1 us s1 I1 r⟩) he hpl
 rw[e1]at q
 exact yp G hr hb hd hdp hx S g1 r1 n1 d1 w1 q I1 rv (by rw[← r1.length];exact hn env xs e1)
def fH(X:Cx)(T:Tb)(k:Nat)(mn:Str)(ps:List Str)(ds:List Value)(disp:Nat→Option (List PV→Res PV)):Prop :=
 ∀c m,c < T.nc→disp c=some m→∃f fd,yg X.K (T.cls c) mn f∧dJ X.K fd ps ds∧cq X.prog X.w X.K X.mg X.base (CXP X.prog X.w) k f fd ps (spM T ps.length m)
def pX(disp:Nat→Option (List PV→Res PV))(dps:List PV)(o:ME)(ms:MA):ME:=fun env=>(o env).bind fun ov=>match ov with
 | .obj _ c _ _=>match disp c with
  | some m=>(ms env).bind fun xs=>aG m ((ov::xs)++ dps)
  | none=>.stuck
 | _=>.stuck
theorem i5{mn:Str}(hm:∀k,T.att k≠mn):∀(ks:List Nat) (vs:List V),((ks.map T.att).zip vs).lookup mn=none
 | [],_=>rfl
 | j::ks,[]=>rfl
 | j::ks,v::vs=>by
  rw[List.map_cons,List.zip_cons_cons,List.lookup_cons,show(mn==T.att j)=false by rw[beq_eq_false_iff_ne];exact(hm j).symm]
  exact i5 hm ks vs
theorem xu{pins:List (Addr×Obj)}{k:Nat}{mn:Str}{ps:List Str}{ds:List Value}{disp:Nat→Option (List PV→Res PV)}{fl:Fl}{c:Nat}{ks:List Nat}{xs:List PV}{v:V}{f1:List Addr}{s1:Shared}{pl:Sem Bool}{Q:Value×List Value→Shared→Prop}{m:List PV→Res PV}{u:Value}{B L:Addr→Prop}
  (hK:X.K=T.K) (hc:∀c < T.nc,Cls T.K (T.cls c)) (hm:∀k,T.att k≠mn) (D:fH X T k mn ps ds disp) (e:disp c=some m) (r:Rel T F1 B L H1 (.obj fl c ks xs) v f1) (I1:L2.Inv X pins σ H1 s1) (ru:bg v u)
  (h:∀a f fd,u=.ref a→PySem.W.keepIn X.K (.ref f)=true→dJ X.K fd ps ds→cq X.prog X.w X.K X.mg X.base (CXP X.prog X.w) k f fd ps (spM T ps.length m)→Q (.ref f,[.ref a]) s1) :
  wpAny (model X.prog X.w) X.A (getMethod u mn pl) Q X.xe s1:=by
 unfold Rel at r
 obtain⟨a,dx,vs,fp',rfl,hl,hk,hr,_,_⟩:=r
 obtain⟨f,fd,M,hb,G⟩:=D c m hk.2 e
 obtain rfl:u=Value.ref a:=ru
 refine oW I1 hl (by rw[hK];exact hc c hk.2) M (i5 hm _ _) (h a f fd rfl M.kp hb G)
theorem wn{k:Nat}{mn:Str}{ps:List Str}{ds:List Value}{disp:Nat→Option (List PV→Res PV)}{o e:Expr}{es:List Expr}{mo:ME}{ms:MA}{apos pos:Pos}{dvs:List V}{dps:List PV}{pl:Sem Bool}
  (hK:X.K=T.K) (hc:∀c < T.nc,Cls T.K (T.cls c)) (hm:∀k,T.att k≠mn) (D:fH X T k mn ps ds disp) (hr:cT k X.A) (hd:aH dvs ds) (hdp:∀F B L H,RelL T F B L H dps dvs []) (hx:XF X T W)
  (hn:∀env xs,ms env=.ok xs→xs.length+1+dvs.length=ps.length) (ho:SE X T W o mo) (ha:SA X T W (e::es) ms)
  (hst:starEach (e::es) X.env=(false,eval e X.env)::starEach es X.env:=by rfl) (hpl:(backTo pos (starEach es X.env)).any (·.1)=false:=by rfl)
  (ht:eval (.Call (.Attribute o mn apos) (e::es) [] pos) X.env=(do
   let ov ← eval o X.env
   standAt apos.atName
   let(f,first) ← holding [ov] (getMethod ov mn pl)
   callWith pos f first (backTo pos (starEach (e::es) X.env)) (backToKw pos (keywordEach [] X.env))):=by rfl) :
  SE X T W (.Call (.Attribute o mn apos) (e::es) [] pos) (pX disp dps mo ms):=by
 intro pins s σ H Q I h
 obtain⟨Z,F,env,fp,S,q⟩:=h
 unfold pX at q
 refine PySem.W.methodCall_KW (pl:=pl) (thn (ho pins s σ H (fun v H1=>∃ ov F1 f1,mo env=.ok ov∧Gr F H F1 H1∧Rel T F1 Z.B (Own fp) H1 ov v f1∧(∀ a ∈ f1,¬ F1 a)∧f1.Nodup∧∀ a ∈ f1,H a=none) I
  (tE.bind S (fun c e=>by rw[e]at q;exact q) (fun e=>by rw[e]at q;exact q) fun ov v H1 F1 f1 e1 g1 r1 n1 d1 w1=>⟨ov,F1,f1,e1,g1,r1,n1,d1,w1⟩)) fun u s1 ⟨v,H1,I1,ru,ov,F1,f1,e1,g1,r1,n1,d1,w1⟩=>?_) ht
 rw[e1]at q
 simp only[Res.ok_bind]at q
 by_cases hobj:∃fl c ks xs m,ov=.obj fl c ks xs∧disp c=some m
 ·obtain⟨fl,c,ks,ys,m,rfl,em⟩:=hobj
  dsimp only at q
  rw[em]at q
  dsimp only at q
  refine xu hK hc hm D em r1 I1 ru fun a f fd eu hkp hb G=>?_
  subst eu
  refine PySem.W.callWith_K (first:=[.ref a]) (h₀:=X.base) I.ok.mod.kin hkp (thn (ha pos pins s1 σ H1 (fun vs H2=>∀ us s2,L2.Inv X pins σ H2 s2→aH vs us→wpAny (model X.prog X.w) X.A (call (.ref f) (.ref a::us)) (EP X pins σ Q) X.xe s2) I1
   (tA.bind (S.grow g1) (fun c e=>by rw[e]at q;exact fun H' x=>q H' (g1.ext.trans x)) (fun e=>by rw[e]at q;exact q) fun xs vs H2 F2 f2 e2 g2 r2 n2 d2 w2 us s2 I2 rv=>?_)) fun us s2 ⟨vs,H2,I2,r,q2⟩=>⟨I2.kIn,q2 us s2 I2 r⟩) hst hpl
  rw[e2]at q
  simp only[Res.ok_bind]at q
  have nn:∀b∈f1,¬F2 b:=fun b hb z=>by
   rcases g2.only b z with z | z
   ·exact n1 b hb z
   ·obtain⟨oo,hoo⟩:=r1.there b hb
    rw[hoo]at z;cases z
  refine yp (xs:=.obj fl c ks ys::xs) (vs:=v::vs) (us:=.ref a::us) (fx:=f1++f2) G hr hb hd hdp hx S (g1.trans g2) (by unfold RelL;exact⟨v,vs,f1,f2,rfl,r1.ext g2.ext g2.mono,r2,rfl⟩) (fun b hb=>?_) ?_ (fun b hb=>?_) q I2 (.cons ru rv) ?_
  ·rcases List.mem_append.mp hb with hb | hb
   ·exact nn b hb
   ·exact n2 b hb
  ·refine List.nodup_append.mpr ⟨d1,d2,fun b hb c hc z=>?_⟩
   subst z
   obtain⟨oo,hoo⟩:=r1.there b hb
   rw[w2 b hc]at hoo;cases hoo
  ·rcases List.mem_append.mp hb with hb | hb
   ·exact w1 b hb
   ·exact g1.ext.free (w2 b hb)
  ·have:=hn env xs e2
   rw[List.length_cons,← r2.length]
   exact this
 ·exfalso
  cases ov with
  | obj fl c ks ys =>
   cases em:disp c with
   | none=>simp only[em]at q;exact q
   | some m=>exact hobj ⟨fl,c,ks,ys,m,rfl,em⟩
  | _=>exact q
end
end PR
namespace PR
open PySem PySem.Spec L2
def fQ(ms:MA)(n:Nat):Prop:=∀env xs,ms env=.ok xs→xs.length=n
theorem dX:fQ am 0:=fun _ _ h=>by cases h;rfl
theorem c9{m:ME}{ms:MA}{n:Nat}(h:fQ ms n):fQ (ae m ms) (n+1):=fun env xs e=>by
 unfold ae at e
 cases e1:m env with
 | ok x =>
  rw[e1]at e
  simp only[Res.ok_bind]at e
  cases e2:ms env with
  | ok ys =>
   rw[e2]at e
   simp only[Res.ok_bind]at e
   cases e
   rw[List.length_cons,h env ys e2]
  | exc c=>rw[e2]at e;cases e
  | stuck=>rw[e2]at e;cases e
 | exc c=>rw[e1]at e;cases e
 | stuck=>rw[e1]at e;cases e
def aQ:PV→Option (List PV)
 | .lst _ xs=>some xs
 | .tup xs=>some xs
 | _=>none
section
variable{X:Cx}{T:Tb}{W:Nat→St→Hp→Prop}{Z:Zn}{F F1 B L:Addr→Prop}{H H1:Hp}{σ:St}{env:En}{fp:Nat→List Addr}{D:Ends}
theorem Rel.seq{x:PV}{v:V}{fx:List Addr}{xs:List PV}(r:Rel T F B L H x v fx)(e:aQ x=some xs):∃a vs fx',v=.ref a∧(SqL T.K H a vs∨SqT T.K H a vs)∧RelL T F B L H xs vs fx'∧fx'.Sublist fx:=by
 cases x with
 | lst f ys =>
  cases e
  unfold Rel at r
  obtain⟨a,vs,fp',rfl,hl,hr,hf⟩:=r
  refine⟨a,vs,fp',rfl,.inl hl.sq,hr,?_⟩
  cases f with
  | own=>obtain rfl:fx=a::fp':=hf;exact List.sublist_cons_self _ _
  | frz=>obtain⟨rfl,rfl⟩:=hf;exact List.Sublist.refl _
  | bor=>obtain⟨rfl,rfl⟩:=hf;exact List.Sublist.refl _
  | lnt=>obtain⟨rfl,rfl⟩:=hf;exact List.Sublist.refl _
  | mod=>obtain⟨rfl,rfl⟩:=hf;exact List.Sublist.refl _
 | tup ys =>
  cases e
  unfold Rel at r
  obtain⟨a,vs,rfl,hl,hr⟩:=r
  exact⟨a,vs,fx,rfl,.inr hl,hr,List.Sublist.refl _⟩
 | _=>cases e
theorem GE.newL{Q:VK}{ys:List PV}{vs:List V}{fx:List Addr}(q:GE T W B F L σ H Q (.ok (.lst .own ys)))(g:Gr F H F1 H1)(r:RelL T F1 B L H1 ys vs fx)(nf:∀a∈fx,¬F1 a)(nd:fx.Nodup)(new:∀a∈fx,H a=none) :
  ∀p,H1 p=none→Q (.ref p) (upd H1 p (.lst vs)):=fun p hp=>by
 refine q (.ref p) (upd H1 p (.lst vs)) F1 (p::fx) (g.trans (Gr.same g.dom (Ext.upd hp))) ?_ (fun a ha=>?_) ?_ (fun a ha=>?_)
 ·unfold Rel
  exact⟨p,vs,fx,rfl,bF,r.ext (Ext.upd hp) fun _ h=>h,rfl⟩
 ·rcases List.mem_cons.mp ha with rfl | ha
  ·intro z
   obtain⟨o,ho⟩:=g.dom _ z
   rw[hp]at ho;cases ho
  ·exact nf a ha
 ·refine List.nodup_cons.mpr ⟨fun z=>?_,nd⟩
  obtain⟨o,ho⟩:=r.there p z
  rw[hp]at ho;cases ho
 ·rcases List.mem_cons.mp ha with rfl | ha
  ·exact g.ext.free hp
  ·exact new a ha
theorem GE.newT{Q:VK}{ys:List PV}{vs:List V}{fx:List Addr}(q:GE T W B F L σ H Q (.ok (.tup ys)))(g:Gr F H F1 H1)(r:RelL T F1 B L H1 ys vs fx)(nf:∀a∈fx,¬F1 a)(nd:fx.Nodup)(new:∀a∈fx,H a=none) :
  ∀p,H1 p=none→Q (.ref p) (upd H1 p (.tup vs)):=fun p hp=>by
 refine q (.ref p) (upd H1 p (.tup vs)) F1 fx (g.trans (Gr.same g.dom (Ext.upd hp))) ?_ nf nd new
 unfold Rel
 exact⟨p,vs,rfl,SqT.of bF,r.ext (Ext.upd hp) fun _ h=>h⟩
theorem small{n:Nat}(h:n≤1000):n≤sizeLine:=by rw[sizeLine_eq];omega
def eS(ms:MA):ME:=fun env=>(ms env).bind fun xs=>.ok (.lst .own xs)
def jK(ms:MA):ME:=fun env=>(ms env).bind fun xs=>.ok (.tup xs)
theorem yW{es:List Expr}{ms:MA}{n:Nat}{pos:Pos}(ha:SA X T W es ms)(hn:fQ ms n)(hs:n≤1000:=by decide):SE X T W (.List es pos) (eS ms):=PE.wk (zk (pos:=pos) ha) fun σ H Q ⟨Z,F,env,fp,S,q⟩=>by
 unfold eS at q
 refine tA.bind S (fun c e=>by rw[e]at q;exact q) (fun e=>by rw[e]at q;exact q) fun xs vs H1 F1 f1 e1 g1 r1 n1 d1 w1=>?_
 rw[e1]at q
 exact⟨small (by rw[← r1.length,hn env xs e1];exact hs),GE.newL q g1 r1 n1 d1 w1⟩
theorem yR{es:List Expr}{ms:MA}{n:Nat}{x1}{pos:Pos}(ha:SA X T W es ms)(hn:fQ ms n)(hs:n≤1000:=by decide):SE X T W (.Tuple es x1 pos) (jK ms):=PE.wk (tH (pos:=pos) ha) fun σ H Q ⟨Z,F,env,fp,S,q⟩=>by
 unfold jK at q
 refine tA.bind S (fun c e=>by rw[e]at q;exact q) (fun e=>by rw[e]at q;exact q) fun xs vs H1 F1 f1 e1 g1 r1 n1 d1 w1=>?_
 rw[e1]at q
 exact⟨small (by rw[← r1.length,hn env xs e1];exact hs),GE.newT q g1 r1 n1 d1 w1⟩
def p1(f:PV→Res PV):List PV→Res PV
 | [x]=>f x
 | _=>.stuck
theorem RelL.one{x:PV}{vs:List V}{f:List Addr}(r:RelL T F B L H [x] vs f):∃v,vs=[v]∧Rel T F B L H x v f:=by
 unfold RelL at r
 obtain⟨v,ws,f1,f2,rfl,h1,h2,rfl⟩:=r
 unfold RelL at h2
 obtain⟨rfl,rfl⟩:=h2
 exact⟨v,rfl,by rwa [List.append_nil]⟩
def cL:PV→Res PV:=fun x=>match aQ x with
 | some xs=>.ok (.int xs.length)
 | none=>.stuck
theorem xp(hK:X.K=T.K):Mir T W (p1 cL) (fun xs H Q=>∃p ys,xs=[.ref p]∧(SqL X.K H p ys∨SqT X.K H p ys)∧Q (.int ys.length) H):=by
 intro B F L σ H Q F' H' xs vs fx g r _ _ _ q
 match xs,r,q with
 | [x],r,q =>
  obtain⟨v,rfl,r1⟩:=r.one
  simp only[p1,cL]at q
  cases e:aQ x with
  | none=>rw[e]at q;exact q.elim
  | some ys =>
   rw[e]at q
   obtain⟨a,ws,fx',rfl,hs,hr,_⟩:=r1.seq e
   exact⟨a,ws,rfl,by rw[hK];exact hs,q.scal g (by rw[← hr.length];exact eE)⟩
 | [],_,q=>exact q.elim
 | _::_::_,_,q=>exact q.elim
theorem cB{p pos:Pos}{e:Expr}{m:ME}(hK:X.K=T.K)(hg:Gl X "len")(hm:X.mg "len" = none)(ha:SE X T W e m)(he:starEach [e] X.env=[(false,eval e X.env)]:=by rfl):SE X T W (.Call (.Name "len" p) [e] [] pos) (ap (p1 cL) (ae m am)) :=
 cH l8 (xp hK) hg hm PySem.boot_len (aa ha ag he) (he:=he)
def dw:PV→Res PV:=fun x=>match aQ x with
 | some xs=>.ok (.lst .own xs)
 | none=>.stuck
theorem ug(hK:X.K=T.K):Mir T W (p1 dw) (fun xs H Q=>∃p ys,xs=[.ref p]∧(SqL X.K H p ys∨SqT X.K H p ys)∧∀l,H l=none→Q (.ref l) (upd H l (.lst ys))):=by
 intro B F L σ H Q F' H' xs vs fx g r nf nd new q
 match xs,r,q with
 | [x],r,q =>
  obtain⟨v,rfl,r1⟩:=r.one
  simp only[p1,dw]at q
  cases e:aQ x with
  | none=>rw[e]at q;exact q.elim
  | some ys =>
   rw[e]at q
   obtain⟨a,ws,fx',rfl,hs,hr,sl⟩:=r1.seq e
   exact⟨a,ws,rfl,by rw[hK];exact hs,GE.newL q g hr (fun b hb=>nf b (sl.subset hb)) (nd.sublist sl) (fun b hb=>new b (sl.subset hb))⟩
 | [],_,q=>exact q.elim
 | _::_::_,_,q=>exact q.elim
theorem di{p pos:Pos}{e:Expr}{m:ME}(hK:X.K=T.K)(hg:Gl X "list")(hm:X.mg "list" = none)(hv:bootBuiltins "list" = some (.type "list"))(ha:SE X T W e m)(he:starEach [e] X.env=[(false,eval e X.env)]:=by rfl):SE X T W (.Call (.Name "list" p) [e] [] pos) (ap (p1 dw) (ae m am)) :=
 kn l7 (ug hK) hg hm hv (aa ha ag he) (he:=he)
def cY:PV→Res PV:=fun x=>match aQ x with
 | some xs=>.ok (.tup xs)
 | none=>.stuck
theorem rq(hK:X.K=T.K):Mir T W (p1 cY) (fun xs H Q=>∃p ys,xs=[.ref p]∧((SqL X.K H p ys∧∀l,H l=none→Q (.ref l) (upd H l (.tup ys)))∨(SqT X.K H p ys∧Q (.ref p) H))):=by
 intro B F L σ H Q F' H' xs vs fx g r nf nd new q
 match xs,r,q with
 | [x],r,q =>
  obtain⟨v,rfl,r1⟩:=r.one
  simp only[p1,cY]at q
  cases x with
  | lst f ys =>
   simp only[aQ]at q
   unfold Rel at r1
   obtain⟨a,ws,fp',rfl,hl,hr,hf⟩:=r1
   have sl:fp'.Sublist fx:=by
    cases f with
    | own=>obtain rfl:fx=a::fp':=hf;exact List.sublist_cons_self _ _
    | frz=>obtain⟨rfl,rfl⟩:=hf;exact List.Sublist.refl _
    | bor=>obtain⟨rfl,rfl⟩:=hf;exact List.Sublist.refl _
    | lnt=>obtain⟨rfl,rfl⟩:=hf;exact List.Sublist.refl _
    | mod=>obtain⟨rfl,rfl⟩:=hf;exact List.Sublist.refl _
   exact⟨a,ws,rfl,.inl ⟨by rw[hK];exact hl.sq,GE.newT q g hr (fun b hb=>nf b (sl.subset hb)) (nd.sublist sl) (fun b hb=>new b (sl.subset hb))⟩⟩
  | tup ys =>
   simp only[aQ]at q
   have r2:=r1
   unfold Rel at r2
   obtain⟨a,ws,rfl,hs,hr⟩:=r2
   exact⟨a,ws,rfl,.inr ⟨by rw[hK];exact hs,q _ _ _ fx g r1 nf nd new⟩⟩
  | _=>exact q.elim
 | [],_,q=>exact q.elim
 | _::_::_,_,q=>exact q.elim
theorem fT{p pos:Pos}{e:Expr}{m:ME}(hK:X.K=T.K)(hg:Gl X "tuple")(hm:X.mg "tuple" = none)(hv:bootBuiltins "tuple" = some (.type "tuple"))(ha:SE X T W e m)(he:starEach [e] X.env=[(false,eval e X.env)]:=by rfl):SE X T W (.Call (.Name "tuple" p) [e] [] pos) (ap (p1 cY) (ae m am)) :=
 kn j8 (rq hK) hg hm hv (aa ha ag he) (he:=he)
def aN:PV→PV→Res PV
 | x,.int i=>match aQ x with
  | some xs=>match atI xs i with
   | some y=>if x.has Fl.isOwn&&y.has Fl.isOwn then .stuck else .ok y
   | none=>.stuck
  | none=>.stuck
 | _,_=>.stuck
theorem qw{xs:List PV}{vs:List V}{f:List Addr}{i:Int}{y:PV}(r:RelL T F B L H xs vs f)(e:atI xs i=some y):∃v f',atI vs i=some v∧Rel T F B L H y v f'∧f'.Sublist f:=by
 unfold atI at e ⊢
 rw[← r.length]
 cases e1:ixN xs.length i with
 | none=>rw[e1]at e;cases e
 | some j =>
  rw[e1]at e
  exact r.get e
theorem xr(hK:X.K=T.K):gB T W aN (fun x y H Q=>wH X.K x y H Q ∨(wF X.K x y H Q∨wG x y H Q)):=by
 intro B F L σ H Q F' H' x y v u fx fy g rx ry nf nd new q
 cases y with
 | int i =>
  unfold Rel at ry
  obtain⟨rfl,rfl⟩:=ry
  simp only[aN]at q
  cases e:aQ x with
  | none=>rw[e]at q;exact q.elim
  | some xs =>
   rw[e]at q
   dsimp only at q
   obtain⟨a,ws,fx',rfl,hs,hr,sl⟩:=rx.seq e
   cases e2:atI xs i with
   | none=>rw[e2]at q;exact q.elim
   | some z =>
    rw[e2]at q
    dsimp only at q
    obtain⟨w,f',h1,h2,h3⟩:=qw hr e2
    have e0:f'=[]:=by
     by_cases ho:x.has Fl.isOwn=true
     ·by_cases hz:z.has Fl.isOwn=true
      ·rw[ho,hz]at q;exact q.elim
      ·exact Rel.noOwn (by simpa using hz) h2
     ·have:=Rel.noOwn (by simpa using ho) rx
      subst this
      exact List.sublist_nil.mp (h3.trans sl)
    subst e0
    by_cases hb:(x.has Fl.isOwn&&z.has Fl.isOwn)=true
    ·rw[if_pos hb]at q;exact q.elim
    ·rw[if_neg hb]at q
     rcases hs with hs | hs
     ·exact .inl ⟨a,ws,i,w,rfl,rfl,by rw[hK];exact hs,h1,q.scal g h2⟩
     ·exact .inr (.inl ⟨a,ws,i,w,rfl,rfl,by rw[hK];exact hs,h1,q.scal g h2⟩)
 | _=>exact q.elim
theorem yZ{a b:Expr}{ma mb:ME}{pos:Pos}(hK:X.K=T.K)(ha:SE X T W a ma)(hb:SE X T W b mb)(hs:fG b):SE X T W (.Subscript a b pos) (mOp aN ma mb) :=
 yo lR (xr hK) ha hb hs
abbrev MO:=En→Res (Option Int)
def jg:MO:=fun _=>.ok none
def ij(m:ME):MO:=fun env=>(m env).bind fun
 | .int i=>.ok (some i)
 | _=>.stuck
def iS(xs:List PV)(lo hi:Option Int):List PV:=(xs.drop (HT.sIx xs.length 0 lo)).take (HT.sIx xs.length xs.length hi - HT.sIx xs.length 0 lo)
def gT(o:ME)(lo hi:MO):ME:=fun env=>(o env).bind fun x=>(lo env).bind fun l=>(hi env).bind fun h=>match x with
 | .lst _ xs=>.ok (.lst .own (iS xs l h))
 | _=>.stuck
theorem RelL.drop:∀{xs:List PV}{vs:List V}{f:List Addr} (n:Nat),RelL T F B L H xs vs f→∃f',RelL T F B L H (xs.drop n) (vs.drop n) f'∧f'.Sublist f
 | xs,vs,f,0,h=>⟨f,h,List.Sublist.refl _⟩
 | [],vs,f,n+1,h=>by unfold RelL at h;obtain⟨rfl,rfl⟩:=h;exact⟨[],by simp[RelL],List.Sublist.refl _⟩
 | x::xs,_,_,n+1,h=>by
  unfold RelL at h
  obtain⟨v,ws,f1,f2,rfl,h1,h2,rfl⟩:=h
  obtain⟨f',r,s⟩:=RelL.drop n h2
  exact⟨f',by simpa using r,s.trans (List.sublist_append_right _ _)⟩
theorem RelL.take:∀{xs:List PV}{vs:List V}{f:List Addr} (n:Nat),RelL T F B L H xs vs f→∃f',RelL T F B L H (xs.take n) (vs.take n) f'∧f'.Sublist f
 | xs,vs,f,0,h=>⟨[],by simp[RelL],List.nil_sublist _⟩
 | [],vs,f,n+1,h=>by unfold RelL at h;obtain⟨rfl,rfl⟩:=h;exact⟨[],by simp[RelL],List.Sublist.refl _⟩
 | x::xs,_,_,n+1,h=>by
  unfold RelL at h
  obtain⟨v,ws,f1,f2,rfl,h1,h2,rfl⟩:=h
  obtain⟨f',r,s⟩:=RelL.take n h2
  refine⟨f1++f',?_,List.Sublist.append (List.Sublist.refl _) s⟩
  rw[List.take_succ_cons,List.take_succ_cons]
  unfold RelL
  exact⟨v,_,f1,f',rfl,h1,r,rfl⟩
def tO(T:Tb)(W:Nat→St→Hp→Prop)(m:MO):TO:=fun σ H Q=>∃Z F env fp,ar T Z F H σ env fp∧match m env with
 | .ok o=>∀H' F',Gr F H F' H'→Q o H'
 | .exc c=>∀H',Ext H H'→W c σ H'
 | .stuck=>False
abbrev SO(X:Cx)(T:Tb)(W:Nat→St→Hp→Prop)(e:Option Expr)(m:MO):Prop:=PO X e (tO T W m)
theorem pz:SO X T W none jg:=fun pins s σ H Q I ⟨Z,F,env,fp,S,q⟩=>wR pins s σ H Q I (q H F (Gr.refl S.hp.ft))
theorem gu{e:Expr}{m:ME}(h:SE X T W e m):SO X T W (some e) (ij m):=fun pins s σ H Q I ⟨Z,F,env,fp,S,q⟩=>wQ h pins s σ H Q I (by
 unfold ij at q
 refine tE.bind S (fun c e=>by rw[e]at q;exact q) (fun e=>by rw[e]at q;exact q) fun x v H1 F1 f1 e1 g1 r1 n1 d1 w1=>?_
 rw[e1]at q
 cases x with
 | int i=>unfold Rel at r1;exact⟨i,r1.1,q H1 F1 g1⟩
 | _=>exact q.elim)
theorem hR{e:Expr}{lo hi:Option Expr}{m:ME}{ml mh:MO}{pos p2:Pos}(hK:X.K=T.K)(he:SE X T W e m)(hl:SO X T W lo ml)(hu:SO X T W hi mh):SE X T W (.Subscript e (.Slice lo hi none p2) pos) (gT m ml mh) :=
 PE.wk (tJ (pos:=pos) (p2:=p2) wc he hl hu) fun σ H Q ⟨Z,F,env,fp,S,q⟩=>by
  unfold gT at q
  refine tE.bind S (fun c e=>by rw[e]at q;exact q) (fun e=>by rw[e]at q;exact q) fun x v H1 F1 f1 e1 g1 r1 n1 d1 w1=>?_
  rw[e1]at q
  simp only[Res.ok_bind]at q
  refine⟨Z,F1,env,fp,S.grow g1,?_⟩
  cases e2:ml env with
  | exc c=>rw[e2]at q;exact fun H' x=>q H' (g1.ext.trans x)
  | stuck=>rw[e2]at q;exact q
  | ok l =>
   rw[e2]at q
   intro H2 F2 g2
   refine⟨Z,F2,env,fp,(S.grow g1).grow g2,?_⟩
   simp only[Res.ok_bind]at q
   cases e3:mh env with
   | exc c=>rw[e3]at q;exact fun H' x=>q H' ((g1.ext.trans g2.ext).trans x)
   | stuck=>rw[e3]at q;exact q
   | ok h =>
    rw[e3]at q
    intro H3 F3 g3
    simp only[Res.ok_bind]at q
    cases x with
    | lst f xs =>
     have g:=(g1.trans g2).trans g3
     have r3:=(r1.ext (g2.trans g3).ext (g2.trans g3).mono)
     have nf3:∀a∈f1,¬F3 a:=fun a ha z=>by
      rcases(g2.trans g3).only a z with z | z
      ·exact n1 a ha z
      ·obtain⟨o,ho⟩:=r1.there a ha
       rw[ho]at z;cases z
     unfold Rel at r3
     obtain⟨a,ws,fp',rfl,hll,hr,hf⟩:=r3
     have sl:fp'.Sublist f1:=by
      cases f with
      | own=>obtain rfl:f1=a::fp':=hf;exact List.sublist_cons_self _ _
      | frz=>obtain⟨rfl,rfl⟩:=hf;exact List.Sublist.refl _
      | bor=>obtain⟨rfl,rfl⟩:=hf;exact List.Sublist.refl _
      | lnt=>obtain⟨rfl,rfl⟩:=hf;exact List.Sublist.refl _
      | mod=>obtain⟨rfl,rfl⟩:=hf;exact List.Sublist.refl _
     obtain⟨f4,h4,s4⟩:=RelL.drop (HT.sIx xs.length 0 l) hr
     obtain⟨f5,h5,s5⟩:=RelL.take (HT.sIx xs.length xs.length h - HT.sIx xs.length 0 l) h4
     have sl2:=(s5.trans s4).trans sl
     refine⟨a,ws,rfl,by rw[hK];exact hll.sq,?_⟩
     unfold vf
     rw[← hr.length]
     exact GE.newL q g h5 (fun b hb=>nf3 b (sl2.subset hb)) (d1.sublist sl2) (fun b hb=>w1 b (sl2.subset hb))
    | _=>exact q.elim
def yq(K:PySem.W.Frag):R2:=fun x y H Q=>∃l b xs zs,x=.ref l∧y=.ref b∧Rd H l (.lst xs)∧Rd H b (.lst zs)∧xs.length+zs.length≤sizeLine∧∀p,H p=none→Q (.ref p) (upd H p (.lst (xs++zs)))
theorem xb{K:PySem.W.Frag}:OpR X (binaryOp .Add) (yq K):=by
 intro pins s σ H x y v u Q I rx ry h
 obtain⟨l,b,xs,zs,rfl,rfl,hH,hB,hz,q⟩:=h
 cases rx
 cases ry
 obtain⟨z,its,n,r,e⟩:=hH.ok I.hok
 obtain⟨z2,its2,n2,r2,e2⟩:=hB.ok I.hok
 have hl:=r.length
 have hl2:=r2.length
 refine PySem.P.add_list e e2 ?_ (by rw[List.size_toArray,List.size_toArray];omega)
 have ea:its.toArray++its2.toArray=(its++its2).toArray:=by simp
 rw[ea]
 exact⟨.ref _,_,I.lnew (t':=s.toks) (r.append r2) (by rw[List.length_append];omega),rfl,q _ I.fresh⟩
def aK:PV→PV→Res PV
 | .int i,.int j=>.ok (.int (i+j))
 | .lst f xs,.lst g ys=>if f=.mod∨g=.mod∨¬xs.length+ys.length≤10000000 then .stuck else .ok (.lst .own (xs++ys))
 | _,_=>.stuck
theorem n9.rd{f:Fl}{a:Addr}{vs:List V}(h:n9 T F B L H f a vs)(n:f≠.mod):Rd H a (.lst vs):=by
 cases f with
 | own=>exact .inl h
 | lnt=>exact .inl h.2
 | frz=>exact h.2
 | bor=>exact h.2
 | mod=>exact absurd rfl n
theorem yi.sub{f:Fl}{a:Addr}{fp' fx:List Addr}(hf:yi f a fp' fx):fp'.Sublist fx:=by
 cases f with
 | own=>obtain rfl:fx=a::fp':=hf;exact List.sublist_cons_self _ _
 | frz=>obtain⟨rfl,rfl⟩:=hf;exact List.Sublist.refl _
 | bor=>obtain⟨rfl,rfl⟩:=hf;exact List.Sublist.refl _
 | lnt=>obtain⟨rfl,rfl⟩:=hf;exact List.Sublist.refl _
 | mod=>obtain⟨rfl,rfl⟩:=hf;exact List.Sublist.refl _
theorem uc:gB T W aK (fun x y H Q=>(rI0 fun i j=>.int (i+j)) x y H Q∨yq T.K x y H Q):=by
 intro B F L σ H Q F' H' x y v u fx fy g rx ry nf nd new q
 cases x with
 | int i =>
  cases y with
  | int j=>unfold Rel at rx ry;exact .inl ⟨i,j,rx.1,ry.1,q.scal g eE⟩
  | _=>exact q.elim
 | lst f xs =>
  cases y with
  | lst f' ys =>
   simp only[aK]at q
   by_cases hc:f=.mod∨f'=.mod∨¬xs.length+ys.length≤10000000
   ·rw[if_pos hc]at q;exact q.elim
   ·rw[if_neg hc]at q
    unfold Rel at rx ry
    obtain⟨a,vs,fp1,rfl,hl1,hr1,hf1⟩:=rx
    obtain⟨b,us,fp2,rfl,hl2,hr2,hf2⟩:=ry
    have sl:=List.Sublist.append hf1.sub hf2.sub
    have h3:xs.length+ys.length≤10000000:=by
     rcases Nat.lt_or_ge 10000000 (xs.length+ys.length)with z | z
     ·exact absurd (.inr (.inr (by omega))) hc
     ·exact z
    refine .inr ⟨a,b,vs,us,rfl,rfl,hl1.rd fun z=>hc (.inl z),hl2.rd fun z=>hc (.inr (.inl z)),by rw[← hr1.length,← hr2.length,sizeLine_eq];omega,?_⟩
    exact GE.newL q g (RelL.append hr1 hr2) (fun b hb=>nf b (sl.subset hb)) (nd.sublist sl) (fun b hb=>new b (sl.subset hb))
  | _=>exact q.elim
 | _=>exact q.elim
theorem OpR.or{f:Value→Value→Sem Value}{r r':R2}(h:OpR X f r)(h':OpR X f r'):OpR X f (fun x y H Q=>r x y H Q∨r' x y H Q):=by
 intro pins s σ H x y v u Q I rx ry q
 rcases q with q | q
 ·exact h pins s σ H x y v u Q I rx ry q
 ·exact h' pins s σ H x y v u Q I rx ry q
theorem aM{a b:Expr}{ma mb:ME}{pos:Pos}(ha:SE X T W a ma)(hb:SE X T W b mb):SE X T W (.BinOp a .Add b pos) (mOp aK ma mb):=jt (OpR.or zx xb) uc ha hb
end
end PR
namespace PR
open PySem PySem.Spec L2
mutual
def PV.data:PV→PyData
 | .non=>.none
 | .bl b=>.bool b
 | .int i=>.int i
 | .str x=>.str x
 | .lst _ xs=>.list (dataL xs)
 | .tup xs=>.tuple (dataL xs)
 | .obj _ _ _ _=>.dict []
 | .exc _=>.dict []
def dataL:List PV→List PyData
 | []=>[]
 | x::xs=>x.data::dataL xs
end
def shp(x:PV):Bool:=SeqAt.shaped x.data
section
variable{X:Cx}{T:Tb}{W:Nat→St→Hp→Prop}{Z:Zn}{F F1 B L:Addr→Prop}{H H1:Hp}{σ:St}{env:En}{fp:Nat→List Addr}{D:Ends}{pins:List (Addr×Obj)}{s:Shared}
mutual
theorem Rel.reads(hK:X.K=T.K)(I:L2.Inv X pins σ H s):∀{x:PV}{v:V}{f:List Addr}{u:Value},Rel T F B L H x v f→bg v u→x.data.canLay0=true→∃as,Reads s.heap u x.data as
 | .non,_,_,_,r,ru,_=>by unfold Rel at r;obtain⟨rfl,_⟩:=r;cases ru;exact⟨[],.none⟩
 | .bl b,_,_,_,r,ru,_=>by unfold Rel at r;obtain⟨rfl,_⟩:=r;cases ru;exact⟨[],.bool b⟩
 | .int i,_,_,_,r,ru,_=>by unfold Rel at r;obtain⟨rfl,_⟩:=r;obtain⟨t,rfl⟩:=ru;exact⟨[],.int i t⟩
 | .str x,_,_,_,r,ru,_=>by unfold Rel at r;obtain⟨rfl,_⟩:=r;obtain⟨t,rfl⟩:=ru;exact⟨[],.str x t⟩
 | .lst f xs,_,_,_,r,ru,hc=>by
  unfold Rel at r
  obtain⟨a,vs,fp',rfl,hl,hr,_⟩:=r
  cases ru
  obtain⟨its,rv,⟨o,n,ho,hcl,_,hd⟩,_⟩:=I.list (by rw[hK];exact hl.sq)
  obtain⟨as,ra⟩:=RelL.reads hK I hr rv (by simpa[PV.data,PyData.canLay0]using hc)
  exact⟨_,.list ho hcl hd (by simpa using ra)⟩
 | .tup xs,_,_,_,r,ru,hc=>by
  unfold Rel at r
  obtain⟨a,vs,rfl,hl,hr⟩:=r
  cases ru
  obtain⟨its,rv,⟨o,ho,hcl,n,hd⟩,_⟩:=I.tuple (by rw[hK];exact hl)
  obtain⟨as,ra⟩:=RelL.reads hK I hr rv (by simpa[PV.data,PyData.canLay0]using hc)
  exact⟨_,.tuple ho hcl hd (by simpa using ra)⟩
 | .obj _ _ _ _,_,_,_,_,_,hc=>by simp[PV.data,PyData.canLay0]at hc
 | .exc _,_,_,_,_,_,hc=>by simp[PV.data,PyData.canLay0]at hc
theorem RelL.reads(hK:X.K=T.K)(I:L2.Inv X pins σ H s):∀{xs:List PV}{vs:List V}{f:List Addr}{us:List Value},RelL T F B L H xs vs f→aH vs us→PyData.canLayAll0 (dataL xs)=true→∃as,ReadsAll s.heap us (dataL xs) as
 | [],_,_,_,r,ru,_=>by unfold RelL at r;obtain⟨rfl,_⟩:=r;cases ru;exact⟨[],.nil⟩
 | x::xs,_,_,_,r,ru,hc=>by
  unfold RelL at r
  obtain⟨v,ws,f1,f2,rfl,h1,h2,_⟩:=r
  cases ru with
  | cons r1 r2 =>
   simp only[dataL,PyData.canLayAll0,Bool.and_eq_true]at hc
   obtain⟨as,ra⟩:=Rel.reads hK I h1 r1 hc.1
   obtain⟨bs,rb⟩:=RelL.reads hK I h2 r2 hc.2
   exact⟨_,.cons ra rb⟩
end
def pEq:PV→PV→Res PV:=fun x y=>if shp x&&shp y then .ok (.bl (PyData.eqv x.data y.data))else .stuck
def pNe:PV→PV→Res PV:=fun x y=>if shp x&&shp y then .ok (.bl (!PyData.eqv x.data y.data))else .stuck
def sW(X:Cx)(T:Tb)(g:PyData→PyData→Bool):R2:=fun v u H Q=>∃x y F B L fx fy,Rel T F B L H x v fx∧Rel T F B L H y u fy∧shp x=true∧shp y=true∧Q (.bl (g x.data y.data)) H
theorem tX(hK:X.K=T.K)(hu:X.A.units+64 < cLine):OpR X (compareOp .Eq) (sW X T fun a b=>PyData.eqv a b):=by
 intro pins s σ H v u v' u' Q I rv ru h
 obtain⟨x,y,F,B,L,fx,fy,rx,ry,hx,hy,q⟩:=h
 obtain⟨as,ra⟩:=rx.reads hK I rv (SeqAt.canLay_of_shaped hx)
 obtain⟨bs,rb⟩:=ry.reads hK I ru (SeqAt.canLay_of_shaped hy)
 exact PyProof.Rows.eq_dataH ra rb hx hy hu ⟨.bl _,H,I,rfl,q⟩
theorem tU(hK:X.K=T.K)(hu:X.A.units+64 < cLine):OpR X (compareOp .NotEq) (sW X T fun a b=>!PyData.eqv a b):=by
 intro pins s σ H v u v' u' Q I rv ru h
 obtain⟨x,y,F,B,L,fx,fy,rx,ry,hx,hy,q⟩:=h
 obtain⟨as,ra⟩:=rx.reads hK I rv (SeqAt.canLay_of_shaped hx)
 obtain⟨bs,rb⟩:=ry.reads hK I ru (SeqAt.canLay_of_shaped hy)
 exact PyProof.Rows.ne_dataH ra rb hx hy hu ⟨.bl _,H,I,rfl,q⟩
theorem ig{g:PyData→PyData→Bool}:gB T W (fun x y=>if shp x&&shp y then .ok (.bl (g x.data y.data))else .stuck) (sW X T g):=by
 intro B F L σ H Q F' H' x y v u fx fy gr rx ry nf nd new q
 dsimp only at q
 by_cases hc:(shp x&&shp y)=true
 ·rw[if_pos hc]at q
  rw[Bool.and_eq_true]at hc
  exact⟨x,y,F',B,L,fx,fy,rx,ry,hc.1,hc.2,q.scal gr ib⟩
 ·rw[if_neg hc]at q;exact q.elim
variable{a b:Expr}{ma mb:ME}{pos:Pos}
theorem ju(hK:X.K=T.K)(hu:X.A.units+64 < cLine)(ha:SE X T W a ma)(hb:SE X T W b mb):SE X T W (.Compare a [.Eq] [b] pos) (mOp pEq ma mb):=jv (tX hK hu) ig ha hb (dE _)
theorem yn(hK:X.K=T.K)(hu:X.A.units+64 < cLine)(ha:SE X T W a ma)(hb:SE X T W b mb):SE X T W (.Compare a [.NotEq] [b] pos) (mOp pNe ma mb):=jv (tU hK hu) (ig (g:=fun a b=>!PyData.eqv a b)) ha hb (dE _)
theorem cE(hK:X.K=T.K)(hu:X.A.units+64 < cLine)(ha:SE X T W a ma)(hb:SE X T W b mb):ST X T W (.Compare a [.Eq] [b] pos) (ax (mOp pEq ma mb)):=eC (tX hK hu) ig ha hb (dE _)
theorem gC(hK:X.K=T.K)(hu:X.A.units+64 < cLine)(ha:SE X T W a ma)(hb:SE X T W b mb):ST X T W (.Compare a [.NotEq] [b] pos) (ax (mOp pNe ma mb)):=eC (tU hK hu) (ig (g:=fun a b=>!PyData.eqv a b)) ha hb (dE _)
theorem fJ(ha:SE X T W a ma)(hb:SE X T W b mb):ST X T W (.Compare a [.Lt] [b] pos) (ax (mOp pLt ma mb)):=eC Ce (lP fun _ _ _ _ _ _=>ib) ha hb (dE _)
theorem iW(ha:SE X T W a ma)(hb:SE X T W b mb):ST X T W (.Compare a [.Gt] [b] pos) (ax (mOp pGt ma mb)):=eC Cf (lP fun _ _ _ _ _ _=>ib) ha hb (dE _)
theorem mH(ha:SE X T W a ma)(hb:SE X T W b mb):ST X T W (.Compare a [.GtE] [b] pos) (ax (mOp pGe ma mb)):=eC Cg (lP fun _ _ _ _ _ _=>ib) ha hb (dE _)
def inL(x:PV)(ys:List PV):Bool:=ys.any fun y=>PyData.eqv y.data x.data
def pIn:PV→PV→Res PV:=fun x y=>match aQ y with
 | some ys=>if shp x&&ys.all shp then .ok (.bl (inL x ys))else .stuck
 | none=>.stuck
def gQ:PV→PV→Res PV:=fun x y=>match aQ y with
 | some ys=>if shp x&&ys.all shp then .ok (.bl (!inL x ys))else .stuck
 | none=>.stuck
theorem nL(hK:X.K=T.K)(I:L2.Inv X pins σ H s){A:Around}{x y:PV}{v u:V}{fx fy:List Addr}{v' u':Value}(hu:A.units+64 < cLine)(rx:Rel T F B L H x v fx)(ry:Rel T F B L H y u fy)(rv:bg v v')(ru:bg u u')(hx:shp x=true)(hy:shp y=true) :
  SeqAt.EqAt A s v' u' (PyData.eqv x.data y.data):=by
 obtain⟨as,ra⟩:=rx.reads hK I rv (SeqAt.canLay_of_shaped hx)
 obtain⟨bs,rb⟩:=ry.reads hK I ru (SeqAt.canLay_of_shaped hy)
 exact SeqAt.eqAt_reads _ _ A s v' u' as bs ra rb (SeqAt.canLay_of_shaped hx) (SeqAt.canLay_of_shaped hy) (SeqAt.room_of_shaped hx hu)
theorem iw(hK:X.K=T.K)(I:L2.Inv X pins σ H s){A:Around}(hu:A.units+64 < cLine){x:PV}{v:V}{fx:List Addr}{v':Value}(rx:Rel T F B L H x v fx)(rv:bg v v')(hx:shp x=true) :
  ∀{ys:List PV}{us:List V}{fy:List Addr}{us':List Value},RelL T F B L H ys us fy→aH us us'→ys.all shp=true→∃e:Value→Bool,(∀w∈us',SeqAt.EqAt A s w v' (e w))∧us'.any e=inL x ys:=by
 intro ys us fy us' r rv' hs
 have one:∀(ys:List PV) (us:List V) (fy:List Addr) (us':List Value),RelL T F B L H ys us fy→aH us us'→ys.all shp=true→∀w∈us',∃b,SeqAt.EqAt A s w v' b∧(b=true→inL x ys=true):=by
  intro ys
  induction ys with
  | nil =>
   intro us fy us' r rv' _ w hw
   unfold RelL at r
   obtain⟨rfl,_⟩:=r
   cases rv'
   cases hw
  | cons y ys ih =>
   intro us fy us' r rv' hs w hw
   unfold RelL at r
   obtain⟨u,ws,f1,f2,rfl,h1,h2,_⟩:=r
   cases rv' with
   | cons r1 r2 =>
    rw[List.all_cons,Bool.and_eq_true]at hs
    rcases List.mem_cons.mp hw with rfl | hw
    ·exact⟨_,nL hK I hu h1 rx r1 rv hs.1 hx,fun z=>by simp[inL,z]⟩
    ·obtain⟨b,h3,h4⟩:=ih ws f2 _ h2 r2 hs.2 w hw
     exact⟨b,h3,fun z=>by have:=h4 z;unfold inL at this ⊢;simp[this]⟩
 have some_:∀(ys:List PV) (us:List V) (fy:List Addr) (us':List Value),RelL T F B L H ys us fy→aH us us'→ys.all shp=true→inL x ys=true→∃w∈us',SeqAt.EqAt A s w v' true:=by
  intro ys
  induction ys with
  | nil=>intro us fy us' r rv' _ h;simp[inL]at h
  | cons y ys ih =>
   intro us fy us' r rv' hs h
   unfold RelL at r
   obtain⟨u,ws,f1,f2,rfl,h1,h2,_⟩:=r
   cases rv' with
   | cons r1 r2 =>
    rw[List.all_cons,Bool.and_eq_true]at hs
    by_cases hy:PyData.eqv y.data x.data=true
    ·refine⟨_,List.mem_cons_self,?_⟩
     have:=nL hK I hu h1 rx r1 rv hs.1 hx
     rwa [hy]at this
    ·have h':inL x ys=true:=by
      unfold inL at h ⊢
      rw[List.any_cons]at h
      simpa[hy]using h
     obtain⟨w,hw,q⟩:=ih ws f2 _ h2 r2 hs.2 h'
     exact⟨w,List.mem_cons_of_mem _ hw,q⟩
 by_cases hin:inL x ys=true
 ·obtain⟨w0,hw0,q0⟩:=some_ ys us fy us' r rv' hs hin
  refine⟨fun w=>@decide (SeqAt.EqAt A s w v' true) (Classical.propDecidable _),fun w hw=>?_,?_⟩
  ·obtain⟨b,h1,_⟩:=one ys us fy us' r rv' hs w hw
   by_cases ht:SeqAt.EqAt A s w v' true
   ·simp only[ht,decide_true]
   ·simp only[ht,decide_false]
    cases b with
    | true=>exact absurd h1 ht
    | false=>exact h1
  ·rw[hin,List.any_eq_true]
   exact⟨w0,hw0,by simp[q0]⟩
 ·have hin':inL x ys=false:=by simpa using hin
  refine⟨fun _=>false,fun w hw=>?_,by rw[hin'];simp⟩
  obtain⟨b,h1,h2⟩:=one ys us fy us' r rv' hs w hw
  cases b with
  | true=>exact absurd (h2 rfl) hin
  | false=>exact h1
def y6(X:Cx)(T:Tb)(neg:Bool):R2:=fun v u H Q=>∃x ys a vs F B L fx fy,u=.ref a∧(SqL T.K H a vs∨SqT T.K H a vs)∧Rel T F B L H x v fx∧RelL T F B L H ys vs fy∧shp x=true∧ys.all shp=true∧Q (.bl (if neg then !inL x ys else inL x ys)) H
theorem tW(hK:X.K=T.K)(hu:X.A.units+66 < cLine):OpR X (compareOp .In) (y6 X T false):=by
 intro pins s σ H v u v' u' Q I rv ru h
 obtain⟨x,ys,a,vs,F,B,L,fx,fy,rfl,hs,rx,ry,hx,hy,q⟩:=h
 cases ru
 have hu1:X.A.in1.units+64 < cLine:=by show X.A.units+1+64 < cLine;omega
 rcases hs with hs | hs
 ·obtain⟨its,r,pl,_⟩:=I.list (by rw[hK];exact hs)
  obtain⟨e,h1,h2⟩:=iw hK I hu1 rx rv hx ry r hy
  refine SeqAt.in_listAt e pl.isList (fun w hw=>h1 w (by simpa using hw)) ⟨.bl _,H,I,rfl,?_⟩
  rw[show its.toArray.any e=its.any e by simp,h2]
  exact q
 ·obtain⟨its,r,pl,_⟩:=I.tuple (by rw[hK];exact hs)
  obtain⟨e,h1,h2⟩:=iw hK I hu1 rx rv hx ry r hy
  refine SeqAt.in_tupleAt e pl (fun w hw=>h1 w (by simpa using hw)) ⟨.bl _,H,I,rfl,?_⟩
  rw[show its.toArray.any e=its.any e by simp,h2]
  exact q
theorem rh(hK:X.K=T.K)(hu:X.A.units+66 < cLine):OpR X (compareOp .NotIn) (y6 X T true):=by
 intro pins s σ H v u v' u' Q I rv ru h
 obtain⟨x,ys,a,vs,F,B,L,fx,fy,rfl,hs,rx,ry,hx,hy,q⟩:=h
 cases ru
 have hu1:X.A.in1.units+64 < cLine:=by show X.A.units+1+64 < cLine;omega
 rcases hs with hs | hs
 ·obtain⟨its,r,pl,_⟩:=I.list (by rw[hK];exact hs)
  obtain⟨e,h1,h2⟩:=iw hK I hu1 rx rv hx ry r hy
  refine SeqAt.notIn_listAt e pl.isList (fun w hw=>h1 w (by simpa using hw)) ⟨.bl _,H,I,rfl,?_⟩
  rw[show its.toArray.any e=its.any e by simp,h2]
  exact q
 ·obtain⟨its,r,pl,_⟩:=I.tuple (by rw[hK];exact hs)
  obtain⟨e,h1,h2⟩:=iw hK I hu1 rx rv hx ry r hy
  refine SeqAt.notIn_tupleAt e pl (fun w hw=>h1 w (by simpa using hw)) ⟨.bl _,H,I,rfl,?_⟩
  rw[show its.toArray.any e=its.any e by simp,h2]
  exact q
theorem oJ{neg:Bool}:gB T W (fun x y=>match aQ y with
 | some ys=>if shp x&&ys.all shp then .ok (.bl (if neg then !inL x ys else inL x ys))else .stuck
 | none=>.stuck) (y6 X T neg):=by
 intro B F L σ H Q F' H' x y v u fx fy gr rx ry nf nd new q
 dsimp only at q
 cases e:aQ y with
 | none=>rw[e]at q;exact q.elim
 | some ys =>
  rw[e]at q
  dsimp only at q
  by_cases hc:(shp x&&ys.all shp)=true
  ·rw[if_pos hc]at q
   rw[Bool.and_eq_true]at hc
   obtain⟨a,ws,f',rfl,hs,hr,_⟩:=ry.seq e
   exact⟨x,ys,a,ws,F',B,L,fx,f',rfl,hs,rx,hr,hc.1,hc.2,q.scal gr ib⟩
  ·rw[if_neg hc]at q;exact q.elim
theorem B2(hK:X.K=T.K)(hu:X.A.units+66 < cLine)(ha:SE X T W a ma)(hb:SE X T W b mb)(hk:behindInMarks .In b=false:=by with_unfolding_all rfl):SE X T W (.Compare a [.In] [b] pos) (mOp pIn ma mb):=jv (tW hK hu) (oJ (neg:=false)) ha hb hk
theorem mG(hK:X.K=T.K)(hu:X.A.units+66 < cLine)(ha:SE X T W a ma)(hb:SE X T W b mb)(hk:behindInMarks .In b=false:=by with_unfolding_all rfl):ST X T W (.Compare a [.In] [b] pos) (ax (mOp pIn ma mb)):=eC (tW hK hu) (oJ (neg:=false)) ha hb hk
theorem mF(hK:X.K=T.K)(hu:X.A.units+66 < cLine)(ha:SE X T W a ma)(hb:SE X T W b mb)(hk:behindInMarks .NotIn b=false:=by with_unfolding_all rfl):ST X T W (.Compare a [.NotIn] [b] pos) (ax (mOp gQ ma mb)):=eC (rh hK hu) (oJ (neg:=true)) ha hb hk
def PV.isNon:PV→Bool
 | .non=>true
 | _=>false
def j0:PV→PV→Res PV
 | x,.non=>.ok (.bl x.isNon)
 | _,_=>.stuck
def gE:PV→PV→Res PV
 | x,.non=>.ok (.bl (!x.isNon))
 | _,_=>.stuck
theorem Rel.isNon{x:PV}{v:V}{f:List Addr}(r:Rel T F B L H x v f):decide (v=.non)=x.isNon:=by
 cases x with
 | non=>unfold Rel at r;rw[r.1];rfl
 | bl b=>unfold Rel at r;rw[r.1];rfl
 | int i=>unfold Rel at r;rw[r.1];rfl
 | str i=>unfold Rel at r;rw[r.1];rfl
 | lst f xs=>unfold Rel at r;obtain⟨a,_,_,rfl,_⟩:=r;rfl
 | tup xs=>unfold Rel at r;obtain⟨a,_,rfl,_⟩:=r;rfl
 | obj f c ks xs=>unfold Rel at r;obtain⟨a,_,_,_,rfl,_⟩:=r;rfl
 | exc c=>unfold Rel at r;obtain⟨a,rfl,_⟩:=r;rfl
theorem pS:gB T W j0 (fun x y H Q=>y=.non∧Q (.bl (decide (x=.non))) H):=by
 intro B F L σ H Q F' H' x y v u fx fy gr rx ry nf nd new q
 cases y with
 | non=>unfold Rel at ry;refine⟨ry.1,?_⟩;rw[rx.isNon];exact GE.scal (pv:=.bl x.isNon) (by simpa[j0]using q) gr ib
 | _=>simp only[j0]at q;exact q.elim
theorem ud:gB T W gE (fun x y H Q=>y=.non∧Q (.bl (!decide (x=.non))) H):=by
 intro B F L σ H Q F' H' x y v u fx fy gr rx ry nf nd new q
 cases y with
 | non=>unfold Rel at ry;refine⟨ry.1,?_⟩;rw[rx.isNon];exact GE.scal (pv:=.bl (!x.isNon)) (by simpa[gE]using q) gr ib
 | _=>simp only[gE]at q;exact q.elim
theorem yX(ha:SE X T W a ma)(hb:SE X T W b mb):SE X T W (.Compare a [.Is] [b] pos) (mOp j0 ma mb):=jv tV pS ha hb (dE _)
theorem yL(ha:SE X T W a ma)(hb:SE X T W b mb):ST X T W (.Compare a [.Is] [b] pos) (ax (mOp j0 ma mb)):=eC tV pS ha hb (dE _)
theorem pp(ha:SE X T W a ma)(hb:SE X T W b mb):ST X T W (.Compare a [.IsNot] [b] pos) (ax (mOp gE ma mb)):=eC w8 ud ha hb (dE _)
end
end PR
namespace PR
open PySem PySem.Spec L2
abbrev TgM:=PV→En→Option En
abbrev jX:=List PV→En→Option En
def tgN(i:Nat):TgM:=fun v env=>if aL i env then some (env.set i (some v))else none
def eO:jX:=fun vs env=>match vs with
 | []=>some env
 | _=>none
def bv(t:TgM)(u:jX):jX:=fun vs env=>match vs with
 | v::r=>match t v env with
  | some e=>u r e
  | none=>none
 | []=>none
def tgT(n:Nat)(u:jX):TgM:=fun v env=>match v with
 | .tup xs=>if xs.length=n then u xs env else none
 | _=>none
structure si(Z:Zn)(F:Addr→Prop)(fp:Nat→List Addr)(f:List Addr):Prop where
 nd:f.Nodup
 nf:∀a∈f,¬F a
 new:∀a∈f,Z.H0 a=none∨Z.fp0 a
 dj:∀a∈f,∀j,a∉fp j
theorem si.nil{Z:Zn}{F:Addr→Prop}{fp:Nat→List Addr}:si Z F fp []:=⟨List.nodup_nil,fun _ z=>(nomatch z),fun _ z=>(nomatch z),fun _ z=>(nomatch z)⟩
def GG(T:Tb)(Z:Zn)(F:Addr→Prop)(H:Hp)(Q:St→Hp→Prop):Option En→Prop
 | some e=>∀σ fp,ar T Z F H σ e fp→Q σ H
 | none=>False
def tG(T:Tb)(m:TgM):TG:=fun v σ H Q=>∃Z F env fp pv f,ar T Z F H σ env fp∧Rel T F Z.B NoL H pv v f∧si Z F fp f∧GG T Z F H Q (m pv env)
def tGs(T:Tb)(m:jX):TGs:=fun vs σ H Q=>∃Z F env fp pvs f,ar T Z F H σ env fp∧RelL T F Z.B NoL H pvs vs f∧si Z F fp f∧GG T Z F H Q (m pvs env)
abbrev SG(X:Cx)(T:Tb)(tg:Expr)(m:TgM):Prop:=PG X tg (tG T m)
abbrev SGs(X:Cx)(T:Tb)(ts:List Expr)(m:jX):Prop:=PGs X ts (tGs T m)
section
variable{X:Cx}{T:Tb}{W:Nat→St→Hp→Prop}{Z:Zn}{F F1 B L:Addr→Prop}{H H1:Hp}{σ:St}{env:En}{fp:Nat→List Addr}{D:Ends}
theorem PG.wk{tg:Expr}{t t':TG}(h:PG X tg t)(w:∀v σ H Q,t' v σ H Q→t v σ H Q):PG X tg t':=fun pins s σ H v u Q I r q=>h pins s σ H v u Q I r (w v σ H Q q)
theorem PGs.wk{ts:List Expr}{t t':TGs}(h:PGs X ts t)(w:∀v σ H Q,t' v σ H Q→t v σ H Q):PGs X ts t':=fun pins s σ H v u Q I r q=>h pins s σ H v u Q I r (w v σ H Q q)
theorem wf{i:Nat}{x:Str}{pos:Pos}(hN:X.N.Nodup)(hi:X.N[i]?=some x)(hx:Loc X.env.scope x)(hf:X.fn x=true∨X.env.scope.names.lookup x=some .local:=by first | exact .inl rfl | exact .inr rfl | assumption):SG X T (.Name x pos) (tgN i) :=
 PG.wk (lz (pos:=pos) hN hi hx hf) fun v σ H Q ⟨Z,F,env,fp,pv,f,S,r,fr,q⟩=>by
  unfold tgN at q
  by_cases ho:aL i env=true
  ·rw[if_pos ho]at q
   exact q _ _ (S.put r fr.nd fr.nf fr.new (fun a ha j _=>fr.dj a ha j) ho)
  ·rw[if_neg ho]at q;exact q.elim
theorem hG:SGs X T [] eO:=PGs.wk wU fun vs σ H Q ⟨Z,F,env,fp,pvs,f,S,r,fr,q⟩=>by
 cases pvs with
 | nil=>unfold RelL at r;exact⟨r.1,q σ fp S⟩
 | cons x xs=>exact q.elim
theorem cw{i:Nat}{x:Str}{pos:Pos}{es:List Expr}{u:jX}(hN:X.N.Nodup)(hi:X.N[i]?=some x)(hx:Loc X.env.scope x)(h2:SGs X T es u)
  (hs:(assignEach (.Name x pos::es) X.env).map (·.2)=assign (.Name x pos) X.env::(assignEach es X.env).map (·.2):=by rfl)
  (hf:X.fn x=true∨X.env.scope.names.lookup x=some .local:=by first | exact .inl rfl | exact .inr rfl | assumption):SGs X T (.Name x pos::es) (bv (tgN i) u) :=
 PGs.wk (tD (lz (pos:=pos) hN hi hx hf) h2 hs) fun vs σ H Q ⟨Z,F,env,fp,pvs,f,S,r,fr,q⟩=>by
  cases pvs with
  | nil=>exact q.elim
  | cons y ys =>
   unfold RelL at r
   obtain⟨v,ws,f1,f2,rfl,r1,r2,rfl⟩:=r
   obtain⟨n1,n2,n3⟩:=List.nodup_append.mp fr.nd
   by_cases ho:aL i env=true
   case neg=>simp only[bv,tgN,if_neg ho]at q;exact q.elim
   simp only[bv,tgN,if_pos ho]at q
   refine⟨v,ws,rfl,Z,F,env.set i (some y),br fp i f1,ys,f2,S.put r1 n1 (fun a ha=>fr.nf a (List.mem_append_left _ ha)) (fun a ha=>fr.new a (List.mem_append_left _ ha)) (fun a ha j _=>fr.dj a (List.mem_append_left _ ha) j) ho,r2,⟨n2,fun a ha=>fr.nf a (List.mem_append_right _ ha),fun a ha=>fr.new a (List.mem_append_right _ ha),fun a ha j=>?_⟩,q⟩
   unfold br
   split
   ·exact fun z=>n3 a z a ha rfl
   ·exact fr.dj a (List.mem_append_right _ ha) j
theorem jp{es:List Expr}{k n:Nat}{u:jX}{pos:Pos}(hK:X.K=T.K)(hc:X.calm=true)(h:SGs X T es u)(hn:(assignEach es X.env).length=n:=by rfl)(hst:(assignEach es X.env).findIdx? (·.1)=none:=by rfl):SG X T (.Tuple es k pos) (tgT n u) :=
 PG.wk (zf (pos:=pos) (k:=k) hc h hn hst) fun v σ H Q ⟨Z,F,env,fp,pv,f,S,r,fr,q⟩=>by
  cases pv with
  | tup xs =>
   unfold Rel at r
   obtain⟨a,vs,rfl,hl,hr⟩:=r
   simp only[tgT]at q
   by_cases hx:xs.length=n
   ·rw[if_pos hx]at q
    exact⟨a,vs,rfl,by rw[hK];exact hl,by rw[← hr.length];exact hx,Z,F,env,fp,xs,f,S,hr,fr,q⟩
   ·rw[if_neg hx]at q;exact q.elim
  | _=>exact q.elim
abbrev MI:=En→Res (List PV)
def ItR(T:Tb)(F B:Addr→Prop)(Ow:Addr→Prop)(H1:Hp)(J:It)(xs:List PV):Prop :=
 ∀H2,(∀a o,H1 a=some o→¬Ow a→H2 a=some o)→(∀(i:Nat) x,xs[i]?=some x→J.go i H2∧∀v H3,J.yld i H2 v H3→Ext H2 H3∧Rel T F B NoL H3 x v [])∧J.stop xs.length H2
theorem ItR.of0{T:Tb}{F B:Addr→Prop}{Ow:Addr→Prop}{H1:Hp}{J:It}{xs:List PV}(h:∀H2,(∀a o,H1 a=some o→¬Ow a→H2 a=some o)→(∀(i:Nat) x,xs[i]?=some x→J.go i H2∧∀v H3,J.yld i H2 v H3→H3=H2∧Rel T F B NoL H2 x v [])∧J.stop xs.length H2):ItR T F B Ow H1 J xs:=fun H2 hk=>by
 obtain⟨a,b⟩:=h H2 hk
 refine⟨fun i x e=>⟨(a i x e).1,fun v H3 hy=>?_⟩,b⟩
 obtain⟨rfl,r⟩:=(a i x e).2 v H3 hy
 exact⟨Ext.refl,r⟩
def GI(T:Tb)(W:Nat→St→Hp→Prop)(B F Ow:Addr→Prop)(σ:St)(H:Hp)(R:It→Hp→Prop):Res (List PV)→Prop
 | .ok xs=>∀J H1 F1,Gr F H F1 H1→ItR T F1 B Ow H1 J xs→R J H1
 | .exc c=>∀H',Ext H H'→W c σ H'
 | .stuck=>False
def tI(T:Tb)(W:Nat→St→Hp→Prop)(m:MI):TI:=fun σ H R=>∃Z F env fp,ar T Z F H σ env fp∧GI T W Z.B F (Own fp) σ H R (m env)
abbrev SI(X:Cx)(T:Tb)(W:Nat→St→Hp→Prop)(tg iter:Expr)(m:MI):Prop:=PI X tg iter (tI T W m)
theorem tB{tg l:Expr}{tl:TE}(hl:PE X l tl):PI X tg l (fun σ H R=>tl σ H fun x H1=>∃a,x=.ref a∧((∃xs,SqL X.K H1 a xs∧R (Itl X.K a) H1)∨ ∃xs,SqT X.K H1 a xs∧R (Itt X.K a) H1)):=by
 intro pins s σ H R I h
 refine thn (hl pins s σ H _ I h) fun v s1 ⟨x,H1,I1,r1,q1⟩=>?_
 obtain⟨a,e,q⟩:=q1
 subst e
 cases r1
 rcases q with⟨xs,hq,q⟩ |⟨xs,hq,q⟩
 ·obtain⟨its,rv,p,hz⟩:=I1.list hq
  refine wpAny_pyIter_list p.isList ?_
  refine⟨s1.heap.objs.size,[s1.heap.objs.size],_,_,H1,rfl,I1.kept (t':=s1.toks) fun b o e=>Heap.get?_push_of_some _ e,qA a _,⟨_,Heap.get?_push_size _ rfl,rfl,rfl⟩,fun b hb=>?_,q⟩
  have e:b=s1.heap.objs.size:=by simpa using hb
  subst e
  exact I1.fpOk (Nat.le_refl _) (I1.hok.fresh (Nat.le_refl _))
 ·obtain⟨its,rv,p,hz⟩:=I1.tuple hq
  refine wpAny_pyIter_tuple (show s1.heap.IsTuple a its.toArray from p) ?_
  refine⟨s1.heap.objs.size,[s1.heap.objs.size],_,_,H1,rfl,I1.kept (t':=s1.toks) fun b o e=>Heap.get?_push_of_some _ e,oe a _,⟨_,Heap.get?_push_size _ rfl,rfl,rfl⟩,fun b hb=>?_,q⟩
  have e:b=s1.heap.objs.size:=by simpa using hb
  subst e
  exact I1.fpOk (Nat.le_refl _) (I1.hok.fresh (Nat.le_refl _))
def dN(xs:List PV):Bool:=!hasL Fl.isOwn xs&&!hasL Fl.isLnt xs
def dW(m:ME):MI:=fun env=>(m env).bind fun x=>match x with
 | .lst f xs=>if !f.isLnt&&dN xs then .ok xs else .stuck
 | .tup xs=>if dN xs then .ok xs else .stuck
 | _=>.stuck
theorem fA{H2:Hp}{Ow:Addr→Prop}(hF:∀a,F1 a→¬Ow a)(hB:∀a,B a→¬Ow a)(hO:∀a o,Ow a→H1 a=some o→Chg o)(hk:∀a o,H1 a=some o→¬Ow a→H2 a=some o){xs:List PV}{vs:List V}(r:RelL T F1 B NoL H1 xs vs []){i:Nat}{x:PV}{v:V}(e:xs[i]?=some x)(ev:vs[i]?=some v):Rel T F1 B NoL H2 x v []:=by
 obtain⟨w,f,e1,r1,sl⟩:=r.get e
 rw[ev]at e1
 cases e1
 obtain rfl:=List.sublist_nil.mp sl
 refine Rel.tr (fun _ h=>h) (fun _ h=>h) (fun _ h=>h) (fun a o q h=>hk a o q ?_) (fun _ z=>(nomatch z)) r1
 rcases h with h | h | h | h
 ·exact hF a h
 ·exact hB a h
 ·exact h.elim
 ·intro z
  have:=hO a o z q
  cases o with
  | lst _=>exact h
  | ins _ _ _=>exact h
  | _=>exact this
theorem ar.bow(S:ar T Z F H σ env fp):∀a,Z.B a→¬Own fp a:=fun a h ⟨i,hi⟩=>by
 obtain⟨⟨o,h1⟩,h2⟩:=S.hp.bo a h
 rcases S.new i a hi with z | z
 ·rw[h1]at z;cases z
 ·exact h2 z
theorem ar.fow(S:ar T Z F H σ env fp):∀a,F a→¬Own fp a:=fun a h ⟨i,hi⟩=>(S.dis i a hi).1 h
theorem ar.oow(S:ar T Z F H σ env fp):∀a o,Own fp a→H a=some o→Chg o:=fun a o ⟨i,hi⟩ e=>by
 obtain⟨o',h1,h2⟩:=S.ch i a hi
 rw[e]at h1;cases h1;exact h2
theorem dy{xs:List PV}{vs:List V}{f:List Addr}(h:dN xs=true)(r:RelL T F B L H xs vs f):f=[]∧RelL T F B NoL H xs vs f:=by
 simp only[dN,Bool.and_eq_true,Bool.not_eq_true']at h
 exact⟨RelL.noOwn h.1 r,RelL.noL h.2 r⟩
theorem fS{tg e:Expr}{m:ME}(hK:X.K=T.K)(he:SE X T W e m):SI X T W tg e (dW m):=fun pins s σ H R I h=>tB he pins s σ H R I (by
 obtain⟨Z,F,env,fp,S,q⟩:=h
 unfold dW at q
 refine tE.bind S (fun c e=>by rw[e]at q;exact q) (fun e=>by rw[e]at q;exact q) fun x v H1 F1 f1 e1 g1 r1 n1 d1 w1=>?_
 rw[e1]at q
 simp only[Res.ok_bind]at q
 have S1:=S.grow g1
 rw[hK]
 cases x with
 | lst f xs =>
  dsimp only at q
  by_cases hc:(!f.isLnt&&dN xs)=true
  ·rw[if_pos hc]at q
   rw[Bool.and_eq_true]at hc
   unfold Rel at r1
   obtain⟨a,vs,fp',rfl,hl,hr,hf⟩:=r1
   obtain⟨rfl,hr'⟩:=dy hc.2 hr
   refine⟨a,rfl,.inl ⟨vs,hl.sq,q _ H1 F1 g1 (ItR.of0 fun H2 hk=>?_)⟩⟩
   have na:f≠.mod→∀o,H1 a=some o→H2 a=some o:=fun hn o ho=>by
    refine hk a o ho ?_
    cases f with
    | own =>
     rintro⟨i,hi⟩
     obtain⟨_,o',ho'⟩:=S.dis i a hi
     obtain rfl:f1=[a]:=hf
     rw[w1 a List.mem_cons_self]at ho';cases ho'
    | frz=>exact S1.fow a hl.1
    | bor=>exact S1.bow a hl.1
    | lnt=>exact absurd hc.1 (by decide)
    | mod=>exact absurd rfl hn
   have hl2:SqL T.K H2 a vs:=by
    by_cases hn:f=.mod
    ·subst hn;exact .inr hl
    ·exact .inl (Rd.tr (na hn) (hl.rd hn))
   refine⟨fun i x ex=>?_,⟨vs,hl2,by rw[hr.length];exact Nat.le_refl _⟩⟩
   obtain⟨v,_,ev,_,_⟩:=hr.get ex
   refine⟨⟨vs,v,hl2,ev⟩,fun w H3 hy=>⟨hy.1,?_⟩⟩
   have e3:=hy.2 vs hl2
   exact fA S1.fow S1.bow S1.oow hk hr' ex e3
  ·rw[if_neg hc]at q;exact q.elim
 | tup xs =>
  dsimp only at q
  by_cases hc:dN xs=true
  ·rw[if_pos hc]at q
   unfold Rel at r1
   obtain⟨a,vs,rfl,hl,hr⟩:=r1
   obtain⟨rfl,hr'⟩:=dy hc hr
   refine⟨a,rfl,.inr ⟨vs,hl,q _ H1 F1 g1 (ItR.of0 fun H2 hk=>?_)⟩⟩
   have hl2:SqT T.K H2 a vs:=SqT.tr (fun o ho hfx=>hk a o ho fun z=>by
    have:=S1.oow a o z ho
    cases o with
    | lst _=>exact hfx
    | ins _ _ _=>exact hfx
    | _=>exact this) hl
   refine⟨fun i x ex=>?_,⟨vs,hl2,by rw[hr.length];exact Nat.le_refl _⟩⟩
   obtain⟨v,_,ev,_,_⟩:=hr.get ex
   refine⟨⟨vs,v,hl2,ev⟩,fun w H3 hy=>⟨hy.1,?_⟩⟩
   exact fA S1.fow S1.bow S1.oow hk hr' ex (hy.2 vs hl2)
  ·rw[if_neg hc]at q;exact q.elim
 | _=>exact q.elim)
def bU(lo:Int)(n:Nat):List PV:=(List.range n).map fun k=>.int (lo+(k:Nat))
def inR(i:Int):Bool:=decide (-(2 ^ 62)≤ i∧i < 2 ^ 62)
def bH(ms:MA):MI:=fun env=>(ms env).bind fun xs=>match xs with
 | [.int n]=>if inR n then .ok (bU 0 n.toNat)else .stuck
 | _=>.stuck
def kE(ms:MA):MI:=fun env=>(ms env).bind fun xs=>match xs with
 | [.int i,.int j]=>if inR i&&inR j then .ok (bU i (j - i).toNat)else .stuck
 | _=>.stuck
theorem p_{lo:Int}{n:Nat}{Ow:Addr→Prop}:ItR T F1 B Ow H1 (Itr lo n) (bU lo n):=by
 apply ItR.of0
 intro H2 _
 refine⟨fun i x ex=>?_,by simp[bU,Itr]⟩
 have hi:i < n:=by
  have:=(List.getElem?_eq_some_iff.mp ex).1
  simpa[bU]using this
 refine⟨hi,fun v H3 hy=>⟨hy.1,?_⟩⟩
 obtain⟨_,rfl⟩:=hy
 have:x=.int (lo+(i:Nat)):=by
  simp[bU,hi]at ex
  exact ex.symm
 subst this
 exact eE
theorem b3{tg a:Expr}{ms:MA}{p pos:Pos}(hg:Gl X "range")(hm:X.mg "range" = none)(ha:SA X T W [a] ms)(hs:starEach [a] X.env=[(false,eval a X.env)]:=by rfl):SI X T W tg (.Call (.Name "range" p) [a] [] pos) (bH ms):=fun pins s σ H R I h=>ku hg hm ha hs pins s σ H R I (by
 obtain⟨Z,F,env,fp,S,q⟩:=h
 unfold bH at q
 refine tA.bind S (fun c e=>by rw[e]at q;exact q) (fun e=>by rw[e]at q;exact q) fun xs vs H1 F1 f1 e1 g1 r1 n1 d1 w1=>?_
 rw[e1]at q
 simp only[Res.ok_bind]at q
 split at q
 ·rename_i n
  split at q
  ·rename_i hc
   obtain⟨v,rfl,r2⟩:=r1.one
   unfold Rel at r2
   obtain⟨rfl,_⟩:=r2
   have hc':-(2 ^ 62)≤ n∧n < 2 ^ 62:=by simpa[inR]using hc
   exact⟨n,rfl,hc'.1,hc'.2,q _ H1 F1 g1 p_⟩
  ·exact q.elim
 ·exact q.elim)
theorem qG{tg a b:Expr}{ms:MA}{p pos:Pos}(hg:Gl X "range")(hm:X.mg "range" = none)(ha:SA X T W [a,b] ms)(hs:starEach [a,b] X.env=[(false,eval a X.env),(false,eval b X.env)]:=by rfl)(hs2:starEach [b] X.env=[(false,eval b X.env)]:=by rfl) :
  SI X T W tg (.Call (.Name "range" p) [a,b] [] pos) (kE ms):=fun pins s σ H R I h=>qX hg hm ha hs hs2 pins s σ H R I (by
 obtain⟨Z,F,env,fp,S,q⟩:=h
 unfold kE at q
 refine tA.bind S (fun c e=>by rw[e]at q;exact q) (fun e=>by rw[e]at q;exact q) fun xs vs H1 F1 f1 e1 g1 r1 n1 d1 w1=>?_
 rw[e1]at q
 simp only[Res.ok_bind]at q
 split at q
 ·rename_i i j
  split at q
  ·rename_i hc
   unfold RelL at r1
   obtain⟨v,ws,f1,f2,rfl,h1,h2,_⟩:=r1
   obtain⟨v2,rfl,h3⟩:=h2.one
   unfold Rel at h1 h3
   obtain⟨rfl,_⟩:=h1
   obtain⟨rfl,_⟩:=h3
   have hc':(-(2 ^ 62)≤ i∧i < 2 ^ 62)∧(-(2 ^ 62)≤ j∧j < 2 ^ 62):=by simpa[inR]using hc
   exact⟨i,j,rfl,⟨hc'.1.1,hc'.1.2,hc'.2.1,hc'.2.2⟩,q _ H1 F1 g1 p_⟩
  ·exact q.elim
 ·exact q.elim)
def cj(it:MI)(tg:TgM)(body:MS):MS:=fun env=>match it env with
 | .ok xs=>j5 (fun x e=>match tg x e with
  | some e'=>body e'
  | none=>.stuck) xs env
 | .exc c=>.exc c env
 | .stuck=>.stuck
theorem bP{tg iter:Expr}{body:List Stmt}{mi:MI}{g:TgM}{mb:MS}{pos:Pos}(hp:PassesOwn (model X.prog X.w) X.A X.env X.xe)(hc:X.calm=true)(hi:SI X T W tg iter mi)(hg:SG X T tg g)(hb:SSs X T W body mb)
  (hs:∀x,foldedSetIterable iter X.env x=pure x:=by intro _;rfl):SS X T W (.For tg iter body [] pos) (cj mi g mb):=PS.wk (s_ (pos:=pos) hp hc hi hg hb hs) fun D σ H ⟨Z,F,env,fp,S,q⟩=>by
 unfold cj at q
 refine⟨Z,F,env,fp,S,?_⟩
 cases em:mi env with
 | exc c=>rw[em]at q;exact fun H' x=>q F H' σ fp (S.grow (Gr.same S.hp.ft x))
 | stuck=>rw[em]at q;exact q
 | ok xs =>
  rw[em]at q
  dsimp only at q
  intro J H1 F1 g1 it
  have S1:=S.grow g1
  generalize hbd:(fun (x:PV) (e:En)=>match g x e with
   | some e'=>mb e'
   | none=>Out.stuck)=bd at q
  refine⟨fun i m σ2 H2=>m=xs.length - i∧i≤xs.length∧∃F2 env2 fp2,ar T (Z.re F1 H1 fp) F2 H2 σ2 env2 fp2∧GS T W Z D (j5 bd (xs.drop i) env2),⟨xs.length,by simp,Nat.zero_le _,F1,env,fp,S1.enter,q⟩,?_⟩
  rintro i m σ2 H2 ⟨rfl,hi,F2,env2,fp2,S2,q2⟩
  obtain⟨go,stop⟩:=it H2 S2.hp.keep
  by_cases hlt:i < xs.length
  ·have hx:xs[i]?=some xs[i]:=by simp[hlt]
   obtain⟨g1',yl⟩:=go i _ hx
   refine .inr ⟨g1',fun σ3 H3=>∃F3 env3 fp3,ar T (Z.re F1 H1 fp) F3 H3 σ3 env3 fp3∧GS T W Z D (j5 bd (xs.drop (i+1)) env3),fun σ3 H3 h3=>⟨xs.length - (i+1),by omega,rfl,hlt,h3⟩,fun v H3 hy=>?_⟩
   obtain⟨ex3,r⟩:=yl v H3 hy
   rw[List.drop_eq_getElem_cons hlt]at q2
   unfold j5 at q2
   rw[← hbd]at q2
   dsimp only at q2
   refine⟨Z.re F1 H1 fp,F2,env2,fp2,xs[i],[],S2.grow (Gr.same S2.hp.ft ex3),r.ext Ext.refl S2.hp.f0,si.nil,?_⟩
   cases eg:g xs[i] env2 with
   | none=>rw[eg]at q2;exact q2
   | some e' =>
    rw[eg]at q2
    dsimp only at q2
    intro σ' fp' S'
    refine⟨Z.re F1 H1 fp,F2,e',fp',S',?_⟩
    cases eb:mb e' with
    | next e2=>rw[eb]at q2;exact fun F3 H3 σ3 fp3 S3=>⟨F3,e2,fp3,S3,by rw[← hbd];exact q2⟩
    | cont e2=>rw[eb]at q2;exact fun F3 H3 σ3 fp3 S3=>⟨F3,e2,fp3,S3,by rw[← hbd];exact q2⟩
    | brk e2=>rw[eb]at q2;exact fun F3 H3 σ3 fp3 S3=>q2 F3 H3 σ3 fp3 (S1.leave S3)
    | ret v=>rw[eb]at q2;exact fun F3 H3 v f hp r nd nf new=>q2 F3 H3 v f (d5.leave S1 hp) r nd nf fun a ha=>S1.newL (new a ha)
    | exc c e2=>rw[eb]at q2;exact fun F3 H3 σ3 fp3 S3=>q2 F3 H3 σ3 fp3 (S1.leave S3)
    | stuck=>rw[eb]at q2;exact q2
  ·have e:i=xs.length:=by omega
   subst e
   rw[List.drop_length]at q2
   exact .inl ⟨stop,q2 F2 H2 σ2 fp2 (S1.leave S2)⟩
end
end PR
namespace L2
open PySem PySem.Spec
def de(cells:List (Str×Addr)):List (Str×NameKind)→List (Str×Addr)→List (Str×Addr)
 | [],acc=>acc
 | (n,k)::r,acc=>if (k == .free)=true then (match cells.lookup n with
  | some c=>de cells r ((n,c)::acc)
  | none=>de cells r acc)else de cells r acc
theorem gX{env:Env}:∀(names:List (Str×NameKind)) (acc:List (Str×Addr)),(∀y∈names,y.2=.free→∃c,env.cells.lookup y.1=some c)→
  (forIn names acc fun (x:Str × NameKind) (cs:List (Str × Addr))=>match x with
   |(name,kind)=>if(kind==.free)=true then do let c ← cellOf env name;pure (ForInStep.yield ((name,c)::cs))else pure (ForInStep.yield cs):Sem (List (Str×Addr)))=pure (de env.cells names acc)
 | [],acc,_=>by simp[de]
 |(n,k)::r,acc,h=>by
  rw[List.forIn_cons]
  by_cases hk:(k==NameKind.free)=true
  ·obtain⟨c,hc⟩:=h (n,k) List.mem_cons_self (by simpa using hk)
   dsimp only at hc
   simp only[hk,if_true,cellOf,hc,pure_bind]
   rw[de,if_pos hk,hc]
   exact gX r _ fun y hy=>h y (List.mem_cons_of_mem _ hy)
  ·simp only[hk,Bool.false_eq_true,if_false,pure_bind]
   rw[de,if_neg hk]
   exact gX r _ fun y hy=>h y (List.mem_cons_of_mem _ hy)
theorem j7{scope:Scope}{env:Env}(h:∀y∈scope.names,y.2=.free→∃c,env.cells.lookup y.1=some c):closureFor scope env=pure (de env.cells scope.names []):=by
 unfold closureFor
 simp only[]
 rw[← gX scope.names [] h]
 simp
theorem eX{cells:List (Str×Addr)}:∀{names:List (Str×NameKind)}{acc:List (Str×Addr)},(∀p∈acc,cells.lookup p.1=some p.2)→∀p∈de cells names acc,cells.lookup p.1=some p.2
 | [],_,h=>h
 |(n,k)::r,acc,h=>by
  unfold de
  split
  ·split
   ·rename_i c hc
    exact eX fun p hp=>by
     rcases List.mem_cons.mp hp with rfl | hp
     ·exact hc
     ·exact h p hp
   ·exact eX h
  ·exact eX h
theorem iC{cells:List (Str×Addr)}:∀{names:List (Str×NameKind)}{acc:List (Str×Addr)}{p:Str×Addr},p∈acc→p∈de cells names acc
 | [],_,_,h=>h
 |(n,k)::r,acc,p,h=>by
  unfold de
  split
  ·split
   ·exact iC (List.mem_cons_of_mem _ h)
   ·exact iC h
  ·exact iC h
theorem gn{cells:List (Str×Addr)}{x:Str}{c:Addr}(hc:cells.lookup x=some c):∀{names:List (Str×NameKind)}{acc:List (Str×Addr)},(x,NameKind.free)∈ names→(x,c)∈ de cells names acc
 | [],_,h=>nomatch h
 |(n,k)::r,acc,h=>by
  unfold de
  rcases List.mem_cons.mp h with e | h
  ·cases e
   rw[if_pos (by rfl),hc]
   exact iC List.mem_cons_self
  ·split
   ·split
    ·exact gn hc h
    ·exact gn hc h
   ·exact gn hc h
theorem gI{cells l:List (Str×Addr)}(h:∀p∈l,cells.lookup p.1=some p.2){x:Str}{c:Addr}(m:(x,c)∈ l):l.lookup x=some c:=by
 induction l with
 | nil=>cases m
 | cons p r ih =>
  obtain⟨n,d⟩:=p
  rw[List.lookup_cons]
  by_cases e:x=n
  ·subst e
   simp only[beq_self_eq_true]
   have h1:=h (x,d) List.mem_cons_self
   have h2:=h (x,c) m
   dsimp only at h1 h2
   rw[h1]at h2
   exact h2
  ·rw[show(x==n)=false by simpa using e]
   refine ih (fun p hp=>h p (List.mem_cons_of_mem _ hp)) ?_
   rcases List.mem_cons.mp m with z | z
   ·cases z;exact absurd rfl e
   ·exact z
theorem eW{cells:List (Str×Addr)}{names:List (Str×NameKind)}{x:Str}{c:Addr}(h:(de cells names []).lookup x=some c):cells.lookup x=some c :=
 eX (names:=names) (acc:=[]) (fun _ z=>nomatch z) (x,c) (PySem.mem_of_lookup h)
theorem jT:∀(names:List (Str×NameKind)) (a:Nat) (l acc:List (Str×Addr)),cellsFrom a names (l++acc)=cellsFrom a names l++acc
 | [],_,_,_=>rfl
 |(n,k)::r,a,l,acc=>by
  unfold cellsFrom
  split
  ·exact jT r (a+1) ((n,a)::l) acc
  ·exact jT r a l acc
theorem jS:∀{names:List (Str×NameKind)}{a:Nat}{l:List (Str×Addr)}{p:Str×Addr},p∈cellsFrom a names l→p∈l ∨(a≤p.2∧(p.1,NameKind.cell)∈ names)
 | [],_,_,_,h=>.inl h
 |(n,k)::r,a,l,p,h=>by
  unfold cellsFrom at h
  split at h
  ·rename_i hk
   have hk:k=.cell:=by simpa using hk
   subst hk
   rcases jS h with h | h
   ·rcases List.mem_cons.mp h with rfl | h
    ·exact .inr ⟨Nat.le_refl _,List.mem_cons_self⟩
    ·exact .inl h
   ·exact .inr ⟨by omega,List.mem_cons_of_mem _ h.2⟩
  ·rcases jS h with h | h
   ·exact .inl h
   ·exact .inr ⟨h.1,List.mem_cons_of_mem _ h.2⟩
theorem lY:∀{names:List (Str×NameKind)}{a:Nat}{l:List (Str×Addr)}{x:Str},((x,NameKind.cell)∈ names ∨(l.lookup x).isSome=true)→((cellsFrom a names l).lookup x).isSome=true
 | [],_,_,_,h=>h.resolve_left (fun z=>nomatch z)
 |(n,k)::r,a,l,x,h=>by
  unfold cellsFrom
  split
  ·rename_i hk
   have hk:k=.cell:=by simpa using hk
   subst hk
   refine lY ?_
   by_cases e:x=n
   ·subst e;exact .inr (by simp)
   ·rcases h with h | h
    ·rcases List.mem_cons.mp h with z | h
     ·cases z;exact absurd rfl e
     ·exact .inl h
    ·exact .inr (by rw[List.lookup_cons,show(x==n)=false by simpa using e];exact h)
  ·rename_i hk
   refine lY ?_
   rcases h with h | h
   ·rcases List.mem_cons.mp h with z | h
    ·cases z;exact absurd rfl hk
    ·exact .inl h
   ·exact .inr h
theorem jU:∀{names:List (Str×NameKind)}{a:Nat}{l:List (Str×Addr)},(∀p∈l,p.2 < a)→(l.Pairwise fun x y=>x.2≠y.2)→(cellsFrom a names l).Pairwise fun x y=>x.2≠y.2
 | [],_,_,_,h=>h
 |(n,k)::r,a,l,hl,h=>by
  unfold cellsFrom
  split
  ·refine jU (fun p hp=>?_) (List.pairwise_cons.mpr ⟨fun y hy e=>?_,h⟩)
   ·rcases List.mem_cons.mp hp with rfl | hp
    ·exact Nat.lt_succ_self _
    ·exact Nat.lt_succ_of_lt (hl p hp)
   ·have e':a=y.2:=e
    exact Nat.lt_irrefl _ (Nat.lt_of_lt_of_eq (hl y hy) e')
  ·exact jU hl h
theorem im{α:Type}{x:Str}:∀{l m:List (Str×α)},(l++m).lookup x=(l.lookup x).or (m.lookup x)
 | [],m=>by simp
 |(n,c)::l,m=>by
  rw[List.cons_append,List.lookup_cons,List.lookup_cons,im (l:=l)]
  cases x==n<;>simp
abbrev nU(X:Cx)(scope:Scope)(C:Addr):List (Str×Addr):=cellsFrom (C+1) scope.names (de X.env.cells scope.names [])
theorem iD{X:Cx}{scope:Scope}{C:Addr}{x:Str}{c:Addr}(h:(nU X scope C).lookup x=some c):(C+1≤c∧(x,NameKind.cell)∈ scope.names∧(x,c)∈ cellsFrom (C+1) scope.names [])∨(de X.env.cells scope.names []).lookup x=some c:=by
 unfold nU at h
 rw[show de X.env.cells scope.names []=[]++ de X.env.cells scope.names []from rfl,jT,im]at h
 cases e:(cellsFrom (C+1) scope.names []).lookup x with
 | some d =>
  rw[e]at h
  cases h
  have m:=PySem.mem_of_lookup e
  rcases jS m with z | z
  ·cases z
  ·exact .inl ⟨z.1,z.2,m⟩
 | none =>
  rw[e]at h
  exact .inr (by simpa using h)
theorem AG{X:Cx}{scope:Scope}{C:Addr}{x:Str}{c:Addr}(hx:(x,NameKind.cell)∉ scope.names)(h:(de X.env.cells scope.names []).lookup x=some c):(nU X scope C).lookup x=some c:=by
 unfold nU
 rw[show de X.env.cells scope.names []=[]++ de X.env.cells scope.names []from rfl,jT,im]
 cases e:(cellsFrom (C+1) scope.names []).lookup x with
 | some d =>
  rcases jS (PySem.mem_of_lookup e)with z | z
  ·cases z
  ·exact absurd z.2 hx
 | none=>simpa using h
theorem m9{M:Model}{A:Around}{E:Value→Shared→Prop}{s:Shared}{scope:Scope}{globals:Addr}{closure:List (Str×Addr)}{qual:Str}{func:Option Addr}{code:Value}{outer:Env}{builtins:Addr}{Q:Env→Shared→Prop}
  (hQ:∀ h',h'.Ns s.heap.objs.size (fun _=>none)→(∀ b o,s.heap.get? b=some o→h'.get? b=some o)→(∀ n c,(n,c) ∈ cellsFrom (s.heap.objs.size+1) scope.names []→h'.IsCell c none) →
   Q (newEnv scope s.heap.objs.size globals (cellsFrom (s.heap.objs.size+1) scope.names closure) qual func code (some outer) builtins) { s with heap:=h' }) :
  wpAny M A (newFunctionEnv scope globals closure [] qual func code (some outer) builtins) Q E s:=by
 simp only[newFunctionEnv,Option.isSome_some,if_true]
 refine wpAny_bind (wpAny_alloc ?_)
 refine wpAny_bind (wpAny_layCells _ (fun name kind cells=>by cases hkc:kind==NameKind.cell<;>simp[hkc]) _ _ _ _ ?_)
 have ok:=cellsFrom_ok scope.names (s.heap.push { cls:=.type "dict", data:=.dict #[] }) (s.heap.objs.size+1) [] ⟨fun _ _ hm=>(nomatch hm),List.Pairwise.nil⟩ (by rw[Heap.size_push];exact Nat.le_refl _)
 rw[Heap.size_push]at ok
 rw[show({ s with heap:=s.heap.push { cls:=.type "dict", data:=.dict #[] } }:Shared).heap.objs.size=s.heap.objs.size+1 from Heap.size_push ..]
 refine wpAny_bind ?_
 rw[List.forIn_nil]
 exact wpAny_pure (wpAny_pure (hQ _ ((Heap.Ns.new s.heap (.type "dict")).keeps (pushCells_keeps _ _)) (fun b o e=>pushCells_keeps _ _ b o (Heap.get?_push_of_some _ e)) fun n c hm=>(ok.empty n c hm).1))
def cxC(X:Cx)(scope:Scope)(C:Addr)(N:List Str)(s:Shared)(H:Hp)(ex:List Addr):Cx :=
 { X with env:=compEnvC scope (nU X scope C) C X.env,N:=N,s₀:=s,H₀:=H,outer:=X.stack,stack:=X.stack,ex:=ex,fn:=fun x=>scope.names.lookup x==some .cell,pn:=[],xe:=fun _ _=>False }
structure dg(X:Cx)(scope:Scope)(caps:List Nat)(N tn:List Str):Prop where
 kind:scope.kind=.function
 cel:∀y∈scope.names,y.2=.cell→scope.names.lookup y.1=some .cell
 names:∀y∈scope.names,y.2=.local→scope.names.lookup y.1=some .local
 free:∀y∈scope.names,y.2=.free→X.env.kindOf y.1=some .cell∨X.env.kindOf y.1=some .free
 eN:N=caps.map (fun i=>X.N.getD i "")++ tn
 capN:∀i∈caps,i < X.N.length
 capF:∀i∈caps,∀x,X.N[i]?=some x→(x,NameKind.free)∈ scope.names∧scope.names.lookup x=some .free
 nd:N.Nodup
theorem hV{scope:Scope}{env:Env}{x:Str}{k:NameKind}(h:(relabel scope env).names.lookup x=some k)(hc:k=.cell∨k=.free):(x,NameKind.free)∈ scope.names ∨(x,NameKind.cell)∈ scope.names:=by
 have m:=PySem.mem_of_lookup h
 obtain⟨⟨n,k0⟩,hm,e⟩:=List.mem_map.mp m
 dsimp only at e
 split at e
 ·rename_i hh
  cases e
  have:k0=.free:=by
   simp only[Bool.and_eq_true,beq_iff_eq]at hh
   exact hh.1.1
  subst this
  exact .inl hm
 ·cases e
  rcases hc with rfl | rfl
  ·exact .inr hm
  ·exact .inl hm
theorem hZ{scope:Scope}{env:Env}{x:Str}:∀{names:List (Str×NameKind)},names.lookup x=some .free →
  (names.map fun(n,k)=>if(k==NameKind.free&&env.scope.kind==.function&&env.kindOf n==some .cell)then(n,NameKind.cell)else(n,k)).lookup x=some .cell ∨
  (names.map fun(n,k)=>if(k==NameKind.free&&env.scope.kind==.function&&env.kindOf n==some .cell)then(n,NameKind.cell)else(n,k)).lookup x=some .free
 | [],h=>by simp at h
 |(n,k)::r,h=>by
  show List.lookup x ((if(k==NameKind.free&&env.scope.kind==.function&&env.kindOf n==some .cell)=true then(n,NameKind.cell)else(n,k))::_)=_∨List.lookup x ((if(k==NameKind.free&&env.scope.kind==.function&&env.kindOf n==some .cell)=true then(n,NameKind.cell)else(n,k))::_)=_
  have ih:=@hZ scope env x r
  cases hx:x==n with
  | true =>
   simp only[List.lookup_cons,hx]at h
   cases h
   split
   ·exact .inl (by simp[List.lookup_cons,hx])
   ·exact .inr (by simp[List.lookup_cons,hx])
  | false =>
   simp only[List.lookup_cons,hx]at h
   split
   ·simpa only[List.lookup_cons,hx]using ih h
   ·simpa only[List.lookup_cons,hx]using ih h
section
variable{X:Cx}{scope:Scope}{caps:List Nat}{N tn:List Str}{pins:List (Addr×Obj)}{σ:St}{H:Hp}{s:Shared}{fp:List Addr}{C:Addr}
theorem o3(cs:dg X scope caps N tn)(I:Inv X pins σ H s)(hf:∀b∈fp,jY X pins H b)(hlt:∀b∈fp,b < s.heap.objs.size)(hC:s.heap.objs.size≤C):(cxC X scope C N s H fp).Ok where
 mod:=I.ok.mod
 kind:=by show(relabel scope X.env).kind=_;exact cs.kind
 glob:=I.ok.glob
 blt:=I.ok.blt
 above:=hC
 inj:=fun x y c h1 h2=>by
  have old:∀z,(de X.env.cells scope.names []).lookup z=some c→c < s.heap.objs.size:=fun z hz=>let⟨_,hv⟩:=I.cell z c (eW hz);hv.lt
  rcases iD h1 with⟨l1,_,m1⟩ | h1<;>rcases iD h2 with⟨l2,_,m2⟩ | h2
  ·exact name_of_addr (jU (l:=[]) (fun _ z=>nomatch z) List.Pairwise.nil) m1 m2
  ·exact absurd (Nat.lt_of_lt_of_le (old y h2) (Nat.le_trans hC (Nat.le_trans (Nat.le_succ _) l1))) (Nat.lt_irrefl _)
  ·exact absurd (Nat.lt_of_lt_of_le (old x h1) (Nat.le_trans hC (Nat.le_trans (Nat.le_succ _) l2))) (Nat.lt_irrefl _)
  ·exact I.ok.inj x y c (eW h1) (eW h2)
 has:=fun x hx=>by
  have hx:(relabel scope X.env).names.lookup x=some .cell ∨(relabel scope X.env).names.lookup x=some .free:=hx
  have m:(x,NameKind.free)∈ scope.names ∨(x,NameKind.cell)∈ scope.names:=by
   rcases hx with h | h
   ·exact hV h (.inl rfl)
   ·exact hV h (.inr rfl)
  refine Option.isSome_iff_exists.mp (lY (l:=de X.env.cells scope.names []) ?_)
  rcases m with m | m
  ·obtain⟨c,hc⟩:=I.ok.has x (cs.free _ m rfl)
   exact .inr (by rw[gI (eX (acc:=[]) fun _ z=>nomatch z) (gn hc m)];rfl)
  ·exact .inl m
 cab:=fun x c h hc=>by
  have h':(scope.names.lookup x==some NameKind.cell)=true:=h
  have hx:scope.names.lookup x=some .cell:=by simpa using h'
  have hs:s.heap.objs.size≤C:=hC
  have hc:(nU X scope C).lookup x=some c:=hc
  obtain⟨d,hd⟩:=Option.isSome_iff_exists.mp (lY (a:=C+1) (l:=[]) (.inl (PySem.mem_of_lookup hx)))
  unfold nU at hc
  rw[show de X.env.cells scope.names []=[]++ de X.env.cells scope.names []from rfl,jT,im,hd]at hc
  cases hc
  rcases jS (PySem.mem_of_lookup hd)with z | z
  ·cases z
  ·exact Nat.le_trans hs (Nat.le_trans (Nat.le_succ _) z.1)
 hd:=I.ok.hd
 frames:=I.ok.frames
 stk:=.inl rfl
 exf:=fun b hb=>⟨Nat.ne_of_lt (Nat.lt_of_lt_of_le (hlt b hb) hC),fun x c h=>by
  rcases iD h with⟨l1,_,_⟩ | h
  ·exact fun z=>absurd (Nat.lt_of_lt_of_le (hlt b hb) (Nat.le_trans hC (Nat.le_trans (Nat.le_succ _) l1))) (by rw[z];exact Nat.lt_irrefl _)
  ·exact(hf b hb).2.2.2.2.1 x c (eW h)⟩
 bs:=I.bs
 bsz:=Nat.le_trans I.ok.bsz I.sz
 noex:=fun b o e hb=>by
  rcases(hf b hb).2.2.2.1 with z | z
  ·exact I.ok.noex b o e z
  ·exact absurd (Nat.lt_of_lt_of_le (Heap.lt_size e) (Nat.le_trans I.ok.bsz z)) (Nat.lt_irrefl _)
 exfs:=fun b hb hs=>by
  rcases List.mem_cons.mp (I.stkSub b hs)with z | z
  ·exact(hf b hb).2.1 z
  ·exact(hf b hb).2.2.1 z
 funs:=I.stack
 frf:=I.stkFree
def lZ(caps:List Nat)(k:Nat)(σ:St):St:=caps.map (fun i=>(σ[i]?).join)++ List.replicate k none
theorem uw(cs:dg X scope caps N tn)(I:Inv X pins σ H s)(hf:∀b∈fp,jY X pins H b)(hlt:∀b∈fp,b < s.heap.objs.size){h₁:Heap}{t:Nat}
  (hns:h₁.Ns (s.heap.objs.size+1) fun _=>none) (hD:h₁.get? s.heap.objs.size=some { cls:=.type "list", data:=.seq ([]:List Value).toArray }) (old:∀b o,s.heap.get? b=some o→h₁.get? b=some o)
  (hcl:∀n c,(n,c)∈ cellsFrom (s.heap.objs.size+1+1) scope.names []→h₁.IsCell c none) :
  Inv (cxC X scope (s.heap.objs.size+1) N s H fp) [] (lZ caps tn.length σ) (upd H s.heap.objs.size (.lst [])) { s with heap:=h₁,toks:=t }:=by
 have fresh:∀b,s.heap.objs.size≤b→H b=none:=fun b hb=>I.hok.fresh hb
 have neD:s.heap.objs.size+1≠s.heap.objs.size:=Nat.succ_ne_self _
 have ltc:∀x c,(de X.env.cells scope.names []).lookup x=some c→∃v,s.heap.IsCell c v:=fun x c h=>I.cell x c (eW h)
 refine⟨o3 cs I hf hlt (Nat.le_succ _),rfl,I.bare,Un.laid old (Nat.le_refl _) (fresh _ (Nat.le_refl _)),⟨_,hns,fun i y v h1 h2 h3=>?_⟩,fun x c h=>?_,?_,fun x c h=>?_,fun p hp=>absurd (show p ∈([]:List (Addr×Obj))from hp) (by simp),?_,?_⟩
 ·have hi:i < caps.length:=by
   unfold lZ at h2
   by_cases hi:i < caps.length
   ·exact hi
   ·rw[List.getElem?_append_right (by simpa using hi),List.getElem?_replicate]at h2
    split at h2<;>cases h2
  unfold lZ at h2
  rw[List.getElem?_append_left (by simpa using hi),List.getElem?_map]at h2
  obtain⟨j,hj,e2⟩:=Option.map_eq_some_iff.mp h2
  have hjc:j∈caps:=List.mem_of_getElem? hj
  have hjN:=cs.capN j hjc
  have hy:X.N[j]?=some y:=by
   have h1':N[i]?=some y:=h1
   rw[cs.eN,List.getElem?_append_left (by simpa using hi),List.getElem?_map,hj]at h1'
   have:X.N.getD j "" = y:=by simpa using h1'
   rw[← this]
   simp[hjN]
  have hσ:σ[j]?=some (some v):=by
   cases e:σ[j]? with
   | none=>rw[e]at e2;cases e2
   | some w=>rw[e]at e2;simp only[Option.join_some]at e2;rw[e2]
  obtain⟨m0,hn0,hl⟩:=I.loc
  obtain⟨hm,hlk⟩:=cs.capF j hjc y hy
  have hk:=cs.free _ hm rfl
  dsimp only at hk
  have hvis:Vis X.env.scope y:=by
   rcases hk with z | z
   ·exact .inr (.inl z)
   ·exact .inr (.inr z)
  obtain⟨u,ru,lk⟩:=hl j y v hy hσ hvis
  refine⟨u,ru,.inr ?_⟩
  rcases lk with⟨z,_⟩ |⟨_,c,hc,hcell⟩
  ·rcases hk with w | w
   ·rw[z]at w;cases w
   ·rw[z]at w;cases w
  ·refine⟨hZ (scope:=scope) hlk,c,AG (fun z=>?_) (gI (eX (acc:=[]) fun _ z=>nomatch z) (gn hc hm)),hcell.keeps old⟩
   have:=cs.cel _ z rfl
   rw[hlk]at this
   cases this
 ·rcases iD h with⟨_,_,m⟩ | h
  ·exact⟨none,hcl x c m⟩
  ·obtain⟨v,hv⟩:=ltc x c h
   exact⟨v,hv.keeps old⟩
 ·show upd H _ _ (s.heap.objs.size+1)=none
  rw[aI neD]
  exact fresh _ (Nat.le_succ _)
 ·rcases iD h with⟨l1,_,_⟩ | h
  ·rw[aI (Nat.ne_of_gt (Nat.lt_of_lt_of_le (Nat.lt_succ_of_lt (Nat.lt_succ_self _)) l1))]
   exact fresh _ (Nat.le_trans (Nat.le_succ_of_le (Nat.le_succ _)) l1)
  ·obtain⟨v,hv⟩:=ltc x c h
   rw[aI (Nat.ne_of_lt hv.lt)]
   exact I.freeC x c (eW h)
 ·exact I.hok.laid old (Nat.le_refl _) ⟨Nat.zero_le _,[],_,.nil,hD⟩
 ·show(lZ caps tn.length σ).length=N.length
  rw[cs.eN]
  simp[lZ]
end
end L2
namespace PR
open PySem PySem.Spec L2
def Fl.borrow:Fl→Fl
 | .own=>.bor
 | .lnt=>.bor
 | f=>f
def PV.borrow(x:PV):PV:=x.mapF Fl.borrow
mutual
theorem Rel.borrow{T:Tb}{F B B' L L':Addr→Prop}{H:Hp}(hB:∀a,B a→B' a)(hL:∀a,L a→B' a):∀{x:PV}{v:V}{fp:List Addr},(∀a∈fp,B' a)→Rel T F B L H x v fp→Rel T F B' L' H (x.mapF Fl.borrow) v []
 | .non,_,_,_,h=>by unfold Rel at h;simp only[PV.mapF];unfold Rel;exact⟨h.1,rfl⟩
 | .bl _,_,_,_,h=>by unfold Rel at h;simp only[PV.mapF];unfold Rel;exact⟨h.1,rfl⟩
 | .int _,_,_,_,h=>by unfold Rel at h;simp only[PV.mapF];unfold Rel;exact⟨h.1,rfl⟩
 | .str _,_,_,_,h=>by unfold Rel at h;simp only[PV.mapF];unfold Rel;exact⟨h.1,rfl⟩
 | .lst f xs,_,fp,hp,h=>by
  unfold Rel at h
  obtain⟨a,vs,fp',e,hl,hr,hf⟩:=h
  simp only[PV.mapF]
  unfold Rel
  cases f with
  | own =>
   obtain rfl:fp=a::fp':=hf
   exact⟨a,vs,[],e,⟨hp a List.mem_cons_self,.inl hl⟩,RelL.borrow hB hL (fun b hb=>hp b (List.mem_cons_of_mem _ hb)) hr,rfl,rfl⟩
  | frz=>obtain⟨rfl,rfl⟩:=hf;exact⟨a,vs,[],e,hl,RelL.borrow hB hL hp hr,rfl,rfl⟩
  | bor=>obtain⟨rfl,rfl⟩:=hf;exact⟨a,vs,[],e,⟨hB a hl.1,hl.2⟩,RelL.borrow hB hL hp hr,rfl,rfl⟩
  | lnt=>obtain⟨rfl,rfl⟩:=hf;exact⟨a,vs,[],e,⟨hL a hl.1,.inl hl.2⟩,RelL.borrow hB hL hp hr,rfl,rfl⟩
  | mod=>obtain⟨rfl,rfl⟩:=hf;exact⟨a,vs,[],e,hl,RelL.borrow hB hL hp hr,rfl,rfl⟩
 | .tup xs,_,fp,hp,h=>by
  unfold Rel at h
  obtain⟨a,vs,e,hl,hr⟩:=h
  simp only[PV.mapF]
  unfold Rel
  exact⟨a,vs,e,hl,RelL.borrow hB hL hp hr⟩
 | .obj f c ks xs,_,fp,hp,h=>by
  unfold Rel at h
  obtain⟨a,dx,vs,fp',e,hl,hk,hr,hf,ha⟩:=h
  simp only[PV.mapF]
  unfold Rel
  cases f with
  | own =>
   obtain rfl:fp=a::fp':=hf
   have r:=RelL.borrow hB hL (L':=L') (fun b hb=>hp b (List.mem_cons_of_mem _ hb)) hr
   exact⟨a,dx,vs,[],e,hl,⟨by rw[r.length,hk.1,hr.length],hk.2⟩,r,⟨rfl,rfl⟩,hp a List.mem_cons_self⟩
  | frz=>obtain⟨rfl,rfl⟩:=hf;have r:=RelL.borrow hB hL (L':=L') hp hr;exact⟨a,dx,vs,[],e,hl,⟨by rw[r.length,hk.1,hr.length],hk.2⟩,r,⟨rfl,rfl⟩,ha⟩
  | bor=>obtain⟨rfl,rfl⟩:=hf;have r:=RelL.borrow hB hL (L':=L') hp hr;exact⟨a,dx,vs,[],e,hl,⟨by rw[r.length,hk.1,hr.length],hk.2⟩,r,⟨rfl,rfl⟩,hB a ha⟩
  | lnt=>obtain⟨rfl,rfl⟩:=hf;have r:=RelL.borrow hB hL (L':=L') hp hr;exact⟨a,dx,vs,[],e,hl,⟨by rw[r.length,hk.1,hr.length],hk.2⟩,r,⟨rfl,rfl⟩,hL a ha⟩
  | mod=>exact ha.elim
 | .exc c,_,fp,hp,h=>by
  unfold Rel at h
  obtain⟨a,e,hl,rfl⟩:=h
  simp only[PV.mapF]
  unfold Rel
  exact⟨a,e,hl,rfl⟩
theorem RelL.borrow{T:Tb}{F B B' L L':Addr→Prop}{H:Hp}(hB:∀a,B a→B' a)(hL:∀a,L a→B' a):∀{xs:List PV}{vs:List V}{fp:List Addr},(∀a∈fp,B' a)→RelL T F B L H xs vs fp→RelL T F B' L' H (mapL Fl.borrow xs) vs []
 | [],_,_,_,h=>by unfold RelL at h;simp only[mapL];unfold RelL;exact⟨h.1,rfl⟩
 | x::xs,_,fp,hp,h=>by
  unfold RelL at h
  obtain⟨v,ws,f1,f2,e,h1,h2,rfl⟩:=h
  simp only[mapL]
  unfold RelL
  exact⟨v,ws,[],[],e,Rel.borrow hB hL (fun b hb=>hp b (List.mem_append_left _ hb)) h1,RelL.borrow hB hL (fun b hb=>hp b (List.mem_append_right _ hb)) h2,rfl⟩
end
mutual
theorem gY:∀x:PV,(x.mapF Fl.borrow).has Fl.isOwn=false
 | .non=>rfl
 | .bl _=>rfl
 | .int _=>rfl
 | .str _=>rfl
 | .lst f xs=>by simp only[PV.mapF,PV.has,borrow_ownL xs,Bool.or_false];cases f<;>rfl
 | .tup xs=>by simp only[PV.mapF,PV.has,borrow_ownL xs]
 | .obj f c ks xs=>by simp only[PV.mapF,PV.has,borrow_ownL xs,Bool.or_false];cases f<;>rfl
 | .exc _=>rfl
theorem borrow_ownL:∀xs:List PV,hasL Fl.isOwn (mapL Fl.borrow xs)=false
 | []=>rfl
 | x::xs=>by simp only[mapL,hasL,gY x,borrow_ownL xs,Bool.or_false]
end
def ItC(T:Tb)(F B L:Addr→Prop)(H1:Hp)(J:It)(xs:List PV):Prop :=
 ∀H2,Ext H1 H2→(∀(i:Nat) x,xs[i]?=some x→J.go i H2∧∀v H3,J.yld i H2 v H3→Ext H2 H3∧∃f,(∀a∈f,∃o,H1 a=some o)∧Rel T F B L H3 x v f)∧J.stop xs.length H2
theorem ItC.of0{T:Tb}{F B L:Addr→Prop}{H1:Hp}{J:It}{xs:List PV}(h:∀H2,Ext H1 H2→(∀(i:Nat) x,xs[i]?=some x→J.go i H2∧∀v H3,J.yld i H2 v H3→H3=H2∧∃f,Rel T F B L H1 x v f)∧J.stop xs.length H2):ItC T F B L H1 J xs:=fun H2 hk=>by
 obtain⟨a,b⟩:=h H2 hk
 refine⟨fun i x e=>⟨(a i x e).1,fun v H3 hy=>?_⟩,b⟩
 obtain⟨rfl,f,r⟩:=(a i x e).2 v H3 hy
 exact⟨Ext.refl,f,fun a ha=>r.there a ha,r.ext hk fun _ h=>h⟩
def GIc(T:Tb)(W:Nat→St→Hp→Prop)(B F L:Addr→Prop)(σ:St)(H:Hp)(R:It→Hp→Prop):Res (List PV)→Prop
 | .ok xs=>∀J H1 F1,Gr F H F1 H1→ItC T F1 B L H1 J xs→R J H1
 | .exc c=>∀H',Ext H H'→W c σ H'
 | .stuck=>False
def tIc(T:Tb)(W:Nat→St→Hp→Prop)(m:MI):TI:=fun σ H R=>∃Z F env fp,ar T Z F H σ env fp∧GIc T W Z.B F (Own fp) σ H R (m env)
abbrev SIc(X:Cx)(T:Tb)(W:Nat→St→Hp→Prop)(tg iter:Expr)(m:MI):Prop:=PI X tg iter (tIc T W m)
def b0(m:ME):MI:=fun env=>(m env).bind fun x=>match aQ x with
 | some xs=>.ok xs
 | none=>.stuck
section
variable{X:Cx}{T:Tb}{W:Nat→St→Hp→Prop}{Z:Zn}{F F1 B L:Addr→Prop}{H H1:Hp}{σ:St}{env:En}{fp:Nat→List Addr}{D:Ends}
theorem bA{tg e:Expr}{m:ME}(hK:X.K=T.K)(he:SE X T W e m):SIc X T W tg e (b0 m):=fun pins s σ H R I h=>tB he pins s σ H R I (by
 obtain⟨Z,F,env,fp,S,q⟩:=h
 unfold b0 at q
 refine tE.bind S (fun c e=>by rw[e]at q;exact q) (fun e=>by rw[e]at q;exact q) fun x v H1 F1 f1 e1 g1 r1 n1 d1 w1=>?_
 rw[e1]at q
 simp only[Res.ok_bind]at q
 cases es:aQ x with
 | none=>rw[es]at q;exact q.elim
 | some xs =>
  rw[es]at q
  obtain⟨a,vs,f',rfl,hs,hr,_⟩:=r1.seq es
  refine⟨a,rfl,?_⟩
  rw[hK]
  rcases hs with hs | hs
  ·refine .inl ⟨vs,hs,q _ H1 F1 g1 (ItC.of0 fun H2 hx=>?_)⟩
   have h2:SqL T.K H2 a vs:=by
    rcases hs with z | z
    ·exact .inl (Rd.tr (fun o q=>hx a o q) z)
    ·exact .inr z
   refine⟨fun i x ex=>?_,⟨vs,h2,by rw[hr.length];exact Nat.le_refl _⟩⟩
   obtain⟨v,f,ev,rv,_⟩:=hr.get ex
   refine⟨⟨vs,v,h2,ev⟩,fun w H3 hy=>⟨hy.1,f,?_⟩⟩
   have:=hy.2 vs h2
   rw[ev]at this
   cases this
   exact rv
  ·refine .inr ⟨vs,hs,q _ H1 F1 g1 (ItC.of0 fun H2 hx=>?_)⟩
   have h2:SqT T.K H2 a vs:=SqT.tr (fun o q _=>hx a o q) hs
   refine⟨fun i x ex=>?_,⟨vs,h2,by rw[hr.length];exact Nat.le_refl _⟩⟩
   obtain⟨v,f,ev,rv,_⟩:=hr.get ex
   refine⟨⟨vs,v,h2,ev⟩,fun w H3 hy=>⟨hy.1,f,?_⟩⟩
   have:=hy.2 vs h2
   rw[ev]at this
   cases this
   exact rv)
theorem qa{lo:Int}{n:Nat}:ItC T F1 B L H1 (Itr lo n) (bU lo n):=by
 apply ItC.of0
 intro H2 _
 refine⟨fun i x ex=>?_,by simp[bU,Itr]⟩
 have hi:i < n:=by
  have:=(List.getElem?_eq_some_iff.mp ex).1
  simpa[bU]using this
 refine⟨hi,fun v H3 hy=>⟨hy.1,[],?_⟩⟩
 obtain⟨_,rfl⟩:=hy
 have:x=.int (lo+(i:Nat)):=by
  simp[bU,hi]at ex
  exact ex.symm
 subst this
 exact eE
theorem bS{tg a:Expr}{ms:MA}{p pos:Pos}(hg:Gl X "range")(hm:X.mg "range" = none)(ha:SA X T W [a] ms)(hs:starEach [a] X.env=[(false,eval a X.env)]:=by rfl):SIc X T W tg (.Call (.Name "range" p) [a] [] pos) (bH ms):=fun pins s σ H R I h=>ku hg hm ha hs pins s σ H R I (by
 obtain⟨Z,F,env,fp,S,q⟩:=h
 unfold bH at q
 refine tA.bind S (fun c e=>by rw[e]at q;exact q) (fun e=>by rw[e]at q;exact q) fun xs vs H1 F1 f1 e1 g1 r1 n1 d1 w1=>?_
 rw[e1]at q
 simp only[Res.ok_bind]at q
 split at q
 ·rename_i n
  split at q
  ·rename_i hc
   obtain⟨v,rfl,r2⟩:=r1.one
   unfold Rel at r2
   obtain⟨rfl,_⟩:=r2
   have hc':-(2 ^ 62)≤ n∧n < 2 ^ 62:=by simpa[inR]using hc
   exact⟨n,rfl,hc'.1,hc'.2,q _ H1 F1 g1 qa⟩
  ·exact q.elim
 ·exact q.elim)
abbrev WF:Nat→St→Hp→Prop:=fun _ _ _=>False
def STs(X:Cx)(T:Tb)(W:Nat→St→Hp→Prop)(ifs:List Expr)(m:MT):Prop :=
 ∀(pins:List (Addr×Obj)) (s:Shared) (σ:St) (H:Hp) (Q:Bool→Hp→Prop),L2.Inv X pins σ H s→tT T W m σ H Q →
  wpAny (model X.prog X.w) X.A (forIn ifs true fun c r=>if r=true then do let ok ← isTrue c X.env (eval c X.env);pure (ForInStep.yield ok)else pure (ForInStep.yield r)) (TP X pins σ Q) X.xe s
def bB:MT:=fun _=>.ok true
theorem a_:STs X T W [] bB:=fun pins s σ H Q I ⟨Z,F,env,fp,S,q⟩=>wpAny_tests_nil ⟨H,I,q H F (Gr.refl S.hp.ft)⟩
theorem dh{c:Expr}{m:MT}(h:ST X T W c m):STs X T W [c] m:=fun pins s σ H Q I q=>wpAny_tests_one (h pins s σ H Q I q)
structure fF(g:TgM)(k:Nat):Prop where
 keep:∀x env e',g x env=some e'→e'.length=env.length∧∀j < k,e'[j]?=env[j]?
 own:∀x env e',g x env=some e'→x.has Fl.isOwn=false→∀(j:Nat) pv,e'[j]?=some (some pv)→env[j]?=some (some pv)∨ pv.has Fl.isOwn=false
structure ji(g:jX)(k:Nat):Prop where
 keep:∀x env e',g x env=some e'→e'.length=env.length∧∀j < k,e'[j]?=env[j]?
 own:∀x env e',g x env=some e'→hasL Fl.isOwn x=false→∀(j:Nat) pv,e'[j]?=some (some pv)→env[j]?=some (some pv)∨ pv.has Fl.isOwn=false
theorem sy{i k:Nat}(h:k≤i):fF (tgN i) k:=by
 refine⟨fun x env e' e=>?_,fun x env e' e hx j pv hj=>?_⟩
 ·unfold tgN at e
  split at e
  ·cases e
   exact⟨by simp,fun j hj=>List.getElem?_set_ne (by omega)⟩
  ·cases e
 ·unfold tgN at e
  split at e
  ·cases e
   by_cases hij:i=j
   ·subst hij
    have hl:i < env.length:=by
     have:=(List.getElem?_eq_some_iff.mp hj).1
     simpa using this
    rw[List.getElem?_set_self hl]at hj
    cases hj
    exact .inr hx
   ·rw[List.getElem?_set_ne hij]at hj
    exact .inl hj
  ·cases e
theorem jl{k:Nat}:ji eO k:=by
 refine⟨fun x env e' e=>?_,fun x env e' e _ j pv hj=>?_⟩
 ·cases x with
  | nil=>cases e;exact⟨rfl,fun _ _=>rfl⟩
  | cons _ _=>cases e
 ·cases x with
  | nil=>cases e;exact .inl hj
  | cons _ _=>cases e
theorem dP{g:TgM}{u:jX}{k:Nat}(h1:fF g k)(h2:ji u k):ji (bv g u) k:=by
 refine⟨fun x env e' e=>?_,fun x env e' e hx j pv hj=>?_⟩
 ·cases x with
  | nil=>cases e
  | cons y ys =>
   simp only[bv]at e
   cases e1:g y env with
   | none=>rw[e1]at e;cases e
   | some e2 =>
    rw[e1]at e
    obtain⟨l1,k1⟩:=h1.keep y env e2 e1
    obtain⟨l2,k2⟩:=h2.keep ys e2 e' e
    exact⟨l2.trans l1,fun j hj=>(k2 j hj).trans (k1 j hj)⟩
 ·cases x with
  | nil=>cases e
  | cons y ys =>
   simp only[hasL,Bool.or_eq_false_iff]at hx
   simp only[bv]at e
   cases e1:g y env with
   | none=>rw[e1]at e;cases e
   | some e2 =>
    rw[e1]at e
    rcases h2.own ys e2 e' e hx.2 j pv hj with z | z
    ·exact h1.own y env e2 e1 hx.1 j pv z
    ·exact .inr z
theorem lc{u:jX}{n k:Nat}(h:ji u k):fF (tgT n u) k:=by
 refine⟨fun x env e' e=>?_,fun x env e' e hx j pv hj=>?_⟩
 ·cases x with
  | tup xs =>
   simp only[tgT]at e
   split at e
   ·exact h.keep xs env e' e
   ·cases e
  | _=>cases e
 ·cases x with
  | tup xs =>
   simp only[tgT]at e
   simp only[PV.has]at hx
   split at e
   ·exact h.own xs env e' e hx j pv hj
   ·cases e
  | _=>cases e
def bC(caps:List Nat)(k:Nat)(env:En):En:=caps.map (fun i=>((env[i]?).join).map PV.borrow)++ List.replicate k none
def cz(g:TgM)(mc:MT)(me:ME)(env:En):List PV→Res (List PV)
 | []=>.ok []
 | x::xs=>match g x.borrow env with
  | none=>.stuck
  | some e=>(mc e).bind fun b=>if b then(me e).bind fun y=>if y.has Fl.isBor||y.has Fl.isLnt then .stuck else(cz g mc me env xs).bind fun ys=>.ok (y::ys)else cz g mc me env xs
def aX(caps:List Nat)(k:Nat)(mi:MI)(g:TgM)(mc:MT)(me:ME):ME:=fun env=>(mi env).bind fun xs=>if xs.length ≤ 10000000 then (match cz g mc me (bC caps k env) xs with
 | .ok ys=>.ok (.lst .own ys)
 | _=>.stuck)else .stuck
end
section
variable{prog:Program}{w:World}{A:Around}{R:Result→Shared→Prop}{s:Shared}
theorem lX{elt target iter:Expr}{ifs:List Expr}{scope:Scope}{pos:Pos}{it acc:Value}{env:Env}(I:Nat→Shared→Prop)
  (turn:∀ n s,I n s→wpAny (model prog w) A (pyNext it) (fun r s₁=>match r with
   | none=>R (.ok .next) s₁
   | some v=>wpAny (model prog w) A (letOwnedTupleGo target it v) (fun _ s₁'=>wpAny (model prog w) A (assign target env v) (fun _ s₂ =>
     wpAny (model prog w) A (forIn ifs true fun c r=>if r=true then do let ok ← isTrue c env (eval c env);pure (ForInStep.yield ok) else pure (ForInStep.yield r)) (fun ok s₃ =>
      if ok=true then wpAny (model prog w) A (eval elt env) (fun x s₄ =>
       wpAny (model prog w) A (call (.builtin "list.append") [acc,x]) (fun _ s₅=>∃m,m < n∧I m s₅) (notedBy (model prog w) A env fun e s'=>R (.error e) s') s₄) (notedBy (model prog w) A env fun e s'=>R (.error e) s') s₃
      else ∃m,m < n∧I m s₃) (notedBy (model prog w) A env fun e s'=>R (.error e) s') s₂) (notedBy (model prog w) A env fun e s'=>R (.error e) s') s₁') (notedBy (model prog w) A env fun e s'=>R (.error e) s') s₁) (notedBy (model prog w) A env fun e s'=>R (.error e) s') s)
  (n:Nat) (h:I n s) :
  codeAny (model prog w) A (.compLoop (.ListComp elt [⟨target,iter,ifs,0⟩] scope pos) 0 it acc env) R s:=by
 refine codeAny_loop rfl I (fun n s hI=>?_) n h
 show wpAny _ A ((compTurn (.ListComp elt [⟨target,iter,ifs,0⟩] scope pos) 0 it acc env).onRaise (fun x=>do noteFrame x env;theTreesLotGoes x)) _ _ s
 refine wpAny_noted ?_
 rw[compTurn_list]
 refine wpAny_bind (wpAny_standAt (wpAny_bind (wpAny_mono (turn n s hI) (fun r s₁ h₁=>?_) fun _ _ h'=>h')))
 cases r with
 | none=>exact wpAny_pure h₁
 | some v =>
  refine wpAny_bind (wpAny_mono h₁ (fun _ s₁' h₁'=>?_) fun _ _ h'=>h')
  refine wpAny_bind (wpAny_mono h₁' (fun _ s₂ h₂=>wpAny_bind (wpAny_mono h₂ (fun ok s₃ h₃=>?_) fun _ _ h'=>h')) fun _ _ h'=>h')
  cases ok with
  | false=>exact wpAny_pure ⟨rfl,h₃⟩
  | true =>
   exact wpAny_bind (wpAny_bind (wpAny_mono h₃ (fun x s₄ h₄=>wpAny_bind (wpAny_mono h₄ (fun _ s₅ h₅=>wpAny_pure (wpAny_pure ⟨rfl,h₅⟩)) fun _ _ h'=>h')) fun _ _ h'=>h'))
end
end PR
namespace L2
open PySem PySem.Spec
end L2
namespace PR
open PySem PySem.Spec L2
section
variable{X:Cx}{T:Tb}{W:Nat→St→Hp→Prop}{Z:Zn}{F F1 B L:Addr→Prop}{H H1:Hp}{σ:St}{env:En}{fp:Nat→List Addr}{D:Ends}
theorem ar.wk{e2:En}(S:ar T Z F H σ env fp)(hpin:Z.pin=none)(hl:e2.length=env.length)(h:∀(i:Nat) pv,e2[i]?=some (some pv)→env[i]?=some (some pv)):ar T Z F H σ e2 fp :=
 ⟨S.hp,S.len.trans hl.symm,fun i pv e=>S.rel i pv (h i pv e),S.nd,S.dj,S.dis,S.new,S.ch,fun v hv=>by rw[hpin]at hv;cases hv⟩
theorem ar.noOwn(S:ar T Z F H σ env fp)(h:∀(i:Nat) pv,env[i]?=some (some pv)→pv.has Fl.isOwn=false):ar T Z F H σ env (fun _=>[]) :=
 ⟨S.hp,S.len,fun i pv e=>by
  obtain⟨v,h1,h2⟩:=S.rel i pv e
  have:=Rel.noOwn (h i pv e) h2
  rw[this]at h2
  exact⟨v,h1,h2⟩,fun _=>List.nodup_nil,fun _ _ _ _ z=>(nomatch z),fun _ _ z=>(nomatch z),fun _ _ z=>(nomatch z),fun _ _ z=>(nomatch z),S.pn⟩
theorem ar.updD{Dd:Addr}{o o':HO}(S:ar T Z F H σ env (fun _=>[]))(hF:¬F Dd)(h0:Z.H0 Dd=none)(hD:H Dd=some o)(hfx:¬iu o):ar T Z F (upd H Dd o') σ env (fun _=>[]):=by
 have ne:∀a u,H a=some u→(F a∨Z.B a∨NoL a∨iu u)→a≠Dd:=fun a u e h z=>by
  subst z
  rcases h with h | h | h | h
  ·exact hF h
  ·obtain⟨⟨u',e'⟩,_⟩:=S.hp.bo _ h
   rw[h0]at e';cases e'
  ·exact h
  ·rw[hD]at e;cases e;exact hfx h
 refine⟨⟨S.hp.bo,fun a u e n=>?_,S.hp.f0,S.hp.fn,fun a h=>?_⟩,S.len,fun i pv e=>?_,S.nd,S.dj,fun _ _ z=>(nomatch z),S.new,fun _ _ z=>(nomatch z),S.pn⟩
 ·have:a≠Dd:=fun z=>by rw[z,h0]at e;cases e
  rw[aI this]
  exact S.hp.keep a u e n
 ·obtain⟨u,e⟩:=S.hp.ft a h
  exact⟨u,by rw[aI (show a≠Dd from fun z=>hF (by rw[← z];exact h))];exact e⟩
 ·obtain⟨v,h1,h2⟩:=S.rel i pv e
  refine⟨v,h1,Rel.tr (fun _ h=>h) (fun _ h=>h) (fun _ h=>h) (fun a u q h=>?_) (fun _ z=>(nomatch z)) h2⟩
  rw[aI (ne a u q h)]
  exact q
def zC(F:Addr→Prop)(H:Hp):Zn:=⟨H,F,fun _=>False,fun a=>∃o,H a=some o,none⟩
theorem r8{caps:List Nat}{k:Nat}{Dd:Addr}(S:ar T Z F H σ env fp)(hD:H Dd=none)(hFD:¬F Dd) :
  ar T (zC F H) F (upd H Dd (.lst [])) (lZ caps k σ) (bC caps k env) (fun _=>[]):=by
 have ext:Ext H (upd H Dd (.lst [])):=Ext.upd hD
 refine⟨⟨fun a h=>⟨h,fun z=>z⟩,fun a o h _=>ext a o h,fun _ h=>h,fun _ h=>.inl h,fun a h=>let⟨o,e⟩:=S.hp.ft a h;⟨o,ext a o e⟩⟩,by simp[lZ,bC],fun i pv e=>?_,fun _=>List.nodup_nil,fun _ _ _ _ z=>(nomatch z),fun _ _ z=>(nomatch z),fun _ _ z=>(nomatch z),fun _ _ z=>(nomatch z),fun _ h=>(nomatch h)⟩
 unfold bC at e
 unfold lZ
 by_cases hi:i < caps.length
 ·rw[List.getElem?_append_left (by simpa using hi),List.getElem?_map]at e ⊢
  obtain⟨j,hj,e2⟩:=Option.map_eq_some_iff.mp e
  rw[hj]
  obtain⟨pv0,e3,rfl⟩:=Option.map_eq_some_iff.mp e2
  have e4:env[j]?=some (some pv0):=by
   cases e5:env[j]? with
   | none=>rw[e5]at e3;cases e3
   | some w=>rw[e5]at e3;simp only[Option.join_some]at e3;rw[e3]
  obtain⟨v,h1,h2⟩:=S.rel j pv0 e4
  refine⟨v,by simp[h1],?_⟩
  refine Rel.borrow (B:=fun a=>∃o,H a=some o) (L:=NoL) (fun _ h=>h) (fun _ h=>h.elim) (fun a ha=>(S.dis j a ha).2) ?_
  exact Rel.tr (fun _ h=>h) (fun a h=>let⟨⟨o,h1⟩,h2⟩:=S.hp.bo a h;⟨o,S.hp.keep a o h1 h2⟩) (fun _ h=>h) (fun a o q _=>ext a o q) (fun a _ o q=>ext a o q) h2
 ·rw[List.getElem?_append_right (by simpa using hi),List.getElem?_replicate]at e
  split at e<;>cases e
set_option maxHeartbeats 1000000 in
theorem kR{elt iter tg:Expr}{ifs:List Expr}{scope:Scope}{pos p':Pos}{caps:List Nat}{N tn:List Str}{mi:MI}{g:TgM}{mc:MT}{me:ME}
  (cs:dg X scope caps N tn) (hc:X.calm=true) (hi:SIc X T W tg iter mi) (hk:fF g caps.length)
  (hb:∀C s H ex,SG (cxC X scope C N s H ex) T tg g∧STs (cxC X scope C N s H ex) T WF ifs mc∧SE (cxC X scope C N s H ex) T WF elt me)
  (hs:∀x,foldedSetIterable iter X.env x=pure x) {pins:List (Addr×Obj)}{s:Shared}{Q:VK}{use:Option (Value→Sem Unit)}{Q':Value→Shared→Prop} (I:L2.Inv X pins σ H s) (h:tE T W (aX caps tn.length mi g mc me) σ H Q)
  (hfin:∀(Dd C:Addr) (H':Hp) (s6:Shared) (m:Str→Option Value),Q (.ref Dd) H'→L2.Inv X pins σ H' s6→s6.heap.Ns C m→H' C=none→C≠X.env.locals→C∉X.fs→X.s₀.heap.objs.size≤C→(∀x c,X.env.cells.lookup x=some c→c≠C)→(∀p∈X.pn++pins,p.1≠C)→compPost (model X.prog X.w) X.A X.xe use Q' (.ref Dd) C (.ok .next) s6) :
  wpAny (model X.prog X.w) X.A (comprehension (.ListComp elt [⟨tg,iter,ifs,0⟩] scope pos) scope X.env p' (newList []) false (eval iter X.env) use) Q' X.xe s:=by
 obtain⟨Z,F,env,fp,S,q⟩:=h
 unfold aX at q
 refine wpAny_comprehension_free (use:=use) rfl hs (j7 fun y hy hf=>I.ok.has y.1 (cs.free y hy hf)) cs.kind cs.names ?_
 refine thn (hi pins s σ H (fun J H1=>∃F1 xs,mi env=.ok xs∧Gr F H F1 H1∧ItC T F1 Z.B (Own fp) H1 J xs) I ⟨Z,F,env,fp,S,?_⟩) fun xv s1 h1=>thn h1 fun itv s2 h2=>?_
 ·cases em:mi env with
  | ok xs=>exact fun J H1 F1 g1 it=>⟨F1,xs,rfl,g1,it⟩
  | exc c=>rw[em]at q;exact q
  | stuck=>rw[em]at q;exact q
 obtain⟨it,fpi,tn_,J,H2,rfl,I2,Tn,st2,f2,F1,xs,em,g1,itc⟩:=h2
 rw[em]at q
 simp only[Res.ok_bind]at q
 split at q
 case isFalse=>exact q.elim
 rename_i hlen
 cases ec:cz g mc me (bC caps tn.length env) xs with
 | exc c=>rw[ec]at q;exact q.elim
 | stuck=>rw[ec]at q;exact q.elim
 | ok full =>
 rw[ec]at q
 dsimp only at q
 have S2:=S.grow g1
 have hlt:∀b∈fpi,b < s2.heap.objs.size:=fun b hb=>by
  obtain⟨o,ho,_⟩:=Tn.obj 0 _ st2 b hb
  exact Heap.lt_size ho
 refine PySem.wpAny_newObj_type (m9 fun h₁ hns₁ hsb₁ hcl₁=>?_)
 dsimp only at hns₁ hsb₁ hcl₁ ⊢
 generalize hH2:s2.heap.push { cls:=.type "list", dict:=none,data:=.seq ([]:List Value).toArray }=P2 at hns₁ hsb₁ hcl₁ ⊢
 have hC:P2.objs.size=s2.heap.objs.size+1:=by rw[← hH2,Heap.size_push]
 have old:∀b o,s2.heap.get? b=some o→h₁.get? b=some o:=fun b o e=>hsb₁ b o (hH2▸Heap.get?_push_of_some _ e)
 have hDo:h₁.get? s2.heap.objs.size=some { cls:=.type "list", data:=.seq ([]:List Value).toArray }:=hsb₁ _ _ (hH2▸Heap.get?_push_size _ rfl)
 rw[hC]at hns₁ hcl₁
 have inv0:=uw (t:=s2.toks) cs I2 f2 hlt hns₁ hDo old hcl₁
 have hDH:H2 s2.heap.objs.size=none:=I2.hok.fresh (Nat.le_refl _)
 have hDF:¬F1 s2.heap.objs.size:=fun z=>by obtain⟨o,e⟩:=g1.dom _ z;rw[hDH]at e;cases e
 have SB:=r8 (caps:=caps) (k:=tn.length) S2 hDH hDF
 obtain⟨hgN,hts,hel⟩:=hb (s2.heap.objs.size+1) s2 H2 fpi
 have never:∀{α:Type}{t:Sem α}{Qa:α→Shared→Prop}{E':Value→Shared→Prop}{s':Shared},wpAny (model X.prog X.w) X.A t Qa (fun _ _=>False) s'→wpAny (model X.prog X.w) X.A t Qa E' s':=fun h=>wpAny_mono h (fun _ _ x=>x) fun _ _ z=>z.elim
 have fpok:∀{H':Hp}{pins':List (Addr×Obj)},(∀p∈pins',p.1∉fpi)→(∀b∈fpi,H' b=none)→∀b∈fpi,jY (cxC X scope (s2.heap.objs.size+1) N s2 H2 fpi) pins' H' b:=fun {H' pins'} hp hn b hb=>by
  refine⟨hn b hb,Nat.ne_of_lt (Nat.lt_succ_of_lt (hlt b hb)),(o3 cs I2 f2 hlt (Nat.le_succ _)).exfs b hb,.inl hb,((o3 cs I2 f2 hlt (Nat.le_succ _)).exf b hb).2,fun p hp' z=>?_⟩
  rcases List.mem_append.mp hp' with w | w
  ·exact absurd (show p ∈([]:List (Addr×Obj))from w) (by simp)
  ·exact hp p w (z▸hb)
 have key:∀s4:Shared,L2.Inv (cxC X scope (s2.heap.objs.size+1) N s2 H2 fpi) [] (lZ caps tn.length σ) (upd H2 s2.heap.objs.size (.lst [])) s4→tn_ 0 s4.heap →
   codeAny (model X.prog X.w) X.A (.compLoop (.ListComp elt [⟨tg,iter,ifs,0⟩] scope pos) 0 (.ref it) (.ref s2.heap.objs.size) (compEnvC scope (nU X scope (s2.heap.objs.size+1)) (s2.heap.objs.size+1) X.env))
    (compPost (model X.prog X.w) X.A X.xe use Q' (.ref s2.heap.objs.size) (s2.heap.objs.size+1)) s4:=by
  intro s4 inv4 st4
  refine lX (fun n s'=>∃ (i:Nat) (σ':St) (H':Hp) (Fi:Addr→Prop) (ys zs:List PV) (vs:List V) (f:List Addr),n=xs.length - i∧i ≤ xs.length∧L2.Inv (cxC X scope (s2.heap.objs.size+1) N s2 H2 fpi) [] σ' H' s'∧tn_ i s'.heap∧(∀ b ∈ fpi,H' b=none) ∧
   ar T (zC F1 H2) Fi H' σ' (bC caps tn.length env) (fun _=>[])∧H' s2.heap.objs.size=some (.lst vs)∧RelL T Fi Z.B (Own fp) H' ys vs f∧f.Nodup∧(∀a∈f,¬Fi a∧H2 a=none∧a≠s2.heap.objs.size)∧¬Fi s2.heap.objs.size∧ys.length≤i ∧
   cz g mc me (bC caps tn.length env) (xs.drop i)=.ok zs∧full=ys++zs) ?_ xs.length ?_
  case refine_2 =>
   refine⟨0,_,_,F1,[],full,[],[],by simp,Nat.zero_le _,inv4,st4,fun b hb=>?_,SB,bF,by unfold RelL;exact⟨rfl,rfl⟩,List.nodup_nil,fun _ z=>(nomatch z),hDF,Nat.zero_le _,ec,rfl⟩
   rw[aI (Nat.ne_of_lt (hlt b hb))]
   exact(f2 b hb).1
  rintro n s5 ⟨i,σ',H',Fi,ys,zs,vs,f,rfl,hil,inv5,st5,fr5,SI5,hD5,ry,nd5,nf5,nFD,hyl,ecl,efull⟩
  have ext5:Ext H2 H':=fun a o e=>SI5.hp.keep a o e fun z=>z
  have gr5:Gr F1 H2 Fi H':=⟨ext5,SI5.hp.f0,fun a h=>by
   rcases SI5.hp.fn a h with z | z | z
   ·exact .inl z
   ·exact .inr z
   ·exact z.elim,SI5.hp.ft⟩
  obtain⟨go,stop⟩:=itc H' ext5
  by_cases hlt5:i < xs.length
  ·have hx:xs[i]?=some xs[i]:=by simp[hlt5]
   obtain⟨g5,yl⟩:=go i _ hx
   rw[List.drop_eq_getElem_cons hlt5]at ecl
   unfold cz at ecl
   cases eg:g xs[i].borrow (bC caps tn.length env)with
   | none=>rw[eg]at ecl;cases ecl
   | some e' =>
   rw[eg]at ecl
   dsimp only at ecl
   refine thn (Tn.item (cxC X scope (s2.heap.objs.size+1) N s2 H2 fpi) rfl rfl rfl hc i [] s5 σ' H' _ inv5 (fpok (fun _ z=>absurd z (by simp)) fr5) st5 g5) fun r s6 ⟨u,hr,h6⟩=>?_
   subst hr
   refine thn h6 fun _ s7 ⟨v,H7,inv7,rv,yy,st7,fr7⟩=>?_
   obtain⟨ex7,fx,tx,rx⟩:=yl v H7 yy
   replace SI5:=SI5.grow (Gr.same SI5.hp.ft ex7)
   replace ry:=ry.ext ex7 fun _ h=>h
   replace hD5:=ex7 _ _ hD5
   replace gr5:=gr5.trans (Gr.same gr5.dom ex7)
   replace ext5:=gr5.ext
   have pinv:=inv7.pinned (fpok (fun _ z=>absurd z (by simp)) fr7) (Tn.obj _ _ st7)
   have rxb:Rel T Fi (zC F1 H2).B NoL H7 xs[i].borrow v []:=by
    refine Rel.borrow (B:=fun a=>∃o,H2 a=some o) (L:=Own fp) (fun _ h=>h) (fun a ⟨j,hj⟩=>(S2.dis j a hj).2) (fun a ha=>tx a ha) ?_
    exact Rel.tr SI5.hp.f0 (fun a h=>let⟨⟨o,h1⟩,h2⟩:=S2.hp.bo a h;⟨o,S2.hp.keep a o h1 h2⟩) (fun _ h=>h) (fun a o q _=>q) (fun a _ o q=>q) rx
   refine never (thn (hgN _ s7 σ' H7 v u (fun σ8 H8=>H8=H7∧∃fp8,ar T (zC F1 H2) Fi H7 σ8 e' fp8) pinv rv ⟨zC F1 H2,Fi,bC caps tn.length env,fun _=>[],xs[i].borrow,[],SI5,rxb,si.nil,?_⟩) fun _ s8 ⟨σ8,H8,inv8,e8,fp8,S8⟩=>?_)
   ·rw[eg]
    exact fun σ8 fp8 S8=>⟨rfl,fp8,S8⟩
   subst e8
   obtain⟨kl,kk⟩:=hk.keep _ _ _ eg
   have capOwn:∀(j:Nat) pv,(bC caps tn.length env)[j]?=some (some pv)→pv.has Fl.isOwn=false:=fun j pv ej=>by
    unfold bC at ej
    by_cases hj:j < caps.length
    ·rw[List.getElem?_append_left (by simpa using hj),List.getElem?_map]at ej
     obtain⟨jj,_,e2⟩:=Option.map_eq_some_iff.mp ej
     obtain⟨pv0,_,rfl⟩:=Option.map_eq_some_iff.mp e2
     exact gY pv0
    ·rw[List.getElem?_append_right (by simpa using hj),List.getElem?_replicate]at ej
     split at ej<;>cases ej
   have S8':ar T (zC F1 H2) Fi H8 σ8 e' (fun _=>[]):=S8.noOwn fun j pv ej=>by
    rcases hk.own _ _ _ eg (gY _) j pv ej with z | z
    ·exact capOwn j pv z
    ·exact z
   have back:∀{F9:Addr→Prop}{H9:Hp},ar T (zC F1 H2) F9 H9 σ8 e' (fun _=>[])→ar T (zC F1 H2) F9 H9 σ8 (bC caps tn.length env) (fun _=>[]):=fun S9=>S9.wk rfl kl.symm fun j pv ej=>by
    have hj:j < caps.length:=by
     by_cases hj:j < caps.length
     ·exact hj
     ·unfold bC at ej
      rw[List.getElem?_append_right (by simpa using hj),List.getElem?_replicate]at ej
      split at ej<;>cases ej
    rw[kk j hj]
    exact ej
   have pinback:∀{H9:Hp}{s9:Shared},L2.Inv (cxC X scope (s2.heap.objs.size+1) N s2 H2 fpi) ([]++ jB fpi s7.heap) σ8 H9 s9→L2.Inv (cxC X scope (s2.heap.objs.size+1) N s2 H2 fpi) [] σ8 H9 s9∧tn_ (i+1) s9.heap∧∀b∈fpi,H9 b=none:=fun {H9 s9} i9 =>
    ⟨i9.unpinned,Tn.keep _ _ _ st7 fun b hb o e=>(i9.pin (b,o) (List.mem_append_right _ (List.mem_append_right _ (fv hb e)))).1,fun b hb=>by
     obtain⟨o,e,_⟩:=Tn.obj _ _ st7 b hb
     exact(i9.pin (b,o) (List.mem_append_right _ (List.mem_append_right _ (fv hb e)))).2.1⟩
   cases emc:mc e' with
   | exc c=>rw[emc]at ecl;cases ecl
   | stuck=>rw[emc]at ecl;cases ecl
   | ok bb =>
   rw[emc]at ecl
   simp only[Res.ok_bind]at ecl
   refine never (thn (hts _ s8 σ8 H8 (fun b H9=>b=bb∧∃F9,Gr Fi H8 F9 H9) inv8 ⟨zC F1 H2,Fi,e',fun _=>[],S8',?_⟩) fun ok s9 ⟨H9,inv9,eb,F9,g9⟩=>?_)
   ·rw[emc]
    exact fun H9 F9 g9=>⟨rfl,F9,g9⟩
   subst eb
   have S9:=S8'.grow g9
   have ry9:=ry.ext g9.ext g9.mono
   have nf9:∀a∈f,¬F9 a:=fun a ha z=>by
    rcases g9.only a z with z | z
    ·exact(nf5 a ha).1 z
    ·obtain⟨o,e⟩:=ry.there a ha
     rw[e]at z;cases z
   have nFD9:¬F9 s2.heap.objs.size:=fun z=>by
    rcases g9.only _ z with z | z
    ·exact nFD z
    ·rw[hD5]at z;cases z
   cases ok with
   | false =>
    simp only[Bool.false_eq_true,if_false]at ecl ⊢
    obtain⟨i10,st10,fr10⟩:=pinback inv9
    exact⟨xs.length - (i+1),by omega,i+1,σ8,H9,F9,ys,zs,vs,f,rfl,hlt5,i10,st10,fr10,back S9,g9.ext _ _ hD5,ry9,nd5,fun a ha=>⟨nf9 a ha,(nf5 a ha).2⟩,nFD9,by omega,ecl,efull⟩
   | true =>
    simp only[if_true]at ecl ⊢
    cases eme:me e' with
    | exc c=>rw[eme]at ecl;cases ecl
    | stuck=>rw[eme]at ecl;cases ecl
    | ok y =>
    rw[eme]at ecl
    simp only[Res.ok_bind]at ecl
    split at ecl
    case isTrue=>cases ecl
    rename_i hyb
    simp only[Bool.or_eq_true,not_or,Bool.not_eq_true]at hyb
    cases ecr:cz g mc me (bC caps tn.length env) (xs.drop (i+1))with
    | exc c=>rw[ecr]at ecl;cases ecl
    | stuck=>rw[ecr]at ecl;cases ecl
    | ok zs' =>
    rw[ecr]at ecl
    simp only[Res.ok_bind]at ecl
    cases ecl
    refine never (thn (hel _ s9 σ8 H9 (fun v' H10=>∃F10 f10,Gr F9 H9 F10 H10∧Rel T F10 (zC F1 H2).B (Own fun _=>[]) H10 y v' f10∧(∀a∈f10,¬F10 a)∧f10.Nodup∧∀a∈f10,H9 a=none) inv9 ⟨zC F1 H2,F9,e',fun _=>[],S9,?_⟩) fun w s10 ⟨v',H10,inv10,rw10,F10,f10,g10,r10,n10,d10,w10⟩=>?_)
    ·rw[eme]
     exact fun v' H10 F10 f10 g10 r10 n10 d10 w10=>⟨F10,f10,g10,r10,n10,d10,w10⟩
    have hvl:vs.length < sizeLine:=by
     have h1:=ry.length
     have h2:sizeLine=16777216:=sizeLine_eq
     omega
    have hD10:H10 s2.heap.objs.size=some (.lst vs):=g10.ext _ _ (g9.ext _ _ hD5)
    refine never (thn (iK _ s10 σ8 H10 (.ref s2.heap.objs.size) [v'] (.ref s2.heap.objs.size) [w] (fun _ H11=>H11=upd H10 s2.heap.objs.size (.lst (vs++[v']))) inv10 rfl (.cons rw10 .nil) ⟨s2.heap.objs.size,vs,v',rfl,rfl,hD10,hvl,rfl⟩) fun _ s11 ⟨_,H11,inv11,_,e11⟩=>?_)
    subst e11
    obtain⟨i12,st12,fr12⟩:=pinback inv11
    have S10:=S9.grow g10
    have nFD10:¬F10 s2.heap.objs.size:=fun z=>by
     rcases g10.only _ z with z | z
     ·exact nFD9 z
     ·rw[g9.ext _ _ hD5]at z;cases z
    have ry10:=ry9.ext g10.ext g10.mono
    have ryy:RelL T F10 Z.B (Own fp) (upd H10 s2.heap.objs.size (.lst (vs++[v']))) (ys++[y]) (vs++[v']) (f++f10):=by
     have ry1:Rel T F10 Z.B (Own fp) H10 y v' f10:=Rel.noL hyb.2 (Rel.noB (B':=Z.B) hyb.1 r10)
     have all:RelL T F10 Z.B (Own fp) H10 (ys++[y]) (vs++[v']) (f++f10):=RelL.append ry10 (by unfold RelL;exact⟨v',[],f10,[],rfl,ry1,by unfold RelL;exact⟨rfl,rfl⟩,by simp⟩)
     refine RelL.tr (fun _ h=>h) (fun _ h=>h) (fun _ h=>h) (fun a o e h=>?_) (fun a ha o e=>?_) all
     ·refine(aI fun z=>?_).trans e
      subst z
      rcases h with h | h | h | h
      ·exact nFD10 h
      ·obtain⟨⟨o',h1⟩,h2⟩:=S2.hp.bo _ h
       rw[S2.hp.keep _ o' h1 h2]at hDH;cases hDH
      ·obtain⟨j,hj⟩:=h
       obtain⟨_,o',ho'⟩:=S2.dis j _ hj
       rw[hDH]at ho';cases ho'
      ·rw[hD10]at e;cases e;exact h
     ·refine(aI fun z=>?_).trans e
      subst z
      rcases List.mem_append.mp ha with ha | ha
      ·exact(nf5 _ ha).2.2 rfl
      ·have:=w10 _ ha
       rw[g9.ext _ _ hD5]at this;cases this
    have nf10:∀a∈f,¬F10 a:=fun a ha z=>by
     rcases g10.only a z with z | z
     ·exact nf9 a ha z
     ·obtain⟨o,e⟩:=ry9.there a ha
      rw[e]at z;cases z
    refine⟨xs.length - (i+1),by omega,i+1,σ8,_,F10,ys++[y],zs',vs++[v'],f++f10,rfl,hlt5,i12,st12,fr12,back (S10.updD nFD10 hDH hD10 (fun z=>z)),bF,ryy,?_,fun a ha=>?_,nFD10,by simp;omega,ecr,by rw[efull,List.append_assoc];rfl⟩
    ·refine List.nodup_append.mpr ⟨nd5,d10,fun a ha b hb z=>?_⟩
     subst z
     obtain⟨o,e⟩:=ry9.there a ha
     rw[w10 a hb]at e;cases e
    ·rcases List.mem_append.mp ha with ha | ha
     ·exact⟨nf10 a ha,(nf5 a ha).2⟩
     ·refine⟨n10 a ha,?_,fun z=>?_⟩
      ·have:=w10 a ha
       exact ext5.free (g9.ext.free this)
      ·subst z
       have:=w10 _ ha
       rw[g9.ext _ _ hD5]at this;cases this
  ·have e:i=xs.length:=by omega
   subst e
   rw[List.drop_length]at ecl
   unfold cz at ecl
   cases ecl
   rw[List.append_nil]at efull
   subst efull
   refine thn (Tn.done (cxC X scope (s2.heap.objs.size+1) N s2 H2 fpi) rfl rfl rfl hc xs.length [] s5 σ' H' _ inv5 (fpok (fun _ z=>absurd z (by simp)) fr5) st5 stop) fun r s6 ⟨hr,inv6⟩=>?_
   subst hr
   obtain⟨m,hn,_⟩:=id inv6.loc
   have hlc:X.env.locals < s2.heap.objs.size+1:=Nat.lt_succ_of_lt I2.lt
   have iX:L2.Inv X pins σ H' s6:=I2.call' inv6.os inv6.base inv6.hok inv6.bare fun b hb=>⟨(f2 b hb).2.2.2.1,(f2 b hb).2.1,(f2 b hb).2.2.2.2.1,(f2 b hb).2.2.2.2.2⟩
   refine hfin _ (s2.heap.objs.size+1) H' s6 m ?_ iX hn inv6.free (Nat.ne_of_gt hlc) (I2.nofs (Nat.le_succ _)) (Nat.le_trans I2.sz (Nat.le_succ _)) (fun x c e z=>?_) (fun p hp z=>?_)
   case refine_2 =>
    obtain⟨v,hv⟩:=I2.cell x c e
    rw[z]at hv
    exact absurd hv.lt (Nat.not_lt.mpr (Nat.le_succ _))
   case refine_3 =>
    have:=Heap.lt_size (I2.pin p hp).1
    rw[z]at this
    exact absurd this (Nat.not_lt.mpr (Nat.le_succ _))
   refine q (.ref s2.heap.objs.size) H' Fi (s2.heap.objs.size::f) (g1.trans gr5) ?_ (fun a ha=>?_) ?_ (fun a ha=>?_)
   ·unfold Rel
    exact⟨_,vs,f,rfl,hD5,ry,rfl⟩
   ·rcases List.mem_cons.mp ha with rfl | ha
    ·exact nFD
    ·exact(nf5 a ha).1
   ·exact List.nodup_cons.mpr ⟨fun z=>(nf5 _ z).2.2 rfl,nd5⟩
   ·rcases List.mem_cons.mp ha with rfl | ha
    ·exact g1.ext.free hDH
    ·exact g1.ext.free (nf5 a ha).2.1
 have st0:tn_ 0 h₁:=Tn.keep _ _ _ st2 fun b _ o e=>old b o e
 have lp:=key _ inv0 st0
 simp only[hC]
 exact codeAny_compStart_list lp (Tn.self _ 0 _ _ _ st0 lp)
theorem wr{elt iter tg:Expr}{ifs:List Expr}{scope:Scope}{pos:Pos}{caps:List Nat}{N tn:List Str}{mi:MI}{g:TgM}{mc:MT}{me:ME}
  (cs:dg X scope caps N tn) (hc:X.calm=true) (hi:SIc X T W tg iter mi) (hk:fF g caps.length)
  (hb:∀C s H ex,SG (cxC X scope C N s H ex) T tg g∧STs (cxC X scope C N s H ex) T WF ifs mc∧SE (cxC X scope C N s H ex) T WF elt me)
  (hs:∀x,foldedSetIterable iter X.env x=pure x:=by intro _;rfl):SE X T W (.ListComp elt [⟨tg,iter,ifs,0⟩] scope pos) (aX caps tn.length mi g mc me):=by
 intro pins s σ H Q I h
 rw[eval_ListComp]
 refine kR cs hc hi hk hb hs I h fun Dd C H' s6 m hq iX hn hCn hCl hCf hC0 hCc hCp=>⟨m,hn,fun h' hs'=>⟨.ref Dd,H',?_,rfl,hq⟩⟩
 exact iX.turned (t':=s6.toks) (fun b o hb e=>(hs'.2 b hb).trans e) hCn hCl (.inr hC0) hCc hCp
theorem v_{i:Nat}{y:Str}{elt iter tg:Expr}{ifs:List Expr}{scope:Scope}{pos py spos:Pos}{caps:List Nat}{N tn:List Str}{mi:MI}{g:TgM}{mc:MT}{me:ME}
  (cs:dg X scope caps N tn) (hc:X.calm=true) (hN:X.N.Nodup) (hy:X.N[i]?=some y) (hx:Loc X.env.scope y) (hi:SIc X T W tg iter mi) (hk:fF g caps.length)
  (hb:∀C s H ex,SG (cxC X scope C N s H ex) T tg g∧STs (cxC X scope C N s H ex) T WF ifs mc∧SE (cxC X scope C N s H ex) T WF elt me)
  (hsw:swapsWith (.ListComp elt [⟨tg,iter,ifs,0⟩] scope pos) (some (.Name y py)) spos.line X.env=pure true:=by rfl)
  (hs:∀x,foldedSetIterable iter X.env x=pure x:=by intro _;rfl)
  (hf:X.fn y=true∨X.env.scope.names.lookup y=some .local:=by first | exact .inl rfl | exact .inr rfl | assumption) :
  SS X T W (.Assign [.Name y py] (.ListComp elt [⟨tg,iter,ifs,0⟩] scope pos) spos) (a9 i (aX caps tn.length mi g mc me)):=by
 intro pins s σ H D I h
 obtain⟨Z,F,env,fp,S,q⟩:=h
 unfold a9 at q
 rw[exec_Assign_Name_used _ _ _ _ hsw]
 refine wpAny_bind (wpAny_standAt (wpAny_bind ?_))
 show wpAny _ X.A (do let _ ← comprehension (.ListComp elt [⟨tg,iter,ifs,0⟩] scope pos) scope X.env _ (newList []) false (eval iter X.env) (some (assign (.Name y py) X.env))) _ _ s
 refine wpAny_bind (wpAny_mono (kR (use:=some (assign (.Name y py) X.env)) (Q':=fun _ s'=>SP X pins D .next s') (Q:=fun v H1=>D.nx (σ.set i (some v)) H1) cs hc hi hk hb hs I ?_ fun Dd C H' s6 m hq iX hn hCn hCl hCf hC0 hCc hCp=>?_) (fun _ s' hq=>wpAny_pure (wpAny_pure hq)) fun _ _ e=>e)
 ·refine tE.bind S (fun c e H' x=>?_) (fun e=>by rw[e]at q;exact q) fun pv v H1 F1 f e g r h1 h2 h3=>?_
  ·rw[e]at q
   exact q F H' σ fp (S.grow (Gr.same S.hp.ft x))
  ·rw[e]at q
   simp only at q
   split at q
   ·rename_i hl
    rw[Bool.and_eq_true]at hl
    exact q F1 H1 _ _ (S.putN g hl.2 r hl.1 h1 h2 h3)
   ·exact q.elim
 ·refine wpAny_assign_Name (kf (v:=.ref Dd) (u:=.ref Dd) iX hN hy hx rfl (fun s7 i7 ⟨a,hsa,ha⟩=>?_) hf)
  have hCa:C≠a:=by
   rcases ha with ha | ha
   ·rw[ha];exact hCl
   ·exact fun z=>hCc y a ha z.symm
  refine⟨m,hn.sameBut hsa hCa,fun h' hs'=>⟨_,H',?_,hq⟩⟩
  exact i7.turned (t':=s7.toks) (fun b o hb e=>(hs'.2 b hb).trans e) hCn hCl (.inr hC0) hCc hCp
end
end PR
namespace PR
open PySem PySem.Spec L2
def GFI(T:Tb)(Z:Zn)(v0:V)(Q:VK)(E:XK):Res PV→Prop
 | .ok pv=>∀F H f,d5 T Z F H→Rel T F Z.B NoL H pv v0 f→f.Nodup→(∀a∈f,¬F a)→(∀a∈f,Z.H0 a=none∨Z.fp0 a)→Q .non H
 | .exc c=>∀H,(∀a o,Z.H0 a=some o→¬Z.fp0 a→H a=some o)→E (.ref (T.xcl c)) none H
 | .stuck=>False
def spI(T:Tb)(n:Nat)(m:List PV→Res PV):Sp:=fun vs H Q E=>vs.length=n∧∃v0 pvs F B f,vs[0]?=some v0∧sj T F B H pvs vs f∧(∃fl c ks xs,pvs[0]?=some (.obj fl c ks xs))∧GFI T ⟨H,F,(·∈f),B,some v0⟩ v0 Q E (m pvs)
def gy(n:Nat)(m:MS)(args:List PV):Res PV:=match m (args.map some++List.replicate (n - args.length) none)with
 | .next e=>match e[0]? with
  | some (some o)=>.ok o
  | _=>.stuck
 | .exc c _=>.exc c
 | _=>.stuck
section
variable{P:Program}{w:World}{K:PySem.W.Frag}{mg:Str→Option Value}{base:Heap}{T:Tb}
theorem Ag{x qual:Str}{st:Stmt}{f:Addr}{fd:FuncData}{N ps:List Str}{k:Nat}{m:MS}(F:Fun K x qual st f fd)(S:du N ps (aA st))
  (body:∀ (cdv:Value) (A:Around) (outer:List Env) (s:Shared) (H:Hp) (E:XK),cT k (A.deeper (PyProof.Rows.envOfC qual (aA st) s.heap.objs.size f cdv)) →
   SSs (dO (CXP P w) P w K mg base N qual (aA st) f cdv A outer s H E) T (WD T E) (bI st) m):cq P w K mg base (CXP P w) (k+1) f fd ps (spI T ps.length (gy N.length m)):=by
 obtain⟨oc,od,kV,doc,pm,an,cdv,ct,osl,rfl,lk,hcd⟩:=F.ex
 refine uH lk hcd S (fun vs H Q E h=>h.1) fun A outer s H vs Q E hr hsp=>⟨_,body cdv A outer s H E hr,?_⟩
 obtain⟨_,v0,pvs,F,B,fl,hv0,R,hob,q⟩:=hsp
 obtain⟨fp,S0⟩:=k8 N R (some v0) (fun v hv=>by cases hv;exact⟨hv0,hob⟩)
 refine⟨_,F,_,fp,S0,?_⟩
 unfold gy at q
 cases e:m (pvs.map some++List.replicate (N.length - pvs.length) none)with
 | next e' =>
  rw[e]at q
  dsimp only at q
  intro F' H' σ' fp' S'
  obtain⟨h1,_⟩:=S'.pn v0 rfl
  cases e0:e'[0]? with
  | none=>rw[e0]at q;exact q.elim
  | some o0 =>
   cases o0 with
   | none=>rw[e0]at q;exact q.elim
   | some o =>
    rw[e0]at q
    obtain⟨v,h2,r⟩:=S'.rel 0 o e0
    rw[h1]at h2
    cases h2
    exact q F' H' (fp' 0) S'.hp r (S'.nd 0) (fun a ha=>(S'.dis 0 a ha).1) (S'.new 0)
 | ret v=>rw[e]at q;exact q.elim
 | brk e'=>rw[e]at q;exact q.elim
 | cont e'=>rw[e]at q;exact q.elim
 | exc c e'=>rw[e]at q;exact fun F' H' σ' fp' S'=>q H' S'.hp.keep
 | stuck=>rw[e]at q;exact q.elim
end
section
variable{X:Cx}{T:Tb}{W:Nat→St→Hp→Prop}{Z:Zn}{F F1 B L:Addr→Prop}{H H1:Hp}{σ:St}{env:En}{fp:Nat→List Addr}{D:Ends}
theorem y3{k c:Nat}{f:Addr}{fd:FuncData}{ps:List Str}{m:List PV→Res PV}{xs:List PV}{vs:List V}{us ds:List Value}{fx:List Addr}{Q:VK}{pins:List (Addr×Obj)}{s1:Shared}{dvs:List V}{dps:List PV}
  (M:Mk X.K (T.cls c) f) (hcn:c < T.nc) (G:cq X.prog X.w X.K X.mg X.base (CXP X.prog X.w) k f fd ps (spI T ps.length m)) (hr:cT (k+1) X.A) (hb:dJ X.K fd ps ds) (hd:aH dvs ds) (hdp:∀F B L H,RelL T F B L H dps dvs []) (hx:XF X T W)
  (S:ar T Z F H σ env fp) (g:Gr F H F1 H1) (r:RelL T F1 Z.B (Own fp) H1 xs vs fx) (nf:∀a∈fx,¬F1 a) (nd:fx.Nodup) (new:∀a∈fx,H a=none) (q:GE T W Z.B F (Own fp) σ H Q (aG m (.obj .own c [] []::(xs++dps))))
  (I1:L2.Inv X pins σ H1 s1) (rv:aH vs us) (hlen:vs.length+dvs.length+1=ps.length):wpAny (model X.prog X.w) X.A (call (.ref (T.cls c)) us) (EP X pins σ Q) X.xe s1:=by
 have hxn:H1 (s1.heap.objs.size+1)=none:=I1.hok.fresh (Nat.le_succ _)
 have hdn:H1 s1.heap.objs.size=none:=I1.hok.fresh (Nat.le_refl _)
 have hne:s1.heap.objs.size≠s1.heap.objs.size+1:=Nat.ne_of_lt (Nat.lt_succ_self _)
 generalize hH2:upd (upd H1 s1.heap.objs.size (.own (s1.heap.objs.size+1))) (s1.heap.objs.size+1) (.ins (T.cls c) s1.heap.objs.size [])=H2
 have ext2:Ext H1 H2:=by
  rw[← hH2]
  exact(Ext.upd hdn).trans (Ext.upd (by rw[aI hne.symm];exact hxn))
 have free2:∀a,H2 a=none→H1 a=none:=fun a h=>ext2.free h
 have hx2:H2 (s1.heap.objs.size+1)=some (.ins (T.cls c) s1.heap.objs.size []):=by rw[← hH2];exact bF
 have I2:=L2.Inv.made (C:=T.cls c) I1
 rw[hH2]at I2
 have r2:aH (V.ref (s1.heap.objs.size+1)::(vs++dvs)) (Value.ref (s1.heap.objs.size+1)::(us++ds)):=.cons rfl (rv.append hd)
 have hl:(Value.ref (s1.heap.objs.size+1)::us++ds).length=ps.length:=by
  have e:=r2.length
  simp only[List.length_cons,List.length_append]at e hlen ⊢
  omega
 have rr:RelL T F1 Z.B (Own fp) H1 (xs++dps) (vs++dvs) fx:=by
  have:=RelL.append r (hdp F1 Z.B (Own fp) H1)
  rwa [List.append_nil]at this
 have nx:s1.heap.objs.size+1∉fx:=fun z=>by
  obtain⟨o,ho⟩:=r.there _ z
  rw[hxn]at ho;cases ho
 have hBo:∀a,Z.B a→(∃o,H2 a=some o)∧a ∉(s1.heap.objs.size+1)::fx:=fun a h=>by
  obtain⟨⟨o,h1⟩,h2⟩:=S.hp.bo a h
  have h3:=S.hp.keep a o h1 h2
  refine⟨⟨o,ext2 a o (g.ext a o h3)⟩,fun z=>?_⟩
  rcases List.mem_cons.mp z with z | z
  ·rw[z]at h3;rw[g.ext _ _ h3]at hxn;cases hxn
  ·rw[new a z]at h3;cases h3
 have hOw:∀a,Own fp a→(∃o,H2 a=some o)∧a ∉(s1.heap.objs.size+1)::fx:=fun a ⟨i,hi⟩=>by
  obtain⟨_,o,ho⟩:=S.dis i a hi
  refine⟨⟨o,ext2 a o (g.ext a o ho)⟩,fun z=>?_⟩
  rcases List.mem_cons.mp z with z | z
  ·rw[z]at ho;rw[g.ext _ _ ho]at hxn;cases hxn
  ·rw[new a z]at ho;cases ho
 have nF:¬F1 (s1.heap.objs.size+1):=fun z=>by
  obtain⟨o,ho⟩:=g.dom _ z
  rw[hxn]at ho;cases ho
 have R:sj T F1 (fun a=>(∃o,H2 a=some o)∧a ∉(s1.heap.objs.size+1)::fx) H2 (.obj .own c [] []::mapL Fl.toBor (xs++dps)) (.ref (s1.heap.objs.size+1)::(vs++dvs)) ((s1.heap.objs.size+1)::fx):=by
  refine⟨?_,List.nodup_cons.mpr ⟨nx,nd⟩,fun a ha=>?_,fun a h=>h,fun a h=>let⟨o,ho⟩:=g.dom a h;⟨o,ext2 a o ho⟩⟩
  ·unfold RelL
   refine⟨_,_,[s1.heap.objs.size+1],fx,rfl,?_,RelL.toBor hBo hOw (rr.ext ext2 fun _ h=>h),rfl⟩
   unfold Rel
   exact⟨_,s1.heap.objs.size,[],[],rfl,by simpa using hx2,⟨rfl,hcn⟩,by unfold RelL;exact⟨rfl,rfl⟩,rfl,True.intro⟩
  ·rcases List.mem_cons.mp ha with rfl | ha
   ·exact nF
   ·exact nf a ha
 have newx:∀a ∈(s1.heap.objs.size+1)::fx,H a=none:=fun a ha=>by
  rcases List.mem_cons.mp ha with rfl | ha
  ·exact g.ext.free hxn
  ·exact new a ha
 refine wpAny_call (ul (f:=f) I1.kIn M.makes M.init (beq_iff_eq.mp M.fn) (codeAny_mono (G.run _ X.stack _ _ ⟨Value.ref (s1.heap.objs.size+1)::us,[]⟩ (Value.ref (s1.heap.objs.size+1)::(us ++ ds)) _ (fun v H3=>v=.non∧Q (.ref (s1.heap.objs.size+1)) H3) (fun cls _ H'=>∃ c,cls=.ref (T.xcl c)∧W c σ H') (hr.make (T.cls c) us [])
  (I2.env0.make (T.cls c) us []) (hb _ (Value.ref (s1.heap.objs.size+1)::us) I2.kIn hl) r2 ⟨by rw[r2.length];exact hl,_,_,F1,_,_,rfl,R,⟨.own,c,[],[],rfl⟩,?_⟩) fun rs s' hq'=>?_))
 ·unfold aG at q
  have e0:mapL Fl.toBor (PV.obj .own c [] []::(xs++dps))=.obj .own c [] []::mapL Fl.toBor (xs++dps):=by simp[mapL,PV.mapF,Fl.toBor]
  rw[e0]at q
  cases e:m (.obj .own c [] []::mapL Fl.toBor (xs++dps))with
  | ok v =>
   rw[e]at q
   dsimp only at q
   intro F3 H3 f3 hp3 r3 nd3 nf3 new3
   refine⟨rfl,?_⟩
   by_cases hbr:v.has Fl.isBor=true
   ·rw[if_pos hbr]at q;exact q.elim
   ·rw[if_neg hbr]at q
    have hbr':v.has Fl.isBor=false:=by simpa using hbr
    refine q _ H3 F3 f3 ⟨fun a o h=>hp3.keep a o (ext2 a o (g.ext a o h)) fun z=>(by rw[newx a z]at h;cases h),fun a h=>hp3.f0 a (g.mono a h),fun a h=>?_,hp3.ft⟩ ?_ nf3 nd3 fun a ha=>?_
    ·rcases hp3.fn a h with z | z | z
     ·exact g.only a z
     ·exact .inr (g.ext.free (free2 a z))
     ·exact .inr (newx a z)
    ·exact Rel.tr (fun _ h=>h) (fun _ h=>h) (fun _ h=>h.elim) (fun _ _ h _=>h) (fun _ _ _ h=>h) (Rel.noB (B':=Z.B) hbr' r3)
    ·rcases new3 a ha with z | z
     ·exact g.ext.free (free2 a z)
     ·exact newx a z
  | exc c' =>
   rw[e]at q
   exact fun H' h=>⟨c',rfl,q H' fun a o z=>h a o (ext2 a o (g.ext a o z)) fun z'=>by rw[newx a z']at z;cases z⟩
  | stuck=>rw[e]at q;exact q.elim
 ·cases rs with
  | error e =>
   obtain⟨cls,H',fl,c',rfl,hw⟩:=hq'
   exact hx pins σ H2 _ c' H' e s' I2 fl hw
  | ok fl =>
   cases fl with
   | ret u =>
    obtain⟨v,H',I3,rv',ev,q3⟩:=I2.after hq'
    subst ev
    exact⟨rv',⟨V.ref (s1.heap.objs.size+1),H',I3,rfl,q3⟩⟩
   | next=>exact False.elim hq'
   | brk=>exact False.elim hq'
   | cont=>exact False.elim hq'
theorem wp{k c:Nat}{f:Addr}{fd:FuncData}{ps:List Str}{m:List PV→Res PV}{x:Str}{p pos:Pos}{e:Expr}{es:List Expr}{ms:MA}{ds:List Value}{dvs:List V}{dps:List PV}{n:Nat}
  (M:Mk X.K (T.cls c) f) (hcn:c < T.nc) (G:cq X.prog X.w X.K X.mg X.base (CXP X.prog X.w) k f fd ps (spI T ps.length m)) (hr:cT (k+1) X.A) (hg:Gl X x) (hm:X.mg x=some (.ref (T.cls c))) (hb:dJ X.K fd ps ds) (hd:aH dvs ds) (hdp:∀F B L H,RelL T F B L H dps dvs []) (hx:XF X T W)
  (hn:fQ ms n) (hps:n+dvs.length+1=ps.length) (ha:SA X T W (e::es) ms)
  (hdb:(x ==("__debug__" : Str))=false:=by decide) (he:starEach (e::es) X.env=(false,eval e X.env)::starEach es X.env:=by rfl) (hpl:(backTo pos (starEach es X.env)).any (·.1)=false:=by rfl) :
  SE X T W (.Call (.Name x p) (e::es) [] pos) (ap (fun xs=>aG m (.obj .own c [] []::(xs++dps))) ms):=by
 intro pins s σ H Q I h
 obtain⟨Z,F,env,fp,S,q⟩:=h
 unfold ap at q
 refine wpAny_Call_Name_kw (iq I hg hm ?_ hdb)
 refine PySem.W.callWith_K (h₀:=X.base) I.ok.mod.kin M.kp (thn (ha pos pins s σ H (fun vs H1=>∀ us s1,L2.Inv X pins σ H1 s1→aH vs us→wpAny (model X.prog X.w) X.A (call (.ref (T.cls c)) us) (EP X pins σ Q) X.xe s1) I
  (tA.bind S (fun c e=>by rw[e]at q;exact q) (fun e=>by rw[e]at q;exact q) fun xs vs H1 F1 f1 e1 g1 r1 n1 d1 w1 us s1 I1 rv=>?_)) fun us s1 ⟨vs,H1,I1,r,q1⟩=>⟨I1.kIn,q1 us s1 I1 r⟩) he hpl
 rw[e1]at q
 exact y3 M hcn G hr hb hd hdp hx S g1 r1 n1 d1 w1 q I1 rv (by rw[← r1.length,hn env xs e1];exact hps)
theorem ar.mut{i:Nat}{pv':PV}{v:V}{a:Addr}{f':List Addr}{o':HO}(S:ar T Z F H σ env fp)(hi:i < env.length)(hv:σ[i]?=some (some v))(ha:a∈fp i)(r:Rel T F Z.B NoL (upd H a o') pv' v f')(nd:f'.Nodup)(nf:∀b∈f',¬F b)
  (new:∀b∈f',Z.H0 b=none∨Z.fp0 b) (dj:∀b∈f',∀j,j≠i→b∉fp j) (ho:i=0→b6 env=true→∃fl c ks xs,pv'=.obj fl c ks xs):ar T Z F (upd H a o') σ (env.set i (some pv')) (br fp i f'):=by
 obtain⟨oa,hoa,hch⟩:=S.ch i a ha
 have nFa:¬F a:=(S.dis i a ha).1
 have nBa:¬Z.B a:=fun z=>S.bow a z ⟨i,ha⟩
 have ne:∀b u,H b=some u→(F b∨Z.B b∨NoL b∨iu u)→b≠a:=fun b u e h z=>by
  subst z
  rcases h with h | h | h | h
  ·exact nFa h
  ·exact nBa h
  ·exact h
  ·rw[hoa]at e
   cases e
   cases oa with
   | lst _=>exact h
   | ins _ _ _=>exact h
   | _=>exact hch
 have nz:∀b u,Z.H0 b=some u→¬Z.fp0 b→b≠a:=fun b u e n z=>by
  subst z
  rcases S.new i _ ha with w | w
  ·rw[e]at w;cases w
  ·exact n w
 have nj:∀j,j≠i→∀b∈fp j,b≠a:=fun j hj b hb z=>by
  subst z
  exact S.dj j i hj _ hb ha
 refine⟨⟨S.hp.bo,fun b u e n=>by rw[aI (nz b u e n)];exact S.hp.keep b u e n,S.hp.f0,S.hp.fn,fun b h=>?_⟩,by rw[List.length_set,S.len],fun j pv e=>?_,fun j=>?_,fun j k hjk b hb=>?_,fun j b hb=>?_,fun j b hb=>?_,fun j b hb=>?_,fun w hw=>?_⟩
 ·obtain⟨u,e⟩:=S.hp.ft b h
  exact⟨u,by rw[aI (show b≠a from fun z=>nFa (by rw[← z];exact h))];exact e⟩
 ·by_cases hj:j=i
  ·subst hj
   rw[List.getElem?_set_self hi]at e
   cases e
   refine⟨v,hv,?_⟩
   unfold br
   rw[if_pos rfl]
   exact r
  ·rw[List.getElem?_set_ne (Ne.symm hj)]at e
   obtain⟨w,h1,h2⟩:=S.rel j pv e
   refine⟨w,h1,?_⟩
   unfold br
   rw[if_neg hj]
   exact Rel.tr (fun _ h=>h) (fun _ h=>h) (fun _ h=>h) (fun b u q h=>by rw[aI (ne b u q h)];exact q) (fun b hb u q=>by rw[aI (nj j hj b hb)];exact q) h2
 ·unfold br;split
  ·exact nd
  ·exact S.nd j
 ·unfold br at hb ⊢
  by_cases h1:j=i
  ·subst h1
   rw[if_pos rfl]at hb
   rw[if_neg (Ne.symm hjk)]
   exact dj b hb k (Ne.symm hjk)
  ·rw[if_neg h1]at hb
   by_cases h2:k=i
   ·subst h2
    rw[if_pos rfl]
    exact fun z=>dj b z j h1 hb
   ·rw[if_neg h2]
    exact S.dj j k hjk b hb
 ·unfold br at hb
  by_cases h1:j=i
  ·rw[if_pos h1]at hb;exact⟨nf b hb,r.there b hb⟩
  ·rw[if_neg h1]at hb
   obtain⟨n,u,e⟩:=S.dis j b hb
   exact⟨n,u,by rw[aI (nj j h1 b hb)];exact e⟩
 ·unfold br at hb
  by_cases h1:j=i
  ·rw[if_pos h1]at hb;exact new b hb
  ·rw[if_neg h1]at hb;exact S.new j b hb
 ·unfold br at hb
  by_cases h1:j=i
  ·rw[if_pos h1]at hb;exact r.chg b hb
  ·rw[if_neg h1]at hb
   obtain⟨u,e,c⟩:=S.ch j b hb
   exact⟨u,by rw[aI (nj j h1 b hb)];exact e,c⟩
 ·obtain⟨h1,h2⟩:=S.pn w hw
  refine⟨h1,?_⟩
  by_cases hi0:i=0
  ·obtain⟨fl,c,ks,xs,e⟩:=ho hi0 h2
   subst hi0 e
   unfold b6
   rw[List.getElem?_set_self hi]
  ·unfold b6 at h2 ⊢
   rw[List.getElem?_set_ne hi0]
   exact h2
def eT(i k:Nat)(e:ME):MS:=fun env=>match e env with
 | .ok v=>(match env[i]? with
  | some (some (.obj .own c ks vs))=>if v.noLnt&&!ks.contains k&&decide (ks.length < 900)then .next (env.set i (some (.obj .own c (ks++[k]) (vs++[v]))))else .stuck
  | _=>.stuck)
 | .exc c=>.exc c env
 | .stuck=>.stuck
theorem mT{k:Nat}{y:V}:∀{ks:List Nat}{ws:List V},ks.contains k=false→ks.length=ws.length→fe (T.att k) y ((ks.map T.att).zip ws)=((ks++[k]).map T.att).zip (ws++[y])
 | [],[],_,_=>rfl
 | j::ks,w::ws,h,hl=>by
  simp only[List.contains_cons,Bool.or_eq_false_iff,beq_eq_false_iff_ne]at h
  show fe (T.att k) y ((T.att j,w)::(ks.map T.att).zip ws)=(T.att j,w)::((ks++[k]).map T.att).zip (ws++[y])
  unfold fe
  rw[if_neg (fun z=>h.1 (T.inj _ _ z).symm),mT h.2 (by simpa using hl)]
 | [],_::_,_,hl=>by simp at hl
 | _::_,[],_,hl=>by simp at hl
theorem yO{i k:Nat}{x f:Str}{e:Expr}{m:ME}{pos pos' px:Pos}(hK:X.K=T.K)(hf:T.att k=f)(hc:∀c < T.nc,Cls T.K (T.cls c))(hn:∀c < T.nc,dG T.K (T.cls c) f)(hN:X.N[i]?=some x)(hv:Vis X.env.scope x)(he:SE X T W e m)
  (hs:swapsWith e (some (.Attribute (.Name x px) f pos')) pos.line X.env=pure false:=by rfl) (hd:(x ==("__debug__" : Str))=false:=by decide) (hcd:(x ==("__classdict__" : Str))=false:=by decide) :
  SS X T W (.Assign [.Attribute (.Name x px) f pos'] e pos) (eT i k m):=PS.wk (zb (pos:=pos) (pos':=pos') (cX (pos:=px) hN hv hd hcd) he hs) fun D σ H ⟨Z,F,env,fp,S,q⟩=>by
 unfold eT at q
 refine tE.bind S (fun c e H' x=>?_) (fun e=>by rw[e]at q;exact q) fun pv v H1 F1 f1 e g r h1 h2 h3=>?_
 ·rw[e]at q
  exact q F H' σ fp (S.grow (Gr.same S.hp.ft x))
 ·rw[e]at q
  dsimp only at q
  split at q
  ·rename_i c ks vs eo
   split at q
   ·rename_i hcnd
    simp only[Bool.and_eq_true,Bool.not_eq_true',decide_eq_true_eq]at hcnd
    obtain⟨⟨hln,hkn⟩,hkl⟩:=hcnd
    have S1:=S.grow g
    obtain⟨vo,ho1,ho2⟩:=S1.rel i _ eo
    have ho3:=ho2
    unfold Rel at ho3
    obtain⟨a,dx,ws,fp',rfl,hl,hk,hr,hfl,_⟩:=ho3
    have hfl':fp i=a::fp':=hfl
    have hil:i < env.length:=(List.getElem?_eq_some_iff.mp eo).1
    refine⟨_,ho1,a,_,dx,_,rfl,hl,by rw[hK];exact hc c hk.2,by rw[hK];exact hn c hk.2,?_,?_⟩
    ·have:=hr.length
     rw[List.length_zip,List.length_map]
     omega
    ·rw[← hf,mT hkn (by rw[← hr.length];exact hk.1)]
     have ha:a∈fp i:=by rw[hfl'];exact List.mem_cons_self
     have nd:(a::fp').Nodup:=by rw[← hfl'];exact S1.nd i
     have old:∀b∈f1,∀j,b∉fp j:=fun b hb j hj=>by
      obtain⟨_,o,e⟩:=S.dis j b hj
      rw[h3 b hb]at e;cases e
     have hrv:Rel T F1 Z.B NoL H1 pv v f1:=Rel.noL (by simpa[PV.noLnt]using hln) r
     have nea:∀b u,H1 b=some u→(F1 b∨Z.B b∨NoL b∨iu u)→b≠a:=fun b u e h z=>by
      subst z
      rcases h with h | h | h | h
      ·exact(S1.dis i _ ha).1 h
      ·exact S1.bow _ h ⟨i,ha⟩
      ·exact h
      ·rw[hl]at e;cases e;exact h
     refine q F1 _ σ _ (S1.mut (f':=a::(fp'++f1)) hil ho1 ha ?_ ?_ (fun b hb=>?_) (fun b hb=>?_) (fun b hb j hj=>?_) fun _ _=>⟨_,_,_,_,rfl⟩)
     ·unfold Rel
      have hrr:RelL T F1 Z.B NoL H1 (vs++[pv]) (ws++[v]) (fp'++f1):=RelL.append hr (by unfold RelL;exact⟨v,[],f1,[],rfl,hrv,by unfold RelL;exact⟨rfl,rfl⟩,by simp⟩)
      refine⟨a,dx,ws++[v],fp'++f1,rfl,bF,⟨by simp[hk.1],hk.2⟩,?_,rfl,True.intro⟩
      refine RelL.tr (fun _ h=>h) (fun _ h=>h) (fun _ h=>h) (fun b u e h=>by rw[aI (nea b u e h)];exact e) (fun b hb u e=>?_) hrr
      refine(aI fun z=>?_).trans e
      subst z
      rcases List.mem_append.mp hb with hb | hb
      ·exact(List.nodup_cons.mp nd).1 hb
      ·exact old _ hb i ha
     ·refine List.nodup_cons.mpr ⟨fun z=>?_,List.nodup_append.mpr ⟨(List.nodup_cons.mp nd).2,h2,fun b hb b' hb' z=>?_⟩⟩
      ·rcases List.mem_append.mp z with z | z
       ·exact(List.nodup_cons.mp nd).1 z
       ·exact old _ z i ha
      ·subst z
       exact old b hb' i (by rw[hfl'];exact List.mem_cons_of_mem _ hb)
     ·rcases List.mem_cons.mp hb with rfl | hb
      ·exact(S1.dis i _ ha).1
      ·rcases List.mem_append.mp hb with hb | hb
       ·exact(S1.dis i b (by rw[hfl'];exact List.mem_cons_of_mem _ hb)).1
       ·exact h1 b hb
     ·rcases List.mem_cons.mp hb with rfl | hb
      ·exact S1.new i _ ha
      ·rcases List.mem_append.mp hb with hb | hb
       ·exact S1.new i b (by rw[hfl'];exact List.mem_cons_of_mem _ hb)
       ·exact S.hp.newE h3 b hb
     ·rcases List.mem_cons.mp hb with rfl | hb
      ·exact fun z=>S1.dj i j (Ne.symm hj) _ ha z
      ·rcases List.mem_append.mp hb with hb | hb
       ·exact fun z=>S1.dj i j (Ne.symm hj) b (by rw[hfl'];exact List.mem_cons_of_mem _ hb) z
       ·exact old b hb j
   ·exact q.elim
  ·exact q.elim
end
end PR
namespace PR
open PySem PySem.Spec L2
section
variable{X:Cx}{T:Tb}{W:Nat→St→Hp→Prop}{Z:Zn}{F F1 B L:Addr→Prop}{H H1:Hp}{σ:St}{env:En}{fp:Nat→List Addr}{D:Ends}
theorem ar.mutL{i:Nat}{xs ys:List PV}{ws us:List V}{a:Addr}{v:V}{f' fp':List Addr}(S:ar T Z F H σ env fp)(eo:env[i]?=some (some (.lst .own xs)))(hv:σ[i]?=some (some (.ref a)))(hfp:fp i=a::fp')(r:RelL T F Z.B NoL H ys us f')(nd:f'.Nodup)
  (hf:∀b∈f',(b∈fp')∨(¬F b∧(Z.H0 b=none∨Z.fp0 b)∧∀j,b∉fp j)) (hl:H a=some (.lst ws)):ar T Z F (upd H a (.lst us)) σ (env.set i (some (.lst .own ys))) (br fp i (a::f')):=by
 have ha:a∈fp i:=by rw[hfp];exact List.mem_cons_self
 have ndi:(a::fp').Nodup:=by rw[← hfp];exact S.nd i
 have sub:∀b∈fp',b∈fp i:=fun b hb=>by rw[hfp];exact List.mem_cons_of_mem _ hb
 have na:∀b∈f',b≠a:=fun b hb z=>by
  subst z
  rcases hf _ hb with h | h
  ·exact(List.nodup_cons.mp ndi).1 h
  ·exact h.2.2 i ha
 have hil:i < env.length:=(List.getElem?_eq_some_iff.mp eo).1
 have nea:∀b u,H b=some u→(F b∨Z.B b∨NoL b∨iu u)→b≠a:=fun b u e h z=>by
  subst z
  rcases h with h | h | h | h
  ·exact(S.dis i _ ha).1 h
  ·exact S.bow _ h ⟨i,ha⟩
  ·exact h
  ·rw[hl]at e;cases e;exact h
 refine S.mut hil hv ha ?_ (List.nodup_cons.mpr ⟨fun z=>na a z rfl,nd⟩) (fun b hb=>?_) (fun b hb=>?_) (fun b hb j hj=>?_) fun h0 h1=>?_
 ·unfold Rel
  exact⟨a,us,f',rfl,bF,RelL.tr (fun _ h=>h) (fun _ h=>h) (fun _ h=>h) (fun b u e h=>by rw[aI (nea b u e h)];exact e) (fun b hb u e=>by rw[aI (na b hb)];exact e) r,rfl⟩
 ·rcases List.mem_cons.mp hb with rfl | hb
  ·exact(S.dis i _ ha).1
  ·rcases hf b hb with h | h
   ·exact(S.dis i b (sub b h)).1
   ·exact h.1
 ·rcases List.mem_cons.mp hb with rfl | hb
  ·exact S.new i _ ha
  ·rcases hf b hb with h | h
   ·exact S.new i b (sub b h)
   ·exact h.2.1
 ·rcases List.mem_cons.mp hb with rfl | hb
  ·exact fun z=>S.dj i j (Ne.symm hj) _ ha z
  ·rcases hf b hb with h | h
   ·exact fun z=>S.dj i j (Ne.symm hj) b (sub b h) z
   ·exact h.2.2 j
 ·subst h0
  unfold b6 at h1
  rw[eo]at h1
  cases h1
theorem ar.lst{i:Nat}{xs:List PV}(S:ar T Z F H σ env fp)(eo:env[i]?=some (some (.lst .own xs))):∃a ws fp',σ[i]?=some (some (.ref a))∧H a=some (.lst ws)∧RelL T F Z.B NoL H xs ws fp'∧fp i=a::fp':=by
 obtain⟨v,h1,h2⟩:=S.rel i _ eo
 unfold Rel at h2
 obtain⟨a,ws,fp',rfl,hl,hr,hf⟩:=h2
 exact⟨a,ws,fp',h1,hl,hr,hf⟩
theorem ar.beside{f1:List Addr}(S:ar T Z F H σ env fp)(g:Gr F H F1 H1)(h1:∀ a ∈ f1,¬ F1 a)(h3:∀ a ∈ f1,H a=none):∀ b ∈ f1,¬ F1 b∧(Z.H0 b=none ∨ Z.fp0 b)∧∀ j,b ∉ fp j:=fun b hb=>⟨h1 b hb,S.hp.newE h3 b hb,fun j hj=>by
 obtain⟨_,o,e⟩:=S.dis j b hj
 rw[h3 b hb]at e;cases e⟩
def cM(i:Nat)(e:ME):MS:=fun env=>match e env with
 | .ok v=>(match env[i]? with
  | some (some (.lst .own xs))=>if v.noLnt&&decide (xs.length < 10000000)then .next (env.set i (some (.lst .own (xs++[v]))))else .stuck
  | _=>.stuck)
 | .exc c=>(match env[i]? with
  | some (some (.lst .own _))=>.exc c env
  | _=>.stuck)
 | .stuck=>.stuck
theorem qD{i:Nat}{x:Str}{e:Expr}{m:ME}{pos px apos cpos:Pos}(hK:X.K=T.K)(hN:X.N[i]?=some x)(hv:Vis X.env.scope x)(he:SE X T W e m)
  (hs:swapsWith (.Call (.Attribute (.Name x px) "append" apos) [e] [] cpos) none pos.line X.env=pure false:=by rfl) (hst:starEach [e] X.env=[(false,eval e X.env)]:=by rfl)
  (hfew:((backTo cpos (starEach [e] X.env)).all (fun x=>!x.1)&&(backToKw cpos (keywordEach [] X.env)).all (fun x=>x.1.isSome)&&decide ([e].length+([]:List Keyword).length+(if([]:List Keyword).isEmpty then 0 else 1) < 30))=true:=by rfl)
  (hline:(apos.endLine==cpos.line)=true:=by rfl) (hd:(x ==("__debug__" : Str))=false:=by decide) (hcd:(x ==("__classdict__" : Str))=false:=by decide) :
  SS X T W (.Expr (.Call (.Attribute (.Name x px) "append" apos) [e] [] cpos) pos) (cM i m) :=
 PS.wk (gv (pos:=pos) (tP (cpos:=cpos) (apos:=apos) PySem.F.plainAttrs_list PySem.F.slot_list_append PySem.F.type_list_append iK (cX (pos:=px) hN hv hd hcd) (aa he ag hst) rfl hfew hline hst) hs) fun D σ H ⟨Z,F,env,fp,S,q⟩=>by
  unfold cM at q
  cases em:m env with
  | stuck=>rw[em]at q;exact q.elim
  | exc c =>
   rw[em]at q
   dsimp only at q
   split at q
   ·rename_i xs eo
    obtain⟨a,ws,fp',h1,hl,hr,hf⟩:=S.lst eo
    refine⟨_,h1,.inl ⟨rfl,ws,by rw[hK];exact SqL.of hl⟩,Z,F,env,fp,S,?_⟩
    unfold ae
    rw[em]
    exact fun H' x=>q F H' σ fp (S.grow (Gr.same S.hp.ft x))
   ·exact q.elim
  | ok v =>
   rw[em]at q
   dsimp only at q
   split at q
   ·rename_i xs eo
    split at q
    ·rename_i hc
     simp only[Bool.and_eq_true,decide_eq_true_eq]at hc
     obtain⟨a,ws,fp',h1,hl,hr,hf⟩:=S.lst eo
     refine⟨_,h1,.inl ⟨rfl,ws,by rw[hK];exact SqL.of hl⟩,Z,F,env,fp,S,?_⟩
     unfold ae am
     rw[em]
     intro vs H1 F1 f1 g r n1 d1 w1
     obtain⟨u,rfl,ru⟩:=r.one
     have S1:=S.grow g
     have hl1:=g.ext a _ hl
     refine⟨a,ws,u,rfl,rfl,hl1,?_,?_⟩
     ·rw[← hr.length,sizeLine_eq];omega
     ·have rone:RelL T F1 Z.B NoL H1 [v] [u] f1:=by unfold RelL;exact⟨u,[],f1,[],rfl,Rel.noL (by simpa[PV.noLnt]using hc.1) ru,by unfold RelL;exact⟨rfl,rfl⟩,by simp⟩
      refine q F1 _ σ _ (S1.mutL (v:=u) eo h1 hf (RelL.append (hr.ext g.ext g.mono) rone) ?_ (fun b hb=>?_) hl1)
      ·have ndi:(a::fp').Nodup:=by rw[← hf];exact S.nd i
       refine List.nodup_append.mpr ⟨(List.nodup_cons.mp ndi).2,d1,fun b hb b' hb' z=>?_⟩
       subst z
       exact(S.beside g n1 w1 b hb').2.2 i (by rw[hf];exact List.mem_cons_of_mem _ hb)
      ·rcases List.mem_append.mp hb with hb | hb
       ·exact .inl hb
       ·exact .inr (S.beside g n1 w1 b hb)
    ·exact q.elim
   ·exact q.elim
def uo(i:Nat):MS:=fun env=>match env[i]? with
 | some (some (.lst .own _))=>.next (env.set i (some (.lst .own [])))
 | _=>.stuck
theorem B0{i:Nat}{x:Str}{pos px apos cpos:Pos}(hK:X.K=T.K)(hN:X.N[i]?=some x)(hv:Vis X.env.scope x)
  (hs:swapsWith (.Call (.Attribute (.Name x px) "clear" apos) [] [] cpos) none pos.line X.env=pure false:=by rfl) (hline:(apos.endLine==cpos.line)=true:=by rfl) (hd:(x ==("__debug__" : Str))=false:=by decide) (hcd:(x ==("__classdict__" : Str))=false:=by decide) :
  SS X T W (.Expr (.Call (.Attribute (.Name x px) "clear" apos) [] [] cpos) pos) (uo i) :=
 PS.wk (gv (pos:=pos) (zm (cpos:=cpos) (apos:=apos) PySem.F.plainAttrs_list PySem.F.slot_list_clear PySem.F.type_list_clear ub (cX (pos:=px) hN hv hd hcd) rfl hline) hs) fun D σ H ⟨Z,F,env,fp,S,q⟩=>by
  unfold uo at q
  split at q
  ·rename_i xs eo
   obtain⟨a,ws,fp',h1,hl,hr,hf⟩:=S.lst eo
   refine⟨_,h1,.inl ⟨rfl,ws,by rw[hK];exact SqL.of hl⟩,a,ws,rfl,rfl,hl,?_⟩
   exact q F _ σ _ (S.mutL (v:=.non) (f':=[]) eo h1 hf (by unfold RelL;exact⟨rfl,rfl⟩) List.nodup_nil (fun _ z=>(nomatch z)) hl)
  ·exact q.elim
def gU(i:Nat)(k e:ME):MS:=fun env=>match e env with
 | .ok v=>(match env[i]? with
  | some (some (.lst .own xs))=>(match k env with
   | .ok (.int j)=>(match ixN xs.length j with
    | some n=>if v.noLnt then .next (env.set i (some (.lst .own (xs.set n v))))else .stuck
    | none=>.stuck)
   | _=>.stuck)
  | _=>.stuck)
 | .exc c=>.exc c env
 | .stuck=>.stuck
theorem RelL.set{y:PV}{w:V}{g:List Addr}(ry:Rel T F B L H y w g):∀{xs:List PV}{vs:List V}{f:List Addr} (n:Nat),RelL T F B L H xs vs f→(f++g).Nodup→∃f',RelL T F B L H (xs.set n y) (vs.set n w) f'∧f'.Nodup∧∀b∈f',b∈f∨b∈g
 | [],vs,f,n,h,nd=>by unfold RelL at h;obtain⟨rfl,rfl⟩:=h;exact⟨[],by simp[RelL],List.nodup_nil,fun _ z=>(nomatch z)⟩
 | x::xs,_,_,0,h,nd=>by
  unfold RelL at h
  obtain⟨v,ws,f1,f2,rfl,h1,h2,rfl⟩:=h
  obtain⟨n1,n2,n3⟩:=List.nodup_append.mp nd
  obtain⟨m1,m2,m3⟩:=List.nodup_append.mp n1
  refine⟨g++f2,?_,List.nodup_append.mpr ⟨n2,m2,fun a ha b hb z=>n3 b (List.mem_append_right _ hb) a ha z.symm⟩,fun b hb=>?_⟩
  ·rw[List.set_cons_zero,List.set_cons_zero]
   unfold RelL
   exact⟨w,ws,g,f2,rfl,ry,h2,rfl⟩
  ·rcases List.mem_append.mp hb with hb | hb
   ·exact .inr hb
   ·exact .inl (List.mem_append_right _ hb)
 | x::xs,_,_,n+1,h,nd=>by
  unfold RelL at h
  obtain⟨v,ws,f1,f2,rfl,h1,h2,rfl⟩:=h
  obtain⟨n1,n2,n3⟩:=List.nodup_append.mp nd
  obtain⟨m1,m2,m3⟩:=List.nodup_append.mp n1
  obtain⟨f',r,d,s⟩:=RelL.set ry n h2 (List.nodup_append.mpr ⟨m2,n2,fun a ha b hb=>n3 a (List.mem_append_right _ ha) b hb⟩)
  refine⟨f1++f',?_,List.nodup_append.mpr ⟨m1,d,fun a ha b hb z=>?_⟩,fun b hb=>?_⟩
  ·rw[List.set_cons_succ,List.set_cons_succ]
   unfold RelL
   exact⟨v,_,f1,f',rfl,h1,r,rfl⟩
  ·rcases s b hb with h | h
   ·exact m3 a ha b h z
   ·exact n3 a (List.mem_append_left _ ha) b h z
  ·rcases List.mem_append.mp hb with hb | hb
   ·exact .inl (List.mem_append_left _ hb)
   ·rcases s b hb with h | h
    ·exact .inl (List.mem_append_right _ h)
    ·exact .inr h
theorem mI{i:Nat}{x:Str}{k e:Expr}{mk me:ME}{pos px tpos:Pos}(hN:X.N[i]?=some x)(hv:Vis X.env.scope x)(hk:SE X T W k mk)(he:SE X T W e me)
  (ha:∀ v,assign (.Subscript (.Name x px) k tpos) X.env v=(do
   let ov ← holding [v] (eval (.Name x px) X.env)
   let iv ← holding [v,ov] (eval k X.env)
   standAt tpos
   holding [v,ov,iv] (setItem ov iv v)
   release [v,ov,iv] []):=by intro _;rfl)
  (hs:swapsWithSole [.Subscript (.Name x px) k tpos] e pos.line X.env=pure false:=by rfl) (hw:swappedStores [.Subscript (.Name x px) k tpos] e X.env=pure none:=by rfl)
  (h1:(assignEach [.Subscript (.Name x px) k tpos] X.env).map (·.2)=[assign (.Subscript (.Name x px) k tpos) X.env]:=by rfl) (hd:(x ==("__debug__" : Str))=false:=by decide) (hcd:(x ==("__classdict__" : Str))=false:=by decide) :
  SS X T W (.Assign [.Subscript (.Name x px) k tpos] e pos) (gU i mk me) :=
 PS.wk (zc (pos:=pos) he (zg (pos:=tpos) (cX (pos:=px) hN hv hd hcd) hk sJ ha) hs hw h1) fun D σ H ⟨Z,F,env,fp,S,q⟩=>by
  unfold gU at q
  refine tE.bind S (fun c e H' x=>?_) (fun e=>by rw[e]at q;exact q) fun pv v H1 F1 f1 e g r n1 d1 w1=>?_
  ·rw[e]at q
   exact q F H' σ fp (S.grow (Gr.same S.hp.ft x))
  ·rw[e]at q
   dsimp only at q
   split at q
   ·rename_i xs eo
    have S1:=S.grow g
    obtain⟨a,ws,fp',h1,hl,hr,hf⟩:=S1.lst eo
    cases ek:mk env with
    | stuck=>rw[ek]at q;exact q.elim
    | exc c=>rw[ek]at q;exact q.elim
    | ok kv =>
     rw[ek]at q
     refine⟨_,h1,Z,F1,env,fp,S1,?_⟩
     rw[ek]
     intro u H2 F2 f2 g2 r2 _ _ _
     cases kv with
     | int j =>
      dsimp only at q
      unfold Rel at r2
      obtain⟨rfl,_⟩:=r2
      cases en:ixN xs.length j with
      | none=>rw[en]at q;exact q.elim
      | some n =>
       rw[en]at q
       dsimp only at q
       split at q
       ·rename_i hln
        have S2:=S1.grow g2
        have hr2:=hr.ext g2.ext g2.mono
        have ndi:(a::fp').Nodup:=by rw[← hf];exact S.nd i
        have g12:=g.trans g2
        have nn:∀b∈f1,¬F2 b:=fun b hb z=>by
         rcases g2.only b z with z | z
         ·exact n1 b hb z
         ·obtain⟨o,ho⟩:=r.there b hb
          rw[ho]at z;cases z
        obtain ⟨f',r',nd',sub'⟩:=RelL.set (T:=T) (Rel.noL (L':=NoL) (by simpa [PV.noLnt] using hln) (r.ext g2.ext g2.mono)) n hr2 (List.nodup_append.mpr ⟨(List.nodup_cons.mp ndi).2,d1,fun b hb b' hb' z=>by
         subst z
         exact(S.beside g12 nn w1 b hb').2.2 i (by rw[hf];exact List.mem_cons_of_mem _ hb)⟩)
        refine⟨a,ws,j,n,rfl,rfl,g2.ext a _ hl,by rw[← hr.length];exact en,?_⟩
        refine q F2 _ σ _ (S2.mutL (v:=v) eo h1 hf r' nd' (fun b hb=>?_) (g2.ext a _ hl))
        rcases sub' b hb with h | h
        ·exact .inl h
        ·exact .inr (S.beside g12 nn w1 b h)
       ·exact q.elim
     | _=>exact q.elim
   ·exact q.elim
end
end PR
namespace PR
open PySem PySem.Spec L2
def xi(i:Nat):Str:=⟨#[1114112+i]⟩
def iE(l:List Str)(i:Nat):Str:=match l[i]? with
 | some x=>x
 | none=>xi i
def iJ(x:Str):Bool:=x.cps.all fun c=>decide (c < 1114112)
theorem eG(i:Nat):iJ (xi i)=false:=by
 simp[iJ,xi]
theorem sg{l:List Str}(nd:l.Nodup)(h:l.all iJ=true)(i j:Nat)(e:iE l i=iE l j):i=j:=by
 have pl:∀(i:Nat) x,l[i]?=some x→iJ x=true:=fun i x hx=>List.all_eq_true.mp h x (List.mem_of_getElem? hx)
 unfold iE at e
 cases ei:l[i]? with
 | some x =>
  cases ej:l[j]? with
  | some y =>
   rw[ei,ej]at e
   dsimp only at e
   subst e
   obtain⟨h1,e1⟩:=List.getElem?_eq_some_iff.mp ei
   obtain⟨h2,e2⟩:=List.getElem?_eq_some_iff.mp ej
   exact(List.getElem_inj nd).mp (e1.trans e2.symm)
  | none =>
   rw[ei,ej]at e
   dsimp only at e
   have:=pl i x ei
   rw[e,eG]at this
   cases this
 | none =>
  cases ej:l[j]? with
  | some y =>
   rw[ei,ej]at e
   dsimp only at e
   have:=pl j y ej
   rw[← e,eG]at this
   cases this
  | none =>
   rw[ei,ej]at e
   dsimp only at e
   simpa[xi]using e
theorem vW{l:List Str}{m:Str}(hp:iJ m=true)(hm:m∉l)(k:Nat):iE l k≠m:=by
 unfold iE
 cases e:l[k]? with
 | some x=>exact fun z=>hm (z▸List.mem_of_getElem? e)
 | none =>
  intro z
  dsimp only at z
  rw[← z,eG]at hp
  cases hp
structure Ctx(X:Cx)(T:Tb)(W:Nat→St→Hp→Prop)(k:Nat):Prop where
 hK:X.K=T.K
 calm:X.calm=true
 room:cT k X.A
 xf:XF X T W
 po:PassesOwn (model X.prog X.w) X.A X.env X.xe
theorem Ctx.hu{X:Cx}{T:Tb}{W:Nat→St→Hp→Prop}{k:Nat}(c:Ctx X T W k):X.A.units+64 < cLine:=c.room.units
theorem Ctx.hu2{X:Cx}{T:Tb}{W:Nat→St→Hp→Prop}{k:Nat}(c:Ctx X T W k):X.A.units+66 < cLine:=by
 have:=c.room.un
 omega
theorem qt{P:Program}{w:World}{mg:Str→Option Value}{base:Heap}{N:List Str}{qual:Str}{scope:Scope}{f:Addr}{cd:Value}{A:Around}{outer:List Env}{s:Shared}{H:Hp}{E:XK}{T:Tb}{k:Nat}
  (hr:cT k (A.deeper (PyProof.Rows.envOfC qual scope s.heap.objs.size f cd))):Ctx (dO (CXP P w) P w T.K mg base N qual scope f cd A outer s H E) T (WD T E) k:=⟨rfl,rfl,hr,yG,PassesOwn.leaving⟩
theorem Ctx.comp{X:Cx}{T:Tb}{W:Nat→St→Hp→Prop}{k:Nat}(c:Ctx X T W k){scope:Scope}{C:Addr}{N:List Str}{s:Shared}{H:Hp}{ex:List Addr}:Ctx (cxC X scope C N s H ex) T WF k:=⟨c.hK,c.calm,c.room,fun _ _ _ _ _ _ _ _ _ _ h=>h.elim,PassesOwn.never⟩
def jQ(scD scope:Scope)(NX:List Str)(caps:List Nat)(N tn:List Str):Bool :=
 decide (scope.kind=.function)&&scope.names.all (fun y=>decide (y.2=.cell→scope.names.lookup y.1=some .cell))&&scope.names.all (fun y=>decide (y.2=.local→scope.names.lookup y.1=some .local)) &&
 scope.names.all (fun y=>decide (y.2=.free→scD.names.lookup y.1=some .cell∨scD.names.lookup y.1=some .free))&&decide (N=caps.map (fun i=>NX.getD i "")++ tn)&&caps.all (fun i=>decide (i < NX.length)) &&
 caps.all (fun i=>match NX[i]? with | some x=>decide ((x,NameKind.free)∈ scope.names∧scope.names.lookup x=some .free) | none=>false)&&decide N.Nodup
theorem x9{X:Cx}{scD scope:Scope}{NX:List Str}{caps:List Nat}{N tn:List Str}(h:jQ scD scope NX caps N tn=true)(hs:X.env.scope=scD)(hN:X.N=NX):dg X scope caps N tn:=by
 simp only[jQ,Bool.and_eq_true,decide_eq_true_eq,List.all_eq_true]at h
 obtain⟨⟨⟨⟨⟨⟨⟨h1,h2⟩,h3⟩,h4⟩,h5⟩,h6⟩,h7⟩,h9⟩:=h
 subst hs hN
 refine⟨h1,h2,h3,h4,h5,h6,fun i hi x hx=>?_,h9⟩
 have:=h7 i hi
 rw[hx]at this
 simpa using this
section
variable{X:Cx}{T:Tb}{W:Nat→St→Hp→Prop}
theorem sv(i:Nat){x:Str}{pos:Pos}(hN:X.N[i]?=some x:=by rfl)(hv:Vis X.env.scope x:=by first | exact Or.inl rfl | exact Or.inr (Or.inl rfl) | exact Or.inr (Or.inr rfl))(hd:(x ==("__debug__" : Str))=false:=by decide)
  (hcd:(x ==("__classdict__" : Str))=false:=by decide):SE X T W (.Name x pos) (ac i):=yQ hN hv hd hcd
def tyP:PV→String
 | .non => "NoneType"
 | .bl _ => "bool"
 | .int _ => "int"
 | .str _ => "str"
 | .lst _ _ => "list"
 | .tup _ => "tuple"
 | _ => ""
def j4(t c:String):Bool:=t==c ||(t=="bool"&&c=="int")
def m6(c:String):PV→Res PV:=fun x=>if tyP x = "" then .stuck else .ok (.bl (j4 (tyP x) c))
def sB(m:ME)(c:String):ME:=fun env=>(m env).bind (m6 c)
def yh(K:PySem.W.Frag)(c:String):Prop:=∀t∈["NoneType", "bool", "int", "str", "list", "tuple"],PySem.W.kitOne K (.type t) (.type c)=some (j4 t c)
theorem xD{pins:List (Addr×Obj)}{σ:St}{H:Hp}{s:Shared}{F B L:Addr→Prop}{x:PV}{v:V}{u:Value}{f:List Addr}{c:String}{Q:Value→Shared→Prop}{A:Around}{E:Value→Shared→Prop}(hK:X.K=T.K)(hc:yh T.K c)(I:L2.Inv X pins σ H s)(r:Rel T F B L H x v f)(ru:bg v u)(hx:tyP x≠"")
  (h:∀tk,Q (.bool (j4 (tyP x) c)) { s with toks:=tk }):wpAny (model X.prog X.w) A (call (.builtin "isinstance") [u,.type c]) Q E s:=by
 have kin:T.K.In s.heap:=by rw[← hK];exact I.kIn
 cases x with
 | non=>unfold Rel at r;obtain⟨rfl,_⟩:=r;cases ru;exact PySem.W.kia_one PySem.W.kitx_none kin True.intro (hc _ (by simp)) (fun z=>nomatch z) h
 | bl b=>unfold Rel at r;obtain⟨rfl,_⟩:=r;cases ru;exact PySem.W.kia_one PySem.W.kitx_bool kin True.intro (hc _ (by simp)) (fun z=>nomatch z) h
 | int i=>unfold Rel at r;obtain⟨rfl,_⟩:=r;obtain⟨t,rfl⟩:=ru;exact PySem.W.kia_one PySem.W.kitx_int kin True.intro (hc _ (by simp)) (fun z=>nomatch z) h
 | str i=>unfold Rel at r;obtain⟨rfl,_⟩:=r;obtain⟨t,rfl⟩:=ru;exact PySem.W.kia_one PySem.W.kitx_str kin True.intro (hc _ (by simp)) (fun z=>nomatch z) h
 | lst f xs =>
  unfold Rel at r
  obtain⟨a,vs,fp',rfl,hl,hr,_⟩:=r
  cases ru
  obtain⟨its,_,⟨o,n,ho,hcl,_,_⟩,_⟩:=I.list (by rw[hK];exact hl.sq)
  exact PySem.W.kia_one PySem.W.kitx_list kin ⟨_,ho,hcl⟩ (hc _ (by simp)) (fun z=>nomatch z) h
 | tup xs =>
  unfold Rel at r
  obtain⟨a,vs,rfl,hl,hr⟩:=r
  cases ru
  obtain⟨its,_,⟨o,ho,hcl,_⟩,_⟩:=I.tuple (by rw[hK];exact hl)
  exact PySem.W.kia_one PySem.W.kitx_tuple kin ⟨_,ho,hcl⟩ (hc _ (by simp)) (fun z=>nomatch z) h
 | obj f c ks xs=>exact absurd rfl hx
 | exc c=>exact absurd rfl hx
theorem sM{e:Expr}{m:ME}{c:String}{cn:Str}{p pc pos:Pos}(hK:X.K=T.K)(hc:yh T.K c)(hg:Gl X "isinstance")(hm:X.mg "isinstance" = none)(hb:bootBuiltins "isinstance" = some (.builtin "isinstance"))(hgc:Gl X cn)(hmc:X.mg cn=none)(hvc:bootBuiltins cn=some (.type c))(he:SE X T W e m)
  (hcn:cn≠"__name__" := by decide) (hcd:(cn ==("__debug__" : Str))=false:=by decide) (hst:starEach [e,.Name cn pc] X.env=[(false,eval e X.env),(false,eval (.Name cn pc) X.env)]:=by rfl)
  (hst2:starEach [.Name cn pc] X.env=[(false,eval (.Name cn pc) X.env)]:=by rfl):SE X T W (.Call (.Name "isinstance" p) [e,.Name cn pc] [] pos) (sB m c):=by
 have ht:PE X (.Name cn pc) (tC (.ty c)):=wY hgc hmc hvc rfl hcn hcd
 have hcall:cW X (.builtin "isinstance") (fun vs H Q=>∃v x F B L f,vs=[v,.ty c]∧Rel T F B L H x v f∧tyP x≠"" ∧ Q (.bl (j4 (tyP x) c)) H):=by
  intro pins s σ H vs us Q I rv h
  obtain⟨v,x,F,B,L,f,rfl,r,hx,q⟩:=h
  cases rv with
  | cons r1 r2 =>
   cases r2 with
   | cons r3 r4 =>
    cases r4
    cases r3
    exact xD hK hc I r r1 hx fun tk=>⟨.bl _,H,I.tok tk,rfl,q⟩
 have hargs:PA X [e,.Name cn pc] (ph (tE T W m) (ph (tC (.ty c)) yK)):=cK he (cK ht f7 hst2) (by rw[hst,hst2])
 refine PE.wk (jC (pos:=pos) (p:=p) hcall hg hm hb hargs (he:=by rw[hst,hst2]) (hpl:=by rw[hst2];rfl)) fun σ H Q ⟨Z,F,env,fp,S,q⟩=>?_
 unfold sB at q
 refine tE.bind S (fun c e=>by rw[e]at q;exact q) (fun e=>by rw[e]at q;exact q) fun x v H1 F1 f1 e1 g1 r1 n1 d1 w1=>?_
 rw[e1]at q
 simp only[Res.ok_bind,m6]at q
 by_cases hx:tyP x = ""
 ·rw[if_pos hx]at q;exact q.elim
 ·rw[if_neg hx]at q
  exact⟨v,x,F1,Z.B,Own fp,f1,rfl,r1,hx,q.scal g1 ib⟩
def uq(f g:PV→PV→Res PV)(a b c:ME):ME:=fun env=>(a env).bind fun x=>(b env).bind fun y=>(f x y).bind fun
 | .bl true=>(c env).bind fun z=>g y z
 | .bl false=>.ok (.bl false)
 | _=>.stuck
end
theorem sN{X:Cx}{T:Tb}{W:Nat→St→Hp→Prop}{x:Str}{i:Int}{t:Tok}{pos:Pos}(hg:Gl X x)(hm:X.mg x=some (.int i t))(hd:(x ==("__debug__" : Str))=false:=by decide):SE X T W (.Name x pos) (mC (.int i)) :=
 jq (v:=.int i) (wW hg hm ⟨t,rfl⟩ hd) fun _ _ _ _=>eE
end PR
namespace PR
open PySem PySem.Spec
structure EE(K:PySem.W.Frag)(C:Addr):Prop where
 ga:PySem.W.findIn K (.ref C) "__getattribute__" = some (some (.builtin "BaseException.__getattribute__"))
 gt:PySem.W.findIn K (.ref C) "__getattr__" = some none
 ca:PySem.W.findIn K (.ref C) "__class__" = some (some (.builtin "object.__class__"))
 sb:PySem.W.mroIn K C (.type "BaseException")=some true
 so:PySem.W.mroIn K C (.type "object")=some true
 cl:(PySem.W.clsIn K C).isSome=true
section
variable{prog:Program}{w:World}{A:Around}{E:Value→Shared→Prop}{h:Heap}{g:Array GenState}{d:Drawn}{t:Nat}{os:OsState}{a C:Addr}{o:Obj}{K:PySem.W.Frag}
end
end PR
namespace L2
open PySem PySem.Spec PyProof.Rows
section
variable{X:Cx}{pins pins':List (Addr×Obj)}{σ:St}{H H':Hp}{s:Shared}{E:Value→Shared→Prop}{e:Value}
end
end L2
namespace PR
open PySem PySem.Spec L2
section
variable{X:Cx}{T:Tb}{W:Nat→St→Hp→Prop}{pins:List (Addr×Obj)}{σ:St}{H H':Hp}{s s':Shared}
end
end PR
namespace PR
open PySem PySem.Spec L2
section
variable{X:Cx}{T:Tb}{W:Nat→St→Hp→Prop}{Z:Zn}{F:Addr→Prop}{H:Hp}{σ:St}{env:En}{fp:Nat→List Addr}
end
end PR
namespace PR
open PySem PySem.Spec L2
section
variable{X:Cx}{T:Tb}{W:Nat→St→Hp→Prop}
end
end PR
namespace PR
open PySem PySem.Spec L2
theorem fW{T:Tb}(F B L:Addr→Prop)(H:Hp):RelL T F B L H [] [] []:=by unfold RelL;exact⟨rfl,rfl⟩
def bV(disp:Nat→Option (List PV→Res PV))(o:ME)(ms:MA):ME:=fun env=>(o env).bind fun ov=>match ov with
 | .obj _ c _ _=>match disp c with
  | some m=>(ms env).bind fun xs=>aG m (ov::xs)
  | none=>.stuck
 | _=>.stuck
theorem xy(disp:Nat→Option (List PV→Res PV))(o:ME)(ms:MA):pX disp [] o ms=bV disp o ms:=by
 funext env
 unfold pX bV
 congr 1
 funext ov
 cases ov with
 | obj f c ks vs=>simp only[List.append_nil,List.cons_append]<;>rfl
 | _=>rfl
def gW(c:Nat)(m:List PV→Res PV)(ms:MA):ME:=ap (fun xs=>aG m (.obj .own c [] []::xs)) ms
section
variable{X:Cx}{T:Tb}{W:Nat→St→Hp→Prop}
theorem sO{k kk n:Nat}{f:Addr}{fd:FuncData}{ps:List Str}{m:List PV→Res PV}{x:Str}{p pos:Pos}{e:Expr}{es:List Expr}{ms:MA}
  (G:cq X.prog X.w X.K X.mg X.base (CXP X.prog X.w) k f fd ps (spM T ps.length m)) (cx:Ctx X T W kk) (hk:k≤kk) (hg:Gl X x) (hm:X.mg x=some (.ref f)) (hkp:PySem.W.keepIn X.K (.ref f)=true) (hb:dJ X.K fd ps [])
  (hn:fQ ms n) (hps:n=ps.length) (ha:SA X T W (e::es) ms)
  (hdb:(x ==("__debug__" : Str))=false:=by decide) (he:starEach (e::es) X.env=(false,eval e X.env)::starEach es X.env:=by rfl) (hpl:(backTo pos (starEach es X.env)).any (·.1)=false:=by rfl) :
  SE X T W (.Call (.Name x p) (e::es) [] pos) (ap (aG m) ms):=by
 have h:=wt (dvs:=[]) (dps:=[]) (p:=p) (pos:=pos) G (cx.room.mono hk) hg hm hkp hb .nil fW cx.xf (fun env xs q=>by rw[hn env xs q];exact hps) ha hdb he hpl
 simpa using h
theorem yV{k kk n:Nat}{mn:Str}{ps:List Str}{disp:Nat→Option (List PV→Res PV)}{o e:Expr}{es:List Expr}{mo:ME}{ms:MA}{apos pos:Pos}{pl:Sem Bool}
  (cx:Ctx X T W kk) (hc:∀c < T.nc,Cls T.K (T.cls c)) (hm:∀k,T.att k≠mn) (D:fH X T k mn ps [] disp) (hk:k≤kk)
  (hn:fQ ms n) (hps:n+1=ps.length) (ho:SE X T W o mo) (ha:SA X T W (e::es) ms)
  (hst:starEach (e::es) X.env=(false,eval e X.env)::starEach es X.env:=by rfl) (hpl:(backTo pos (starEach es X.env)).any (·.1)=false:=by rfl)
  (ht:eval (.Call (.Attribute o mn apos) (e::es) [] pos) X.env=(do
   let ov ← eval o X.env
   standAt apos.atName
   let(f,first) ← holding [ov] (getMethod ov mn pl)
   callWith pos f first (backTo pos (starEach (e::es) X.env)) (backToKw pos (keywordEach [] X.env))):=by rfl) :
  SE X T W (.Call (.Attribute o mn apos) (e::es) [] pos) (bV disp mo ms):=by
 rw[← xy]
 exact wn (pl:=pl) (dvs:=[]) (dps:=[]) cx.hK hc hm D (cx.room.mono hk) .nil fW cx.xf (fun env xs q=>by rw[hn env xs q];exact hps) ho ha hst hpl ht
theorem yU{k kk c n:Nat}{f:Addr}{fd:FuncData}{ps:List Str}{m:List PV→Res PV}{x:Str}{p pos:Pos}{e:Expr}{es:List Expr}{ms:MA}
  (M:Mk X.K (T.cls c) f) (hcn:c < T.nc) (G:cq X.prog X.w X.K X.mg X.base (CXP X.prog X.w) k f fd ps (spI T ps.length m)) (cx:Ctx X T W kk) (hk:k+1≤kk) (hg:Gl X x) (hm:X.mg x=some (.ref (T.cls c))) (hb:dJ X.K fd ps [])
  (hn:fQ ms n) (hps:n+1=ps.length) (ha:SA X T W (e::es) ms)
  (hdb:(x ==("__debug__" : Str))=false:=by decide) (he:starEach (e::es) X.env=(false,eval e X.env)::starEach es X.env:=by rfl) (hpl:(backTo pos (starEach es X.env)).any (·.1)=false:=by rfl) :
  SE X T W (.Call (.Name x p) (e::es) [] pos) (gW c m ms):=by
 have h:=wp (dvs:=[]) (dps:=[]) (p:=p) (pos:=pos) M hcn G (cx.room.mono hk) hg hm hb .nil fW cx.xf hn hps ha hdb he hpl
 unfold gW
 simpa using h
end
theorem xL{K:PySem.W.Frag}{h:Heap}{C:Addr}(X:K.In h)(q:PySem.W.excIn K C [.type "ValueError", .type "Exception", .type "BaseException", .type "object"] "ValueError.__new__" = true) :
  ∃bm N nm q bs hdct sn sub ab col dd k0 k1 k2 k3 k5 mN,h.get? C=some (excClassObj nm q C N bs bm hdct sn sub ab col dd k0 k1 k2 k3 k5 "ValueError.__new__")∧h.Ns N mN∧mN "__init__" = none ∧
   OwnTail h [.type "ValueError", .type "Exception", .type "BaseException", .type "object"] bm:=by
 unfold PySem.W.excIn at q
 split at q
 ·rename_i dd cd sl ho
  split at q
  ·rename_i C' bm k0 k1 k2 k3 n k5 hm hs
   simp only[Bool.and_eq_true,beq_iff_eq,Bool.not_eq_true']at q
   obtain⟨⟨⟨⟨⟨rfl,rfl⟩,hdel⟩,ht⟩,hok⟩,hni⟩:=q
   cases cd
   cases sl
   dsimp only at hm hdel hok hni hs
   subst hm hdel hs
   exact⟨bm,_,_,_,_,_,_,_,_,_,dd,k0,k1,k2,k3,k5,_,X _ _ ho,.of_isNs (PySem.W.isNs_of_in X hok),PySem.W.nsMap_none_of_in X hok hni,PySem.W.tail_of_in X ht⟩
  ·cases q
 ·cases q
end PR
namespace PR
open PySem PySem.Spec L2
def bc(c:Nat)(ms:MA):MS:=fun env=>match ms env with
 | .ok _=>.exc c env
 | .exc k=>.exc k env
 | .stuck=>.stuck
theorem qB{X:Cx}{T:Tb}{W:Nat→St→Hp→Prop}{k c n:Nat}{x:Str}{e:Expr}{es:List Expr}{ms:MA}{np cpos pos:Pos}(cx:Ctx X T W k)(hm:X.mg x=some (.ref (T.xcl c)))(hB:T.K.In X.base)
  (hE:PySem.W.excIn T.K (T.xcl c) [.type "ValueError", .type "Exception", .type "BaseException", .type "object"] "ValueError.__new__" = true) (hx:XM X T W) (hg:Gl X x) (hn:fQ ms n) (hn2:n≤100) (ha:SA X T W (e::es) ms)
  (hd:(x ==("__debug__" : Str))=false:=by decide)
  (he:starEach (e::es) X.env=(false,eval e X.env)::starEach es X.env:=by rfl) (hpl:(backTo cpos (starEach es X.env)).any (·.1)=false:=by rfl) :
  SS X T W (.Raise (some (.Call (.Name x np) (e::es) [] cpos)) none pos) (bc c ms) :=
 sF (np:=np) (cpos:=cpos) (pos:=pos) ⟨hm,xL hB hE⟩ hx cx.calm hg ha (fun env pvs q=>by rw[hn env pvs q];exact hn2) hd he hpl
structure Scr(fl:Fl):Prop where
 is:fl=.frz∨fl=.mod
theorem Scr.lend{fl:Fl}(h:Scr fl):fl.lend=fl:=by rcases h.is with rfl | rfl<;>rfl
theorem Scr.toBor{fl:Fl}(h:Scr fl):fl.toBor=fl:=by rcases h.is with rfl | rfl<;>rfl
theorem Scr.isBor{fl:Fl}(h:Scr fl):fl.isBor=false:=by rcases h.is with rfl | rfl<;>rfl
theorem Scr.isLnt{fl:Fl}(h:Scr fl):fl.isLnt=false:=by rcases h.is with rfl | rfl<;>rfl
theorem Scr.isOwn{fl:Fl}(h:Scr fl):fl.isOwn=false:=by rcases h.is with rfl | rfl<;>rfl
theorem Scr.freeze{fl:Fl}(h:Scr fl):fl.freeze=fl:=by rcases h.is with rfl | rfl<;>rfl
theorem Scr.borrow{fl:Fl}(h:Scr fl):fl.borrow=fl:=by rcases h.is with rfl | rfl<;>rfl
theorem iH{T:Tb}{F B L:Addr→Prop}{H:Hp}:∀ns:List Int,RelL T F B L H (ns.map PV.int) (ns.map V.int) []
 | []=>fW _ _ _ _
 | n::ns=>by
  rw[List.map_cons,List.map_cons]
  unfold RelL
  exact⟨_,_,[],[],rfl,eE,iH ns,rfl⟩
def pq(K:PySem.W.Frag):Sp:=fun vs H Q _=>∃(a:Addr) (ns:List Int),vs=[.ref a]∧SqL K H a (ns.map V.int)∧ns.length≤63∧∀v H',v=.bl true→Q v H'
theorem z5{P:Program}{w:World}{T:Tb}{mg:Str→Option Value}{base:Heap}{k:Nat}{f:Addr}{fd:FuncData}{x:Str}{m:List PV→Res PV}(G:cq P w T.K mg base (CXP P w) k f fd [x] (spM T 1 m))
  (h:∀(fl:Fl) (ns:List Int),Scr fl→ns.length≤63→m [.lst fl (ns.map .int)]=.ok (.bl true)):cq P w T.K mg base (CXP P w) k f fd [x] (pq T.K):=by
 refine G.imp fun vs H Q E q=>?_
 obtain⟨a,ns,rfl,hS,hl,hQ⟩:=q
 have fin:∀fl,Scr fl→∀Z:Zn,GF T Z Q E (m [.lst fl (ns.map .int)]):=fun fl hf Z=>by
  rw[h fl ns hf hl]
  intro F H' v f' _ r _ _ _
  unfold Rel at r
  exact hQ v H' r.1
 refine⟨rfl,?_⟩
 rcases hS with hS | hS
 ·refine⟨[.lst .frz (ns.map .int)],(·=a),fun _=>False,[],⟨?_,List.nodup_nil,fun _ z=>(nomatch z),fun _ z=>z.elim,fun b hb=>?_⟩,fin _ ⟨.inl rfl⟩ _⟩
  ·unfold RelL
   refine⟨_,_,[],[],rfl,?_,fW _ _ _ _,rfl⟩
   unfold Rel
   exact⟨a,_,[],rfl,⟨rfl,hS⟩,iH ns,rfl,rfl⟩
  ·subst hb
   rcases hS with e |⟨o,e⟩
   ·exact⟨_,e⟩
   ·exact⟨_,e⟩
 ·refine⟨[.lst .mod (ns.map .int)],fun _=>False,fun _=>False,[],⟨?_,List.nodup_nil,fun _ z=>(nomatch z),fun _ z=>z.elim,fun _ z=>z.elim⟩,fin _ ⟨.inr rfl⟩ _⟩
  unfold RelL
  refine⟨_,_,[],[],rfl,?_,fW _ _ _ _,rfl⟩
  unfold Rel
  exact⟨a,_,[],rfl,hS,iH ns,rfl,rfl⟩
theorem ur{l:PySem.W.OpenLaw}{k:Nat}{x:Str}{q:Program}{loose:List Str}{XP:(Str→Option Value)→Heap→Prop}{YP:World→Heap→Prop}{d:DefRec}{K:Params→PySem.W.Frag}(hn:l.most=some 63)(hdf:d.params.defaults=[])(hr:cT k callerA)
  (hY:∀(w:World) (h:Heap),YP w h→(K w.params).In h)
  (F:∀ (w:World) (mg:Str→Option Value) (fa:Addr) (h:Heap),(K w.params).In h→h.Ns mainGlobals mg→mg d.name=some (.ref fa) →
   ∃fd:FuncData,(∀(s:Shared) (u:Value),BindsTo s fd ⟨[u],[]⟩ [(x,u)])∧∀base:Heap,(K w.params).In base→base.Ns mainGlobals mg→cq l.prog w (K w.params) mg base (CXP l.prog w) k fa fd [x] (pq (K w.params))) :
  PySem.W.WalkO q loose XP YP l.row.toRowW d [] (fun f vs=>PySem.call f vs) :=
 L2.v5 (n:=63) (k:=k) (x:=x) (CX:=fun w=>CXP l.prog w) (sp:=fun w=>pq (K w.params)) hn (by decide) hdf hr hY F (fun _ _ a ns hl _ hS=>⟨a,ns,rfl,hS,hl,fun _ _ z=>z⟩) fun _ _ _ _ _ ⟨_,_,_,z⟩=>z
theorem xB{K:PySem.W.Frag}:yh K "int" := by
 intro t ht
 simp only[List.mem_cons,List.not_mem_nil,or_false]at ht
 rcases ht with rfl | rfl | rfl | rfl | rfl | rfl<;>kernel_rfl
theorem uu{K:PySem.W.Frag}:yh K "bool" := by
 intro t ht
 simp only[List.mem_cons,List.not_mem_nil,or_false]at ht
 rcases ht with rfl | rfl | rfl | rfl | rfl | rfl<;>kernel_rfl
theorem gJ:bootBuiltins "isinstance" = some (.builtin "isinstance"):=by decide +kernel
theorem AR:bootBuiltins "int" = some (.type "int"):=by decide +kernel
theorem yd:bootBuiltins "bool" = some (.type "bool"):=by decide +kernel
theorem dr:bootBuiltins "list" = some (.type "list"):=by decide +kernel
theorem gp:bootBuiltins "tuple" = some (.type "tuple"):=by decide +kernel
def rS(K:PySem.W.Frag)(C:Addr):Bool :=
 decide (PySem.W.findIn K (.ref C) "__getattribute__" = some (some (.builtin "BaseException.__getattribute__")))&&decide (PySem.W.findIn K (.ref C) "__getattr__" = some none) &&
 decide (PySem.W.findIn K (.ref C) "__class__" = some (some (.builtin "object.__class__")))&&decide (PySem.W.mroIn K C (.type "BaseException")=some true)&&decide (PySem.W.mroIn K C (.type "object")=some true)&&(PySem.W.clsIn K C).isSome &&
 PySem.W.excIn K C [.type "ValueError", .type "Exception", .type "BaseException", .type "object"] "ValueError.__new__"
theorem xM{K:PySem.W.Frag}{C:Addr}(h:rS K C=true):EE K C∧PySem.W.excIn K C [.type "ValueError", .type "Exception", .type "BaseException", .type "object"] "ValueError.__new__" = true:=by
 simp only[rS,Bool.and_eq_true,decide_eq_true_eq]at h
 obtain⟨⟨⟨⟨⟨⟨h1,h2⟩,h3⟩,h4⟩,h5⟩,h6⟩,h7⟩:=h
 exact⟨⟨h1,h2,h3,h4,h5,h6⟩,h7⟩
def wT(l:List Addr)(i:Nat):Addr:=l.getD i (l.headD 0)
def kr(l:List Bool)(i:Nat):Bool:=l.getD i (l.headD false)
theorem tz{α:Type}{f:Addr→Option α}{g:α→Bool}{l:List Addr}{bs:List Bool}{r:Bool→Option α}(hl:l≠[])(h:l.map f=bs.map r)(i:Nat):f (wT l i)=r (kr bs i):=by
 have hlen:l.length=bs.length:=by simpa using congrArg List.length h
 unfold wT kr
 rw[List.getD_eq_getElem?_getD,List.getD_eq_getElem?_getD]
 have key:∀j,(l[j]?).map f=(bs[j]?).map r:=fun j=>by rw[← List.getElem?_map,← List.getElem?_map,h]
 cases e:l[i]? with
 | some C =>
  have:=key i
  rw[e]at this
  cases e2:bs[i]? with
  | some b=>rw[e2]at this;simpa using this
  | none=>rw[e2]at this;simp at this
 | none =>
  have hb:bs[i]?=none:=by
   rw[List.getElem?_eq_none_iff]at e ⊢
   omega
  rw[hb]
  cases l with
  | nil=>exact absurd rfl hl
  | cons a l =>
   cases bs with
   | nil=>simp at hlen
   | cons b bs=>simpa using key 0
end PR
namespace PR
open PySem PySem.Spec L2
def PV.isBl(c:Bool):PV→Bool
 | .bl b=>b==c
 | _=>false
def q_:PV→PV→Res PV
 | x,.bl c=>.ok (.bl (x.isBl c))
 | _,_=>.stuck
def iY:PV→PV→Res PV
 | x,.bl c=>.ok (.bl (!x.isBl c))
 | _,_=>.stuck
section
variable{X:Cx}{T:Tb}{W:Nat→St→Hp→Prop}{F B L:Addr→Prop}{H:Hp}{a b:Expr}{ma mb:ME}{pos:Pos}
theorem Rel.isBl{x:PV}{v:V}{f:List Addr}(c:Bool)(r:Rel T F B L H x v f):decide (v=.bl c)=x.isBl c:=by
 cases x with
 | non=>unfold Rel at r;rw[r.1];rfl
 | bl b=>unfold Rel at r;rw[r.1];cases b<;>cases c<;>rfl
 | int i=>unfold Rel at r;rw[r.1];rfl
 | str i=>unfold Rel at r;rw[r.1];rfl
 | lst f xs=>unfold Rel at r;obtain⟨a,_,_,rfl,_⟩:=r;rfl
 | tup xs=>unfold Rel at r;obtain⟨a,_,rfl,_⟩:=r;rfl
 | obj f c ks xs=>unfold Rel at r;obtain⟨a,_,_,_,rfl,_⟩:=r;rfl
 | exc c=>unfold Rel at r;obtain⟨a,rfl,_⟩:=r;rfl
theorem pE{x:V}{v:Value}{c:Bool}(r:bg x v):(v==Value.bool c)=decide (x=.bl c):=by
 cases x with
 | non=>cases r;rfl
 | bl b=>cases r;cases b<;>cases c<;>rfl
 | int i=>obtain⟨t,rfl⟩:=r;rfl
 | str i=>obtain⟨t,rfl⟩:=r;rfl
 | byt i=>obtain⟨t,rfl⟩:=r;rfl
 | ref i=>cases r;rfl
 | ty i=>cases r;rfl
 | flt i=>obtain⟨t,rfl⟩:=r;rfl
theorem zw:OpR X (compareOp .Is) (fun x y H Q=>∃c,y=.bl c∧Q (.bl (decide (x=.bl c))) H):=by
 intro pins s σ H x y v u Q I rx ry h
 obtain⟨c,rfl,q⟩:=h
 cases ry
 have e:=pE (c:=c) rx
 have go:EP X pins σ Q (.bool (v==.bool c)) s:=⟨.bl _,H,I,by rw[e];rfl,q⟩
 cases x<;>first
  |(cases rx;exact wpAny_pure go)
  |(obtain⟨t,rfl⟩:=rx;exact wpAny_pure go)
theorem w9:OpR X (compareOp .IsNot) (fun x y H Q=>∃c,y=.bl c∧Q (.bl (!decide (x=.bl c))) H):=by
 intro pins s σ H x y v u Q I rx ry h
 obtain⟨c,rfl,q⟩:=h
 cases ry
 have e:=pE (c:=c) rx
 have go:EP X pins σ Q (.bool (!(v==.bool c))) s:=⟨.bl _,H,I,by rw[e];rfl,q⟩
 cases x<;>first
  |(cases rx;exact wpAny_pure go)
  |(obtain⟨t,rfl⟩:=rx;exact wpAny_pure go)
theorem xq:gB T W q_ (fun x y H Q=>∃c,y=.bl c∧Q (.bl (decide (x=.bl c))) H):=by
 intro B F L σ H Q F' H' x y v u fx fy gr rx ry nf nd new q
 cases y with
 | bl c=>unfold Rel at ry;refine⟨c,ry.1,?_⟩;rw[rx.isBl c];exact GE.scal (pv:=.bl (x.isBl c)) (by simpa[q_]using q) gr ib
 | _=>simp only[q_]at q;exact q.elim
theorem ue:gB T W iY (fun x y H Q=>∃c,y=.bl c∧Q (.bl (!decide (x=.bl c))) H):=by
 intro B F L σ H Q F' H' x y v u fx fy gr rx ry nf nd new q
 cases y with
 | bl c=>unfold Rel at ry;refine⟨c,ry.1,?_⟩;rw[rx.isBl c];exact GE.scal (pv:=.bl (!x.isBl c)) (by simpa[iY]using q) gr ib
 | _=>simp only[iY]at q;exact q.elim
theorem yY(ha:SE X T W a ma)(hb:SE X T W b mb):SE X T W (.Compare a [.Is] [b] pos) (mOp q_ ma mb):=jv zw xq ha hb (dE _)
theorem lg(ha:SE X T W a ma)(hb:SE X T W b mb):ST X T W (.Compare a [.IsNot] [b] pos) (ax (mOp iY ma mb)):=eC w9 ue ha hb (dE _)
end
section
variable{X:Cx}{T:Tb}{W:Nat→St→Hp→Prop}{Z:Zn}{F F1 B L:Addr→Prop}{H H1:Hp}{σ:St}{env:En}{fp:Nat→List Addr}
def pL:List PV→Res PV
 | [.int n]=>if decide (0≤n∧n≤1000000)then .ok (.lst .own (bU 0 n.toNat))else .stuck
 | _=>.stuck
end
def bE:List PV→Option (List Int)
 | []=>some []
 | .int i::xs=>(bE xs).map (i::·)
 | _::_=>none
def kO(ns:List Int):Nat:=(PyProof.Rows.firstMet (fun i=>ns.getD i 0) ns.length).length
def gw:PV→Res PV
 | .lst _ xs=>match bE xs with
  | some ns=>if decide (ns.length≤1000)then .ok (.int (kO ns))else .stuck
  | none=>.stuck
 | _=>.stuck
section
variable{X:Cx}{T:Tb}{W:Nat→St→Hp→Prop}{Z:Zn}{F F1 B L:Addr→Prop}{H H1:Hp}{σ:St}{env:En}{fp:Nat→List Addr}
theorem c_:∀{xs:List PV}{vs:List V}{f:List Addr}{ns:List Int},bE xs=some ns→RelL T F B L H xs vs f→vs=ns.map V.int
 | [],_,_,_,e,r=>by cases e;unfold RelL at r;exact r.1
 | .int i::xs,_,_,ns,e,r=>by
  unfold RelL at r
  obtain⟨v,ws,f1,f2,rfl,h1,h2,rfl⟩:=r
  simp only[bE]at e
  cases e2:bE xs with
  | none=>rw[e2]at e;cases e
  | some ms =>
   rw[e2]at e
   cases e
   unfold Rel at h1
   rw[h1.1,c_ e2 h2]
   rfl
 | .non::_,_,_,_,e,_=>by simp[bE]at e
 | .bl _::_,_,_,_,e,_=>by simp[bE]at e
 | .str _::_,_,_,_,e,_=>by simp[bE]at e
 | .lst _ _::_,_,_,_,e,_=>by simp[bE]at e
 | .tup _::_,_,_,_,e,_=>by simp[bE]at e
 | .obj _ _ _ _::_,_,_,_,e,_=>by simp[bE]at e
 | .exc _::_,_,_,_,e,_=>by simp[bE]at e
theorem eY:∀{ns:List Int}{its:List Value},aH (ns.map V.int) its→PyProof.Rows.IntsAre its ns
 | [],_,r=>by cases r;exact .nil
 | n::ns,_,r=>by
  cases r with
  | cons h t =>
   obtain⟨tk,rfl⟩:=h
   exact .cons _ _ (eY t)
theorem j9(hc:X.calm=true):cW X (.type "set") (fun xs H Q=>∃p ns,xs=[.ref p]∧SqL X.K H p (ns.map V.int)∧ns.length≤1000∧∀r S,H r=none→Q (.ref r) (upd H r (.set S (kO ns)))):=by
 intro pins s σ H xs us Q I rv h
 obtain⟨p,ns,rfl,hS,hl,q⟩:=h
 obtain⟨u,rfl,rx⟩:=cU rv
 cases rx
 obtain⟨its,r',pl,hz⟩:=I.list hS
 have hlen:=r'.length
 rw[List.length_map]at hlen
 refine call_set_list (I.ok.hd hc) pl.isList (ns:=ns) (by simpa using eY r') (by simp only[List.size_toArray,← hlen];unfold scanBound;omega) fun h' tk hs kp=>?_
 have e:its.toArray.size=ns.length:=by simp[hlen]
 rw[e]at hs
 exact⟨.ref s.heap.objs.size,_,I.laid (t':=tk) (o:=.set (fun k'=>(PyProof.Rows.firstMet (fun i=>ns.getD i 0) ns.length).any (·==k')) (kO ns)) (fun b o e=>kp b o (Heap.lt_size e) e) (Nat.le_refl _) hs,rfl,q _ _ (I.hok.fresh (Nat.le_refl _))⟩
theorem j_:cW X (.builtin "len") (fun xs H Q=>∃r S n,xs=[.ref r]∧H r=some (.set S n)∧Q (.int n) H):=by
 intro pins s σ H xs us Q I rv h
 obtain⟨r,S,n,rfl,hr,q⟩:=h
 obtain⟨u,rfl,rx⟩:=cU rv
 cases rx
 obtain⟨o,es,ep,t,ho,hex,hd,_,_,hb,hf,hn⟩:=I.hok r _ hr
 have hb':es.size < 4096:=hb
 exact call_len_set ho hex hd hf (by omega) ⟨.int n,H,I.tok _,⟨s.toks+1,by rw[hn]⟩,q⟩
theorem AQ:bootBuiltins "set" = some (.type "set"):=by decide +kernel
theorem km{e:Expr}{m:ME}{p p2 pos pos2:Pos}(hK:X.K=T.K)(hc:X.calm=true)(hg:Gl X "len")(hm:X.mg "len" = none)(hg2:Gl X "set")(hm2:X.mg "set" = none)(he:SE X T W e m)
  (hs:starEach [e] X.env=[(false,eval e X.env)]:=by rfl)
  (hs2:starEach [.Call (.Name "set" p2) [e] [] pos2] X.env=[(false,eval (.Call (.Name "set" p2) [e] [] pos2) X.env)]:=by rfl) :
  SE X T W (.Call (.Name "len" p) [.Call (.Name "set" p2) [e] [] pos2] [] pos) (mUn gw m):=by
 refine PE.wk (jC (p:=p) (pos:=pos) j_ hg hm boot_len (cK (kx (p:=p2) (pos:=pos2) (j9 hc) hg2 hm2 AQ (cK he f7 (by rw[hs];rfl)) (he:=by rw[hs];rfl) (hpl:=rfl)) f7 (by rw[hs2];rfl)) (he:=by rw[hs2];rfl) (hpl:=rfl)) fun σ H Q ⟨Z,F,env,fp,S,q⟩=>?_
 unfold mUn at q
 refine tE.bind S (fun c e=>by rw[e]at q;exact q) (fun e=>by rw[e]at q;exact q) fun x v H1 F1 f1 e1 g1 r1 n1 d1 w1=>?_
 rw[e1]at q
 cases x with
 | lst fl xs =>
  simp only[Res.ok_bind,gw]at q
  cases en:bE xs with
  | none=>rw[en]at q;exact q.elim
  | some ns =>
   rw[en]at q
   dsimp only at q
   unfold Rel at r1
   obtain⟨a,vs,fp',rfl,hl,hr,_⟩:=r1
   by_cases hn:decide (ns.length≤1000)=true
   ·rw[if_pos hn]at q
    have hv:=c_ en hr
    subst hv
    exact⟨a,ns,rfl,by rw[hK];exact hl.sq,of_decide_eq_true hn,fun r S hr=>⟨r,S,_,rfl,bF,q.scal (g1.trans (Gr.same g1.dom (Ext.upd hr))) eE⟩⟩
   ·rw[if_neg hn]at q;exact q.elim
 | _=>exact q.elim
end
end PR
namespace PR
open PySem PySem.Spec L2
def d8:List Int→Int
 | []=>0
 | [a]=>a
 | a::b::l=>min a (d8 (b::l))
def ii:List Int→Int
 | []=>0
 | [a]=>a
 | a::b::l=>max a (ii (b::l))
theorem jI:∀{l:List Int},l≠[]→d8 l∈l∧∀x∈l,d8 l≤x
 | [],h=>absurd rfl h
 | [a],_=>by simp[d8]
 | a::b::l,_=>by
  obtain⟨h1,h2⟩:=jI (l:=b::l) (by simp)
  unfold d8
  refine⟨?_,fun x hx=>?_⟩
  ·rcases Int.le_total a (d8 (b::l))with h | h
   ·rw[Int.min_eq_left h];exact List.mem_cons_self
   ·rw[Int.min_eq_right h];exact List.mem_cons_of_mem _ h1
  ·rcases List.mem_cons.mp hx with rfl | hx
   ·exact Int.min_le_left _ _
   ·exact Int.le_trans (Int.min_le_right _ _) (h2 x hx)
theorem jJ:∀{l:List Int},l≠[]→ii l∈l∧∀x∈l,x≤ii l
 | [],h=>absurd rfl h
 | [a],_=>by simp[ii]
 | a::b::l,_=>by
  obtain⟨h1,h2⟩:=jJ (l:=b::l) (by simp)
  unfold ii
  refine⟨?_,fun x hx=>?_⟩
  ·rcases Int.le_total a (ii (b::l))with h | h
   ·rw[Int.max_eq_right h];exact List.mem_cons_of_mem _ h1
   ·rw[Int.max_eq_left h];exact List.mem_cons_self
  ·rcases List.mem_cons.mp hx with rfl | hx
   ·exact Int.le_max_left _ _
   ·exact Int.le_trans (h2 x hx) (Int.le_max_right _ _)
section
variable{X:Cx}{T:Tb}{W:Nat→St→Hp→Prop}{Z:Zn}{F F1 B L:Addr→Prop}{H H1:Hp}{σ:St}{env:En}{fp:Nat→List Addr}{pins:List (Addr×Obj)}{s:Shared}
theorem dY{h':Heap}{t:Nat}(I:L2.Inv X pins σ H s)(k:∀b o,s.heap.get? b=some o→h'.get? b=some o):L2.Inv X pins σ H { s with heap:=h',toks:=t }:=I.un (Un.kept k) (I.hok.kept k)
theorem cN{its:List Value}{ns:List Int}(r:aH (ns.map V.int) its):∀(i:Nat) (v:Value),its.toArray[i]?=some v→∃t,v=.int (ns.getD i 0) t:=by
 intro i v e
 have e':its[i]?=some v:=by simpa using e
 have hi:i < ns.length:=by
  have h1:=(List.getElem?_eq_some_iff.mp e').1
  have h2:=r.length
  rw[List.length_map]at h2
  omega
 have:∀{ns:List Int}{its:List Value}{i:Nat}{v:Value},aH (ns.map V.int) its→its[i]?=some v→∃t,v=.int (ns.getD i 0) t:=by
  intro ns
  induction ns with
  | nil=>intro its i v r e;cases r;simp at e
  | cons n ns ih =>
   intro its i v r e
   cases r with
   | cons h t =>
    obtain⟨tk,rfl⟩:=h
    cases i with
    | zero=>simp at e;exact⟨tk,by rw[← e];rfl⟩
    | succ i =>
     obtain⟨tk',h'⟩:=ih t (by simpa using e)
     exact⟨tk',by rw[h'];rfl⟩
 exact this r e'
theorem n0{ns:List Int}(h:0 < ns.length):ns.getD (argBest (fun i j=>decide (ns.getD i 0 < ns.getD j 0)) (ns.length - 1)) 0=d8 ns:=by
 obtain⟨h1,h2⟩:=argBest_lt (fun i=>ns.getD i 0) (ns.length - 1)
 obtain⟨m1,m2⟩:=jI (l:=ns) (by intro z;simp[z]at h)
 refine Int.le_antisymm ?_ (m2 _ ?_)
 ·obtain⟨i,hi,e⟩:=List.getElem_of_mem m1
  have:=h2 i (by omega)
  simp only[List.getD_eq_getElem?_getD,List.getElem?_eq_getElem hi,Option.getD_some,e]at this
  simpa[List.getD_eq_getElem?_getD]using this
 ·rw[List.getD_eq_getElem?_getD,List.getElem?_eq_getElem (by omega)]
  exact List.getElem_mem _
theorem vm{ns:List Int}(h:0 < ns.length):ns.getD (argBest (fun i j=>decide (ns.getD i 0 > ns.getD j 0)) (ns.length - 1)) 0=ii ns:=by
 obtain⟨h1,h2⟩:=argBest_gt (fun i=>ns.getD i 0) (ns.length - 1)
 obtain⟨m1,m2⟩:=jJ (l:=ns) (by intro z;simp[z]at h)
 refine Int.le_antisymm (m2 _ ?_) ?_
 ·rw[List.getD_eq_getElem?_getD,List.getElem?_eq_getElem (by omega)]
  exact List.getElem_mem _
 ·obtain⟨i,hi,e⟩:=List.getElem_of_mem m1
  have:=h2 i (by omega)
  simp only[List.getD_eq_getElem?_getD,List.getElem?_eq_getElem hi,Option.getD_some,e]at this
  simpa[List.getD_eq_getElem?_getD]using this
theorem fR{n:Nat}{l I:Addr}(hl:l < n)(e:I=n):∀b∈[I,l],b < n+1:=fun b hb=>by
 rcases List.mem_cons.mp hb with z | hb
 ·rw[z,e];exact Nat.lt_succ_self _
 ·rcases List.mem_cons.mp hb with rfl | hb
  ·exact Nat.lt_succ_of_lt hl
  ·cases hb
theorem cy{h h':Heap}{o:Obj}(hk:∀b u,b∉[h.objs.size]→(h.push o).get? b=some u→h'.get? b=some u):∀b u,h.get? b=some u→h'.get? b=some u:=fun b u e =>
 hk b u (fun hm=>by
  rcases List.mem_cons.mp hm with z | z
  ·exact absurd (z▸Heap.lt_size e) (Nat.lt_irrefl _)
  ·cases z) (Heap.get?_push_of_some _ e)
theorem l5(hc:X.calm=true):cW X (.builtin "min") (fun xs H Q=>∃p ns,xs=[.ref p]∧(SqL X.K H p (ns.map V.int)∨ SqT X.K H p (ns.map V.int))∧0 < ns.length∧Q (.int (d8 ns)) H):=by
 intro pins s σ H xs us Q I rv h
 obtain⟨p,ns,rfl,hq,hn,q⟩:=h
 obtain⟨u,rfl,rx⟩:=cU rv
 cases rx
 have hh:=I.ok.hd hc
 have key:∀{its:List Value},aH (ns.map V.int) its→∀{v:Value}{h':Heap}{tk:Nat},its.toArray[argBest (fun i j=>decide (ns.getD i 0 < ns.getD j 0)) (its.toArray.size - 1)]?=some v→(∀b o,s.heap.get? b=some o→h'.get? b=some o)→EP X pins σ Q v { s with heap:=h',toks:=tk }:=by
  intro its r v h' tk hv k
  have hl:its.toArray.size=ns.length:=by
   have:=r.length
   simpa using this.symm
  rw[hl]at hv
  obtain⟨t,rfl⟩:=cN r _ _ hv
  rw[n0 hn]
  exact⟨.int _,H,dY I k,⟨t,rfl⟩,q⟩
 rcases hq with hq | hq
 ·obtain⟨its,r,pl,hz⟩:=I.list hq
  have hl:its.toArray.size=ns.length:=by
   have:=r.length
   simpa using this.symm
  obtain⟨o,ho,hcl,n,hd⟩:=pl.isList
  have hlt:=Heap.lt_size ho
  refine call_min_walk (wpAny_pyIter_list pl.isList ?_)
  refine⟨_,_,_,_,_,_,_,rfl,Walks.list (A:=X.A.in1) hh _ p (Nat.ne_of_lt hlt) its.toArray,⟨⟨_,Heap.get?_push_size _ rfl,rfl,rfl⟩,pl.isList.push _⟩,fun b hb=>?_,by omega,CmpOf.ints_lt (fun i=>ns.getD i 0) (cN r),fun v h' tk hP hk=>key r hP (cy hk)⟩
  show b <(s.heap.push _).objs.size
  rw[Heap.size_push]
  exact fR hlt rfl b hb
 ·obtain⟨its,r,pl,hz⟩:=I.tuple hq
  have hl:its.toArray.size=ns.length:=by
   have:=r.length
   simpa using this.symm
  have pt:s.heap.IsTuple p its.toArray:=pl
  obtain⟨o,ho,hcl,n,hd⟩:=pl
  have hlt:=Heap.lt_size ho
  refine call_min_walk (wpAny_pyIter_tuple pt ?_)
  refine⟨_,_,_,_,_,_,_,rfl,Walks.tuple (A:=X.A.in1) hh _ p (Nat.ne_of_lt hlt) its.toArray,⟨⟨_,Heap.get?_push_size _ rfl,rfl,rfl⟩,pt.push _⟩,fun b hb=>?_,by omega,CmpOf.ints_lt (fun i=>ns.getD i 0) (cN r),fun v h' tk hP hk=>key r hP (cy hk)⟩
  show b <(s.heap.push _).objs.size
  rw[Heap.size_push]
  exact fR hlt rfl b hb
theorem l6(hc:X.calm=true):cW X (.builtin "max") (fun xs H Q=>∃p ns,xs=[.ref p]∧(SqL X.K H p (ns.map V.int)∨ SqT X.K H p (ns.map V.int))∧0 < ns.length∧Q (.int (ii ns)) H):=by
 intro pins s σ H xs us Q I rv h
 obtain⟨p,ns,rfl,hq,hn,q⟩:=h
 obtain⟨u,rfl,rx⟩:=cU rv
 cases rx
 have hh:=I.ok.hd hc
 have key:∀{its:List Value},aH (ns.map V.int) its→∀{v:Value}{h':Heap}{tk:Nat},its.toArray[argBest (fun i j=>decide (ns.getD i 0 > ns.getD j 0)) (its.toArray.size - 1)]?=some v→(∀b o,s.heap.get? b=some o→h'.get? b=some o)→EP X pins σ Q v { s with heap:=h',toks:=tk }:=by
  intro its r v h' tk hv k
  have hl:its.toArray.size=ns.length:=by
   have:=r.length
   simpa using this.symm
  rw[hl]at hv
  obtain⟨t,rfl⟩:=cN r _ _ hv
  rw[vm hn]
  exact⟨.int _,H,dY I k,⟨t,rfl⟩,q⟩
 rcases hq with hq | hq
 ·obtain⟨its,r,pl,hz⟩:=I.list hq
  have hl:its.toArray.size=ns.length:=by
   have:=r.length
   simpa using this.symm
  obtain⟨o,ho,hcl,n,hd⟩:=pl.isList
  have hlt:=Heap.lt_size ho
  refine call_max_walk (wpAny_pyIter_list pl.isList ?_)
  refine⟨_,_,_,_,_,_,_,rfl,Walks.list (A:=X.A.in1) hh _ p (Nat.ne_of_lt hlt) its.toArray,⟨⟨_,Heap.get?_push_size _ rfl,rfl,rfl⟩,pl.isList.push _⟩,fun b hb=>?_,by omega,CmpOf.ints_gt (fun i=>ns.getD i 0) (cN r),fun v h' tk hP hk=>key r hP (cy hk)⟩
  show b <(s.heap.push _).objs.size
  rw[Heap.size_push]
  exact fR hlt rfl b hb
 ·obtain⟨its,r,pl,hz⟩:=I.tuple hq
  have hl:its.toArray.size=ns.length:=by
   have:=r.length
   simpa using this.symm
  have pt:s.heap.IsTuple p its.toArray:=pl
  obtain⟨o,ho,hcl,n,hd⟩:=pl
  have hlt:=Heap.lt_size ho
  refine call_max_walk (wpAny_pyIter_tuple pt ?_)
  refine⟨_,_,_,_,_,_,_,rfl,Walks.tuple (A:=X.A.in1) hh _ p (Nat.ne_of_lt hlt) its.toArray,⟨⟨_,Heap.get?_push_size _ rfl,rfl,rfl⟩,pt.push _⟩,fun b hb=>?_,by omega,CmpOf.ints_gt (fun i=>ns.getD i 0) (cN r),fun v h' tk hP hk=>key r hP (cy hk)⟩
  show b <(s.heap.push _).objs.size
  rw[Heap.size_push]
  exact fR hlt rfl b hb
def eR(g:List Int→Int):PV→Res PV:=fun x=>match aQ x with
 | some xs=>match bE xs with
  | some ns=>if ns.isEmpty then .stuck else .ok (.int (g ns))
  | none=>.stuck
 | none=>.stuck
theorem m_{g:List Int→Int}(hK:X.K=T.K):Mir T W (p1 (eR g)) (fun xs H Q=>∃p ns,xs=[.ref p]∧(SqL X.K H p (ns.map V.int)∨ SqT X.K H p (ns.map V.int))∧0 < ns.length∧Q (.int (g ns)) H):=by
 intro B F L σ H Q F' H' xs vs fx gr r nf nd new q
 match xs,r,q with
 | [x],r,q =>
  obtain⟨v,rfl,rv⟩:=RelL.one r
  simp only[p1,eR]at q
  cases e:aQ x with
  | none=>rw[e]at q;exact q.elim
  | some ys =>
   rw[e]at q
   dsimp only at q
   cases e2:bE ys with
   | none=>rw[e2]at q;exact q.elim
   | some ns =>
    rw[e2]at q
    dsimp only at q
    obtain⟨a,us,fx',rfl,hs,hr,_⟩:=rv.seq e
    have hu:=c_ e2 hr
    subst hu
    cases ns with
    | nil=>exact q.elim
    | cons n ns=>exact⟨a,_,rfl,by rw[hK];exact hs,by simp,q.scal gr eE⟩
 | [],_,q=>exact q.elim
 | _::_::_,_,q=>simp only[p1]at q;exact q.elim
theorem o5:bootBuiltins "min" = some (.builtin "min"):=by decide +kernel
theorem vn:bootBuiltins "max" = some (.builtin "max"):=by decide +kernel
theorem pA{p pos:Pos}{e:Expr}{m:ME}(hK:X.K=T.K)(hc:X.calm=true)(hg:Gl X "min")(hm:X.mg "min" = none)(ha:SE X T W e m)(he:starEach [e] X.env=[(false,eval e X.env)]:=by rfl):SE X T W (.Call (.Name "min" p) [e] [] pos) (ap (p1 (eR d8)) (ae m am)) :=
 cH (l5 hc) (m_ hK) hg hm o5 (aa ha ag (by rw[he];rfl)) (he:=by rw[he];rfl) (hpl:=rfl)
theorem pB{p pos:Pos}{e:Expr}{m:ME}(hK:X.K=T.K)(hc:X.calm=true)(hg:Gl X "max")(hm:X.mg "max" = none)(ha:SE X T W e m)(he:starEach [e] X.env=[(false,eval e X.env)]:=by rfl):SE X T W (.Call (.Name "max" p) [e] [] pos) (ap (p1 (eR ii)) (ae m am)) :=
 cH (l6 hc) (m_ hK) hg hm vn (aa ha ag (by rw[he];rfl)) (he:=by rw[he];rfl) (hpl:=rfl)
def dC(g:Int→Int→Int):List PV→Res PV
 | [.int i,.int j]=>.ok (.int (g i j))
 | _=>.stuck
theorem kC{g:Int→Int→Int}{g':Int→Int→Int}(hg:∀i j,g' i j=g i j):Mir T W (dC g) (fun xs H Q=>∃i j,xs=[.int i,.int j]∧Q (.int (g' i j)) H):=by
 intro B F L σ H Q F' H' xs vs fx gr r nf nd new q
 match xs,r,q with
 | [x,y],r,q =>
  cases x with
  | int i =>
   cases y with
   | int j =>
    unfold RelL at r
    obtain⟨v,ws,f1,f2,rfl,h1,h2,rfl⟩:=r
    obtain⟨u,rfl,h3⟩:=RelL.one h2
    unfold Rel at h1 h3
    obtain⟨rfl,_⟩:=h1
    obtain⟨rfl,_⟩:=h3
    exact⟨i,j,rfl,by rw[hg];exact q.scal gr eE⟩
   | _=>exact q.elim
  | _=>exact q.elim
 | [],_,q=>exact q.elim
 | [x],_,q=>cases x<;>exact q.elim
 | x::y::z::l,_,q=>cases x<;>cases y<;>exact q.elim
theorem lr{p pos:Pos}{a b:Expr}{ms:MA}(hc:X.calm=true)(hg:Gl X "min")(hm:X.mg "min" = none)(ha:SA X T W [a,b] ms)(he:starEach [a,b] X.env=[(false,eval a X.env),(false,eval b X.env)]:=by rfl)(he2:starEach [b] X.env=[(false,eval b X.env)]:=by rfl) :
  SE X T W (.Call (.Name "min" p) [a,b] [] pos) (ap (dC min) ms) :=
 cH (r_ hc) (kC fun i j=>by simp only[Int.min_def];split<;>split<;>omega) hg hm o5 ha (he:=by rw[he,he2]) (hpl:=by rw[he2];rfl)
theorem wo{p pos:Pos}{a b:Expr}{ms:MA}(hc:X.calm=true)(hg:Gl X "max")(hm:X.mg "max" = none)(ha:SA X T W [a,b] ms)(he:starEach [a,b] X.env=[(false,eval a X.env),(false,eval b X.env)]:=by rfl)(he2:starEach [b] X.env=[(false,eval b X.env)]:=by rfl) :
  SE X T W (.Call (.Name "max" p) [a,b] [] pos) (ap (dC max) ms) :=
 cH (sd hc) (kC fun i j=>by simp only[Int.max_def];split<;>split<;>omega) hg hm vn ha (he:=by rw[he,he2]) (hpl:=by rw[he2];rfl)
end
end PR
namespace PR
open PySem PySem.W PyProof.Rows
structure Ord(N:Nat)(lt:Nat→Nat→Bool):Prop where
 tr:∀i j k,i < N→j < N→k < N→lt i j=true→lt j k=true→lt i k=true
 tot:∀i j,i < N→j < N→i≠j→lt i j=false→lt j i=true
 irr:∀i,i < N→lt i i=false
structure Plc(N:Nat)(p:Array Nat):Prop where
 pm:p.toList.Perm (List.range N)
abbrev at_(p:Array Nat)(i:Nat):Nat:=p.getD i 0
section
variable{N:Nat}{lt:Nat→Nat→Bool}{p:Array Nat}
theorem Plc.sz(P:Plc N p):p.size=N:=by simpa using P.pm.length_eq
theorem Plc.get(P:Plc N p){i:Nat}(h:i < N):p[i]?=some (at_ p i):=by
 have:i < p.size:=by rw[P.sz];exact h
 simp[at_,this]
theorem Plc.bd(P:Plc N p){i:Nat}(h:i < N):at_ p i < N:=by
 have hm:at_ p i∈p.toList:=by
  have:=P.get h
  exact Array.mem_toList_iff.mpr (Array.mem_of_getElem? this)
 simpa using P.pm.mem_iff.mp hm
theorem Plc.inj(P:Plc N p){i j:Nat}(hi:i < N)(hj:j < N)(e:at_ p i=at_ p j):i=j:=by
 have nd:p.toList.Nodup:=P.pm.nodup_iff.mpr List.nodup_range
 have h1:=P.get hi
 have h2:=P.get hj
 rw[e]at h1
 have h1':p.toList[i]?=some (at_ p j):=by simpa using h1
 have h2':p.toList[j]?=some (at_ p j):=by simpa using h2
 obtain⟨a1,b1⟩:=List.getElem?_eq_some_iff.mp h1'
 obtain⟨a2,b2⟩:=List.getElem?_eq_some_iff.mp h2'
 exact(List.getElem_inj nd).mp (b1.trans b2.symm)
def Asc(lt:Nat→Nat→Bool)(p:Array Nat)(n:Nat):Prop:=∀a b,a < b→b < n→lt (at_ p a) (at_ p b)=true
def Dsc(lt:Nat→Nat→Bool)(p:Array Nat)(n:Nat):Prop:=∀a b,a < b→b < n→lt (at_ p b) (at_ p a)=true
theorem Asc.more(O:Ord N lt)(P:Plc N p){n:Nat}(h:Asc lt p n)(h1:1≤n)(hn:n < N)(hl:lt (at_ p (n - 1)) (at_ p n)=true):Asc lt p (n+1):=fun a b hab hb=>by
 by_cases hbn:b < n
 ·exact h a b hab hbn
 ·obtain rfl:b=n:=by omega
  by_cases ha:a=b - 1
  ·rw[ha];exact hl
  ·exact O.tr _ _ _ (P.bd (by omega)) (P.bd (by omega)) (P.bd (by omega)) (h a (b - 1) (by omega) (by omega)) hl
theorem Dsc.more(O:Ord N lt)(P:Plc N p){n:Nat}(h:Dsc lt p n)(h1:1≤n)(hn:n < N)(hl:lt (at_ p n) (at_ p (n - 1))=true):Dsc lt p (n+1):=fun a b hab hb=>by
 by_cases hbn:b < n
 ·exact h a b hab hbn
 ·obtain rfl:b=n:=by omega
  by_cases ha:a=b - 1
  ·rw[ha];exact hl
  ·exact O.tr _ _ _ (P.bd (by omega)) (P.bd (by omega)) (P.bd (by omega)) hl (h a (b - 1) (by omega) (by omega))
theorem Dsc.rev(P:Plc N p){n:Nat}(h:Dsc lt p n)(hn:n≤N):Asc lt (kas_rev p 0 n) n∧Plc N (kas_rev p 0 n):=by
 have hp:(kas_rev p 0 n).toList.Perm p.toList:=Array.perm_iff_toList_perm.mp (mirror_perm _ _ _ _)
 have P':Plc N (kas_rev p 0 n):=⟨hp.trans P.pm⟩
 have ix:∀k,k < n→at_ (kas_rev p 0 n) k=at_ p (n - 1 - k):=fun k hk=>by
  have e:=getElem?_mirror_all (xs:=p) (i:=0) (j:=n) (by rw[P.sz];exact hn) k
  have h1:(kas_rev p 0 n)[k]?=p[0+n - 1 - k]?:=by
   unfold kas_rev
   rw[e,if_pos ⟨by omega,hk⟩]
  rw[P'.get (by omega),show 0+n - 1 - k=n - 1 - k by omega,P.get (by omega)]at h1
  exact Option.some.inj h1
 refine⟨fun a b hab hb=>?_,P'⟩
 rw[ix a (by omega),ix b hb]
 exact h _ _ (by omega) (by omega)
variable{cmp:Nat→Nat→(Bool→Shared→Prop)→Shared→Prop}{s:Shared}
abbrev Cmp(N:Nat)(lt:Nat→Nat→Bool)(cmp:Nat→Nat→(Bool→Shared→Prop)→Shared→Prop)(s:Shared):Prop:=∀(i j:Nat) (C:Bool→Shared→Prop),i < N→j < N→C (lt i j) s→cmp i j C s
theorem o6(O:Ord N lt)(C:Cmp N lt cmp s)(P:Plc N p):∀(f n:Nat) (Q:Nat→Shared→Prop),1≤n→n+f=N→Asc lt p n→(∀m,n≤m→m≤N→Asc lt p m→(m < N→lt (at_ p m) (at_ p (m - 1))=true)→Q m s)→(kas_asc p f n).kasWp cmp Q s
 | 0,n,Q,h1,hn,ha,k=>k n (Nat.le_refl _) (by omega) ha (by omega)
 | f+1,n,Q,h1,hn,ha,k=>by
  refine C _ _ _ (P.bd (by omega)) (P.bd (by omega)) ?_
  cases e:lt (at_ p n) (at_ p (n - 1))with
  | true=>exact k n (Nat.le_refl _) (by omega) ha fun _=>e
  | false =>
   have hl:=O.tot _ _ (P.bd (by omega)) (P.bd (by omega)) (fun z=>by have:=P.inj (by omega) (by omega) z;omega) e
   exact o6 O C P f (n+1) Q (by omega) (by omega) (ha.more O P h1 (by omega) hl) fun m hm=>k m (by omega)
theorem vd(O:Ord N lt)(C:Cmp N lt cmp s)(P:Plc N p):∀(f n:Nat) (Q:Array Nat×Nat×Nat→Shared→Prop),1≤n→n+f=N→Dsc lt p n→(∀m,n≤m→m≤N→Dsc lt p m→Q (p,m,0) s)→(kas_desc f p n 0).kasWp cmp Q s
 | 0,n,Q,h1,hn,ha,k=>k n (Nat.le_refl _) (by omega) ha
 | f+1,n,Q,h1,hn,ha,k=>by
  refine C _ _ _ (P.bd (by omega)) (P.bd (by omega)) ?_
  cases e:lt (at_ p n) (at_ p (n - 1))with
  | true=>exact vd O C P f (n+1) Q (by omega) (by omega) (ha.more O P h1 (by omega) e) fun m hm=>k m (by omega)
  | false =>
   have hl:=O.tot _ _ (P.bd (by omega)) (P.bd (by omega)) (fun z=>by have:=P.inj (by omega) (by omega) z;omega) e
   refine C _ _ _ (P.bd (by omega)) (P.bd (by omega)) ?_
   have e2:lt (p.getD (n - 1) 0) (p.getD n 0)=true:=hl
   rw[e2]
   exact k n (Nat.le_refl _) (by omega) ha
theorem vg(O:Ord N lt)(C:Cmp N lt cmp s)(P:Plc N p)(h2:2≤N)(Q:Nat×Array Nat→Shared→Prop)(k:∀m p',1≤m→m≤N→Plc N p'→Asc lt p' m→Q (m,p') s):(kas_count N p).kasWp cmp Q s:=by
 unfold kas_count
 rw[KasT.kasWp_bind]
 refine o6 O C P (N - 1) 1 _ (Nat.le_refl _) (by omega) (fun a b _ hb=>by omega) fun n h1 hn ha hs=>?_
 by_cases e:n=N
 ·rw[if_pos (by simpa using e)]
  exact k n p h1 hn P ha
 ·rw[if_neg (by simpa using e)]
  by_cases hn1:n > 1
  ·rw[if_pos hn1]
   refine C _ _ _ (P.bd (by omega)) (P.bd (by omega)) ?_
   have e2:lt (p.getD 0 0) (p.getD (n - 1) 0)=true:=ha 0 (n - 1) (by omega) (by omega)
   rw[e2]
   exact k n p h1 hn P ha
  ·rw[if_neg hn1]
   obtain rfl:n=1:=by omega
   unfold kas_descPart
   rw[KasT.kasWp_bind]
   refine vd O C P (N - 2) 2 _ (by omega) (by omega) (fun a b hab hb=>?_) fun m hm1 hm2 hd=>?_
   ·obtain rfl:a=0:=by omega
    obtain rfl:b=1:=by omega
    exact hs (by omega)
   ·dsimp only
    rw[if_neg (Nat.lt_irrefl 0)]
    obtain⟨ha',P'⟩:=hd.rev P hm2
    unfold kas_tail3
    rw[KasT.kasWp_bind]
    exact o6 O C P' (N - m) m _ (by omega) (by omega) ha' fun n' h1' hn' ha'' _=>k n' _ (by omega) hn' P' ha''
theorem jA(O:Ord N lt)(C:Cmp N lt cmp s)(P:Plc N p){k:Nat}(hk:k < N)(ha:Asc lt p k):∀(f l r:Nat) (Q:Nat→Shared→Prop),l≤r→r≤k→r - l≤f→(∀a,a < l→lt (at_ p a) (at_ p k)=true)→(∀a,r≤a→a < k→lt (at_ p k) (at_ p a)=true)→
  (∀m,m≤k→(∀a,a < m→lt (at_ p a) (at_ p k)=true)→(∀a,m≤a→a < k→lt (at_ p k) (at_ p a)=true)→Q m s)→(kas_place p k f l r).kasWp cmp Q s
 | 0,l,r,Q,h1,h2,h3,h4,h5,q=>by
  obtain rfl:l=r:=by omega
  exact q l h2 h4 h5
 | f+1,l,r,Q,h1,h2,h3,h4,h5,q=>by
  unfold kas_place
  by_cases e:l ≥ r
  ·rw[if_pos e]
   obtain rfl:l=r:=by omega
   exact q l h2 h4 h5
  ·rw[if_neg e]
   have hm:(l+r) / 2 < r:=by omega
   have hm2:l ≤(l+r) / 2:=by omega
   refine C _ _ _ (P.bd hk) (P.bd (by omega)) ?_
   cases e2:lt (at_ p k) (at_ p ((l+r) / 2))with
   | true =>
    refine jA O C P hk ha f l ((l+r) / 2) Q hm2 (by omega) (by omega) h4 (fun a h6 h7=>?_) q
    by_cases hae:a=(l+r) / 2
    ·rw[hae];exact e2
    ·exact O.tr _ _ _ (P.bd hk) (P.bd (by omega)) (P.bd (by omega)) e2 (ha _ a (by omega) h7)
   | false =>
    have hl:=O.tot _ _ (P.bd hk) (P.bd (by omega)) (fun z=>by have:=P.inj hk (by omega) z;omega) e2
    refine jA O C P hk ha f ((l+r) / 2+1) r Q (by omega) h2 (by omega) (fun a h6=>?_) h5 q
    by_cases hae:a=(l+r) / 2
    ·rw[hae];exact hl
    ·exact O.tr _ _ _ (P.bd (by omega)) (P.bd (by omega)) (P.bd hk) (ha a _ (by omega) (by omega)) hl
theorem vk(O:Ord N lt)(C:Cmp N lt cmp s):∀(f k:Nat) (p:Array Nat) (Q:Array Nat→Shared→Prop),Plc N p→Asc lt p k→k+f=N→(∀p',Plc N p'→Asc lt p' N→Q p' s)→(kas_bin f p k).kasWp cmp Q s
 | 0,k,p,Q,P,ha,hk,q=>q p P (by rw[← hk];exact ha)
 | f+1,k,p,Q,P,ha,hk,q=>by
  unfold kas_bin
  rw[KasT.kasWp_bind]
  refine jA O C P (by omega) ha k 0 k _ (Nat.zero_le _) (Nat.le_refl _) (by omega) (fun _ z=>absurd z (Nat.not_lt_zero _)) (fun a h1 h2=>by omega) fun m hm h1 h2=>?_
  have P':Plc N (bubble p k (k - m)):=⟨(Array.perm_iff_toList_perm.mp (bubble_perm _ _ _)).trans P.pm⟩
  have ix:=getElem?_bubble (xs:=p) (src:=k) (by rw[P.sz];omega) (k - m) (by omega)
  have g:∀i,i < k+1→at_ (bubble p k (k - m)) i=if i=m then at_ p k else if m < i then at_ p (i - 1)else at_ p i:=fun i hi=>by
   have e:=ix i
   rw[P'.get (by omega)]at e
   have hkm:k - (k - m)=m:=by omega
   rw[hkm]at e
   by_cases c1:i=m
   ·rw[if_pos c1]
    rw[if_pos c1,P.get (by omega)]at e
    exact Option.some.inj e
   ·rw[if_neg c1]at e ⊢
    by_cases c2:m < i
    ·rw[if_pos c2]
     rw[if_pos ⟨c2,by omega⟩,P.get (by omega)]at e
     exact Option.some.inj e
    ·rw[if_neg c2]
     rw[if_neg (fun z=>c2 z.1),P.get (by omega)]at e
     exact Option.some.inj e
  refine vk O C f (k+1) _ Q P' (fun a b hab hb=>?_) (by omega) q
  rw[g a (by omega),g b hb]
  by_cases a1:a=m
  ·rw[if_pos a1,if_neg (by omega),if_pos (by omega)]
   exact h2 (b - 1) (by omega) (by omega)
  ·rw[if_neg a1]
   by_cases a2:m < a
   ·rw[if_pos a2,if_neg (by omega),if_pos (by omega)]
    exact ha _ _ (by omega) (by omega)
   ·rw[if_neg a2]
    by_cases b1:b=m
    ·rw[if_pos b1];exact h1 a (by omega)
    ·rw[if_neg b1]
     by_cases b2:m < b
     ·rw[if_pos b2]
      by_cases hh:a=b - 1
      ·omega
      ·exact ha _ _ (by omega) (by omega)
     ·rw[if_neg b2]
      exact ha _ _ hab (by omega)
theorem wb(O:Ord N lt)(C:Cmp N lt cmp s)(h2:2≤N)(Q:Array Nat→Shared→Prop)(q:∀p,Plc N p→Asc lt p N→Q p s):(kas_sort N).kasWp cmp Q s:=by
 unfold kas_sort
 rw[KasT.kasWp_bind]
 refine vg O C (p:=List.toArray (List.range N)) ⟨by simp⟩ h2 _ fun m p' h1 hm P ha=>?_
 dsimp only
 by_cases e:m < N
 ·rw[if_pos e,Nat.max_eq_left h1]
  exact vk O C (N - m) m p' Q P ha (by omega) q
 ·rw[if_neg e]
  obtain rfl:m=N:=by omega
  exact q p' P ha
end
end PR
namespace PR
open PySem PySem.Spec L2 PyProof.Rows PySem.W
section
variable{prog:Program}{w:World}{A:Around}{E:Value→Shared→Prop}{s:Shared}
def jF(vs:List Value)(p:Array Nat):Array Value:=(p.toList.map fun i=>vs.getD i Value.none).toArray
theorem qU(N:Nat):Plc N (List.range N).toArray:=⟨by simp⟩
theorem iZ{vs:List Value}:jF vs (List.range vs.length).toArray=vs.toArray:=by
 unfold jF
 congr 1
 refine List.ext_getElem (by simp) fun i h1 h2=>?_
 simp[h2]
theorem rC{a:Addr}{vs:List Value}{n:Nat}{κ:SortKind}{lt:Nat→Nat→Bool}{P:PySem.Fin→Shared→Prop}(ho:s.heap.get? a=some (seqObj "list" vs.toArray n))(h64:vs.length < 64)
  (hK:2≤vs.length→∀s':Shared,(∀b o,b≠a→s.heap.get? b=some o→s'.heap.get? b=some o)→Ord vs.length lt∧(∀Q:SortKind→Shared→Prop,Q κ s'→wpAny (model prog w) A (keyKind' vs.toArray) Q E s')∧Cmp vs.length lt (kas_ask prog w A κ vs) s')
  (h:∀p,Plc vs.length p→Asc lt p vs.length→P (.done (.ret .none)) { s with heap:=sortedHeap s.heap a vs (jF vs p) }) :
  wpAny (model prog w) A (Builtin.«list.sort» ⟨[.ref a],[]⟩) P E s:=by
 have lo:=Heap.lt_size ho
 obtain⟨e1,g1⟩:∃e1,(s.heap.update a (Obj.mapSeq fun _=>#[])).get? a=some (seqObj "list" #[] e1):=⟨_,get?_update_seq ho (fun _=>#[])⟩
 have g6:(((s.heap.update a (Obj.mapSeq fun _=>#[])).push (seqObj "tuple" vs.toArray 0)).push (seqObj "list" #[] 0)).get? a=some (seqObj "list" #[] e1):=Heap.get?_push_of_some _ (Heap.get?_push_of_some _ g1)
 have kp:∀b o,b≠a→s.heap.get? b=some o→(((s.heap.update a (Obj.mapSeq fun _=>#[])).push (seqObj "tuple" vs.toArray 0)).push (seqObj "list" #[] 0)).get? b=some o:=fun b o hb q =>
  Heap.get?_push_of_some _ (Heap.get?_push_of_some _ ((Heap.get?_update_ne _ _ _ _ hb).trans q))
 rw[list_sort_plain]
 refine wpAny_bind (listItems_at ho rfl (wpAny_bind (listUpdate_at ho rfl (wpAny_bind (seqEpoch_at g1 rfl (wpAny_bind (wpAny_newTuple (wpAny_bind (wpAny_newList (wpAny_holding ?_))))))))))<;>try (simp only[List.size_toArray,sizeLine_eq];omega)
 show wpAny (model prog w) A _ P E { s with heap:=((s.heap.update a (Obj.mapSeq fun _=>#[])).push (seqObj "tuple" vs.toArray 0)).push (seqObj "list" #[] 0) }
 dsimp only
 by_cases h2:vs.toArray.size < 2
 ·have h2':vs.length < 2:=by simpa using h2
  rw[if_pos h2,if_pos h2]
  refine wpAny_bind (wpAny_pure ?_)
  rw[StateT.run_pure]
  refine wpAny_bind (wpAny_pure ?_)
  dsimp only
  have e3:(arrOf (SortSt.mk' general' (vs.toArray.zip vs.toArray) #[] 7 none)).map (·.2)=jF vs (List.range vs.length).toArray:=by
   rw[iZ]
   show(vs.toArray.zip vs.toArray).map (·.2)=vs.toArray
   match vs,h2' with
   | [],_=>simp
   | [v],_=>simp
  rw[e3]
  refine wpAny_bind (seqEpoch_at g6 rfl (wpAny_bind (listUpdate_at g6 rfl ?_ (Nat.zero_le _) (by rw[iZ];simp only[List.size_toArray,sizeLine_eq];omega))))
  simp only[bne_self_eq_false,Bool.false_eq_true,if_false]
  exact wpAny_pure (h _ (qU _) fun x y hxy hy=>by omega)
 ·have h2':2≤vs.length:=by simp at h2;omega
  rw[if_neg h2,if_neg h2]
  obtain⟨O,hk,C⟩:=hK h2' { s with heap:=((s.heap.update a (Obj.mapSeq fun _=>#[])).push (seqObj "tuple" vs.toArray 0)).push (seqObj "list" #[] 0) } kp
  refine wpAny_bind (hk _ ?_)
  refine wpAny_bind (wpAny_mono (kat_run (κ:=κ) (ks:=vs) (vs:=vs) (Q:=fun st' s'=>∃ p:Array Nat,arrOf st'=p.map (kas_item (vs.toArray.zip vs.toArray))∧failedOf st'=none∧Plc vs.length p∧Asc lt p vs.length∧s'=_) rfl h2' h64
   (fun p st' s' _ a2 a3 a4=>⟨p,a2,a3,a4⟩) (wb O C h2' _ fun p c1 c2=>⟨c1,c2,rfl⟩)) ?_ fun _ _ e=>e)
  rintro⟨⟨⟩,st'⟩ s' ⟨p,har,hf,c1,c2,rfl⟩
  dsimp only
  have e3:=kat_snds (ks:=vs) (vs:=vs) rfl har
  rw[e3]
  refine wpAny_bind (seqEpoch_at g6 rfl (wpAny_bind (listUpdate_at g6 rfl ?_ (Nat.zero_le _) (by
   rw[List.size_toArray,List.length_map,Array.length_toList,c1.sz,sizeLine_eq];omega))))
  rw[hf]
  simp only[bne_self_eq_false,Bool.false_eq_true,if_false]
  exact wpAny_pure (h _ c1 c2)
theorem oi{l:Addr}{vs:List Value}{κ:SortKind}{lt:Nat→Nat→Bool}{Q:Value→Shared→Prop}(hl:s.heap.IsList l vs.toArray)(h64:vs.length < 64)
  (hK:2≤vs.length→∀s':Shared,(∀b o,s.heap.get? b=some o→s'.heap.get? b=some o)→Ord vs.length lt∧(∀(E:Value→Shared→Prop) (Q:SortKind→Shared→Prop),Q κ s'→wpAny (model prog w) A.in1.in1 (keyKind' vs.toArray) Q E s')∧Cmp vs.length lt (kas_ask prog w A.in1.in1 κ vs) s')
  (h:∀p,Plc vs.length p→Asc lt p vs.length→Q (.ref (s.heap.objs.size+1)) { s with heap:=sortedAll s.heap vs (jF vs p) }) :
  wpAny (model prog w) A (call (.builtin "sorted") [.ref l]) Q E s:=by
 refine Calls.call_function_entry kind_sorted plain_sorted entry_sorted (args_sorted1 _) ?_
 unfold Builtin.«sorted»
 have sz:((s.heap.push (seqObj "list" #[] 0)).update s.heap.objs.size (Obj.mapSeq (·++vs.toArray))).objs.size=s.heap.objs.size+1:=(Heap.size_update _ _ _).trans (size_push' _ _)
 refine wpAny_bind (m:=checkCount "sorted" 1 1 _) (wpAny_pure (wpAny_bind (collect_list hl (wpAny_bind (wpAny_newList ?_ (by rw[sizeLine_eq];omega))) (by rw[sizeLine_eq];omega))))
 have g:(((s.heap.push (seqObj "list" #[] 0)).update s.heap.objs.size (Obj.mapSeq (·++vs.toArray))).push (seqObj "list" vs.toArray 0)).get? (s.heap.objs.size+1)=some (seqObj "list" vs.toArray 0):=sz▸Heap.get?_push_size _ rfl
 have kp:∀b o,s.heap.get? b=some o→(((s.heap.push (seqObj "list" #[] 0)).update s.heap.objs.size (Obj.mapSeq (·++vs.toArray))).push (seqObj "list" vs.toArray 0)).get? b=some o:=fun b o q =>
  Heap.get?_push_of_some _ ((Heap.get?_update_ne _ _ _ _ (Nat.ne_of_lt (Heap.lt_size q))).trans (Heap.get?_push_of_some _ q))
 show wpAny _ _ _ _ _ { s with heap:=((s.heap.push (seqObj "list" #[] 0)).update s.heap.objs.size (Obj.mapSeq (·++vs.toArray))).push (seqObj "list" vs.toArray 0) }
 rw[sz]
 refine wpAny_bind (wpAny_holding (wpAny_call_entry slot_list_sort ⟨_,g,rfl⟩ entry_list_sort ?body (args_list_sort _)))
 refine rC (κ:=κ) (lt:=lt) g h64 (fun h2 s' k'=>?_) fun p c1 c2=>⟨_,rfl,wpAny_pure ⟨_,rfl,h p c1 c2⟩⟩
 obtain⟨O,hk,C⟩:=hK h2 s' fun b o q=>k' b o (Nat.ne_of_lt (Nat.lt_succ_of_lt (Heap.lt_size q))) (kp b o q)
 exact⟨O,fun Q q=>hk _ Q q,C⟩
def dL(x y:Int×Int):Bool:=decide (x.1 < y.1) ||(x.1==y.1&&decide (x.2 < y.2))
theorem gO{x y z:Int×Int}(h1:dL x y=true)(h2:dL y z=true):dL x z=true:=by
 simp only[dL,Bool.or_eq_true,Bool.and_eq_true,decide_eq_true_eq,beq_iff_eq]at *
 omega
theorem mW(x:Int×Int):dL x x=false:=by simp[dL]
theorem mV{x y:Int×Int}(h:x≠y):dL x y=true∨dL y x=true:=by
 obtain⟨a,b⟩:=x
 obtain⟨c,d⟩:=y
 have:a≠c∨b≠d:=by
  by_cases e:a=c
  ·right;intro e2;exact h (by rw[e,e2])
  ·exact .inl e
 simp only[dL,Bool.or_eq_true,Bool.and_eq_true,decide_eq_true_eq,beq_iff_eq]
 omega
def b8(h:Heap):List Value→List (Int×Int)→Prop
 | [],[]=>True
 | v::vs,x::ps=>(∃a o n t u,v=.ref a∧h.get? a=some o∧o.cls=.type "tuple" ∧ o.data=.seq #[.int x.1 t,.int x.2 u] n)∧b8 h vs ps
 | _,_=>False
theorem b8.len{h:Heap}:∀{vs:List Value}{ps:List (Int×Int)},b8 h vs ps→vs.length=ps.length
 | [],[],_=>rfl
 | _::_,_::_,q=>by simp[q.2.len]
theorem b8.kept{h h':Heap}(k:∀b o,h.get? b=some o→h'.get? b=some o):∀{vs:List Value}{ps:List (Int×Int)},b8 h vs ps→b8 h' vs ps
 | [],[],_=>trivial
 | _::_,_::_,⟨⟨a,o,n,t,u,e1,e2,e3⟩,q⟩=>⟨⟨a,o,n,t,u,e1,k _ _ e2,e3⟩,q.kept k⟩
theorem b8.at{h:Heap}:∀{vs:List Value}{ps:List (Int×Int)},b8 h vs ps→∀i,i < ps.length→∃a o n t u,vs.getD i Value.none=.ref a∧h.get? a=some o∧o.data=.seq #[.int (ps.getD i (0,0)).1 t,.int (ps.getD i (0,0)).2 u] n
 | _::_,_::_,⟨⟨a,o,n,t,u,e1,e2,e3⟩,q⟩,0,_=>⟨a,o,n,t,u,by simp[e1],e2,by simpa using e3.2⟩
 | v::vs,x::ps,⟨_,q⟩,i+1,hi=>by
  have:=q.at i (by simpa using hi)
  simpa using this
 | [],[],_,i,hi=>by simp at hi
theorem b8.firsts{h:Heap}:∀{vs:List Value}{ps:List (Int×Int)},b8 h vs ps→∃fs,KatTups h vs fs∧fs.length=ps.length∧∀v∈fs,∃i t,v=.int i t
 | [],[],_=>⟨[],.nil,rfl,fun v hv=>by cases hv⟩
 | _::_,_::_,⟨⟨a,o,n,t,u,e1,e2,e3,e4⟩,q⟩=>by
  obtain⟨fs,h1,h2,h3⟩:=q.firsts
  subst e1
  refine⟨_::fs,.cons e2 e3 e4 rfl h1,by simp[h2],fun v hv=>?_⟩
  rcases List.mem_cons.mp hv with rfl | hv
  ·exact⟨_,_,rfl⟩
  ·exact h3 v hv
theorem qY{ps:List (Int×Int)}(hd:ps.Nodup):Ord ps.length (fun i j=>dL (ps.getD i (0,0)) (ps.getD j (0,0))):=by
 refine⟨fun i j k _ _ _ h1 h2=>gO h1 h2,fun i j hi hj hn h=>?_,fun i _=>mW _⟩
 have:ps.getD i (0,0)≠ ps.getD j (0,0):=by
  simp only[List.getD_eq_getElem?_getD,List.getElem?_eq_getElem hi,List.getElem?_eq_getElem hj,Option.getD_some]
  exact fun e=>hn ((List.getElem_inj hd).mp e)
 rcases mV this with q | q
 ·rw[q]at h;cases h
 ·exact q
theorem kA{b:Bool}{x y:Int}{t u:Tok}{Q:Bool→Shared→Prop}(h:Q (decide (x < y)) s):wpAny (model prog w) A (oneLt' b (.int x t) (.int y u)) Q E s:=by
 cases b with
 | true=>exact oneLt_int h
 | false=>exact kat_one _ _ (wpAny_lt_int h)
theorem qZ{vs:List Value}{ps:List (Int×Int)}(hp:b8 s.heap vs ps):Cmp vs.length (fun i j=>dL (ps.getD i (0,0)) (ps.getD j (0,0))) (kas_ask prog w A (tuples' true) vs) s:=by
 intro i j C hi hj q
 rw[hp.len]at hi hj
 obtain⟨a,o,n,t,u,e1,e2,e3⟩:=hp.at i hi
 obtain⟨a',o',n',t',u',e1',e2',e3'⟩:=hp.at j hj
 unfold kas_ask
 rw[e1,e1']
 dsimp only at q
 generalize ps.getD i (0,0)=x at *
 generalize ps.getD j (0,0)=y at *
 refine kat_lt e2 e3 e2' e3' (kat_cons (wpAny_eqBool_int (kat_go (fun h1=>kat_yes (kat_cons (wpAny_eqBool_int (kat_go (fun h2=>kat_yes (kat_nil ?_)) fun h2=>kat_no (kA ?_))))) fun h1=>kat_no (kA ?_))))
 ·simp only[beq_iff_eq]at h1 h2
  have:dL x y=false:=by simp[dL,h1,h2]
  rw[this]at q
  exact q
 ·simp only[beq_iff_eq]at h1
  have:dL x y=decide (x.2 < y.2):=by simp[dL,h1]
  rw[this]at q
  exact q
 ·have:dL x y=decide (x.1 < y.1):=by simp[dL,h1]
  rw[this]at q
  exact q
theorem oC{vs:List Value}{ps:List (Int×Int)}(hp:b8 s.heap vs ps)(h2:2≤vs.length){Q:SortKind→Shared→Prop}(q:Q (tuples' true) s):wpAny (model prog w) A (keyKind' vs.toArray) Q E s:=by
 obtain⟨fs,h1,hl,hi⟩:=hp.firsts
 refine kat_kind (T:=.type "int") h1 (by rw[hl,← hp.len];omega) (fun v hv=>?_) rfl q
 obtain⟨i,t,rfl⟩:=hi v hv
 exact Looks.of_pure rfl
theorem lh{l:Addr}{vs:List Value}{ps:List (Int×Int)}{Q:Value→Shared→Prop}(hl:s.heap.IsList l vs.toArray)(h64:vs.length < 64)(hp:b8 s.heap vs ps)(hd:ps.Nodup)
  (h:∀p,Plc vs.length p→Asc (fun i j=>dL (ps.getD i (0,0)) (ps.getD j (0,0))) p vs.length→Q (.ref (s.heap.objs.size+1)) { s with heap:=sortedAll s.heap vs (jF vs p) }) :
  wpAny (model prog w) A (call (.builtin "sorted") [.ref l]) Q E s :=
 oi hl h64 (fun h2 s' k=>⟨hp.len▸qY hd,fun E Q q=>oC (hp.kept k) h2 q,qZ (hp.kept k)⟩) h
end
end PR
namespace PR
open PySem PySem.Spec L2 PyProof.Rows
def oT(x:Int):List Int→List Int
 | []=>[x]
 | y::l=>if x≤y then x::y::l else y::oT x l
def g8:List Int→List Int
 | []=>[]
 | x::l=>oT x (g8 l)
theorem iQ(x:Int):∀l,(oT x l).Perm (x::l)
 | []=>.refl _
 | y::l=>by
  unfold oT
  split
  ·exact .refl _
  ·exact((iQ x l).cons y).trans (.swap x y l)
theorem dS:∀l,(g8 l).Perm l
 | []=>.refl _
 | x::l=>(iQ x _).trans ((dS l).cons x)
theorem nE(x:Int):∀{l:List Int},l.Pairwise (·≤·)→(oT x l).Pairwise (·≤·)
 | [],_=>by simp[oT]
 | y::l,h=>by
  obtain⟨h1,h2⟩:=List.pairwise_cons.mp h
  unfold oT
  split
  ·refine List.pairwise_cons.mpr ⟨fun z hz=>?_,h⟩
   rcases List.mem_cons.mp hz with rfl | hz
   ·assumption
   ·have:=h1 z hz;omega
  ·refine List.pairwise_cons.mpr ⟨fun z hz=>?_,nE x h2⟩
   rcases List.mem_cons.mp ((iQ x l).mem_iff.mp hz)with rfl | hz
   ·omega
   ·exact h1 z hz
theorem kh:∀l,(g8 l).Pairwise (·≤·)
 | []=>.nil
 | x::l=>nE x (kh l)
theorem om{l l':List Int}(h1:l'.Perm l)(h2:l'.Pairwise (·≤·)):l'=g8 l :=
 List.Perm.eq_of_pairwise (fun a b _ _ x y=>Int.le_antisymm x y) h2 (kh l) (h1.trans (dS l).symm)
def oS(x:Int×Int):List (Int×Int)→List (Int×Int)
 | []=>[x]
 | y::l=>if dL x y then x::y::l else y::oS x l
def bW:List (Int×Int)→List (Int×Int)
 | []=>[]
 | x::l=>oS x (bW l)
theorem iP(x:Int×Int):∀l,(oS x l).Perm (x::l)
 | []=>.refl _
 | y::l=>by
  unfold oS
  split
  ·exact .refl _
  ·exact((iP x l).cons y).trans (.swap x y l)
theorem cb:∀l,(bW l).Perm l
 | []=>.refl _
 | x::l=>(iP x _).trans ((cb l).cons x)
theorem nD(x:Int×Int):∀{l:List (Int×Int)},x∉l→l.Pairwise (fun a b=>dL a b=true)→(oS x l).Pairwise (fun a b=>dL a b=true)
 | [],_,_=>by simp[oS]
 | y::l,hn,h=>by
  obtain⟨h1,h2⟩:=List.pairwise_cons.mp h
  unfold oS
  split
  ·refine List.pairwise_cons.mpr ⟨fun z hz=>?_,h⟩
   rcases List.mem_cons.mp hz with rfl | hz
   ·assumption
   ·exact gO ‹_› (h1 z hz)
  ·refine List.pairwise_cons.mpr ⟨fun z hz=>?_,nD x (fun z=>hn (List.mem_cons_of_mem _ z)) h2⟩
   rcases List.mem_cons.mp ((iP x l).mem_iff.mp hz)with rfl | hz
   ·rcases mV (x:=y) (y:=z) (fun e=>hn (e▸List.mem_cons_self))with q | q
    ·exact q
    ·contradiction
   ·exact h1 z hz
theorem kg:∀{l:List (Int×Int)},l.Nodup→(bW l).Pairwise (fun a b=>dL a b=true)
 | [],_=>.nil
 | x::l,h=>by
  obtain⟨h1,h2⟩:=List.nodup_cons.mp h
  exact nD x (fun z=>h1 ((cb l).mem_iff.mp z)) (kg h2)
theorem oj{l l':List (Int×Int)}(hd:l.Nodup)(h1:l'.Perm l)(h2:l'.Pairwise (fun a b=>dL a b=true)):l'=bW l :=
 List.Perm.eq_of_pairwise (fun a b _ _ x y=>by
  have:=gO x y
  rw[mW]at this;cases this) h2 (kg hd) (h1.trans (cb l).symm)
theorem qR{α:Type}(l:List α)(d:α):(List.range l.length).map (fun i=>l.getD i d)=l:=by
 refine List.ext_getElem (by simp) fun i h1 h2=>?_
 simp[h2]
theorem qT{ps:List (Int×Int)}{p:Array Nat}(hd:ps.Nodup)(P:Plc ps.length p)(a:Asc (fun i j=>dL (ps.getD i (0,0)) (ps.getD j (0,0))) p ps.length):p.toList.map (fun i=>ps.getD i (0,0))=bW ps:=by
 refine oj hd (by have:=P.pm.map (fun i=>ps.getD i (0,0));rwa [qR]at this) ?_
 refine List.pairwise_iff_getElem.mpr fun i j hi hj hij=>?_
 have hs:=P.sz
 have hi':i < p.size:=by simpa using hi
 have hj':j < p.size:=by simpa using hj
 have:=a i j hij (by omega)
 simpa[at_,Array.getD,hi',hj']using this
def PrH(K:PySem.W.Frag)(H:Hp):List V→List (Int×Int)→Prop
 | [],[]=>True
 | v::vs,x::ps=>(∃a,v=.ref a∧SqT K H a [.int x.1,.int x.2])∧PrH K H vs ps
 | _,_=>False
theorem PrH.len{K:PySem.W.Frag}{H:Hp}:∀{vs:List V}{ps:List (Int×Int)},PrH K H vs ps→vs.length=ps.length
 | [],[],_=>rfl
 | _::_,_::_,q=>by simp[q.2.len]
section
variable{X:Cx}{T:Tb}{W:Nat→L2.St→Hp→Prop}{Z:Zn}{F F1 B L:Addr→Prop}{H H1:Hp}{σ:L2.St}{env:En}{fp:Nat→List Addr}{pins:List (Addr×Obj)}{s:Shared}
theorem PrH.at(I:L2.Inv X pins σ H s):∀{vs:List V}{its:List Value}{ps:List (Int×Int)},PrH X.K H vs ps→aH vs its→b8 s.heap its ps
 | [],_,[],_,r=>by cases r;trivial
 | _::_,_,_::_,⟨⟨a,e,h⟩,q⟩,r=>by
  cases r with
  | cons h1 h2 =>
   subst e
   cases h1
   refine⟨?_,q.at I h2⟩
   obtain⟨its,r,pl,_⟩:=I.tuple h
   obtain⟨u,r2,rfl,⟨t,rfl⟩,r3⟩:∃u r2,its=u::r2∧bg _ u∧aH _ r2:=by cases r with | cons a b=>exact⟨_,_,rfl,a,b⟩
   obtain⟨u',rfl,⟨t',rfl⟩⟩:=cU r3
   obtain⟨o,ho,hcl,n,hd⟩:=pl
   exact⟨a,o,n,t,t',rfl,ho,hcl,hd⟩
theorem sr{vs:List V}{its:List Value}(r:aH vs its)(q:List Nat)(hq:∀i∈q,i < vs.length):aH (q.map fun i=>vs.getD i .non) (q.map fun i=>its.getD i Value.none):=by
 induction q with
 | nil=>exact .nil
 | cons i q ih =>
  refine .cons ?_ (ih fun j hj=>hq j (List.mem_cons_of_mem _ hj))
  have hi:=hq i List.mem_cons_self
  have:∀{vs:List V}{its:List Value}{i:Nat},aH vs its→i < vs.length→bg (vs.getD i .non) (its.getD i Value.none):=by
   intro vs its i r
   induction r generalizing i with
   | nil=>intro h;simp at h
   | cons a b ih =>
    intro h
    cases i with
    | zero=>simpa using a
    | succ i=>simpa using ih (by simpa using h)
  exact this r hi
theorem lT:∀{ns:List Int}{its:List Value},PyProof.Rows.IntsAre its ns→aH (ns.map V.int) its:=by
 intro ns its h
 induction h with
 | nil=>exact .nil
 | cons=>exact .cons ⟨_,rfl⟩ ‹_›
theorem nX:cW X (.builtin "sorted") (fun xs H Q=>∃ p ys,xs=[.ref p]∧SqL X.K H p ys∧ys.length < 64 ∧
    ((∃ ns,ys=ns.map V.int∧∀ l,H l=none→Q (.ref l) (upd H l (.lst ((g8 ns).map V.int)))) ∨
     (∃ps,PrH X.K H ys ps∧ps.Nodup∧∀l (q:List Nat),H l=none→q.Perm (List.range ys.length)→q.map (fun i=>ps.getD i (0,0))=bW ps→Q (.ref l) (upd H l (.lst (q.map fun i=>ys.getD i .non)))))):=by
  intro pins s σ H xs us Q I rv h
  obtain⟨p,ys,rfl,hq,h64,h⟩:=h
  obtain⟨u,rfl,rx⟩:=cU rv
  cases rx
  obtain⟨its,r,pl,hz⟩:=I.list hq
  have hlen:=r.length
  have hfr:=I.hok.fresh (Nat.le_succ s.heap.objs.size)
  rcases h with⟨ns,rfl,q⟩ |⟨ps,hp,hd,q⟩
  · refine sorted_ints pl.isList (eY r) (by omega) fun out ns' a1 a2 a3=>?_
    obtain⟨c,hc⟩:=sortedAll_at s.heap its out
    have e:=om a2 a3
    subst e
    refine⟨.ref (s.heap.objs.size+1),_,I.laid (fun b o=>sortedAll_old) (Nat.le_succ _) ?_,rfl,q _ hfr⟩
    refine⟨?_,out.toList,c,lT a1,by simpa using hc⟩
    rw[sizeLine_eq];simp[(dS ns).length_eq]at h64 ⊢;omega
  · refine lh pl.isList (by omega) (hp.at I r) hd fun p P a=>?_
    obtain⟨c,hc⟩:=sortedAll_at s.heap its (jF its p)
    have hl:=hp.len
    have pm:p.toList.Perm (List.range ys.length):=by rw[hlen];exact P.pm
    refine⟨.ref (s.heap.objs.size+1),_,I.laid (fun b o=>sortedAll_old) (Nat.le_succ _) ?_,rfl,q _ p.toList hfr pm (qT hd (by rw[← hl,hlen];exact P) (by rw[← hl,hlen];exact a))⟩
    refine⟨?_,_,c,sr r p.toList (fun i hi=>by simpa using pm.mem_iff.mp hi),hc⟩
    rw[sizeLine_eq];simp[P.sz,← hlen];omega
end
end PR
namespace PR
open PySem PySem.Spec L2
def prV(x:Int×Int):PV:=.tup [.int x.1,.int x.2]
def f6:PV→Option (Int×Int)
 | .tup [.int a,.int b]=>some (a,b)
 | _=>none
def eF:List PV→Option (List (Int×Int))
 | []=>some []
 | x::xs=>match f6 x,eF xs with
  | some y,some ys=>some (y::ys)
  | _,_=>none
def dM:PV→Res PV
 | .lst _ xs=>if decide (xs.length < 64) then (match bE xs with
  | some ns=>.ok (.lst .own ((g8 ns).map .int))
  | none=>match eF xs with
   | some ps=>if decide ps.Nodup then .ok (.lst .own ((bW ps).map prV))else .stuck
   | none=>.stuck)else .stuck
 | _=>.stuck
section
variable{X:Cx}{T:Tb}{W:Nat→St→Hp→Prop}{Z:Zn}{F F1 B L:Addr→Prop}{H H1:Hp}{σ:St}{env:En}{fp:Nat→List Addr}
theorem q8{x:PV}{y:Int×Int}(e:f6 x=some y):x=prV y:=by
 unfold f6 at e
 split at e
 ·cases e;rfl
 ·cases e
theorem gP:∀{xs:List PV}{vs:List V}{f:List Addr}{ps:List (Int×Int)},eF xs=some ps→RelL T F B L H xs vs f→PrH T.K H vs ps∧f=[]
 | [],_,_,_,e,r=>by cases e;unfold RelL at r;obtain⟨rfl,rfl⟩:=r;exact⟨trivial,rfl⟩
 | x::xs,_,_,ps,e,r=>by
  unfold RelL at r
  obtain⟨v,ws,f1,f2,rfl,h1,h2,rfl⟩:=r
  unfold eF at e
  cases e1:f6 x with
  | none=>rw[e1]at e;cases e
  | some y =>
   cases e2:eF xs with
   | none=>rw[e1,e2]at e;cases e
   | some ys =>
    rw[e1,e2]at e
    cases e
    obtain⟨q,rfl⟩:=gP e2 h2
    have:=q8 e1
    subst this
    unfold prV Rel at h1
    obtain⟨a,us,rfl,hs,hr⟩:=h1
    unfold RelL at hr
    obtain⟨v1,w1,g1,g2,rfl,k1,k2,rfl⟩:=hr
    obtain⟨v2,rfl,k3⟩:=RelL.one k2
    unfold Rel at k1 k3
    obtain⟨rfl,rfl⟩:=k1
    obtain⟨rfl,rfl⟩:=k3
    exact⟨⟨⟨a,rfl,hs⟩,q⟩,rfl⟩
theorem PrH.rel:∀{vs:List V}{ps:List (Int×Int)},PrH T.K H vs ps→RelL T F B L H (ps.map prV) vs []
 | [],[],_=>fW _ _ _ _
 | _::_,x::ps,⟨⟨a,e,h⟩,q⟩=>by
  subst e
  rw[List.map_cons]
  unfold RelL
  refine⟨_,_,[],[],rfl,?_,q.rel,rfl⟩
  unfold prV Rel
  refine⟨a,_,rfl,h,?_⟩
  unfold RelL
  refine⟨_,_,[],[],rfl,eE,?_,rfl⟩
  unfold RelL
  exact⟨_,_,[],[],rfl,eE,fW _ _ _ _,rfl⟩
theorem PrH.get{K:PySem.W.Frag}:∀{vs:List V}{ps:List (Int×Int)},PrH K H vs ps→∀i,i < vs.length→∃a,vs.getD i .non=.ref a∧SqT K H a [.int (ps.getD i (0,0)).1,.int (ps.getD i (0,0)).2]
 | _::_,_::_,⟨h,q⟩,0,_=>by simpa using h
 | _::_,_::_,⟨_,q⟩,i+1,hi=>by simpa using q.get i (by simpa using hi)
 | [],[],_,_,hi=>by simp at hi
theorem PrH.map{K:PySem.W.Frag}{vs:List V}{ps:List (Int×Int)}(h:PrH K H vs ps)(q:List Nat)(hq:∀i∈q,i < vs.length):PrH K H (q.map fun i=>vs.getD i .non) (q.map fun i=>ps.getD i (0,0)):=by
 induction q with
 | nil=>trivial
 | cons i q ih=>exact⟨h.get i (hq i List.mem_cons_self),ih fun j hj=>hq j (List.mem_cons_of_mem _ hj)⟩
theorem wE(ns:List Int):RelL T F B L H (ns.map PV.int) (ns.map V.int) []:=by
 induction ns with
 | nil=>exact fW _ _ _ _
 | cons a l ih =>
  rw[List.map_cons,List.map_cons]
  unfold RelL
  exact⟨_,_,[],[],rfl,eE,ih,rfl⟩
theorem RelL.len2:∀{xs:List PV}{vs:List V}{f:List Addr},RelL T F B L H xs vs f→xs.length=vs.length
 | [],_,_,r=>by unfold RelL at r;rw[r.1];rfl
 | x::xs,_,_,r=>by
  unfold RelL at r
  obtain⟨v,ws,f1,f2,rfl,_,h2,_⟩:=r
  simp[h2.len2]
theorem oI(hK:X.K=T.K):Mir T W (p1 dM) (fun xs H Q=>∃ p ys,xs=[.ref p]∧SqL X.K H p ys∧ys.length < 64 ∧
    ((∃ ns,ys=ns.map V.int∧∀ l,H l=none→Q (.ref l) (upd H l (.lst ((g8 ns).map V.int)))) ∨
     (∃ps,PrH X.K H ys ps∧ps.Nodup∧∀l (q:List Nat),H l=none→q.Perm (List.range ys.length)→q.map (fun i=>ps.getD i (0,0))=bW ps→Q (.ref l) (upd H l (.lst (q.map fun i=>ys.getD i .non)))))):=by
  intro B F L σ H Q F' H' xs vs fx g r nf nd new q
  match xs,r,q with
  | [x],r,q =>
    obtain⟨v,rfl,r1⟩:=r.one
    simp only[p1]at q
    cases x with
    | lst f xs =>
      unfold Rel at r1
      obtain⟨a,ws,fp',rfl,hl,hr,_⟩:=r1
      simp only[dM]at q
      by_cases hn:decide (xs.length < 64)=true
      · rw[if_pos hn]at q
        refine⟨a,ws,rfl,by rw[hK];exact hl.sq,by rw[← hr.len2];exact of_decide_eq_true hn,?_⟩
        cases e1:bE xs with
        | some ns =>
          rw[e1]at q
          dsimp only at q
          exact .inl ⟨ns,c_ e1 hr,GE.newL q g (wE _) (fun _ h=>by cases h) .nil (fun _ h=>by cases h)⟩
        | none =>
          rw[e1]at q
          dsimp only at q
          cases e2:eF xs with
          | none=>rw[e2]at q;exact q.elim
          | some ps =>
            rw[e2]at q
            dsimp only at q
            by_cases hd:decide ps.Nodup=true
            · rw[if_pos hd]at q
              obtain⟨hp,rfl⟩:=gP e2 hr
              refine .inr ⟨ps,by rw[hK];exact hp,of_decide_eq_true hd,fun l q' hl' pm e=>?_⟩
              have h2:=hp.map q' fun i hi=>by simpa using pm.mem_iff.mp hi
              rw[e]at h2
              exact GE.newL q g h2.rel (fun _ h=>by cases h) .nil (fun _ h=>by cases h) l hl'
            · rw[if_neg hd]at q;exact q.elim
      · rw[if_neg hn]at q;exact q.elim
    | _=>exact q.elim
  | [],_,q=>exact q.elim
  | _::_::_,_,q=>simp only[p1]at q;exact q.elim
theorem sf:bootBuiltins "sorted" = some (.builtin "sorted"):=by decide +kernel
theorem kj{p pos:Pos}{e:Expr}{m:ME}(hK:X.K=T.K)(hg:Gl X "sorted")(hm:X.mg "sorted" = none)(ha:SE X T W e m)(he:starEach [e] X.env=[(false,eval e X.env)]:=by rfl):SE X T W (.Call (.Name "sorted" p) [e] [] pos) (ap (p1 dM) (ae m am)) :=
 cH nX (oI hK) hg hm sf (aa ha ag (by rw[he];rfl)) (he:=by rw[he];rfl) (hpl:=rfl)
end
end PR
namespace PR
open PySem PySem.Spec L2
section
variable{X:Cx}{T:Tb}{W:Nat→St→Hp→Prop}{Z:Zn}{F:Addr→Prop}{H:Hp}{σ:St}{env:En}{fp:Nat→List Addr}
theorem cG{x:Str}{i:Int}{pos:Pos}(hg:Gl X x)(hm:∃t,X.mg x=some (.int i t))(hd:(x ==("__debug__" : Str))=false:=by decide):SE X T W (.Name x pos) (mC (.int i)):=by
 obtain⟨t,h⟩:=hm
 exact sN hg h hd
end
end PR
namespace PR
open PySem PySem.Spec L2
def bY{α:Type}(n:Nat)(y:α)(xs:List α):List α:=xs.take n++y::xs.drop n
def wI:V→List V→Hp→VK→Prop:=fun x vs H Q=>∃l xs k y,x=.ref l∧vs=[.int k,y]∧H l=some (.lst xs)∧xs.length < sizeLine∧(0≤k∧k≤xs.length)∧Q .non (upd H l (.lst (bY k.toNat y xs)))
theorem qx{xs:List V}{its:List Value}(r:aH xs its)(n:Nat):aH (xs.take n) (its.take n):=by
 induction r generalizing n with
 | nil=>simp;exact .nil
 | cons a b ih=>cases n with
  | zero=>exact .nil
  | succ n=>exact .cons a (ih n)
theorem qy{xs:List V}{its:List Value}(r:aH xs its)(n:Nat):aH (xs.drop n) (its.drop n):=by
 induction r generalizing n with
 | nil=>simp;exact .nil
 | cons a b ih=>cases n with
  | zero=>exact .cons a b
  | succ n=>exact ih n
section
variable{X:Cx}{T:Tb}{W:Nat→St→Hp→Prop}{Z:Zn}{F F1 B L:Addr→Prop}{H H1:Hp}{σ:St}{env:En}{fp:Nat→List Addr}{D:Ends}
theorem rp:MtM X "list.insert" wI:=by
 intro pins s σ H x vs v us Q I rx rv h
 obtain⟨l,xs,k,y,rfl,rfl,hH,hz,⟨h0,h1⟩,q⟩:=h
 cases rx
 obtain⟨u0,u,rfl,⟨t,rfl⟩,ru⟩:∃u0 u,us=[u0,u]∧bg (.int k) u0∧bg y u:=by
  cases rv with
  | cons a b=>obtain⟨u,rfl,ru⟩:=cU b;exact⟨_,u,rfl,a,ru⟩
 obtain⟨z,its,n,r,hl,e⟩:=I.lstM hH
 have hlen:=r.length
 have fits:¬(!Builtin.List.listFitsIndex k)=true:=by
  rw[sizeLine_eq]at hz
  simp[Builtin.List.listFitsIndex]
  omega
 refine call_meets PySem.F.slot_list_insert ⟨_,e,rfl⟩ PySem.F.entry_list_insert (PySem.F.args_list_insert_3 _ _ _) (PySem.AutoSeq1.list_insert_list_int_val_1 l its.toArray n k t u fits (by rw[List.size_toArray];omega)) ⟨e,?_⟩
 refine⟨.non,_,I.lset (its':=bY k.toNat u its) hH e ?_ ?_ ?_,rfl,q⟩
 ·have hk:min k.toNat its.toArray.size=k.toNat:=by rw[List.size_toArray];omega
  dsimp only
  rw[if_neg (by omega),hk]
  apply Array.toList_inj.mp
  simp[bY,List.take_of_length_le]
 ·exact(qx r _).append (.cons ru (qy r _))
 ·simp[bY];omega
theorem RelL.ins{v:PV}{u:V}(hv:Rel T F B L H v u []):∀(n:Nat) {xs:List PV}{ws:List V}{f:List Addr},RelL T F B L H xs ws f→RelL T F B L H (bY n v xs) (bY n u ws) f
 | 0,xs,ws,f,h=>by
  show RelL T F B L H (v::xs) (u::ws) f
  unfold RelL
  exact⟨u,ws,[],f,rfl,hv,h,rfl⟩
 | n+1,[],ws,f,h=>by
  unfold RelL at h
  obtain⟨rfl,rfl⟩:=h
  show RelL T F B L H [v] [u] []
  unfold RelL
  exact⟨u,[],[],[],rfl,hv,fW _ _ _ _,rfl⟩
 | n+1,x::xs,ws,f,h=>by
  unfold RelL at h
  obtain⟨w,ws,f1,f2,rfl,h1,h2,rfl⟩:=h
  show RelL T F B L H (x::bY n v xs) (w::bY n u ws) _
  unfold RelL
  exact⟨w,_,f1,f2,rfl,h1,RelL.ins hv n h2,rfl⟩
def qd:PV→Bool
 | .int _=>true
 | x=>(f6 x).isSome
theorem uI{v:PV}{u:V}{f:List Addr}(h:qd v=true)(r:Rel T F B L H v u f):f=[]:=by
 have two:∀{v:PV},(f6 v).isSome=true→Rel T F B L H v u f→f=[]:=fun {v} h r=>by
  obtain⟨y,e⟩:=Option.isSome_iff_exists.mp h
  have:eF [v]=some [y]:=by simp[eF,e]
  refine(gP (T:=T) (F:=F) (B:=B) (L:=L) (H:=H) (vs:=[u]) this ?_).2
  unfold RelL
  exact⟨u,[],f,[],rfl,r,fW _ _ _ _,by simp⟩
 cases v with
 | int i=>unfold Rel at r;exact r.2
 | tup xs=>exact two h r
 | _=>simp[qd,f6]at h
def ik(i:Nat)(k e:ME):MS:=fun env=>match k env with
 | .ok (.int j)=>(match e env with
  | .ok v=>(match env[i]? with
   | some (some (.lst .own xs))=>if qd v&&v.noLnt&&decide (0≤j∧j≤xs.length)&&decide (xs.length < 10000000)then .next (env.set i (some (.lst .own (bY j.toNat v xs))))else .stuck
   | _=>.stuck)
  | _=>.stuck)
 | _=>.stuck
theorem qC{i:Nat}{x:Str}{k e:Expr}{mk m:ME}{pos px apos cpos:Pos}(hK:X.K=T.K)(hN:X.N[i]?=some x)(hv:Vis X.env.scope x)(hk:SE X T W k mk)(he:SE X T W e m)
  (hs:swapsWith (.Call (.Attribute (.Name x px) "insert" apos) [k,e] [] cpos) none pos.line X.env=pure false:=by rfl) (hst:starEach [k,e] X.env=[(false,eval k X.env),(false,eval e X.env)]:=by rfl) (hst2:starEach [e] X.env=[(false,eval e X.env)]:=by rfl)
  (hfew:((backTo cpos (starEach [k,e] X.env)).all (fun x=>!x.1)&&(backToKw cpos (keywordEach [] X.env)).all (fun x=>x.1.isSome)&&decide ([k,e].length+([]:List Keyword).length+(if([]:List Keyword).isEmpty then 0 else 1) < 30))=true:=by rfl)
  (hline:(apos.endLine==cpos.line)=true:=by rfl) (hd:(x ==("__debug__" : Str))=false:=by decide) (hcd:(x ==("__classdict__" : Str))=false:=by decide) :
  SS X T W (.Expr (.Call (.Attribute (.Name x px) "insert" apos) [k,e] [] cpos) pos) (ik i mk m) :=
 PS.wk (gv (pos:=pos) (tP (cpos:=cpos) (apos:=apos) PySem.F.plainAttrs_list PySem.F.slot_list_insert PySem.F.type_list_insert rp (cX (pos:=px) hN hv hd hcd) (aa hk (aa he ag (by rw[hst2];rfl)) (by rw[hst,hst2])) rfl hfew hline (by rw[hst,hst2]) (by rw[hst2];rfl)) hs) fun D σ H ⟨Z,F,env,fp,S,q⟩=>by
  unfold ik at q
  split at q
  ·rename_i j ek
   split at q
   ·rename_i v em
    split at q
    ·rename_i xs eo
     split at q
     ·rename_i hc
      simp only[Bool.and_eq_true,decide_eq_true_eq]at hc
      obtain⟨⟨⟨c1,c2⟩,c3⟩,c4⟩:=hc
      obtain⟨a,ws,fp',h1,hl,hr,hf⟩:=S.lst eo
      refine⟨_,h1,.inl ⟨rfl,ws,by rw[hK];exact SqL.of hl⟩,Z,F,env,fp,S,?_⟩
      unfold ae am
      rw[ek,em]
      intro vs H1 F1 f1 g r n1 d1 w1
      unfold RelL at r
      obtain⟨u0,us,f2,f3,rfl,r0,r1,rfl⟩:=r
      obtain⟨u,rfl,ru⟩:=r1.one
      unfold Rel at r0
      obtain⟨rfl,rfl⟩:=r0
      have f0:=uI c1 ru
      subst f0
      have S1:=S.grow g
      have hl1:=g.ext a _ hl
      have hln:=hr.length
      refine⟨a,ws,j,u,rfl,rfl,hl1,?_,by omega,?_⟩
      ·rw[← hln,sizeLine_eq];omega
      ·have ndi:(a::fp').Nodup:=by rw[← hf];exact S.nd i
       exact q F1 _ σ _ (S1.mutL (v:=u) eo h1 hf (RelL.ins (Rel.noL (by simpa[PV.noLnt]using c2) ru) j.toNat (hr.ext g.ext g.mono)) (List.nodup_cons.mp ndi).2 (fun b hb=>.inl hb) hl1)
     ·exact q.elim
    ·exact q.elim
   ·exact q.elim
  ·exact q.elim
end
end PR
namespace PR
open PySem PySem.Spec L2
def w5:PV→PV→Res PV:=dD (fun _ j=>decide (0≤j)) fun i j=>.int (i / 2 ^ j.toNat)
def cF(ns:List Int):Bool:=ns.all fun v=>decide (-1000000≤v∧v≤1000000)
def lC:PV→Res PV:=fun x=>match aQ x with
 | some xs=>match bE xs with
  | some ns=>if decide (ns.length≤1000)&&cF ns then .ok (.int ns.sum)else .stuck
  | none=>.stuck
 | none=>.stuck
theorem ly(ns:List Int):∀n,n≤ns.length→preSum (fun i=>ns.getD i 0) n=(ns.take n).sum
 | 0,_=>rfl
 | n+1,h=>by
  have hn:n < ns.length:=h
  have e:preSum (fun i=>ns.getD i 0) (n+1)=preSum (fun i=>ns.getD i 0) n+ns.getD n 0:=rfl
  rw[e,ly ns n (by omega),List.take_add_one,List.getElem?_eq_getElem hn,Option.toList_some,List.sum_append,List.sum_singleton]
  simp[hn]
theorem ke:∀{ns:List Int},cF ns=true→-(1000000 * ns.length:Int)≤ ns.sum∧ns.sum≤1000000 * ns.length
 | [],_=>by simp
 | n::ns,h=>by
  simp only[cF,List.all_cons,Bool.and_eq_true,decide_eq_true_eq]at h
  have:=ke (ns:=ns) (by simpa[cF]using h.2)
  simp only[List.sum_cons,List.length_cons]
  omega
theorem on{ns:List Int}(h:cF ns=true)(k:Nat):cF (ns.take k)=true:=by
 simp only[cF,List.all_eq_true]at h ⊢
 exact fun x hx=>h x (List.mem_of_mem_take hx)
section
variable{X:Cx}{T:Tb}{W:Nat→St→Hp→Prop}{Z:Zn}{F F1 B L:Addr→Prop}{H H1:Hp}{σ:St}{env:En}{fp:Nat→List Addr}{pins:List (Addr×Obj)}{s:Shared}{a b:Expr}{ma mb:ME}{pos:Pos}
theorem yS(ha:SE X T W a ma)(hb:SE X T W b mb):SE X T W (.BinOp a .RShift b pos) (mOp w5 ma mb):=jt zr (ng (fun _ _ h=>of_decide_eq_true h) fun _ _ _ _ _ _=>eE) ha hb
theorem l4(hc:X.calm=true):cW X (.builtin "sum") (fun xs H Q=>∃p ns,xs=[.ref p]∧(SqL X.K H p (ns.map V.int)∨ SqT X.K H p (ns.map V.int))∧ns.length≤1000∧cF ns=true∧Q (.int ns.sum) H):=by
 intro pins s σ H xs us Q I rv h
 obtain⟨p,ns,rfl,hq,hn,hsm,q⟩:=h
 obtain⟨u,rfl,rx⟩:=cU rv
 cases rx
 have hh:=I.ok.hd hc
 have fit:∀m,m=ns.length→∀j,j < m→InLong (ns.getD j 0)∧InLong (preSum (fun i=>ns.getD i 0) (j+1)):=fun m e j hj=>by
  subst e
  have h1:ns.getD j 0∈ns:=by simp[hj]
  simp only[cF,List.all_eq_true,decide_eq_true_eq]at hsm
  have h2:=hsm _ h1
  have h3:=ke (on (k:=j+1) (show cF ns=true by simpa[cF,List.all_eq_true]using hsm))
  rw[ly ns (j+1) hj]
  have h4:(ns.take (j+1)).length≤1000:=by simp;omega
  unfold InLong
  omega
 have key:∀{its:List Value},aH (ns.map V.int) its→∀{h':Heap}{tk t':Nat},(∀b o,s.heap.get? b=some o→h'.get? b=some o)→EP X pins σ Q (.int (preSum (fun i=>ns.getD i 0) its.toArray.size) t') { s with heap:=h',toks:=tk }:=by
  intro its r h' tk t' k
  have hl:its.toArray.size=ns.length:=by
   have:=r.length
   simpa using this.symm
  rw[hl,ly ns _ (Nat.le_refl _),List.take_length]
  exact⟨.int _,H,dY I k,⟨t',rfl⟩,q⟩
 rcases hq with hq | hq
 ·obtain⟨its,r,pl,hz⟩:=I.list hq
  have hl:its.toArray.size=ns.length:=by
   have:=r.length
   simpa using this.symm
  obtain⟨o,ho,hcl,n,hd⟩:=pl.isList
  have hlt:=Heap.lt_size ho
  refine call_sum_walk (wpAny_pyIter_list pl.isList ?_)
  refine⟨_,_,_,_,_,_,(fun i=>ns.getD i 0),rfl,Walks.list (A:=X.A.in1) hh _ p (Nat.ne_of_lt hlt) its.toArray,⟨⟨_,Heap.get?_push_size _ rfl,rfl,rfl⟩,pl.isList.push _⟩,fun b hb=>?_,cN r,fit _ hl,fun h' tk t' hk=>key r (cy hk)⟩
  show b <(s.heap.push _).objs.size
  rw[Heap.size_push]
  exact fR hlt rfl b hb
 ·obtain⟨its,r,pl,hz⟩:=I.tuple hq
  have hl:its.toArray.size=ns.length:=by
   have:=r.length
   simpa using this.symm
  have pt:s.heap.IsTuple p its.toArray:=pl
  obtain⟨o,ho,hcl,n,hd⟩:=pl
  have hlt:=Heap.lt_size ho
  refine call_sum_walk (wpAny_pyIter_tuple pt ?_)
  refine⟨_,_,_,_,_,_,(fun i=>ns.getD i 0),rfl,Walks.tuple (A:=X.A.in1) hh _ p (Nat.ne_of_lt hlt) its.toArray,⟨⟨_,Heap.get?_push_size _ rfl,rfl,rfl⟩,pt.push _⟩,fun b hb=>?_,cN r,fit _ hl,fun h' tk t' hk=>key r (cy hk)⟩
  show b <(s.heap.push _).objs.size
  rw[Heap.size_push]
  exact fR hlt rfl b hb
theorem xo(hK:X.K=T.K):Mir T W (p1 lC) (fun xs H Q=>∃p ns,xs=[.ref p]∧(SqL X.K H p (ns.map V.int)∨ SqT X.K H p (ns.map V.int))∧ns.length≤1000∧cF ns=true∧Q (.int ns.sum) H):=by
 intro B F L σ H Q F' H' xs vs fx gr r nf nd new q
 match xs,r,q with
 | [x],r,q =>
  obtain⟨v,rfl,rv⟩:=RelL.one r
  simp only[p1,lC]at q
  cases e:aQ x with
  | none=>rw[e]at q;exact q.elim
  | some ys =>
   rw[e]at q
   dsimp only at q
   cases e2:bE ys with
   | none=>rw[e2]at q;exact q.elim
   | some ns =>
    rw[e2]at q
    dsimp only at q
    obtain⟨a,us,fx',rfl,hs,hr,_⟩:=rv.seq e
    have hu:=c_ e2 hr
    subst hu
    split at q
    ·rename_i hc
     simp only[Bool.and_eq_true,decide_eq_true_eq]at hc
     exact⟨a,_,rfl,by rw[hK];exact hs,hc.1,hc.2,q.scal gr eE⟩
    ·exact q.elim
 | [],_,q=>exact q.elim
 | _::_::_,_,q=>simp only[p1]at q;exact q.elim
theorem AO:bootBuiltins "sum" = some (.builtin "sum"):=by decide +kernel
theorem sK{p pos:Pos}{e:Expr}{m:ME}(hK:X.K=T.K)(hc:X.calm=true)(hg:Gl X "sum")(hm:X.mg "sum" = none)(ha:SE X T W e m)(he:starEach [e] X.env=[(false,eval e X.env)]:=by rfl):SE X T W (.Call (.Name "sum" p) [e] [] pos) (ap (p1 lC) (ae m am)) :=
 cH (l4 hc) (xo hK) hg hm AO (aa ha ag (by rw[he];rfl)) (he:=by rw[he];rfl) (hpl:=rfl)
end
end PR
namespace PR
open PySem PySem.Spec L2
def m7:PV→PV→Res PV
 | x,.int i=>match aQ x with
  | some xs=>match atI xs i with
   | some y=>.ok y
   | none=>.stuck
  | none=>.stuck
 | _,_=>.stuck
section
variable{X:Cx}{T:Tb}{W:Nat→St→Hp→Prop}
theorem uh(hK:X.K=T.K):gB T W m7 (fun x y H Q=>wH X.K x y H Q ∨(wF X.K x y H Q∨wG x y H Q)):=by
 intro B F L σ H Q F' H' x y v u fx fy g rx ry nf nd new q
 cases y with
 | int i =>
  simp only[m7]at q
  cases e:aQ x with
  | none=>rw[e]at q;exact q.elim
  | some xs =>
   rw[e]at q
   dsimp only at q
   obtain⟨a,ws,fx',rfl,hs,hr,sl⟩:=rx.seq e
   cases e2:atI xs i with
   | none=>rw[e2]at q;exact q.elim
   | some z =>
    rw[e2]at q
    dsimp only at q
    obtain⟨w,f',h1,h2,h3⟩:=qw hr e2
    unfold Rel at ry
    obtain⟨rfl,rfl⟩:=ry
    rw[List.append_nil]at nf nd new
    have s2:=h3.trans sl
    have q':Q w H':=q w H' F' f' g h2 (fun a ha=>nf a (s2.subset ha)) (nd.sublist s2) (fun a ha=>new a (s2.subset ha))
    rcases hs with hs | hs
    ·exact .inl ⟨a,ws,i,w,rfl,rfl,by rw[hK];exact hs,h1,q'⟩
    ·exact .inr (.inl ⟨a,ws,i,w,rfl,rfl,by rw[hK];exact hs,h1,q'⟩)
 | _=>exact q.elim
theorem wq{a b:Expr}{ma mb:ME}{pos:Pos}(hK:X.K=T.K)(ha:SE X T W a ma)(hb:SE X T W b mb)(hs:fG b):SE X T W (.Subscript a b pos) (mOp m7 ma mb) :=
 yo lR (uh hK) ha hb hs
end
end PR
namespace PR
open PySem PySem.Spec L2
structure Sup(K:PySem.W.Frag)(C f:Addr):Prop where
 ga:PySem.W.specialIn K (.ref C) "__getattribute__" = some (some (.builtin "type.__getattribute__"))
 rd:PySem.W.readsIn K C (.type "type")=true
 fc:PySem.W.findCls K (.ref C) (.type "type") "__init__" = some (.val (.ref f))
 kp:PySem.W.keepIn K (.ref f)=true
def fO(m:List PV→Res PV)(ms:MA):MS:=fun env=>match (env[(0:Nat)]?:Option (Option PV))with
 | some (some (.obj .own c ks vs))=>match ms env with
  | .ok xs=>if hasL Fl.isLnt xs then .stuck else match m (.obj .own c ks vs::mapL Fl.toBor xs)with
   | .ok (.obj fl c' ks' vs')=>if(PV.obj fl c' ks' vs').has Fl.isBor then .stuck else .next (env.set 0 (some (.obj fl c' ks' vs')))
   | _=>.stuck
  | .exc c=>.exc c env
  | .stuck=>.stuck
 | _=>.stuck
section
variable{X:Cx}{T:Tb}{W:Nat→St→Hp→Prop}{Z:Zn}{F F1 F3:Addr→Prop}{H H1 H3:Hp}{σ:St}{env:En}{fp:Nat→List Addr}
theorem ar.sup{o:PV}{v0:V}{fx f3:List Addr}{B':Addr→Prop}(S:ar T Z F H σ env fp)(h0:σ[0]?=some (some v0))(hl:0 < env.length)
  (nx:∀a∈fx,Z.H0 a=none∨Z.fp0 a) (nj:∀a∈fx,∀i,a∉fp i) (nF:∀a∈fx,¬F a) (cx:∀a∈fx,∃o,H a=some o∧Chg o)
  (hp3:d5 T ⟨H,F,(·∈fp 0++fx),B',some v0⟩ F3 H3) (r:Rel T F3 B' NoL H3 o v0 f3) (hb:o.has Fl.isBor=false) (nd3:f3.Nodup) (nf3:∀a∈f3,¬F3 a) (new3:∀a∈f3,H a=none∨a∈fp 0++fx)
  (ho:∃fl c ks xs,o=.obj fl c ks xs):ar T Z F3 H3 σ (env.set 0 (some o)) (br fp 0 f3):=by
 have zfree:∀a,H a=none→Z.H0 a=none∨Z.fp0 a:=fun a z=>by
  by_cases q:Z.fp0 a
  ·exact .inr q
  ·refine .inl ?_
   cases w:Z.H0 a with
   | none=>rfl
   | some o=>rw[S.hp.keep a o w q]at z;exact(nomatch z)
 have inn:∀a∈fp 0++fx,Z.H0 a=none∨Z.fp0 a:=fun a h=>by
  rcases List.mem_append.mp h with h | h
  ·exact S.new 0 a h
  ·exact nx a h
 have jn:∀j,j≠0→∀a∈fp j,a∉fp 0++fx:=fun j hj a ha z=>by
  rcases List.mem_append.mp z with z | z
  ·exact S.dj j 0 hj a ha z
  ·exact nj a z j ha
 have chgn:∀a∈fp 0++fx,∃o,H a=some o∧Chg o:=fun a h=>by
  rcases List.mem_append.mp h with h | h
  ·exact S.ch 0 a h
  ·exact cx a h
 have rel':Rel T F3 Z.B NoL H3 o v0 f3:=Rel.noB hb r
 refine⟨⟨S.hp.bo,fun a u e n=>hp3.keep a u (S.hp.keep a u e n) fun z=>?_,fun a h=>hp3.f0 a (S.hp.f0 a h),fun a h=>?_,hp3.ft⟩,by rw[List.length_set,S.len],fun j pv e=>?_,fun j=>?_,fun j k hjk b hb=>?_,fun j b hb=>?_,fun j b hb=>?_,fun j b hb=>?_,fun w hw=>?_⟩
 ·rcases inn a z with q | q
  ·rw[e]at q;cases q
  ·exact n q
 ·rcases hp3.fn a h with z | z | z
  ·exact S.hp.fn a z
  ·exact .inr (zfree a z)
  ·exact .inr (inn a z)
 ·by_cases hj:j=0
  ·subst hj
   rw[List.getElem?_set_self hl]at e
   cases e
   refine⟨v0,h0,?_⟩
   unfold br
   rw[if_pos rfl]
   exact rel'
  ·rw[List.getElem?_set_ne (Ne.symm hj)]at e
   obtain⟨w,h1,h2⟩:=S.rel j pv e
   refine⟨w,h1,?_⟩
   unfold br
   rw[if_neg hj]
   refine Rel.tr (fun a h=>hp3.f0 a h) (fun _ h=>h) (fun _ h=>h) (fun b u q h=>hp3.keep b u q fun z=>?_) (fun b hb u q=>hp3.keep b u q (jn j hj b hb)) h2
   rcases h with h | h | h | h
   ·rcases List.mem_append.mp z with z | z
    ·exact(S.dis 0 b z).1 h
    ·exact nF b z h
   ·obtain⟨⟨o',e1⟩,e2⟩:=S.hp.bo b h
    rcases inn b z with q' | q'
    ·rw[e1]at q';cases q'
    ·exact e2 q'
   ·exact h
   ·obtain⟨o',e1,e2⟩:=chgn b z
    have q1:H b=some u:=q
    rw[q1]at e1
    cases e1
    cases u with
    | lst _=>exact h
    | ins _ _ _=>exact h
    | _=>exact e2
 ·unfold br;split
  ·exact nd3
  ·exact S.nd j
 ·unfold br at hb ⊢
  have fj:∀i,i≠0→∀a∈f3,a∉fp i:=fun i hi a ha z=>by
   rcases new3 a ha with q | q
   ·obtain⟨_,o',e⟩:=S.dis i a z
    rw[e]at q;cases q
   ·exact jn i hi a z q
  by_cases h1:j=0
  ·subst h1
   rw[if_pos rfl]at hb
   rw[if_neg (Ne.symm hjk)]
   exact fj k (Ne.symm hjk) b hb
  ·rw[if_neg h1]at hb
   by_cases h2:k=0
   ·subst h2
    rw[if_pos rfl]
    exact fun z=>fj j h1 b z hb
   ·rw[if_neg h2]
    exact S.dj j k hjk b hb
 ·unfold br at hb
  by_cases h1:j=0
  ·rw[if_pos h1]at hb;exact⟨nf3 b hb,r.there b hb⟩
  ·rw[if_neg h1]at hb
   obtain⟨n,u,e⟩:=S.dis j b hb
   refine⟨fun z=>?_,u,hp3.keep b u e (jn j h1 b hb)⟩
   rcases hp3.fn b z with q | q | q
   ·exact n q
   ·have q':H b=none:=q
    rw[e]at q';cases q'
   ·exact jn j h1 b hb q
 ·unfold br at hb
  by_cases h1:j=0
  ·rw[if_pos h1]at hb
   rcases new3 b hb with q | q
   ·exact zfree b q
   ·exact inn b q
  ·rw[if_neg h1]at hb;exact S.new j b hb
 ·unfold br at hb
  by_cases h1:j=0
  ·rw[if_pos h1]at hb;exact r.chg b hb
  ·rw[if_neg h1]at hb
   obtain⟨u,e,c⟩:=S.ch j b hb
   exact⟨u,hp3.keep b u e (jn j h1 b hb),c⟩
 ·obtain⟨h1,h2⟩:=S.pn w hw
  refine⟨h1,?_⟩
  obtain⟨fl,c,ks,xs,e⟩:=ho
  subst e
  unfold b6
  rw[List.getElem?_set_self hl]
theorem yM{k kk n:Nat}{C f:Addr}{fd:FuncData}{ps:List Str}{m:List PV→Res PV}{x y:Str}{p px apos pos pos':Pos}{es:List Expr}{ms:MA}{pl:Sem Bool}
  (cx:Ctx X T W kk) (U:Sup X.K C f) (G:cq X.prog X.w X.K X.mg X.base (CXP X.prog X.w) k f fd ps (spI T ps.length m)) (hk:k≤kk) (hg:Gl X x) (hm:X.mg x=some (.ref C)) (hb:dJ X.K fd ps [])
  (hN:X.N[0]?=some y) (hv:Vis X.env.scope y) (hn:fQ ms n) (hps:n+1=ps.length) (ha:SA X T W es ms)
  (hdb:(x ==("__debug__" : Str))=false:=by decide) (hdy:(y ==("__debug__" : Str))=false:=by decide) (hcy:(y ==("__classdict__" : Str))=false:=by decide)
  (hst:starEach (.Name y px::es) X.env=(false,eval (.Name y px) X.env)::starEach es X.env:=by rfl) (hpl:(backTo pos (starEach es X.env)).any (·.1)=false:=by rfl)
  (ht:eval (.Call (.Attribute (.Name x p) "__init__" apos) (.Name y px::es) [] pos) X.env=(do
   let ov ← eval (.Name x p) X.env
   standAt apos.atName
   let(f,first) ← holding [ov] (getMethod ov "__init__" pl)
   callWith pos f first (backTo pos (starEach (.Name y px::es) X.env)) (backToKw pos (keywordEach [] X.env))):=by rfl)
  (hs:swapsWith (.Call (.Attribute (.Name x p) "__init__" apos) (.Name y px::es) [] pos) none pos'.line X.env=pure false:=by rfl) :
  SS X T W (.Expr (.Call (.Attribute (.Name x p) "__init__" apos) (.Name y px::es) [] pos) pos') (fO m ms):=by
 have pe:PE X (.Call (.Attribute (.Name x p) "__init__" apos) (.Name y px::es) [] pos) (fun σ H Q=>∃ Z F env fp,ar T Z F H σ env fp∧(match fO m ms env with
   | .next e=>∀F' H' fp',ar T Z F' H' σ e fp'→Q .non H'
   | .exc c e=>∀F' H' fp',ar T Z F' H' σ e fp'→W c σ H'
   | _=>False)):=by
  intro pins s σ H Q I h
  obtain⟨Z,F,env,fp,S,q⟩:=h
  refine PySem.W.methodCall_KW (pl:=pl) (iq I hg hm ?_ hdb) ht
  refine PySem.W.method_cls I.kIn U.ga (PySem.W.cls_value I.kIn U.rd U.fc rfl ?_)
  have I':=I.tok (s.toks+1)
  unfold fO at q
  cases e0:env[0]? with
  | none=>rw[e0]at q;exact q.elim
  | some o0 =>
  cases o0 with
  | none=>rw[e0]at q;exact q.elim
  | some ov =>
  obtain⟨v0,hv0,r0⟩:=S.rel 0 ov e0
  have hl0:0 < env.length:=(List.getElem?_eq_some_iff.mp e0).1
  rw[e0]at q
  by_cases hob:∃c ks vs,ov=.obj .own c ks vs
  case neg =>
   exfalso
   cases ov with
   | obj fl c ks vs =>
    cases fl with
    | own=>exact hob ⟨_,_,_,rfl⟩
    | _=>exact q
   | _=>exact q
  obtain⟨c,ks,vs0,rfl⟩:=hob
  dsimp only at q
  have pa:=cK (X:=X) (cX (pos:=px) hN hv hdy hcy) ha hst
  refine PySem.W.callWith_K (first:=[]) (h₀:=X.base) I'.ok.mod.kin U.kp (thn (pa pos pins _ σ H (fun vs H1=>∀ us s1,L2.Inv X pins σ H1 s1→aH vs us→wpAny (model X.prog X.w) X.A (call (.ref f) us) (EP X pins σ Q) X.xe s1) I'
   ⟨v0,hv0,tA.bind S (fun c e=>?_) (fun e=>by rw[e]at q;exact q) fun xs vs H1 F1 f1 e1 g1 r1 n1 d1 w1 us s1 I1 rv=>?_⟩) fun us s1 ⟨vs,H1,I1,r,q1⟩=>⟨I1.kIn,q1 us s1 I1 r⟩) hst hpl
  ·rw[e]at q
   exact fun H' x=>q F H' fp (S.grow (Gr.same S.hp.ft x))
  rw[e1]at q
  dsimp only at q
  by_cases hln:hasL Fl.isLnt xs=true
  ·rw[if_pos hln]at q;exact q.elim
  rw[if_neg hln]at q
  have hln':hasL Fl.isLnt xs=false:=by simpa using hln
  have S1:=S.grow g1
  obtain⟨v0',hv0',r0'⟩:=S1.rel 0 _ e0
  rw[hv0]at hv0'
  cases hv0'
  have xn:∀a∈f1,∀i,a∉fp i:=fun a ha i hi=>by
   obtain⟨_,o,e⟩:=S.dis i a hi
   rw[w1 a ha]at e;cases e
  have xz:∀a∈f1,Z.H0 a=none∨Z.fp0 a:=fun a ha=>by
   by_cases q:Z.fp0 a
   ·exact .inr q
   ·refine .inl ?_
    cases w:Z.H0 a with
    | none=>rfl
    | some o =>
     have:=w1 a ha
     rw[S.hp.keep a o w q]at this;cases this
  have hBo:∀a,Z.B a→(∃o,H1 a=some o)∧a∉fp 0++f1:=fun a h=>by
   obtain⟨⟨o,h1⟩,h2⟩:=S.hp.bo a h
   have h3:=S.hp.keep a o h1 h2
   refine⟨⟨o,g1.ext a o h3⟩,fun z=>?_⟩
   rcases List.mem_append.mp z with z | z
   ·exact S.bow a h ⟨0,z⟩
   ·rw[w1 a z]at h3;cases h3
  have R:sj T F1 (fun a=>(∃o,H1 a=some o)∧a∉fp 0++f1) H1 (.obj .own c ks vs0::mapL Fl.toBor xs) (v0::vs) (fp 0++f1):=by
   refine⟨?_,List.nodup_append.mpr ⟨S.nd 0,d1,fun a ha b hb z=>by subst z;exact xn a hb 0 ha⟩,fun a ha=>?_,fun a h=>h,g1.dom⟩
   ·unfold RelL
    refine⟨v0,vs,fp 0,f1,rfl,Rel.tr (fun _ h=>h) hBo (fun _ h=>h) (fun _ _ q _=>q) (fun _ _ _ q=>q) r0',?_,rfl⟩
    exact RelL.toBor hBo (fun _ h=>h.elim) (RelL.noL (L':=NoL) hln' r1)
   ·rcases List.mem_append.mp ha with ha | ha
    ·exact(S1.dis 0 a ha).1
    ·exact n1 a ha
  have r2:aH (v0::vs) us:=rv
  have hl:us.length=ps.length:=by
   rw[← r2.length,List.length_cons,← r1.length,hn env xs e1]
   exact hps
  refine wpAny_call (codeAny_mono (G.run X.A X.stack s1 H1 ⟨us,[]⟩ us (v0::vs) Q (fun cls _ H'=>∃ c,cls=.ref (T.xcl c)∧W c σ H') (cx.room.mono hk) I1.env0 (by simpa using hb s1 us I1.kIn (by simpa using hl)) r2
   ⟨by rw[r2.length,hl],v0,_,F1,_,_,rfl,R,⟨.own,c,ks,vs0,rfl⟩,?_⟩) fun rs s' hq=>?_)
  ·cases e:m (.obj .own c ks vs0::mapL Fl.toBor xs)with
   | ok o =>
    rw[e]at q
    cases o with
    | obj fl c' ks' vs' =>
     dsimp only at q
     by_cases hbr:(PV.obj fl c' ks' vs').has Fl.isBor=true
     ·rw[if_pos hbr]at q;exact q.elim
     ·rw[if_neg hbr]at q
      dsimp only at q
      have hbr':(PV.obj fl c' ks' vs').has Fl.isBor=false:=by simpa using hbr
      intro F3 H3 f3 hp3 r3 nd3 nf3 new3
      exact q F3 H3 _ (S1.sup hv0 hl0 xz xn n1 r1.chg hp3 r3 hbr' nd3 nf3 new3 ⟨_,_,_,_,rfl⟩)
    | _=>exact q.elim
   | exc c=>rw[e]at q;exact q.elim
   | stuck=>rw[e]at q;exact q.elim
  ·cases rs with
   | error e =>
    obtain⟨cls,H',fl,c,rfl,hw⟩:=hq
    exact cx.xf pins σ H1 s1 c H' e s' I1 fl hw
   | ok fl =>
    cases fl with
    | ret u=>exact I1.after hq
    | next=>exact False.elim hq
    | brk=>exact False.elim hq
    | cont=>exact False.elim hq
 exact PS.wk (gv (pos:=pos') pe hs) fun D σ H ⟨Z,F,env,fp,S,q⟩=>by
  refine⟨Z,F,env,fp,S,?_⟩
  cases e:fO m ms env with
  | next e'=>rw[e]at q;exact fun F' H' fp' S'=>q F' H' σ fp' S'
  | exc c e'=>rw[e]at q;exact fun F' H' fp' S'=>q F' H' σ fp' S'
  | ret v =>
   exfalso
   revert e
   unfold fO
   split
   ·split
    ·split
     ·simp
     ·split
      ·split<;>simp
      ·simp
    ·simp
    ·simp
   ·simp
  | brk e' =>
   exfalso
   revert e
   unfold fO
   split
   ·split
    ·split
     ·simp
     ·split
      ·split<;>simp
      ·simp
    ·simp
    ·simp
   ·simp
  | cont e' =>
   exfalso
   revert e
   unfold fO
   split
   ·split
    ·split
     ·simp
     ·split
      ·split<;>simp
      ·simp
    ·simp
    ·simp
   ·simp
  | stuck=>rw[e]at q;exact q
end
end PR
namespace PR
open PySem PySem.Spec L2
@[irreducible] def Bx(p:Prop):Prop:=p
theorem Bx.mk{p:Prop}(h:p):Bx p:=by unfold Bx;exact h
section
variable{X:Cx}{T:Tb}{W:Nat→St→Hp→Prop}
end
end PR
namespace PR
open PySem PySem.Spec L2 PyProof.Rows
section
variable{X:Cx}{T:Tb}{W:Nat→L2.St→Hp→Prop}{Z:Zn}{F F1 B L:Addr→Prop}{H H1:Hp}{σ:L2.St}{env:En}{fp:Nat→List Addr}{D:Ends}
end
end PR
namespace L2
open PySem PySem.Spec PyProof.Rows
section
variable{X:Cx}{e st:Expr}{te ts:TE}{pos p2:Pos}
end
end L2
namespace PR
open PySem PySem.Spec L2
section
variable{X:Cx}{T:Tb}{W:Nat→St→Hp→Prop}{Z:Zn}{F F1 B L:Addr→Prop}{H H1:Hp}{σ:St}{env:En}{fp:Nat→List Addr}
end
end PR
namespace PR
open PySem PySem.Spec L2
def whL(c:MT)(b:MS):Nat→MS
 | 0,_=>.stuck
 | k+1,env=>match c env with
  | .ok true=>match b env with
   | .next e=>whL c b k e
   | .cont e=>whL c b k e
   | .brk e=>.next e
   | .ret v=>.ret v
   | .exc x e=>.exc x e
   | .stuck=>.stuck
  | .ok false=>.next env
  | .exc x=>.exc x env
  | .stuck=>.stuck
def lQ(c:MT)(b:MS):MS:=whL c b 100000
section
variable{X:Cx}{T:Tb}{W:Nat→St→Hp→Prop}
theorem sD{c:Expr}{body:List Stmt}{mc:MT}{mb:MS}{pos:Pos}(hp:PassesOwn (model X.prog X.w) X.A X.env X.xe)(hc:ST X T W c mc)(hb:SSs X T W body mb):SS X T W (.While c body [] pos) (lQ mc mb) :=
 PS.wk (sY (pos:=pos) hp hc hb) fun D σ H ⟨Z,F,env,fp,S,q⟩=>by
  unfold lQ at q
  refine⟨fun m σ' H'=>∃F' env' fp',ar T Z F' H' σ' env' fp'∧GS T W Z D (whL mc mb m env'),⟨100000,F,env,fp,S,q⟩,?_⟩
  rintro m σ' H' ⟨F',env',fp',S',q'⟩
  cases m with
  | zero=>exact q'.elim
  | succ k =>
   unfold whL at q'
   refine tT.bind S' (fun c e H2 x=>?_) (fun e=>by rw[e]at q';exact q') fun b H1 F1 e g=>?_
   ·rw[e]at q'
    exact q' F' H2 σ' fp' (S'.grow (Gr.same S'.hp.ft x))
   ·cases b with
    | false=>rw[e]at q';exact(if_neg (by decide)).mpr (q' F1 H1 σ' fp' (S'.grow g))
    | true =>
     rw[e]at q'
     dsimp only at q'
     refine(if_pos rfl).mpr ⟨fun σ2 H2=>∃F2 env2 fp2,ar T Z F2 H2 σ2 env2 fp2∧GS T W Z D (whL mc mb k env2),fun σ2 H2 h=>⟨k,Nat.lt_succ_self k,h⟩,Z,F1,env',fp',S'.grow g,?_⟩
     cases eb:mb env' with
     | next e2=>rw[eb]at q';exact fun F3 H3 σ3 fp3 S3=>⟨F3,e2,fp3,S3,q'⟩
     | cont e2=>rw[eb]at q';exact fun F3 H3 σ3 fp3 S3=>⟨F3,e2,fp3,S3,q'⟩
     | brk e2=>rw[eb]at q';exact q'
     | ret v=>rw[eb]at q';exact q'
     | exc c e2=>rw[eb]at q';exact q'
     | stuck=>rw[eb]at q';exact q'
end
end PR
namespace PR
open PySem PySem.Spec L2
def dI:List PV→Option (List Bool)
 | []=>some []
 | .bl b::xs=>(dI xs).map (b::·)
 | _=>none
def jE(f:List Bool→Bool):PV→Res PV
 | .lst _ xs=>match dI xs with
  | some bs=>.ok (.bl (f bs))
  | none=>.stuck
 | _=>.stuck
def mq(bs:List Bool):Bool:=bs.all id
def n6(bs:List Bool):Bool:=bs.any id
section
variable{X:Cx}{T:Tb}{W:Nat→St→Hp→Prop}{Z:Zn}{F F1 B L:Addr→Prop}{H H1:Hp}{σ:St}{env:En}{fp:Nat→List Addr}{pins:List (Addr×Obj)}{s:Shared}
theorem kW:∀{xs:List PV}{vs:List V}{f:List Addr}{bs:List Bool},dI xs=some bs→RelL T F B L H xs vs f→vs=bs.map V.bl
 | [],_,_,_,e,h=>by
  simp only[dI,Option.some.injEq]at e
  subst e
  unfold RelL at h
  rw[h.1];rfl
 | .bl b::xs,_,_,bs,e,h=>by
  simp only[dI]at e
  cases e2:dI xs with
  | none=>rw[e2]at e;cases e
  | some ms =>
   rw[e2]at e
   cases e
   unfold RelL at h
   obtain⟨v,ws,f1,f2,rfl,h1,h2,_⟩:=h
   unfold Rel at h1
   rw[h1.1,kW e2 h2]
   rfl
 | .non::_,_,_,_,e,_=>by simp[dI]at e
 | .int _::_,_,_,_,e,_=>by simp[dI]at e
 | .str _::_,_,_,_,e,_=>by simp[dI]at e
 | .lst _ _::_,_,_,_,e,_=>by simp[dI]at e
 | .tup _::_,_,_,_,e,_=>by simp[dI]at e
 | .obj _ _ _ _::_,_,_,_,e,_=>by simp[dI]at e
 | .exc _::_,_,_,_,e,_=>by simp[dI]at e
theorem vj:∀{bs:List Bool}{its:List Value},aH (bs.map V.bl) its→∀(i:Nat) (v:Value),its.toArray[i]?=some v→v=.bool (bs.getD i false)
 | [],_,r,i,v,e=>by cases r;simp at e
 | b::bs,_,r,i,v,e=>by
  cases r with
  | cons r1 r2 =>
   cases i with
   | zero =>
    simp at e
    subst e
    exact r1
   | succ i=>exact vj r2 i v (by simpa using e)
theorem wx(bs:List Bool)(n:Nat)(h:n=bs.length):(List.range n).all (fun i=>bs.getD i false)=mq bs:=by
 subst h
 unfold mq
 rw[Bool.eq_iff_iff,List.all_eq_true,List.all_eq_true]
 refine⟨fun z x hx=>?_,fun z i hi=>?_⟩
 ·obtain⟨i,hi,e⟩:=List.getElem_of_mem hx
  have:=z i (List.mem_range.mpr hi)
  rw[← e]
  simpa[hi]using this
 ·have hi':=List.mem_range.mp hi
  have:=z bs[i] (List.getElem_mem hi')
  simpa[hi']using this
theorem ww(bs:List Bool)(n:Nat)(h:n=bs.length):(List.range n).any (fun i=>bs.getD i false)=n6 bs:=by
 subst h
 unfold n6
 rw[Bool.eq_iff_iff,List.any_eq_true,List.any_eq_true]
 refine⟨fun⟨i,hi,z⟩=>?_,fun⟨x,hx,z⟩=>?_⟩
 ·have hi':=List.mem_range.mp hi
  exact⟨bs[i],List.getElem_mem hi',by simpa[hi']using z⟩
 ·obtain⟨i,hi,e⟩:=List.getElem_of_mem hx
  exact⟨i,List.mem_range.mpr hi,by rw[← e]at z;simpa[hi]using z⟩
theorem kU{A:Around}{bs:List Bool}{its:List Value}(r:aH (bs.map V.bl) its):TruthOf X.prog X.w A (fun i v=>its.toArray[i]?=some v) (fun i=>bs.getD i false):=fun i v s Q E hP hQ=>by
 rw[vj r i v hP]
 exact wpAny_truthy_bool hQ
theorem l_(hc:X.calm=true):cW X (.builtin "all") (fun xs H Q=>∃p bs,xs=[.ref p]∧SqL X.K H p (bs.map V.bl)∧Q (.bl (mq bs)) H):=by
 intro pins s σ H xs us Q I rv h
 obtain⟨p,bs,rfl,hq,q⟩:=h
 obtain⟨u,rfl,rx⟩:=cU rv
 cases rx
 have hh:=I.ok.hd hc
 obtain⟨its,r,pl,hz⟩:=I.list hq
 have hl:its.toArray.size=bs.length:=by
  have:=r.length
  simpa using this.symm
 obtain⟨o,ho,hcl,n,hd⟩:=pl.isList
 have hlt:=Heap.lt_size ho
 have key:∀{h':Heap}{tk:Nat},(∀b o,s.heap.get? b=some o→h'.get? b=some o)→EP X pins σ Q (.bool (mq bs)) { s with heap:=h',toks:=tk }:=fun k=>⟨.bl _,H,dY I k,rfl,q⟩
 refine call_all_walk (wpAny_pyIter_list pl.isList ?_)
 refine⟨_,_,_,_,_,_,(fun i=>bs.getD i false),rfl,Walks.list (A:=X.A.in1) hh _ p (Nat.ne_of_lt hlt) its.toArray,⟨⟨_,Heap.get?_push_size _ rfl,rfl,rfl⟩,pl.isList.push _⟩,kU r,fun h' tk hk=>?_⟩
 rw[wx bs _ hl]
 exact key (cy hk)
theorem l9(hc:X.calm=true):cW X (.builtin "any") (fun xs H Q=>∃p bs,xs=[.ref p]∧SqL X.K H p (bs.map V.bl)∧Q (.bl (n6 bs)) H):=by
 intro pins s σ H xs us Q I rv h
 obtain⟨p,bs,rfl,hq,q⟩:=h
 obtain⟨u,rfl,rx⟩:=cU rv
 cases rx
 have hh:=I.ok.hd hc
 obtain⟨its,r,pl,hz⟩:=I.list hq
 have hl:its.toArray.size=bs.length:=by
  have:=r.length
  simpa using this.symm
 obtain⟨o,ho,hcl,n,hd⟩:=pl.isList
 have hlt:=Heap.lt_size ho
 have key:∀{h':Heap}{tk:Nat},(∀b o,s.heap.get? b=some o→h'.get? b=some o)→EP X pins σ Q (.bool (n6 bs)) { s with heap:=h',toks:=tk }:=fun k=>⟨.bl _,H,dY I k,rfl,q⟩
 refine call_any_walk (wpAny_pyIter_list pl.isList ?_)
 refine⟨_,_,_,_,_,_,(fun i=>bs.getD i false),rfl,Walks.list (A:=X.A.in1) hh _ p (Nat.ne_of_lt hlt) its.toArray,⟨⟨_,Heap.get?_push_size _ rfl,rfl,rfl⟩,pl.isList.push _⟩,kU r,fun h' tk hk=>?_⟩
 rw[ww bs _ hl]
 exact key (cy hk)
theorem pT(hK:X.K=T.K)(f:List Bool→Bool):Mir T W (p1 (jE f)) (fun xs H Q=>∃p bs,xs=[.ref p]∧SqL X.K H p (bs.map V.bl)∧Q (.bl (f bs)) H):=by
 intro B F L σ H Q F' H' xs vs fx gr r nf nd new q
 match xs,r,q with
 | [x],r,q =>
  obtain⟨v,rfl,rv⟩:=RelL.one r
  simp only[p1]at q
  cases x with
  | lst fl ys =>
   simp only[jE]at q
   cases e2:dI ys with
   | none=>rw[e2]at q;exact q.elim
   | some bs =>
    rw[e2]at q
    dsimp only at q
    unfold Rel at rv
    obtain⟨a,us,fp',rfl,hl,hr,_⟩:=rv
    have hu:=kW e2 hr
    subst hu
    exact⟨a,_,rfl,by rw[hK];exact hl.sq,q.scal gr ib⟩
  | _=>exact q.elim
 | [],_,q=>exact q.elim
 | _::_::_,_,q=>simp only[p1]at q;exact q.elim
theorem AT:bootBuiltins "all" = some (.builtin "all"):=by decide +kernel
theorem AS:bootBuiltins "any" = some (.builtin "any"):=by decide +kernel
theorem sP{p pos:Pos}{e:Expr}{m:ME}(hK:X.K=T.K)(hc:X.calm=true)(hg:Gl X "all")(hm:X.mg "all" = none)(ha:SE X T W e m)(he:starEach [e] X.env=[(false,eval e X.env)]:=by rfl):SE X T W (.Call (.Name "all" p) [e] [] pos) (ap (p1 (jE mq)) (ae m am)) :=
 cH (l_ hc) (pT hK mq) hg hm AT (aa ha ag (by rw[he];rfl)) (he:=by rw[he];rfl) (hpl:=rfl)
theorem y0{p pos:Pos}{e:Expr}{m:ME}(hK:X.K=T.K)(hc:X.calm=true)(hg:Gl X "any")(hm:X.mg "any" = none)(ha:SE X T W e m)(he:starEach [e] X.env=[(false,eval e X.env)]:=by rfl):SE X T W (.Call (.Name "any" p) [e] [] pos) (ap (p1 (jE n6)) (ae m am)) :=
 cH (l9 hc) (pT hK n6) hg hm AS (aa ha ag (by rw[he];rfl)) (he:=by rw[he];rfl) (hpl:=rfl)
end
end PR
namespace PR
open PySem PySem.Spec L2
section
variable{X:Cx}{T:Tb}{W:Nat→St→Hp→Prop}{Z:Zn}{F:Addr→Prop}{H:Hp}{σ:St}{env:En}{fp:Nat→List Addr}
end
end PR
namespace L2
open PySem PySem.Spec PyProof.Rows
section
variable{X:Cx}{a b c d:Expr}{ta tb tc td:TE}{pos:Pos}
end
end L2
namespace PR
open PySem PySem.Spec L2
section
variable{X:Cx}{T:Tb}{W:Nat→St→Hp→Prop}
end
end PR
namespace PR
open PySem PySem.Spec L2
section
variable{X:Cx}{T:Tb}{W:Nat→St→Hp→Prop}
end
end PR
namespace PR
open PySem PySem.Spec L2
open AutoSeq1 (wpAny_loadPart')
section
variable{prog:Program}{w:World}{A:Around}{E:Value→Shared→Prop}{s:Shared}
theorem iT{T nI iI:String}{Bn Bi:Builtin}{us:List Value}{kw:List (Str×Value)}{S:PySem.Spec}{Q Q1:Value→Shared→Prop}(ft:TypeCalled T nI iI)
  (c1:checkTypeCall T ⟨us,kw⟩=pure ()) (c2:checkBuiltinCall nI ⟨.type T::us,kw⟩=pure ()) (eN:entryFor table nI=some Bn) (eI:entryFor table iI=some Bi) (g:Meets (Bn ⟨.type T::us,kw⟩) S)
  (h:S A.in1 (wants Q1 E) s) (nx:∀ob s1,Q1 ob s1→s1.TypeIs ob T∧argsOk iI ⟨ob::us,kw⟩∧∃Si,Meets (Bi ⟨ob::us,kw⟩) Si∧Si A.in1 (wants (fun r s2=>r=.none∧Q ob s2) E) s1) :
  wpAny (model prog w) A (call (.type T) us kw) Q E s:=by
 obtain⟨cc,tt,hmro⟩:=ft.mro
 have hmade:=ft.made;have hsub:=ft.sub;have h1:=ft.notType;have h2:=ft.canCreate
 refine wpAny_call (codeAny_of_tree (show wpAny _ _ (callAny (.type T) _) _ _ _ from wpAny_pure ⟨Code.quiet_builtin _ (by decide +kernel),codeAny_builtin F.entry_type_call ?_⟩))
 rw[Around.under_plain (weight_type_call_type T us kw) (units_type_call_type T us kw)]
 repeat (any_goals (first | assumption | wp_step | fail))
 refine codeAny_mono (codeAny_call_builtin ft.plain eN (wpAny_of_eq c2 (g prog w A.in1 _ s h))) fun r s1 hr=>?_
 cases r with
 | error e=>exact hr
 | ok fl =>
  cases fl with
  | ret ob =>
   obtain⟨hT,hok,Si,gi,hsi⟩:=nx _ _ hr
   have hli:=ft.init.lookup;have hbi:=ft.init.bind ob
   repeat (any_goals (first | assumption | wp_step | fail))
   refine codeAny_mono (codeAny_call_builtin ft.init.plain eI (ft.init.check _ _ _ _ _ _ _ _ hT hok (gi prog w A.in1 _ s1 hsi))) fun r2 s2 hr2=>?_
   cases r2 with
   | error e=>exact hr2
   | ok fl2 =>
    cases fl2 with
    | ret r =>
     obtain⟨rfl,hq⟩:=hr2
     repeat (any_goals (first | assumption | wp_step | fail))
    | _=>exact hr2.elim
  | _=>exact hr.elim
theorem yA{T nI:String}{self a:Value}{kw:List (Str×Value)}(hl:typeLookup (.type T) "__init__" = pure (some (.builtin "object.__init__")))(hm:Bind.madeBy (.type T)=pure (some nI))(hne:(some nI != some "object.__new__")=true) :
  Meets (Builtin.«object.__init__» ⟨[self,a],kw⟩) (fun _ R s=>s.TypeIs self T∧R (.ok (.ret .none)) s):=by
 refine Meets.of_wp fun pr w A R s0 hs=>?_
 obtain⟨hT,hq⟩:=hs
 repeat (any_goals (first | assumption | wp_step | fail))
 exact⟨_,rfl,hq⟩
theorem cK1(a v:Value):checkTypeCall "enumerate" ⟨[a],[("start", v)]⟩=pure ():=by kernel_rfl
theorem cK2(a v:Value):checkBuiltinCall "enumerate.__new__" ⟨[.type "enumerate", a],[("start", v)]⟩=pure ():=by kernel_rfl
theorem cK3(a b v:Value):argsOk "object.__init__" ⟨[a,b],[("start", v)]⟩:=by
 unfold argsOk
 rw[signature?_of (id := "object.__init__") (n:=['_','_','t','i','n','i','_','_']) (o:=['t','c','e','j','b','o']) (by kernel_rfl) F.owner_object]
 kernel_rfl
abbrev itO(n:String)(l:Addr):Obj:={ cls:=.type n,data:=.fields #[.ref l,.int 0 0] }
abbrev enO(it:Addr)(i:Int):Obj:={ cls:=.type "enumerate", data:=.fields #[.none,.bool false,.ref it,rawInt i,.none,.none] }
def k9(n:String)(l:Addr)(s:Shared):Prop:=∀(pr:Program) (w:World) (A:Around) (Q:Value→Shared→Prop) (E:Value→Shared→Prop),Q (.ref s.heap.objs.size) { s with heap:=s.heap.push (itO n l) }→wpAny (model pr w) A (pyIter (.ref l)) Q E s
theorem De(n:String)(l:Addr)(t:Tok) :
  Meets (Builtin.«enumerate.__new__» ⟨[.type "enumerate", .ref l],[("start", .int 1 t)]⟩) (fun _ R s=>k9 n l s∧R (.ok (.ret (.ref (s.heap.push (itO n l)).objs.size))) { s with heap:=(s.heap.push (itO n l)).push (enO s.heap.objs.size 1) }) :=
 .of_wp fun pr w A R s0 h=>by
  obtain⟨hp,g,d,tk,os⟩:=s0
  obtain⟨hI,h⟩:=h
  have hsub:=sub_enumerate
  have hJ:∀{Q:Value→Shared→Prop}{E:Value→Shared→Prop},Q (.ref hp.objs.size) ⟨hp.push (itO n l),g,d,tk,os⟩→wpAny (model pr w) A.in1 (pyIter (.ref l)) Q E ⟨hp,g,d,tk,os⟩:=fun {Q E} q=>hI pr w A.in1 Q E q
  have hJ':∀{Q:Value→Shared→Prop}{E:Value→Shared→Prop},Q (.ref hp.objs.size) ⟨hp.push (itO n l),g,d,tk,os⟩→wpAny (model pr w) A (pyIter (.ref l)) Q E ⟨hp,g,d,tk,os⟩:=fun {Q E} q=>hI pr w A Q E q
  wp_walk
  refine wpAny_stack_any fun st=>wpAny_pure ?_
  split<;>try (rename_i c _ _ _ _ _;cases(c==Value.type "enumerate"))
  all_goals (wp_walk using hJ,hJ')
  all_goals exact⟨_,rfl,h⟩
theorem AH{n:String}{l:Addr}{t:Tok}{Q:Value→Shared→Prop}(hI:k9 n l s)(h:Q (.ref (s.heap.objs.size+1)) { s with heap:=(s.heap.push (itO n l)).push (enO s.heap.objs.size 1) }) :
  wpAny (model prog w) A (call (.type "enumerate") [.ref l] [("start", .int 1 t)]) Q E s:=by
 have hz:(s.heap.push (itO n l)).objs.size=s.heap.objs.size+1:=Heap.size_push ..
 refine iT (Q1:=fun ob s1=>s1.TypeIs ob "enumerate" ∧ Q ob s1) F.called_enumerate (cK1 _ _) (cK2 _ _) F.entry_enumerate_new F.entry_object_init (De n l t) ⟨hI,?_⟩ fun ob s1 hq=>⟨hq.1,cK3 ob _ _,_,yA F.called_enumerate.init.lookup F.called_enumerate.made (by decide),hq.1,rfl,hq.2⟩
 show _∧_
 rw[hz]
 have:=Heap.get?_push_size (s.heap.push (itO n l)) (o:=enO s.heap.objs.size 1) rfl
 rw[hz]at this
 exact⟨⟨_,this,rfl⟩,h⟩
end
end PR
namespace PR
open PySem PySem.Spec L2
section
variable{prog:Program}{w:World}{A:Around}{E:Value→Shared→Prop}{s:Shared}
theorem mS(t:Addr):¬((Value.ref t==Value.none)=true):=Bool.false_ne_true
theorem t9{it t:Addr}{i:Nat}{items:Array Value}{x:Value}{Q:Value→Shared→Prop}(hit:s.heap.IsTupleIter it t i)(ht:s.heap.IsTuple t items)(hx:items[i]?=some x)
  (hQ:∀h',h'.IsTupleIter it t (i+1)→Heap.SameBut it s.heap h'→Q x { s with heap:=h' }):wpAny (model prog w) A (Builtin.SmallTypes.nextOf (.ref it)) Q E s:=by
 obtain⟨o,ho,hc,hd⟩:=id hit
 obtain⟨o2,ho2,_,n2,hd2⟩:=ht
 unfold Builtin.SmallTypes.nextOf
 refine wpAny_bind (wpAny_callSpecial?_slot (name:=Str.ofString "__next__") hit.typeIs F.slot_tuple_iterator_next (wpAny_call_entry F.slot_tuple_iterator_next hit.typeIs F.entry_tuple_iterator_next ?_ (F.args_tuple_iterator_next_1 _)))
 refine(show wpAny _ _ (field (.ref it) 0 >>= _) _ _ s from wpAny_bind (wpAny_field ho hd (x:=.ref t) rfl ?_))
 refine(show wpAny _ _ (if(Value.ref t==Value.none)=true then _ else _) _ _ s from ?_)
 rw[if_neg (mS t)]
 refine(show wpAny _ _ (field (.ref it) 1 >>= _) _ _ s from wpAny_bind (wpAny_field ho hd (x:=.int i 0) rfl ?_))
 refine(show wpAny _ _ (seqItems? (.ref t) >>= _) _ _ s from wpAny_bind (wpAny_seqItems ho2 hd2 ?_))
 simp only[Int.toNat_natCast,hx]
 refine wpAny_bind (wpAny_setField ho hd (by simp) (wpAny_pure ⟨x,rfl,wpAny_pure (hQ _ ⟨_,Heap.get?_update_self _ ho (Obj.isFreed_of_fields (Obj.data_mapFields hd _)),(Obj.cls_mapFields ..).trans hc,by rw[Obj.data_mapFields hd];simp[rawInt]⟩ (Heap.SameBut.update ..))⟩))
theorem xk{it t:Addr}{i:Nat}{items:Array Value}{Q:Value→Shared→Prop}(hh:A.handled=none)(hit:s.heap.IsTupleIter it t i)(ht:s.heap.IsTuple t items)(hx:items[i]?=none)
  (hE:∀h' e,Heap.ExtBut it s.heap h'→(∃o,h'.get? e=some o∧o.cls=.type "StopIteration")→E (.ref e) { s with heap:=h' }):wpAny (model prog w) A (Builtin.SmallTypes.nextOf (.ref it)) Q E s:=by
 obtain⟨o,ho,hc,hd⟩:=id hit
 obtain⟨o2,ho2,_,n2,hd2⟩:=ht
 unfold Builtin.SmallTypes.nextOf
 refine wpAny_bind (wpAny_callSpecial?_slot (name:=Str.ofString "__next__") hit.typeIs F.slot_tuple_iterator_next (wpAny_call_entry F.slot_tuple_iterator_next hit.typeIs F.entry_tuple_iterator_next ?_ (F.args_tuple_iterator_next_1 _)))
 refine(show wpAny _ _ (field (.ref it) 0 >>= _) _ _ s from wpAny_bind (wpAny_field ho hd (x:=.ref t) rfl ?_))
 refine(show wpAny _ _ (if(Value.ref t==Value.none)=true then _ else _) _ _ s from ?_)
 rw[if_neg (mS t)]
 refine(show wpAny _ _ (field (.ref it) 1 >>= _) _ _ s from wpAny_bind (wpAny_field ho hd (x:=.int i 0) rfl ?_))
 refine(show wpAny _ _ (seqItems? (.ref t) >>= _) _ _ s from wpAny_bind (wpAny_seqItems ho2 hd2 ?_))
 simp only[Int.toNat_natCast,hx]
 refine wpAny_bind (wpAny_rule (wpAny_bind (wpAny_setField ho hd (by simp) (show wpAny _ _ (newExc (.type "StopIteration") [] >>= _) _ _ _ from wpAny_bind ?_))))
 simp only[newExc,newTuple]
 refine wpAny_bind (wpAny_newObj_type (wpAny_bind (m:=firstArgMember _ _) (wpAny_of_eq (a:=Value.none) (by first | rfl |(simp only[firstArgMember];rfl)) (wpAny_newObj_type ?_ (by size_fits)))) (by size_fits))
 simp only[raiseNew]
 refine wpAny_bind (wpAny_handled ?_)
 first | rw[show A.in1.handled=none from hh] | rw[hh] | skip
 exact wpAny_bind (wpAny_pure (wpAny_throw (hE _ _ (((Heap.SameBut.update ..).extBut.push _).push _) ⟨_,Heap.get?_push_size _ rfl,rfl⟩)))
inductive g7(h:Heap)(it l:Addr)(its:Array Value)(i:Nat):Prop
 | lst (a:h.IsListIter it l i) (b:h.IsList l its)
 | tup (a:h.IsTupleIter it l i) (b:h.IsTuple l its)
theorem g7.at{h h':Heap}{it l:Addr}{its:Array Value}{i:Nat}(x:g7 h it l its i)(k1:∀o,h.get? it=some o→h'.get? it=some o)(k2:∀o,h.get? l=some o→h'.get? l=some o):g7 h' it l its i:=by
 rcases x with⟨⟨o,e,r⟩,⟨o2,e2,r2⟩⟩ |⟨⟨o,e,r⟩,⟨o2,e2,r2⟩⟩
 ·exact .lst ⟨o,k1 o e,r⟩ ⟨o2,k2 o2 e2,r2⟩
 ·exact .tup ⟨o,k1 o e,r⟩ ⟨o2,k2 o2 e2,r2⟩
theorem g7.obj{h:Heap}{it l:Addr}{its:Array Value}{i:Nat}(x:g7 h it l its i):∃o,h.get? it=some o∧∀v,o.data≠.cell v:=by
 rcases x with⟨⟨o,e,_,d⟩,_⟩ |⟨⟨o,e,_,d⟩,_⟩
 ·exact⟨o,e,fun v z=>by rw[d]at z;cases z⟩
 ·exact⟨o,e,fun v z=>by rw[d]at z;cases z⟩
theorem xj{it l:Addr}{i:Nat}{its:Array Value}{x:Value}{Q:Value→Shared→Prop}(hi:g7 s.heap it l its i)(hne:l≠it)(hx:its[i]?=some x)(hQ:∀h',g7 h' it l its (i+1)→Heap.SameBut it s.heap h'→Q x { s with heap:=h' }) :
  wpAny (model prog w) A (Builtin.SmallTypes.nextOf (.ref it)) Q E s:=by
 rcases hi with⟨a,b⟩ |⟨a,b⟩
 ·exact wpAny_nextOf_list_item a b hx fun h' q sb=>hQ h' (.lst q (b.extBut sb.extBut hne)) sb
 ·exact t9 a b hx fun h' q sb=>hQ h' (.tup q (b.extBut sb.extBut hne)) sb
theorem zV{it l:Addr}{i:Nat}{its:Array Value}{Q:Value→Shared→Prop}(hh:A.handled=none)(hi:g7 s.heap it l its i)(hx:its[i]?=none)
  (hE:∀h' e,Heap.ExtBut it s.heap h'→(∃o,h'.get? e=some o∧o.cls=.type "StopIteration")→E (.ref e) { s with heap:=h' }):wpAny (model prog w) A (Builtin.SmallTypes.nextOf (.ref it)) Q E s:=by
 rcases hi with⟨a,b⟩ |⟨a,b⟩
 ·exact wpAny_nextOf_list_end hh a b hx hE
 ·exact xk hh a b hx hE
theorem xT{e it l:Addr}{i:Nat}{k:Int}{its:Array Value}{x old:Value}{Q:Value→Shared→Prop}(he:IsEnum s.heap e it k old)(hi:g7 s.heap it l its i)(hne:e≠it)(hli:l≠it)(hle:l≠e)(hx:its[i]?=some x)
  (hQ:∀ h',IsEnumOut h' e it (k+1) x s.heap.objs.size→g7 h' it l its (i+1)→h'.get? s.heap.objs.size=some { cls:=.type "tuple", data:=.seq #[.int k s.toks,x] }→h'.objs.size=s.heap.objs.size+1 →
   (∀b o,b≠e→b≠it→s.heap.get? b=some o→h'.get? b=some o)→Q (.ref s.heap.objs.size) { s with heap:=h',toks:=s.toks+1 }) :
  wpAny (model prog w) A (Builtin.«enumerate.__next__» ⟨[.ref e],[]⟩) (fun fin s'=>∃v,fin=.done (.ret v)∧Q v s') E s:=by
 obtain⟨hp,g,d,tk,os⟩:=s
 refine(show wpAny _ _ (field (.ref e) 2 >>= _) _ _ _ from wpAny_bind (wpAny_field he rfl (x:=.ref it) rfl ?_))
 refine wpAny_bind (xj hi hli hx fun h1 i1 s1=>?_)
 replace s1:Heap.SameBut it hp h1:=s1
 have e1:IsEnum h1 e it k old:=(s1.2 e hne).trans he
 refine(show wpAny _ _ (field (.ref e) 3 >>= _) _ _ ⟨h1,g,d,tk,os⟩from wpAny_bind (wpAny_field e1 rfl (x:=rawInt k) rfl ?_))
 refine(show wpAny _ _ (field (.ref e) 4 >>= _) _ _ ⟨h1,g,d,tk,os⟩from wpAny_bind (wpAny_field e1 rfl (x:=.none) rfl ?_))
 refine(show wpAny _ _ (mkInt k >>= _) _ _ ⟨h1,g,d,tk,os⟩from wpAny_bind (wpAny_mkInt ?_))
 refine(show wpAny _ _ (setField (.ref e) 3 (rawInt (k+1)) >>= _) _ _ ⟨h1,g,d,tk+1,os⟩from wpAny_bind (wpAny_setField_rec e1 (by simp) fun h2 e2 s2=>?_))
 replace s2:Heap.SameBut e h1 h2:=s2
 replace e2:IsEnum h2 e it (k+1) old:=e2
 refine(show wpAny _ _ (setField (.ref e) 4 .none >>= _) _ _ ⟨h2,g,d,tk+1,os⟩from wpAny_bind (wpAny_setField_rec e2 (by simp) fun h3 e3 s3=>?_))
 replace s3:Heap.SameBut e h2 h3:=s3
 replace e3:IsEnum h3 e it (k+1) old:=e3
 refine(show wpAny _ _ (newTuple [.int k tk,x] >>= _) _ _ ⟨h3,g,d,tk+1,os⟩from wpAny_bind (wpAny_newTuple ?_))
 have e4:IsEnum (h3.push { cls:=.type "tuple", data:=.seq #[.int k tk,x] }) e it (k+1) old:=Heap.get?_push_of_some _ e3
 generalize hh4:h3.push { cls:=.type "tuple", data:=.seq #[.int k tk,x] }=h4 at e4
 have z3:h3.objs.size=hp.objs.size:=by rw[s3.1,s2.1,s1.1]
 have lte:e < hp.objs.size:=Heap.lt_size he
 have t4:h4.get? hp.objs.size=some { cls:=.type "tuple", data:=.seq #[.int k tk,x] }:=by rw[← hh4,← z3];exact Heap.get?_push_size _ rfl
 have z4:h4.objs.size=hp.objs.size+1:=by rw[← hh4,Heap.size_push,z3]
 have k4:∀b o,b≠e→h1.get? b=some o→h4.get? b=some o:=fun b o hb q=>by
  rw[← hh4];exact Heap.get?_push_of_some _ (s3.extBut b o hb (s2.extBut b o hb q))
 refine(show wpAny _ _ (Builtin.SmallTypes.ownedTupleIsFree (.ref e) >>= _) _ _ ⟨h4,g,d,tk+1,os⟩from ?_)
 rw[z3]
 refine wpAny_bind ?_
 unfold Builtin.SmallTypes.ownedTupleIsFree
 refine wpAny_bind (wpAny_field e4 rfl (x:=.none) rfl (wpAny_pure ?_))
 simp only[if_true]
 refine wpAny_bind (wpAny_rule (wpAny_bind (wpAny_field e4 rfl (x:=old) rfl (wpAny_bind (wpAny_setField_rec e4 (by simp) fun h5 e5 s5=>?_)))))
 replace s5:Heap.SameBut e h4 h5:=s5
 replace e5:IsEnum h5 e it (k+1) x:=e5
 refine(show wpAny _ _ (Builtin.SmallTypes.ownedTupleHandOut (.ref e) (.ref hp.objs.size) >>= _) _ _ ⟨h5,g,d,tk+1,os⟩from wpAny_bind ?_)
 unfold Builtin.SmallTypes.ownedTupleHandOut
 refine wpAny_bind (wpAny_setField_rec e5 (by simp) fun h6 e6 s6=>?_)
 replace s6:Heap.SameBut e h5 h6:=s6
 replace e6:IsEnumOut h6 e it (k+1) x hp.objs.size:=e6
 refine wpAny_setField_rec e6 (by simp) fun h7 e7 s7=>?_
 replace s7:Heap.SameBut e h6 h7:=s7
 replace e7:IsEnumOut h7 e it (k+1) x hp.objs.size:=e7
 have up:∀b o,b≠e→h4.get? b=some o→h7.get? b=some o:=fun b o hb q=>s7.extBut b o hb (s6.extBut b o hb (s5.extBut b o hb q))
 refine wpAny_bind (wpAny_letGo (wpAny_pure ⟨_,rfl,hQ h7 e7 (i1.at (fun o q=>up it o hne.symm (k4 it o hne.symm q)) fun o q=>up l o hle (k4 l o hle q)) (up _ _ (Nat.ne_of_gt lte) t4) (by rw[s7.1,s6.1,s5.1,z4]) fun b o hb hb2 q=>up b o hb (k4 b o hb (s1.extBut b o hb2 q))⟩))
theorem wS{e it l:Addr}{i:Nat}{k:Int}{its:Array Value}{x old:Value}{Q:Option Value→Shared→Prop}(he:IsEnum s.heap e it k old)(hi:g7 s.heap it l its i)(hne:e≠it)(hli:l≠it)(hle:l≠e)(hx:its[i]?=some x)
  (hQ:∀ h',IsEnumOut h' e it (k+1) x s.heap.objs.size→g7 h' it l its (i+1)→h'.get? s.heap.objs.size=some { cls:=.type "tuple", data:=.seq #[.int k s.toks,x] }→h'.objs.size=s.heap.objs.size+1 →
   (∀b o,b≠e→b≠it→s.heap.get? b=some o→h'.get? b=some o)→Q (some (.ref s.heap.objs.size)) { s with heap:=h',toks:=s.toks+1 }):wpAny (model prog w) A (pyNext (.ref e)) Q E s:=by
 have hT:s.TypeIs (.ref e) "enumerate" :=⟨_,he,rfl⟩
 unfold pyNext
 exact wpAny_bind (wpAny_attempt (wpAny_callSpecial?_slot (name:=Str.ofString "__next__") hT F.slot_enumerate_next (wpAny_call_entry F.slot_enumerate_next hT F.entry_enumerate_next (xT he hi hne hli hle hx fun h' a b c d q=>wpAny_pure (hQ h' a b c d q)) (F.args_enumerate_next_1 _))))
theorem zd{e it l:Addr}{i:Nat}{k:Int}{its:Array Value}{old:Value}{Q:Option Value→Shared→Prop}(hh:A.handled=none)(he:IsEnum s.heap e it k old)(hi:g7 s.heap it l its i)(hx:its[i]?=none)
  (hQ:∀h',Heap.ExtBut it s.heap h'→Q none { s with heap:=h' }):wpAny (model prog w) A (pyNext (.ref e)) Q E s:=by
 have hT:s.TypeIs (.ref e) "enumerate" :=⟨_,he,rfl⟩
 unfold pyNext
 refine wpAny_bind (wpAny_attempt (wpAny_callSpecial?_slot (name:=Str.ofString "__next__") hT F.slot_enumerate_next (wpAny_call_entry F.slot_enumerate_next hT F.entry_enumerate_next ?_ (F.args_enumerate_next_1 _))))
 refine(show wpAny _ _ (field (.ref e) 2 >>= _) _ _ _ from wpAny_bind (wpAny_field he rfl (x:=.ref it) rfl ?_))
 refine wpAny_bind (zV hh hi hx fun h' y q ⟨o,ho,hc⟩=>?_)
 exact wpAny_bind (wpAny_isInstance (T := "StopIteration") (b:=true) ⟨o,ho,hc⟩ isSubtype_stop (wpAny_pure (hQ _ q)))
end
end PR
namespace PR
open PySem PySem.Spec L2
section
variable{X:Cx}{T:Tb}{W:Nat→St→Hp→Prop}{Z:Zn}{F F1 B L:Addr→Prop}{H H1:Hp}{σ:St}{env:En}{pins:List (Addr×Obj)}{s:Shared}
theorem kG{h':Heap}{t':Nat}{fp:List Addr}{a:Addr}{vs:List V}(I:L2.Inv X pins σ H s)(hf:∀b∈fp,jY X pins H b)(k:∀b o,b∉fp→s.heap.get? b=some o→h'.get? b=some o)(hp:s.heap.objs.size≤a)(new:cD X.prog X.w (upd H a (.tup vs)) h' a (.tup vs)) :
  L2.Inv X pins σ (upd H a (.tup vs)) { s with heap:=h',toks:=t' }:=by
 have hn:H a=none:=I.hok.fresh hp
 have nit:∀b u,H b=some u→b∉fp:=fun b u e z=>by rw[(hf b z).1]at e;cases e
 refine I.step (g':=s.gens) (d':=s.drawn) (ch:=fp) (fun b hb=>?_) (fun b o _ _ hc e _=>k b o hc e) (fun b o _ _ hc e _=>⟨o.slots,k b o hc e⟩) (fun b o _ e n=>?_) (fun b o hc e=>⟨o,k b o hc e⟩)
  (fun b xs e=>by rw[aI (bG e hn)];exact e) (fun b o u e=>by rw[aI (bG e hn)];exact e) (fun b ps e=>⟨#[],by rw[aI (bG e hn),e];simp⟩) (fun m hm=>?_) (fun b u e=>?_) I.bare
 ·obtain⟨_,q1,_,q3,q4,q5⟩:=hf b hb
  exact⟨q3,q1,q4,q5⟩
 ·rw[aI (Nat.ne_of_lt (Nat.lt_of_lt_of_le (Heap.lt_size e) hp))];exact n
 ·obtain⟨o,es,ep,ho,r⟩:=hm
  exact⟨o,es,ep,k _ o (fun z=>(hf _ z).2.1 rfl) ho,r⟩
 ·by_cases hb:b=a
  ·subst hb;rw[bF]at e;cases e;exact new
  ·rw[aI hb]at e
   refine(I.hok b u e).stay (fun c v hc q=>k c v ?_ q) (fun c q=>by rw[aI (bG q hn)];exact q) fun c xs q=>by rw[aI (bG q hn)];exact q
   rcases hc with z | z
   ·rw[z];exact nit b u e
   ·exact nit c _ z
def Sq(tp:Bool)(K:PySem.W.Frag)(H:Hp)(l:Addr)(xs:List V):Prop:=match tp with
 | true=>SqT K H l xs
 | false=>SqL K H l xs
def vY(tp:Bool)(h:Heap)(it l:Addr)(i:Nat):Prop:=match tp with
 | true=>h.IsTupleIter it l i
 | false=>h.IsListIter it l i
def Ite(tp:Bool)(K:PySem.W.Frag)(st:Int)(l:Addr):It :=
 ⟨fun i H=>∃xs x,Sq tp K H l xs∧xs[i]?=some x,fun i H v H'=>∃p y,H p=none∧v=.ref p∧H'=upd H p (.tup [.int (st+i),y])∧∀xs,Sq tp K H l xs→xs[i]?=some y,fun i H=>∃xs,Sq tp K H l xs∧xs.length≤i⟩
theorem ym{tp:Bool}{l it:Addr}{i:Nat}{xs:List V}(I:L2.Inv X pins σ H s)(hq:Sq tp X.K H l xs)(ha:vY tp s.heap it l i):∃its:List Value,aH xs its∧g7 s.heap it l its.toArray i∧l≠it∧∀e k old,IsEnum s.heap e it k old→e≠it∧l≠e:=by
 cases tp with
 | false =>
  obtain⟨its,rv,p,_⟩:=I.list hq
  obtain⟨o,ho,hc,_⟩:=id p.isList
  obtain⟨o2,ho2,hc2,_⟩:=id (show s.heap.IsListIter it l i from ha)
  refine⟨its,rv,.lst ha p.isList,fun z=>?_,fun e k old he=>⟨fun z=>?_,fun z=>?_⟩⟩
  ·rw[z,ho2]at ho;cases ho;rw[hc2]at hc;exact absurd hc (by decide)
  ·have he':s.heap.get? e=some _:=he
   rw[z,ho2]at he';injection he' with he';rw[he']at hc2;exact absurd hc2 (by simp)
  ·have he':s.heap.get? e=some _:=he
   rw[z,he']at ho;injection ho with ho;rw[← ho]at hc;exact absurd hc (by simp)
 | true =>
  obtain⟨its,rv,p,_⟩:=I.tuple hq
  have p':s.heap.IsTuple l its.toArray:=p
  obtain⟨o,ho,hc,_⟩:=id p'
  obtain⟨o2,ho2,hc2,_⟩:=id (show s.heap.IsTupleIter it l i from ha)
  refine⟨its,rv,.tup ha p',fun z=>?_,fun e k old he=>⟨fun z=>?_,fun z=>?_⟩⟩
  ·rw[z,ho2]at ho;cases ho;rw[hc2]at hc;exact absurd hc (by decide)
  ·have he':s.heap.get? e=some _:=he
   rw[z,ho2]at he';injection he' with he';rw[he']at hc2;exact absurd hc2 (by simp)
  ·have he':s.heap.get? e=some _:=he
   rw[z,he']at ho;injection ho with ho;rw[← ho]at hc;exact absurd hc (by simp)
theorem yP{tp:Bool}{l:Addr}{xs ys:List V}(I:L2.Inv X pins σ H s)(h1:Sq tp X.K H l xs)(h2:Sq tp X.K H l ys):xs=ys:=by
 cases tp with
 | false=>exact I.list_inj h1 h2
 | true=>exact I.tuple_inj h1 h2
theorem CW{tp:Bool}{h:Heap}{it l:Addr}{its:Array Value}{i:Nat}(x:g7 h it l its i)(hl:tp=true→∃o,h.get? l=some o∧o.cls=.type "tuple")(hl2:tp=false→∃o,h.get? l=some o∧o.cls=.type "list"):vY tp h it l i:=by
 cases tp with
 | false =>
  obtain⟨o,ho,hc⟩:=hl2 rfl
  rcases x with⟨a,b⟩ |⟨a,⟨o2,ho2,hc2,_⟩⟩
  ·exact a
  ·rw[ho]at ho2;cases ho2;rw[hc]at hc2;exact absurd hc2 (by decide)
 | true =>
  obtain⟨o,ho,hc⟩:=hl rfl
  rcases x with⟨a,⟨o2,ho2,hc2,_⟩⟩ |⟨a,b⟩
  ·rw[ho]at ho2;cases ho2;rw[hc]at hc2;exact absurd hc2 (by decide)
  ·exact a
theorem kc{P:Program}{w:World}{K:PySem.W.Frag}{els:List Expr}{x1}{tpos:Pos}(tp:Bool)(st:Int)(l e it:Addr) :
  o7 P w K (.Tuple els x1 tpos) (Ite tp K st l) [e,it] e (fun i h=>(∃old,IsEnum h e it (st+i) old)∧vY tp h it l i) where
 mem:=by simp
 obj:=fun i h st b hb=>by
  obtain⟨⟨old,he⟩,ha⟩:=st
  simp only[List.mem_cons,List.not_mem_nil,or_false]at hb
  rcases hb with rfl | rfl
  ·exact⟨_,he,fun v z=>by cases z⟩
  ·cases tp with
   | false =>
    obtain⟨o,e,c,d⟩:=id (show h.IsListIter b l i from ha)
    exact⟨o,e,fun v z=>by rw[d]at z;cases z⟩
   | true =>
    obtain⟨o,e,c,d⟩:=id (show h.IsTupleIter b l i from ha)
    exact⟨o,e,fun v z=>by rw[d]at z;cases z⟩
 keep:=fun i h h' st k=>by
  obtain⟨⟨old,he⟩,ha⟩:=st
  refine⟨⟨old,k e (by simp) _ he⟩,?_⟩
  cases tp with
  | false =>
   obtain⟨o,e,r⟩:=id (show h.IsListIter it l i from ha)
   exact⟨o,k it (by simp) o e,r⟩
  | true =>
   obtain⟨o,e,r⟩:=id (show h.IsTupleIter it l i from ha)
   exact⟨o,k it (by simp) o e,r⟩
 item:=by
  intro X hP hw hK hc i pins s σ H E I hf stt hg
  subst hP hw hK
  obtain⟨⟨old,he⟩,ha⟩:=stt
  obtain⟨xs,x,hq,hx⟩:=hg
  obtain⟨its,rv,hi,hli,hen⟩:=ym I hq ha
  obtain⟨hne,hle⟩:=hen e _ old he
  obtain⟨u,hu,ru⟩:=rv.get hx
  refine wS he hi hne hli hle (x:=u) (by simpa using hu) fun h1 eo in1 tu sz kp=>?_
  refine⟨_,rfl,wpAny_letOwnedTupleGo_enum eo fun h2 e2 s2=>?_⟩
  replace s2:Heap.SameBut e h1 h2:=s2
  have lte:e < s.heap.objs.size:=Heap.lt_size he
  have kp2:∀b o,b∉[e,it]→s.heap.get? b=some o→h2.get? b=some o:=fun b o hb q=>by
   simp only[List.mem_cons,List.not_mem_nil,or_false,not_or]at hb
   exact s2.extBut b o hb.1 (kp b o hb.1 hb.2 q)
  have tu2:h2.get? s.heap.objs.size=some { cls:=.type "tuple", data:=.seq #[.int (st+i) s.toks,u] }:=s2.extBut _ _ (Nat.ne_of_gt lte) tu
  refine⟨.ref s.heap.objs.size,upd H s.heap.objs.size (.tup [.int (st+i),x]),(kG (h':=h2) (t':=s.toks+1) (vs:=[.int (st+i),x]) I hf kp2 (Nat.le_refl _) ⟨by rw[sizeLine_eq];simp,[.int (st+i) s.toks,u],.cons ⟨_,rfl⟩ (.cons ru .nil),⟨_,tu2,rfl,_,rfl⟩⟩ :),rfl,⟨_,x,I.hok.fresh (Nat.le_refl _),rfl,rfl,fun ys hy=>by rw[yP I hy hq];exact hx⟩,⟨⟨u,?_⟩,?_⟩,fun b hb=>?_⟩
  ·have:st+((i+1:Nat):Int)=st+i+1:=by omega
   rw[this];exact e2
  ·have in2:=in1.at (fun o q=>s2.extBut it o hne.symm q) fun o q=>s2.extBut l o hle q
   refine CW in2 (fun z=>?_) fun z=>?_
   ·subst z
    obtain⟨_,_,p,_⟩:=I.tuple hq
    obtain⟨o,ho,hc,_⟩:=id (show s.heap.IsTuple l _ from p)
    exact⟨o,kp2 l o (by simp[hle,hli]) ho,hc⟩
   ·subst z
    obtain⟨_,_,p,_⟩:=I.list hq
    obtain⟨o,ho,hc,_⟩:=id p.isList
    exact⟨o,kp2 l o (by simp[hle,hli]) ho,hc⟩
  ·have:b < s.heap.objs.size:=by
    simp only[List.mem_cons,List.not_mem_nil,or_false]at hb
    rcases hb with rfl | rfl
    ·exact lte
    ·obtain⟨o,ho,_⟩:=hi.obj
     exact Heap.lt_size ho
   rw[aI (Nat.ne_of_lt this)]
   exact(hf b hb).1
 done:=by
  intro X hP hw hK hc i pins s σ H E I hf stt hg
  subst hP hw hK
  obtain⟨⟨old,he⟩,ha⟩:=stt
  obtain⟨xs,hq,hx⟩:=hg
  obtain⟨its,rv,hi,hli,hen⟩:=ym I hq ha
  obtain⟨f0,f1,f2,f3,f4,f5⟩:=hf it (by simp)
  have hl:=rv.length
  exact zd (I.ok.hd hc) he hi (by simp;omega) fun h' eb=>⟨rfl,I.turned (t':=s.toks) (fun b o hb e=>eb b o hb e) f0 f1 f3 f4 f5⟩
 self:=fun _ _ _ _ _ st h=>by
  obtain⟨⟨old,he⟩,_⟩:=st
  exact wpAny_pyIter_enum he h
theorem md{M:Model}{A:Around}{E:Value→Shared→Prop}{s:Shared}{env:Env}{pos:Pos}{Ty:String}{e:Expr}{bw:List Expr}{kws:List Keyword}{Q:Value→Shared→Prop}
  (h:wpAny M A (spliced (backTo pos (starEach (e::bw) env))) (fun vs s1=>wpAny M A (evalAll ((backToKw pos (keywordEach kws env)).map (·.2))) (fun ks s2=>wpAny M A (call (.type Ty) vs (((backToKw pos (keywordEach kws env)).filterMap (·.1)).zip ks)) Q E s2) E s1) E s)
  (hall:(backToKw pos (keywordEach kws env)).all (·.1.isSome)=true:=by rfl) (hkw:(backToKw pos (keywordEach kws env)).any (·.1.isNone)=false:=by rfl)
  (he:starEach (e::bw) env=(false,eval e env)::starEach bw env:=by rfl) (hpl:(backTo pos (starEach (e::bw) env)).any (·.1)=false:=by rfl) :
  wpAny M A (callWith pos (.type Ty) [] (backTo pos (starEach (e::bw) env)) (backToKw pos (keywordEach kws env))) Q E s:=by
 unfold callWith
 refine wpAny_bind (wpAny_holding (wpAny_mono (PyProof.Rows.evalArgs_kw2 (Q:=fun a s1=>wpAny M A (call (.type Ty) ([]++ a.pos) a.kw) Q E s1) hall h he) (fun a s1 h1=>wpAny_bind (wpAny_standAt ?_)) fun _ _ x=>x))
 simp only[hpl,hkw,Bool.or_false]
 exact wpAny_bind (wpAny_pure (wpAny_bind (wpAny_mono h1 (fun r s2 hr=>wpAny_bind (wpAny_holding (wpAny_point (wpAny_pure hr)))) fun _ _ x=>x)))
theorem qv:bootBuiltins "enumerate" = some (.type "enumerate"):=by decide +kernel
abbrev enE(l:Expr)(p pos kp cp:Pos)(j:Nat):Expr:=.Call (.Name "enumerate" p) [l] [⟨some "start", .Constant (.int 1) j cp,kp⟩] pos
theorem pJ{els:List Expr}{x1}{tpos:Pos}{l:Expr}{tl:TE}{p pos kp cp:Pos}{j:Nat}(hg:Gl X "enumerate")(hm:X.mg "enumerate" = none)(hl:PE X l tl)(hs:starEach [l] X.env=[(false,eval l X.env)]:=by rfl) :
  PI X (.Tuple els x1 tpos) (enE l p pos kp cp j) (fun σ H R=>tl σ H fun x H1=>∃a tp xs,[x]=[V.ref a]∧Sq tp X.K H1 a xs∧R (Ite tp X.K 1 a) H1):=by
 intro pins s σ H R I h
 refine wpAny_Call_Name_kw (eH I hg hm qv ?_ (by decide) (by decide))
 refine md ?_ rfl rfl hs (by rw[hs];rfl)
 refine thn (cK (te:=tl) hl f7 (by rw[hs];rfl) pos pins s σ H (fun vs H1=>∃a tp xs,vs=[.ref a]∧Sq tp X.K H1 a xs∧R (Ite tp X.K 1 a) H1) I h) fun us s1 ⟨vs,H1,I1,r1,a,tp,xs,ev,hq,q⟩=>?_
 subst ev
 obtain⟨u,rfl,rx⟩:=cU r1
 cases rx
 refine thn (pI (nm:=some "start") (kpos:=kp) (lA (i:=1) (j:=j) (pos:=cp)) tq pos pins s1 σ H1 (fun zs H2=>zs=[.int 1]∧H2=H1) I1 ⟨rfl,rfl⟩) fun ws s2 ⟨zs,H2,I2,r2,ez,eh⟩=>?_
 subst ez
 rw[eh]at I2
 clear eh
 obtain⟨u2,rfl,rx2⟩:=cU r2
 obtain⟨t,rfl⟩:=rx2
 have hI:∃n,k9 n a s2∧∀h',h'.get? s2.heap.objs.size=some (itO n a)→vY tp h' s2.heap.objs.size a 0:=by
  cases tp with
  | false =>
   obtain⟨its,rv,pl,_⟩:=I2.list hq
   exact⟨"list_iterator", fun _ _ _ _ _ q=>wpAny_pyIter_list pl.isList q,fun h' e=>⟨_,e,rfl,rfl⟩⟩
  | true =>
   obtain⟨its,rv,pl,_⟩:=I2.tuple hq
   exact⟨"tuple_iterator", fun _ _ _ _ _ q=>wpAny_pyIter_tuple (show s2.heap.IsTuple a its.toArray from pl) q,fun h' e=>⟨_,e,rfl,rfl⟩⟩
 obtain⟨n,hI,hA⟩:=hI
 have hz:(s2.heap.push (itO n a)).objs.size=s2.heap.objs.size+1:=Heap.size_push ..
 have he:((s2.heap.push (itO n a)).push (enO s2.heap.objs.size 1)).get? (s2.heap.objs.size+1)=some (enO s2.heap.objs.size 1):=by
  have:=Heap.get?_push_size (s2.heap.push (itO n a)) (o:=enO s2.heap.objs.size 1) rfl
  rw[hz]at this
  exact this
 refine AH hI (wpAny_pyIter_enum (i:=1) (old:=.none) he ?_)
 refine⟨s2.heap.objs.size+1,[s2.heap.objs.size+1,s2.heap.objs.size],_,_,H1,rfl,I2.kept (t':=s2.toks) fun b o e=>Heap.get?_push_of_some _ (Heap.get?_push_of_some _ e),kc tp 1 a _ _,⟨⟨.none,by simpa using he⟩,hA _ (Heap.get?_push_of_some _ (Heap.get?_push_size _ rfl))⟩,fun b hb=>?_,q⟩
 simp only[List.mem_cons,List.not_mem_nil,or_false]at hb
 rcases hb with rfl | rfl
 ·exact I2.fpOk (Nat.le_succ _) (I2.hok.fresh (Nat.le_succ _))
 ·exact I2.fpOk (Nat.le_refl _) (I2.hok.fresh (Nat.le_refl _))
end
end PR
namespace PR
open PySem PySem.Spec L2
def enP(k:Int):List PV→List PV
 | []=>[]
 | x::xs=>.tup [.int k,x]::enP (k+1) xs
theorem fC:∀(k:Int) (xs:List PV) (i:Nat),(enP k xs)[i]?=(xs[i]?).map fun x=>.tup [.int (k+i),x]
 | _,[],i=>by simp[enP]
 | k,x::xs,0=>by simp[enP]
 | k,x::xs,i+1=>by
  simp only[enP,List.getElem?_cons_succ,fC (k+1) xs i]
  congr 1
  funext y
  congr 3
  omega
theorem ef:∀(k:Int) (xs:List PV),(enP k xs).length=xs.length
 | _,[]=>rfl
 | k,_::xs=>by simp[enP,ef (k+1) xs]
def rB(m:ME):MI:=fun env=>(m env).bind fun x=>match x with
 | .lst f xs=>if !f.isLnt&&dN xs then .ok (enP 1 xs)else .stuck
 | .tup xs=>if dN xs then .ok (enP 1 xs)else .stuck
 | _=>.stuck
def xA(m:ME):MI:=fun env=>(m env).bind fun x=>match aQ x with
 | some xs=>.ok (enP 1 xs)
 | none=>.stuck
section
variable{X:Cx}{T:Tb}{W:Nat→St→Hp→Prop}{Z:Zn}{F F1 B L:Addr→Prop}{H H1:Hp}{σ:St}{env:En}{fp:Nat→List Addr}
theorem h_{H2:Hp}{k:Int}{x:PV}{v:V}{f:List Addr}{p:Addr}(hp:H2 p=none)(r:Rel T F B L H2 x v f):Rel T F B L (upd H2 p (.tup [.int k,v])) (.tup [.int k,x]) (.ref p) f:=by
 unfold Rel
 refine⟨p,_,rfl,SqT.of bF,?_⟩
 have r2:Rel T F B L (upd H2 p (.tup [.int k,v])) x v f:=r.ext (Ext.upd hp) fun _ h=>h
 unfold RelL
 refine⟨.int k,[v],[],f,rfl,eE,?_,rfl⟩
 unfold RelL
 exact⟨v,[],f,[],rfl,r2,by unfold RelL;exact⟨rfl,rfl⟩,by simp⟩
theorem we{els:List Expr}{x1}{tpos p pos kp cp:Pos}{j:Nat}{e:Expr}{m:ME}(hK:X.K=T.K)(hg:Gl X "enumerate")(hm:X.mg "enumerate" = none)(he:SE X T W e m)(hs:starEach [e] X.env=[(false,eval e X.env)]:=by rfl) :
  SI X T W (.Tuple els x1 tpos) (enE e p pos kp cp j) (rB m):=fun pins s σ H R I h=>pJ hg hm he hs pins s σ H R I (by
 obtain⟨Z,F,env,fp,S,q⟩:=h
 unfold rB at q
 refine tE.bind S (fun c e=>by rw[e]at q;exact q) (fun e=>by rw[e]at q;exact q) fun x v H1 F1 f1 e1 g1 r1 n1 d1 w1=>?_
 rw[e1]at q
 simp only[Res.ok_bind]at q
 have S1:=S.grow g1
 rw[hK]
 have key:∀(tp:Bool) (a:Addr) (xs:List PV) (vs:List V),RelL T F1 Z.B NoL H1 xs vs []→(∀H2,(∀a o,H1 a=some o→¬Own fp a→H2 a=some o)→Sq tp T.K H2 a vs)→ItR T F1 Z.B (Own fp) H1 (Ite tp T.K 1 a) (enP 1 xs):=by
  intro tp a xs vs hr hq H2 hk
  have hq2:=hq H2 hk
  refine⟨fun i x ex=>?_,⟨vs,hq2,by rw[ef,hr.length];exact Nat.le_refl _⟩⟩
  rw[fC]at ex
  obtain⟨y,ey,rfl⟩:=Option.map_eq_some_iff.mp ex
  obtain⟨v,_,ev,_,_⟩:=hr.get ey
  refine⟨⟨vs,v,hq2,ev⟩,fun w H3 hy=>?_⟩
  obtain⟨p,y',hp,rfl,rfl,hall⟩:=hy
  have:=hall vs hq2
  rw[ev]at this
  cases this
  exact⟨Ext.upd hp,h_ hp (fA S1.fow S1.bow S1.oow hk hr ey ev)⟩
 cases x with
 | lst f xs =>
  dsimp only at q
  by_cases hc:(!f.isLnt&&dN xs)=true
  ·rw[if_pos hc]at q
   rw[Bool.and_eq_true]at hc
   unfold Rel at r1
   obtain⟨a,vs,fp',rfl,hl,hr,hf⟩:=r1
   obtain⟨rfl,hr'⟩:=dy hc.2 hr
   refine⟨a,false,vs,rfl,hl.sq,q _ H1 F1 g1 (key false a xs vs hr' fun H2 hk=>?_)⟩
   have na:f≠.mod→∀o,H1 a=some o→H2 a=some o:=fun hn o ho=>by
    refine hk a o ho ?_
    cases f with
    | own =>
     rintro⟨i,hi⟩
     obtain⟨_,o',ho'⟩:=S.dis i a hi
     obtain rfl:f1=[a]:=hf
     rw[w1 a List.mem_cons_self]at ho';cases ho'
    | frz=>exact S1.fow a hl.1
    | bor=>exact S1.bow a hl.1
    | lnt=>exact absurd hc.1 (by decide)
    | mod=>exact absurd rfl hn
   show SqL T.K H2 a vs
   by_cases hn:f=.mod
   ·subst hn;exact .inr hl
   ·exact .inl (Rd.tr (na hn) (hl.rd hn))
  ·rw[if_neg hc]at q;exact q.elim
 | tup xs =>
  dsimp only at q
  by_cases hc:dN xs=true
  ·rw[if_pos hc]at q
   unfold Rel at r1
   obtain⟨a,vs,rfl,hl,hr⟩:=r1
   obtain⟨rfl,hr'⟩:=dy hc hr
   refine⟨a,true,vs,rfl,hl,q _ H1 F1 g1 (key true a xs vs hr' fun H2 hk=>?_)⟩
   exact SqT.tr (fun o ho hfx=>hk a o ho fun z=>by
    have:=S1.oow a o z ho
    cases o with
    | lst _=>exact hfx
    | ins _ _ _=>exact hfx
    | _=>exact this) hl
  ·rw[if_neg hc]at q;exact q.elim
 | _=>exact q.elim)
theorem sG{els:List Expr}{x1}{tpos p pos kp cp:Pos}{j:Nat}{e:Expr}{m:ME}(hK:X.K=T.K)(hg:Gl X "enumerate")(hm:X.mg "enumerate" = none)(he:SE X T W e m)(hs:starEach [e] X.env=[(false,eval e X.env)]:=by rfl) :
  SIc X T W (.Tuple els x1 tpos) (enE e p pos kp cp j) (xA m):=fun pins s σ H R I h=>pJ hg hm he hs pins s σ H R I (by
 obtain⟨Z,F,env,fp,S,q⟩:=h
 unfold xA at q
 refine tE.bind S (fun c e=>by rw[e]at q;exact q) (fun e=>by rw[e]at q;exact q) fun x v H1 F1 f1 e1 g1 r1 n1 d1 w1=>?_
 rw[e1]at q
 simp only[Res.ok_bind]at q
 cases es:aQ x with
 | none=>rw[es]at q;exact q.elim
 | some xs =>
  rw[es]at q
  obtain⟨a,vs,f',rfl,hs,hr,_⟩:=r1.seq es
  rw[hK]
  have key:∀(tp:Bool),Sq tp T.K H1 a vs→(∀H2,Ext H1 H2→Sq tp T.K H2 a vs)→ItC T F1 Z.B (Own fp) H1 (Ite tp T.K 1 a) (enP 1 xs):=by
   intro tp _ hq H2 hx
   have hq2:=hq H2 hx
   refine⟨fun i x ex=>?_,⟨vs,hq2,by rw[ef,hr.length];exact Nat.le_refl _⟩⟩
   rw[fC]at ex
   obtain⟨y,ey,rfl⟩:=Option.map_eq_some_iff.mp ex
   obtain⟨v,f,ev,rv,_⟩:=hr.get ey
   refine⟨⟨vs,v,hq2,ev⟩,fun w H3 hy=>?_⟩
   obtain⟨p,y',hp,rfl,rfl,hall⟩:=hy
   have:=hall vs hq2
   rw[ev]at this
   cases this
   exact⟨Ext.upd hp,f,fun b hb=>rv.there b hb,h_ hp (rv.ext hx fun _ h=>h)⟩
  rcases hs with hs | hs
  ·refine⟨a,false,vs,rfl,hs,q _ H1 F1 g1 (key false hs fun H2 hx=>?_)⟩
   rcases hs with z | z
   ·exact .inl (Rd.tr (fun o q=>hx a o q) z)
   ·exact .inr z
  ·exact⟨a,true,vs,rfl,hs,q _ H1 F1 g1 (key true hs fun H2 hx=>SqT.tr (fun o q _=>hx a o q) hs)⟩)
end
end PR
namespace PR
open PySem PySem.Spec L2
section
variable{X:Cx}{T:Tb}{W:Nat→St→Hp→Prop}{Z:Zn}{F F1 B L:Addr→Prop}{H H1:Hp}{σ:St}{env:En}{fp:Nat→List Addr}{D:Ends}
end
end PR
namespace PR
open PySem PySem.Spec L2
section
variable{X:Cx}{T:Tb}{W:Nat→St→Hp→Prop}{Z:Zn}{F F1 B L:Addr→Prop}{H H1:Hp}{σ:St}{env:En}{fp:Nat→List Addr}{D:Ends}
end
end PR
namespace PR
open PySem PySem.Spec L2
section
variable{X:Cx}{T:Tb}{W:Nat→St→Hp→Prop}{Z:Zn}{F F1 B L:Addr→Prop}{H H1:Hp}{σ:St}{env:En}{fp:Nat→List Addr}{D:Ends}
end
end PR
namespace PR
open PySem PySem.Spec L2
open AutoSeq1 (wpAny_loadPart')
section
variable{prog:Program}{w:World}{A:Around}{E:Value→Shared→Prop}{s:Shared}
abbrev zTI(n:Addr):Obj:={ cls:=.type "tuple", data:=.seq #[.ref n,.ref (n+1)] }
abbrev zTO:Obj:={ cls:=.type "tuple", data:=.seq #[.none,.none] }
abbrev zO(n:Addr):Obj:={ cls:=.type "zip", data:=.fields #[.none,.bool false,.bool false,.ref (n+2),.ref (n+3)] }
abbrev yj(h:Heap)(l1 l2:Addr):Heap:=((((h.push (itO "list_iterator" l1)).push (itO "list_iterator" l2)).push (zTI h.objs.size)).push zTO).push (zO h.objs.size)
theorem BN{T nI:String}{self a b:Value}(hl:typeLookup (.type T) "__init__" = pure (some (.builtin "object.__init__")))(hm:Bind.madeBy (.type T)=pure (some nI))(hne:(some nI != some "object.__new__")=true) :
  Meets (Builtin.«object.__init__» ⟨[self,a,b],[]⟩) (fun _ R s=>s.TypeIs self T∧R (.ok (.ret .none)) s):=by
 refine Meets.of_wp fun pr w A R s0 hs=>?_
 obtain⟨hT,hq⟩:=hs
 repeat (any_goals (first | assumption | wp_step | fail))
 exact⟨_,rfl,hq⟩
theorem DT(l1 l2:Addr)(xs ys:Array Value) :
  Meets (Builtin.«zip.__new__» ⟨[.type "zip", .ref l1,.ref l2],[]⟩) (fun _ R s=>s.heap.IsList l1 xs∧s.heap.IsList l2 ys∧R (.ok (.ret (.ref (s.heap.objs.size+4)))) { s with heap:=yj s.heap l1 l2 }) :=
 .of_wp fun pr w A R s0 h=>by
  obtain⟨hp,g,d,tk,os⟩:=s0
  obtain⟨h1,h2,h⟩:=h
  have hsub:=sub_zip
  have h2':(hp.push (itO "list_iterator" l1)).IsList l2 ys:=by
   obtain⟨o,e,r⟩:=h2
   exact⟨o,Heap.get?_push_of_some _ e,r⟩
  have hz1:(hp.push (itO "list_iterator" l1)).objs.size=hp.objs.size+1:=Heap.size_push ..
  have hJ1:∀{Q:Value→Shared→Prop}{E:Value→Shared→Prop},Q (.ref hp.objs.size) ⟨hp.push (itO "list_iterator" l1),g,d,tk,os⟩→wpAny (model pr w) A.in1 (pyIter (.ref l1)) Q E ⟨hp,g,d,tk,os⟩:=fun {Q E} q=>wpAny_pyIter_list h1 q
  have hJ2:∀{Q:Value→Shared→Prop}{E:Value→Shared→Prop},Q (.ref (hp.push (itO "list_iterator" l1)).objs.size) ⟨(hp.push (itO "list_iterator" l1)).push (itO "list_iterator" l2),g,d,tk,os⟩→wpAny (model pr w) A.in1 (pyIter (.ref l2)) Q E ⟨hp.push (itO "list_iterator" l1),g,d,tk,os⟩:=fun {Q E} q=>wpAny_pyIter_list h2' q
  wp_walk using hJ1,hJ2
  refine⟨_,rfl,?_⟩
  simp only[Heap.size_push]
  exact h
theorem yb{l1 l2:Addr}{xs ys:Array Value}{Q:Value→Shared→Prop}(h1:s.heap.IsList l1 xs)(h2:s.heap.IsList l2 ys)(h:Q (.ref (s.heap.objs.size+4)) { s with heap:=yj s.heap l1 l2 }) :
  wpAny (model prog w) A (call (.type "zip") [.ref l1,.ref l2] []) Q E s:=by
 have hz:((((s.heap.push (itO "list_iterator" l1)).push (itO "list_iterator" l2)).push (zTI s.heap.objs.size)).push zTO).objs.size=s.heap.objs.size+4:=by simp only[Heap.size_push]
 refine iT (Q1:=fun ob s1=>s1.TypeIs ob "zip" ∧ Q ob s1) F.called_zip (F.typeCall_zip_2 _ _) (F.newCall_zip_2 _ _) F.entry_zip_new F.entry_object_init (DT l1 l2 xs ys) ⟨h1,h2,?_⟩ fun ob s1 hq=>⟨hq.1,?_,_,BN F.called_zip.init.lookup F.called_zip.made (by decide),hq.1,rfl,hq.2⟩
 ·have:=Heap.get?_push_size ((((s.heap.push (itO "list_iterator" l1)).push (itO "list_iterator" l2)).push (zTI s.heap.objs.size)).push zTO) (o:=zO s.heap.objs.size) rfl
  rw[hz]at this
  exact⟨⟨_,this,rfl⟩,h⟩
 ·exact F.args_object_init_3 _ _ _
end
end PR
namespace PR
open PySem PySem.Spec L2
section
variable{X:Cx}{T:Tb}{W:Nat→St→Hp→Prop}{Z:Zn}{F F1 B L:Addr→Prop}{H H1:Hp}{σ:St}{env:En}{pins:List (Addr×Obj)}{s:Shared}
theorem rF{h':Heap}{t':Nat}{fp:List Addr}(I:L2.Inv X pins σ H s)(hf:∀b∈fp,jY X pins H b)(k:∀b o,b∉fp→s.heap.get? b=some o→h'.get? b=some o) :
  L2.Inv X pins σ H { s with heap:=h',toks:=t' }:=by
 have nit:∀b u,H b=some u→b∉fp:=fun b u e z=>by rw[(hf b z).1]at e;cases e
 refine I.step (g':=s.gens) (d':=s.drawn) (ch:=fp) (fun b hb=>?_) (fun b o _ _ hc e _=>k b o hc e) (fun b o _ _ hc e _=>⟨o.slots,k b o hc e⟩) (fun _ _ _ _ n=>n) (fun b o hc e=>⟨o,k b o hc e⟩)
  (fun _ _ e=>e) (fun _ _ _ e=>e) (fun b ps e=>⟨#[],by rw[e];simp⟩) (fun m hm=>?_) (fun b u e=>?_) I.bare
 ·obtain⟨_,q1,_,q3,q4,q5⟩:=hf b hb
  exact⟨q3,q1,q4,q5⟩
 ·obtain⟨o,es,ep,ho,r⟩:=hm
  exact⟨o,es,ep,k _ o (fun z=>(hf _ z).2.1 rfl) ho,r⟩
 ·refine(I.hok b u e).stay (fun c v hc q=>k c v ?_ q) (fun _ q=>q) fun _ _ q=>q
  rcases hc with z | z
  ·rw[z];exact nit b u e
  ·exact nit c _ z
def Itz(K:PySem.W.Frag)(l1 l2:Addr):It :=
  ⟨fun i H=>∃ xs ys x y,SqL K H l1 xs∧SqL K H l2 ys∧xs[i]?=some x∧ys[i]?=some y,
   fun i H v H'=>∃p x y,H p=none∧v=.ref p∧H'=upd H p (.tup [x,y])∧(∀xs,SqL K H l1 xs→xs[i]?=some x)∧∀ys,SqL K H l2 ys→ys[i]?=some y,
   fun i H=>∃xs ys,SqL K H l1 xs∧SqL K H l2 ys∧(xs.length≤i∨ys.length≤i)⟩
theorem io{h h':Heap}{it l:Addr}{i:Nat}(a:h.IsListIter it l i)(k:∀o,h.get? it=some o→h'.get? it=some o):h'.IsListIter it l i:=by
 obtain⟨o,e,r⟩:=a
 exact⟨o,k o e,r⟩
theorem sx{P:Program}{w:World}{K:PySem.W.Frag}{els:List Expr}{x1}{tpos:Pos}(l1 l2 z ti to i1 i2:Addr)(D:ZipApart z ti to i1 i2 l1 l2) :
  o7 P w K (.Tuple els x1 tpos) (Itz K l1 l2) [z,ti,to,i1,i2] z (fun i h=>IsZip h z ti to .none∧IsPair h ti (.ref i1) (.ref i2)∧(∃a b,IsPair h to a b)∧h.IsListIter i1 l1 i∧h.IsListIter i2 l2 i) where
 mem:=by simp
 obj:=fun i h st b hb=>by
  obtain⟨hz,ht,⟨a',b',ho⟩,h1,h2⟩:=st
  simp only[List.mem_cons,List.not_mem_nil,or_false]at hb
  rcases hb with rfl | rfl | rfl | rfl | rfl
  ·exact⟨_,hz,fun v z=>by cases z⟩
  ·exact⟨_,ht,fun v z=>by cases z⟩
  ·exact⟨_,ho,fun v z=>by cases z⟩
  ·obtain⟨o,e,c,d⟩:=id h1
   exact⟨o,e,fun v z=>by rw[d]at z;cases z⟩
  ·obtain⟨o,e,c,d⟩:=id h2
   exact⟨o,e,fun v z=>by rw[d]at z;cases z⟩
 keep:=fun i h h' st k=>by
  obtain⟨hz,ht,⟨a',b',ho⟩,h1,h2⟩:=st
  exact⟨k z (by simp) _ hz,k ti (by simp) _ ht,⟨a',b',k to (by simp) _ ho⟩,io h1 (k i1 (by simp)),io h2 (k i2 (by simp))⟩
 item:=by
  intro X hP hw hK hc i pins s σ H E I hf stt hg
  subst hP hw hK
  obtain⟨hz,ht,⟨a',b',ho⟩,h1,h2⟩:=stt
  obtain⟨xs,ys,x,y,hq1,hq2,hx,hy⟩:=hg
  obtain⟨its1,rv1,pl1,_⟩:=I.list hq1
  obtain⟨its2,rv2,pl2,_⟩:=I.list hq2
  obtain⟨u1,hu1,ru1⟩:=rv1.get hx
  obtain⟨u2,hu2,ru2⟩:=rv2.get hy
  refine wpAny_pyNext_zip_item D hz ht ho h1 h2 pl1.isList pl2.isList (x:=u1) (y:=u2) (by simpa using hu1) (by simpa using hu2) fun h' z' to' i1' i2' pr sz kp=>?_
  refine⟨_,rfl,wpAny_letOwnedTupleGo_zip z' fun h3 z3 s3=>?_⟩
  replace s3:Heap.SameBut z h' h3:=s3
  have ltz:z < s.heap.objs.size:=Heap.lt_size hz
  have kp2:∀b o,b∉[z,ti,to,i1,i2]→s.heap.get? b=some o→h3.get? b=some o:=fun b o hb q=>by
   simp only[List.mem_cons,List.not_mem_nil,or_false,not_or]at hb
   exact s3.extBut b o hb.1 (kp b o hb.1 hb.2.2.1 hb.2.2.2.1 hb.2.2.2.2 q)
  have tu2:h3.get? s.heap.objs.size=some { cls:=.type "tuple", data:=.seq #[u1,u2] }:=s3.extBut _ _ (Nat.ne_of_gt ltz) pr
  refine⟨.ref s.heap.objs.size,upd H s.heap.objs.size (.tup [x,y]),(kG (h':=h3) (t':=s.toks) (vs:=[x,y]) I hf kp2 (Nat.le_refl _) ⟨by rw[sizeLine_eq];simp,[u1,u2],.cons ru1 (.cons ru2 .nil),⟨_,tu2,rfl,_,rfl⟩⟩ :),rfl,⟨_,x,y,I.hok.fresh (Nat.le_refl _),rfl,rfl,fun zs hz=>by rw[I.list_inj hz hq1];exact hx,fun zs hz=>by rw[I.list_inj hz hq2];exact hy⟩,⟨z3,s3.extBut ti _ D.TIz (kp ti _ D.TIz D.TITO D.TIi1 D.TIi2 ht),⟨_,_,s3.extBut to _ D.TOz to'⟩,io i1' fun o q=>s3.extBut i1 o D.i1z q,io i2' fun o q=>s3.extBut i2 o D.i2z q⟩,fun b hb=>?_⟩
  have:b < s.heap.objs.size:=by
   simp only[List.mem_cons,List.not_mem_nil,or_false]at hb
   rcases hb with rfl | rfl | rfl | rfl | rfl
   ·exact ltz
   ·exact Heap.lt_size ht
   ·exact Heap.lt_size ho
   ·obtain⟨o,e,_⟩:=id h1;exact Heap.lt_size e
   ·obtain⟨o,e,_⟩:=id h2;exact Heap.lt_size e
  rw[aI (Nat.ne_of_lt this)]
  exact(hf b hb).1
 done:=by
  intro X hP hw hK hc i pins s σ H E I hf stt hg
  subst hP hw hK
  obtain⟨hz,ht,⟨a',b',ho⟩,h1,h2⟩:=stt
  obtain⟨xs,ys,hq1,hq2,hx⟩:=hg
  obtain⟨its1,rv1,pl1,_⟩:=I.list hq1
  obtain⟨its2,rv2,pl2,_⟩:=I.list hq2
  have l1':=rv1.length
  have l2':=rv2.length
  refine wpAny_pyNext_zip_end (I.ok.hd hc) D hz ht ho h1 h2 pl1.isList pl2.isList (by simp;omega) fun h' kp=>⟨rfl,rF (t':=s.toks) I hf fun b o hb q=>?_⟩
  simp only[List.mem_cons,List.not_mem_nil,or_false,not_or]at hb
  exact kp b o hb.1 hb.2.2.1 hb.2.2.2.1 hb.2.2.2.2 q
 self:=fun _ _ _ _ _ st h=>wpAny_pyIter_zip st.1 h
theorem AN:bootBuiltins "zip" = some (.type "zip"):=by decide +kernel
theorem ze{els:List Expr}{x1}{tpos:Pos}{a b:Expr}{ta:TA}{p pos:Pos}(hg:Gl X "zip")(hm:X.mg "zip" = none)(ha:PA X [a,b] ta)(hs:starEach [a,b] X.env=[(false,eval a X.env),(false,eval b X.env)]:=by rfl)(hs2:starEach [b] X.env=[(false,eval b X.env)]:=by rfl) :
  PI X (.Tuple els x1 tpos) (.Call (.Name "zip" p) [a,b] [] pos) (fun σ H R=>ta σ H fun vs H1=>∃l1 l2 xs ys,vs=[V.ref l1,V.ref l2]∧SqL X.K H1 l1 xs∧SqL X.K H1 l2 ys∧R (Itz X.K l1 l2) H1):=by
 intro pins s σ H R I h
 refine PyProof.Rows.Call_ (eH I hg hm AN (PyProof.Rows.callWith_type1 (thn (ha pos pins s σ H _ I h) fun us s1 ⟨vs,H1,I1,r1,q1⟩=>?_) (by rw[hs,hs2]) (by rw[hs2];rfl)))
 obtain⟨l1,l2,xs,ys,e,hq1,hq2,q⟩:=q1
 subst e
 cases r1 with
 | cons r rr =>
  cases rr with
  | cons r' rr =>
   cases rr
   cases r
   cases r'
   obtain⟨its1,rv1,pl1,_⟩:=I1.list hq1
   obtain⟨its2,rv2,pl2,_⟩:=I1.list hq2
   have hl1:l1 < s1.heap.objs.size:=by obtain⟨o,e,_⟩:=id pl1.isList;exact Heap.lt_size e
   have hl2:l2 < s1.heap.objs.size:=by obtain⟨o,e,_⟩:=id pl2.isList;exact Heap.lt_size e
   have z1:(s1.heap.push (itO "list_iterator" l1)).objs.size=s1.heap.objs.size+1:=Heap.size_push ..
   have z2:((s1.heap.push (itO "list_iterator" l1)).push (itO "list_iterator" l2)).objs.size=s1.heap.objs.size+2:=by simp only[Heap.size_push]
   have z3:(((s1.heap.push (itO "list_iterator" l1)).push (itO "list_iterator" l2)).push (zTI s1.heap.objs.size)).objs.size=s1.heap.objs.size+3:=by simp only[Heap.size_push]
   have z4:((((s1.heap.push (itO "list_iterator" l1)).push (itO "list_iterator" l2)).push (zTI s1.heap.objs.size)).push zTO).objs.size=s1.heap.objs.size+4:=by simp only[Heap.size_push]
   have e4:=Heap.get?_push_size ((((s1.heap.push (itO "list_iterator" l1)).push (itO "list_iterator" l2)).push (zTI s1.heap.objs.size)).push zTO) (o:=zO s1.heap.objs.size) rfl
   have e3:=Heap.get?_push_size (((s1.heap.push (itO "list_iterator" l1)).push (itO "list_iterator" l2)).push (zTI s1.heap.objs.size)) (o:=zTO) rfl
   have e2:=Heap.get?_push_size ((s1.heap.push (itO "list_iterator" l1)).push (itO "list_iterator" l2)) (o:=zTI s1.heap.objs.size) rfl
   have e1:=Heap.get?_push_size (s1.heap.push (itO "list_iterator" l1)) (o:=itO "list_iterator" l2) rfl
   have e0:=Heap.get?_push_size s1.heap (o:=itO "list_iterator" l1) rfl
   rw[z4]at e4
   rw[z3]at e3
   rw[z2]at e2
   rw[z1]at e1
   refine yb pl1.isList pl2.isList (wpAny_pyIter_zip (f0:=.none) e4 ?_)
   refine⟨s1.heap.objs.size+4,[s1.heap.objs.size+4,s1.heap.objs.size+2,s1.heap.objs.size+3,s1.heap.objs.size,s1.heap.objs.size+1],_,_,H1,rfl,I1.kept (t':=s1.toks) fun b o e=>Heap.get?_push_of_some _ (Heap.get?_push_of_some _ (Heap.get?_push_of_some _ (Heap.get?_push_of_some _ (Heap.get?_push_of_some _ e)))),sx l1 l2 _ _ _ _ _ (PyProof.Rows.zipApart_new hl1 hl2),⟨e4,Heap.get?_push_of_some _ (Heap.get?_push_of_some _ e2),⟨.none,.none,Heap.get?_push_of_some _ e3⟩,⟨_,Heap.get?_push_of_some _ (Heap.get?_push_of_some _ (Heap.get?_push_of_some _ (Heap.get?_push_of_some _ e0))),rfl,rfl⟩,⟨_,Heap.get?_push_of_some _ (Heap.get?_push_of_some _ (Heap.get?_push_of_some _ e1)),rfl,rfl⟩⟩,fun b hb=>?_,q⟩
   simp only[List.mem_cons,List.not_mem_nil,or_false]at hb
   have hb':s1.heap.objs.size≤b:=by rcases hb with rfl | rfl | rfl | rfl | rfl<;>omega
   exact I1.fpOk hb' (I1.hok.fresh hb')
end
end PR
namespace PR
open PySem PySem.Spec L2
def gK:List PV→List PV→List PV
 | x::xs,y::ys=>.tup [x,y]::gK xs ys
 | _,_=>[]
theorem my:∀(xs ys:List PV) (i:Nat) {p:PV},(gK xs ys)[i]?=some p→∃x y,xs[i]?=some x∧ys[i]?=some y∧p=.tup [x,y]
 | [],_,i,_,h=>by simp[gK]at h
 | _::_,[],i,_,h=>by simp[gK]at h
 | x::xs,y::ys,0,p,h=>by
  simp only[gK,List.getElem?_cons_zero]at h
  exact⟨x,y,rfl,rfl,(Option.some.inj h).symm⟩
 | x::xs,y::ys,i+1,p,h=>by
  simp only[gK,List.getElem?_cons_succ]at h
  exact my xs ys i h
theorem mw:∀(xs ys:List PV),(gK xs ys).length=min xs.length ys.length
 | [],_=>by simp[gK]
 | _::_,[]=>by simp[gK]
 | _::xs,_::ys=>by simp only[gK,List.length_cons,mw xs ys];omega
def EK(ms:MA):MI:=fun env=>(ms env).bind fun zs=>match zs with
 | [.lst f xs,.lst g ys]=>if !f.isLnt&&!g.isLnt&&dN xs&&dN ys then .ok (gK xs ys)else .stuck
 | _=>.stuck
def pU(ms:MA):MI:=fun env=>(ms env).bind fun zs=>match zs with
 | [.lst _ xs,.lst _ ys]=>if dN xs&&dN ys then .ok (gK xs ys)else .stuck
 | _=>.stuck
section
variable{X:Cx}{T:Tb}{W:Nat→St→Hp→Prop}{Z:Zn}{F F1 B L:Addr→Prop}{H H1:Hp}{σ:St}{env:En}{fp:Nat→List Addr}
theorem qP{H2:Hp}{x y:PV}{v u:V}{p:Addr}(hp:H2 p=none)(r:Rel T F B L H2 x v [])(r':Rel T F B L H2 y u []):Rel T F B L (upd H2 p (.tup [v,u])) (.tup [x,y]) (.ref p) []:=by
 unfold Rel
 refine⟨p,_,rfl,SqT.of bF,?_⟩
 have r1:Rel T F B L (upd H2 p (.tup [v,u])) x v []:=r.ext (Ext.upd hp) fun _ h=>h
 have r2:Rel T F B L (upd H2 p (.tup [v,u])) y u []:=r'.ext (Ext.upd hp) fun _ h=>h
 unfold RelL
 refine⟨v,[u],[],[],rfl,r1,?_,rfl⟩
 unfold RelL
 exact⟨u,[],[],[],rfl,r2,by unfold RelL;exact⟨rfl,rfl⟩,by simp⟩
theorem qc{xs:List PV}{vs:List V}{i:Nat}{x:PV}(h:RelL T F B L H xs vs [])(e:xs[i]?=some x):∃v,vs[i]?=some v∧Rel T F B L H x v []:=by
 obtain⟨v,f,ev,rv,sl⟩:=h.get e
 have:f=[]:=List.eq_nil_of_sublist_nil sl
 subst this
 exact⟨v,ev,rv⟩
theorem wd{els:List Expr}{x1}{tpos p pos:Pos}{a b:Expr}{ms:MA}(hK:X.K=T.K)(hg:Gl X "zip")(hm:X.mg "zip" = none)(ha:SA X T W [a,b] ms)(hs:starEach [a,b] X.env=[(false,eval a X.env),(false,eval b X.env)]:=by rfl)(hs2:starEach [b] X.env=[(false,eval b X.env)]:=by rfl) :
  SIc X T W (.Tuple els x1 tpos) (.Call (.Name "zip" p) [a,b] [] pos) (pU ms):=fun pins s σ H R I h=>ze hg hm ha hs hs2 pins s σ H R I (by
 obtain⟨Z,F,env,fp,S,q⟩:=h
 unfold pU at q
 refine tA.bind S (fun c e=>by rw[e]at q;exact q) (fun e=>by rw[e]at q;exact q) fun zs vs H1 F1 f1 e1 g1 r1 n1 d1 w1=>?_
 rw[e1]at q
 simp only[Res.ok_bind]at q
 split at q
 ·rename_i f xs g ys
  split at q
  ·rename_i hc
   rw[Bool.and_eq_true]at hc
   unfold RelL at r1
   obtain⟨v1,ws,f2,f3,rfl,ra,rb,_⟩:=r1
   obtain⟨v2,rfl,rc⟩:=rb.one
   unfold Rel at ra rc
   obtain⟨a1,us,fp1,rfl,hl1,hr1,_⟩:=ra
   obtain⟨a2,ws,fp2,rfl,hl2,hr2,_⟩:=rc
   obtain⟨rfl,_⟩:=dy hc.1 hr1
   obtain⟨rfl,_⟩:=dy hc.2 hr2
   rw[hK]
   refine⟨a1,a2,us,ws,rfl,hl1.sq,hl2.sq,q _ H1 F1 g1 fun H2 hx=>?_⟩
   have up:∀{a:Addr}{us:List V},SqL T.K H1 a us→SqL T.K H2 a us:=fun {a us} hs=>by
    rcases hs with z | z
    ·exact .inl (Rd.tr (fun o q=>hx a o q) z)
    ·exact .inr z
   have s1:=up hl1.sq
   have s2:=up hl2.sq
   have ln1:=hr1.length
   have ln2:=hr2.length
   refine⟨fun i x ex=>?_,⟨us,ws,s1,s2,by rw[mw];omega⟩⟩
   obtain⟨x1,y1,ex1,ey1,rfl⟩:=my xs ys i ex
   obtain⟨v,ev,rv⟩:=qc hr1 ex1
   obtain⟨u,eu,ru⟩:=qc hr2 ey1
   refine⟨⟨us,ws,v,u,s1,s2,ev,eu⟩,fun w H3 hy=>?_⟩
   obtain⟨p,v',u',hp,rfl,rfl,hall1,hall2⟩:=hy
   have q1:=hall1 us s1
   have q2:=hall2 ws s2
   rw[ev]at q1
   rw[eu]at q2
   cases q1
   cases q2
   exact⟨Ext.upd hp,[],fun b hb=>(nomatch hb),qP hp (rv.ext hx fun _ h=>h) (ru.ext hx fun _ h=>h)⟩
  ·exact q.elim
 ·exact q.elim)
end
end PR
namespace PR
open PySem PySem.Spec L2
section
variable{X:Cx}{T:Tb}{W:Nat→St→Hp→Prop}{F B L:Addr→Prop}{H:Hp}
end
end PR
namespace PR
open PySem PySem.Spec L2
section
variable{prog:Program}{w:World}{A:Around}{R:Result→Shared→Prop}{ia:Addr}{fps wrs:List Addr}{len:Nat}{Pv:Nat→Value→Prop}{Sv:Nat→Heap→Prop}
abbrev wj(xs:Array Value)(c:Nat):Obj:={ cls:=.type "list", dict:=none,data:=.seq xs c,slots:=#[] }
theorem il:(toString "min"++toString ".loop" : String)= "min.loop" := by decide
theorem oK(kw:List (Str×Value))(Wk:Walks prog w A.in1 ia fps wrs len Pv Sv)(lt:Nat→Nat→Bool)(hc:CmpOf prog w A.in1 .Lt Pv lt)(best:Addr)(nb:best∉fps) :
  ∀(left j:Nat) (sh:Shared) (u:Value) (cap:Nat),len - (j+1)=left→j+1≤len→Sv (j+1) sh.heap→Pv (argBest lt j) u→sh.heap.get? best=some (wj #[u,u] cap)→
   (∀v h' tk,Pv (argBest lt (len - 1)) v→(∀b o,b∉wrs→b≠best→sh.heap.get? b=some o→h'.get? b=some o)→R (.ok (.ret v)) { sh with heap:=h',toks:=tk })→codeAny (model prog w) A (.builtin "min.loop" ⟨[.ref ia,.none,.ref best],kw⟩) R sh
 | 0,j,sh,u,cap,e1,e2,st,pu,ob,fin=>by
  have nw:best∉wrs:=fun z=>nb (Wk.sub _ z)
  have ej:j+1=len:=by omega
  refine codeAny_builtin F.entry_min_loop ?_;rw[Around.under_plainId F.plain_min_loop _];refine(show wpAny _ A.in1 (seqItems? (.ref best) >>= _) _ _ sh from wpAny_bind (wpAny_seqItems ob rfl ?_))
  refine(show wpAny _ A.in1 (tryCatch (pyNext (.ref ia)) _ >>= _) _ _ sh from wpAny_bind (wpAny_tryCatch (Wk.done sh _ _ (ej▸st) fun h' tk kp=>?_)))
  refine(show wpAny _ A.in1 (updateSeq best (fun _=>#[]) >>= _) _ _ _ from wpAny_bind (wpAny_updateSeq (kp best _ nw ob) rfl (wpAny_bind (wpAny_letGo (wpAny_pure ?_)))))
  exact fin u _ tk (by rw[← ej];exact pu) fun b o q1 q2 e=>(Heap.get?_update_other _ _ (Ne.symm q2)).trans (kp b o q1 e)
 | left+1,j,sh,u,cap,e1,e2,st,pu,ob,fin=>by
  have nw:best∉wrs:=fun z=>nb (Wk.sub _ z)
  have lj:j+1 < len:=by omega
  refine codeAny_builtin F.entry_min_loop ?_;rw[Around.under_plainId F.plain_min_loop _];refine(show wpAny _ A.in1 (seqItems? (.ref best) >>= _) _ _ sh from wpAny_bind (wpAny_seqItems ob rfl ?_))
  refine(show wpAny _ A.in1 (tryCatch (pyNext (.ref ia)) _ >>= _) _ _ sh from wpAny_bind (wpAny_tryCatch (Wk.item (j+1) sh _ _ lj st fun v h' tk pv st' kp=>?_)))
  have ob':=kp best _ nw ob
  refine(show wpAny _ A.in1 (tryCatch (holding [v,v] (richCompare .Lt v u >>= _)) _ >>= _) _ _ _ from wpAny_bind (wpAny_tryCatch (wpAny_holding (wpAny_bind (hc (j+1) (argBest lt j) v u _ _ _ pv pu (wpAny_bind (wpAny_holding (wpAny_truthy_bool (wpAny_bind (wpAny_letGo (wpAny_pure ?_)))))))))))
  by_cases yes:lt (j+1) (argBest lt j)=true
  ·rw[yes];simp only[if_true]
   refine wpAny_bind (wpAny_updateSeq ob' rfl (wpAny_bind (wpAny_letGo ?_)));rw[il]
   refine wpAny_pure ⟨plainId_quiet F.plain_min_loop _,oK kw Wk lt hc best nb left (j+1) _ v _ (by omega) lj (Wk.frame _ _ _ st' fun b hb o e=>(Heap.get?_update_other _ _ (fun z:best=b=>nb (z▸hb))).trans e) (by simp only[argBest,yes,if_true];exact pv) (Heap.get?_update_self _ ob' rfl) fun v' h2 t2 pv' kp2=>?_⟩
   exact fin v' h2 t2 pv' fun b o q1 q2 e=>kp2 b o q1 q2 ((Heap.get?_update_other _ _ (Ne.symm q2)).trans (kp b o q1 e))
  ·have no:lt (j+1) (argBest lt j)=false:=by simpa using yes
   rw[no];simp only[Bool.false_eq_true,if_false]
   refine wpAny_bind (wpAny_letGo ?_);rw[il]
   refine wpAny_pure ⟨plainId_quiet F.plain_min_loop _,oK kw Wk lt hc best nb left (j+1) _ u cap (by omega) lj st' (by simp only[argBest,no,Bool.false_eq_true,if_false];exact pu) ob' fun v' h2 t2 pv' kp2=>?_⟩
   exact fin v' h2 t2 pv' fun b o q1 q2 e=>kp2 b o q1 q2 (kp b o q1 e)
theorem xw(kw:List (Str×Value))(Wk:Walks prog w A.in1 ia fps wrs len Pv Sv)(lt:Nat→Nat→Bool)(hc:CmpOf prog w A.in1 .Lt Pv lt)(best:Addr)(nb:best∉fps)(pos:0 < len){sh:Shared}{cap:Nat}(st:Sv 0 sh.heap)(ob:sh.heap.get? best=some (wj #[] cap))
  (fin:∀v h' tk,Pv (argBest lt (len - 1)) v→(∀b o,b∉wrs→b≠best→sh.heap.get? b=some o→h'.get? b=some o)→R (.ok (.ret v)) { sh with heap:=h',toks:=tk }):codeAny (model prog w) A (.builtin "min.loop" ⟨[.ref ia,.none,.ref best],kw⟩) R sh:=by
 have nw:best∉wrs:=fun z=>nb (Wk.sub _ z)
 refine codeAny_builtin F.entry_min_loop ?_;rw[Around.under_plainId F.plain_min_loop _];refine(show wpAny _ A.in1 (seqItems? (.ref best) >>= _) _ _ sh from wpAny_bind (wpAny_seqItems ob rfl ?_))
 refine(show wpAny _ A.in1 (tryCatch (pyNext (.ref ia)) _ >>= _) _ _ sh from wpAny_bind (wpAny_tryCatch (Wk.item 0 sh _ _ pos st fun v h' tk pv st' kp=>?_)))
 have ob':=kp best _ nw ob
 refine(show wpAny _ A.in1 (updateSeq best (fun _=>#[v,v]) >>= _) _ _ _ from wpAny_bind (wpAny_updateSeq ob' rfl ?_));rw[il]
 refine wpAny_pure ⟨plainId_quiet F.plain_min_loop _,oK kw Wk lt hc best nb _ 0 _ v _ rfl pos (Wk.frame _ _ _ st' fun b hb o e=>(Heap.get?_update_other _ _ (fun z:best=b=>nb (z▸hb))).trans e) pv (Heap.get?_update_self _ ob' rfl) fun v' h2 t2 pv' kp2=>?_⟩
 exact fin v' h2 t2 pv' fun b o q1 q2 e=>kp2 b o q1 q2 ((Heap.get?_update_other _ _ (Ne.symm q2)).trans (kp b o q1 e))
theorem zY{dn:Str}{d:Value}(Wk:Walks prog w A.in1 ia fps wrs 0 Pv Sv)(best:Addr)(nb:best∉fps){sh:Shared}{cap:Nat}(st:Sv 0 sh.heap)(ob:sh.heap.get? best=some (wj #[] cap))
  (fin:∀h' tk,(∀b o,b∉wrs→sh.heap.get? b=some o→h'.get? b=some o)→R (.ok (.ret d)) { sh with heap:=h',toks:=tk }):codeAny (model prog w) A (.builtin "min.loop" ⟨[.ref ia,.none,.ref best],[(dn,d)]⟩) R sh:=by
 refine codeAny_builtin F.entry_min_loop ?_;rw[Around.under_plainId F.plain_min_loop _];refine(show wpAny _ A.in1 (seqItems? (.ref best) >>= _) _ _ sh from wpAny_bind (wpAny_seqItems ob rfl ?_))
 refine(show wpAny _ A.in1 (tryCatch (pyNext (.ref ia)) _ >>= _) _ _ sh from wpAny_bind (wpAny_tryCatch (Wk.done sh _ _ st fun h' tk kp=>?_)))
 exact wpAny_bind (wpAny_rule (wpAny_pure (fin h' tk kp)))
end
section
variable{prog:Program}{w:World}{A:Around}{E:Value→Shared→Prop}{s:Shared}
theorem vX(y d:Value):argsOk "min" ⟨[y],[(Str.ofString "default", d)]⟩:=by
 unfold argsOk
 kernel_rfl
theorem nZ{x d:Value}{Q:Value→Shared→Prop}
  (h:wpAny (model prog w) A.in1 (pyIter x) (fun it s2=>∃ ia fps wrs len Pv Sv lt,it=.ref ia∧Walks prog w A.in1 ia fps wrs len Pv Sv∧Sv 0 s2.heap∧(∀ b ∈ fps,b < s2.heap.objs.size)∧CmpOf prog w A.in1 .Lt Pv lt ∧
   ∀v h' tk,(len=0∧v=d∨0 < len∧Pv (argBest lt (len - 1)) v)→(∀b o,b∉wrs→s2.heap.get? b=some o→h'.get? b=some o)→Q v { s2 with heap:=h',toks:=tk }) E s) :
  wpAny (model prog w) A (call (.builtin "min") [x] [(Str.ofString "default", d)]) Q E s:=by
 refine PyProof.Rows.kmk_tree F.kind_min F.plain_min F.entry_min (vX _ _) ?_
 refine(show wpAny _ A.in1 (Builtin.Builtins.bindParams "min" ["key", "default"] 0 ⟨[],[(Str.ofString "default", d)]⟩ >>= _) _ _ s from wpAny_bind (wpAny_of_eq (a:=[none,some d]) (by kernel_rfl) (wpAny_bind (wpAny_pure (wpAny_bind (wpAny_mono h (fun it s2 q=>?_) fun _ _ e=>e))))))
 obtain⟨ia,fps,wrs,len,Pv,Sv,lt,rfl,Wk,st,hf,hc,fin⟩:=q
 refine wpAny_bind (wpAny_newObj_type ?_);rw[il]
 have nb:s2.heap.objs.size∉fps:=fun z=>Nat.lt_irrefl _ (hf _ z)
 have st':=Wk.frame _ _ (s2.heap.push (wj #[] 0)) st fun b _ o e=>Heap.get?_push_of_some _ e
 refine wpAny_pure ⟨plainId_quiet F.plain_min_loop _,?_⟩
 by_cases pos:0 < len
 ·exact xw _ Wk lt hc s2.heap.objs.size nb pos st' (Heap.get?_push_size _ rfl) fun v h' tk pv kp=>fin v h' tk (.inr ⟨pos,pv⟩) fun b o q e=>kp b o q (Nat.ne_of_lt (Heap.lt_size e)) (Heap.get?_push_of_some _ e)
 ·have z:len=0:=by omega
  subst z
  exact zY Wk s2.heap.objs.size nb st' (Heap.get?_push_size _ rfl) fun h' tk kp=>fin d h' tk (.inl ⟨rfl,rfl⟩) fun b o q e=>kp b o q (Heap.get?_push_of_some _ e)
end
end PR
namespace PR
open PySem PySem.Spec L2
section
variable{X:Cx}{T:Tb}{W:Nat→St→Hp→Prop}{Z:Zn}{F F1 B L:Addr→Prop}{H H1:Hp}{σ:St}{env:En}{fp:Nat→List Addr}{pins:List (Addr×Obj)}{s:Shared}
theorem nY{M:Model}{A:Around}{E:Value→Shared→Prop}{s:Shared}{env:Env}{pos:Pos}{id:String}{e:Expr}{bw:List Expr}{kws:List Keyword}{Q:Value→Shared→Prop}
  (h:wpAny M A (spliced (backTo pos (starEach (e::bw) env))) (fun vs s1=>wpAny M A (evalAll ((backToKw pos (keywordEach kws env)).map (·.2))) (fun ks s2=>wpAny M A (call (.builtin id) vs (((backToKw pos (keywordEach kws env)).filterMap (·.1)).zip ks)) Q E s2) E s1) E s)
  (hall:(backToKw pos (keywordEach kws env)).all (·.1.isSome)=true:=by rfl) (hkw:(backToKw pos (keywordEach kws env)).any (·.1.isNone)=false:=by rfl)
  (he:starEach (e::bw) env=(false,eval e env)::starEach bw env:=by rfl) (hpl:(backTo pos (starEach (e::bw) env)).any (·.1)=false:=by rfl) :
  wpAny M A (callWith pos (.builtin id) [] (backTo pos (starEach (e::bw) env)) (backToKw pos (keywordEach kws env))) Q E s:=by
 unfold callWith
 refine wpAny_bind (wpAny_holding (wpAny_mono (PyProof.Rows.evalArgs_kw2 (Q:=fun a s1=>wpAny M A (call (.builtin id) ([]++ a.pos) a.kw) Q E s1) hall h he) (fun a s1 h1=>wpAny_bind (wpAny_standAt ?_)) fun _ _ x=>x))
 simp only[hpl,hkw,Bool.or_false]
 exact wpAny_bind (wpAny_pure (wpAny_bind (wpAny_mono h1 (fun r s2 hr=>wpAny_bind (wpAny_holding (wpAny_point (wpAny_pure hr)))) fun _ _ x=>x)))
def Ci(vs:List V)(P:V→Prop):Prop:=match vs with
 | [v]=>P v
 | _=>False
theorem xc{vs:List V}{P:V→Prop}(h:Ci vs P):∃v,vs=[v]∧P v:=by
 match vs,h with
 | [v],h=>exact⟨v,rfl,h⟩
def ui(ns:List Int):V:=if ns.isEmpty then .non else .int (d8 ns)
def sV(K:PySem.W.Frag):V→Hp→VK→Prop:=fun v H Q=>∃p ns,v=.ref p∧(SqL K H p (ns.map V.int)∨ SqT K H p (ns.map V.int))∧Q (ui ns) H
theorem r9(hc:X.calm=true){p:Addr}{ns:List Int}{Q:VK}(I:L2.Inv X pins σ H s)(hq:SqL X.K H p (ns.map V.int)∨ SqT X.K H p (ns.map V.int))(q:Q (ui ns) H):wpAny (model X.prog X.w) X.A (call (.builtin "min") [.ref p] [(Str.ofString "default", .none)]) (EP X pins σ Q) X.xe s:=by
 have hh:=I.ok.hd hc
 have key:∀{its:List Value},aH (ns.map V.int) its→∀{v:Value}{h':Heap}{tk:Nat},(its.toArray.size=0∧v=.none∨0 < its.toArray.size∧its.toArray[argBest (fun i j=>decide (ns.getD i 0 < ns.getD j 0)) (its.toArray.size - 1)]?=some v)→(∀b o,s.heap.get? b=some o→h'.get? b=some o)→EP X pins σ Q v { s with heap:=h',toks:=tk }:=by
  intro its r v h' tk hv k
  have hl:its.toArray.size=ns.length:=by
   have:=r.length
   simpa using this.symm
  rw[hl]at hv
  rcases hv with⟨h0,rfl⟩ |⟨hn,hv⟩
  ·have e:ns=[]:=List.length_eq_zero_iff.mp h0
   subst e
   exact⟨.non,H,dY I k,rfl,q⟩
  ·obtain⟨t,rfl⟩:=cN r _ _ hv
   rw[n0 hn]
   have e:ui ns=.int (d8 ns):=by
    unfold ui
    rw[if_neg]
    intro z
    have:ns=[]:=by simpa using z
    rw[this]at hn
    exact absurd hn (by decide)
   rw[e]at q
   exact⟨.int _,H,dY I k,⟨t,rfl⟩,q⟩
 rcases hq with hq | hq
 ·obtain⟨its,r,pl,hz⟩:=I.list hq
  obtain⟨o,ho,hcl,n,hd⟩:=pl.isList
  have hlt:=Heap.lt_size ho
  refine nZ (wpAny_pyIter_list pl.isList ?_)
  refine⟨_,_,_,_,_,_,_,rfl,Walks.list (A:=X.A.in1) hh _ p (Nat.ne_of_lt hlt) its.toArray,⟨⟨_,Heap.get?_push_size _ rfl,rfl,rfl⟩,pl.isList.push _⟩,fun b hb=>?_,CmpOf.ints_lt (fun i=>ns.getD i 0) (cN r),fun v h' tk hP hk=>key r hP (cy hk)⟩
  show b <(s.heap.push _).objs.size
  rw[Heap.size_push]
  exact fR hlt rfl b hb
 ·obtain⟨its,r,pl,hz⟩:=I.tuple hq
  have pt:s.heap.IsTuple p its.toArray:=pl
  obtain⟨o,ho,hcl,n,hd⟩:=pl
  have hlt:=Heap.lt_size ho
  refine nZ (wpAny_pyIter_tuple pt ?_)
  refine⟨_,_,_,_,_,_,_,rfl,Walks.tuple (A:=X.A.in1) hh _ p (Nat.ne_of_lt hlt) its.toArray,⟨⟨_,Heap.get?_push_size _ rfl,rfl,rfl⟩,pt.push _⟩,fun b hb=>?_,CmpOf.ints_lt (fun i=>ns.getD i 0) (cN r),fun v h' tk hP hk=>key r hP (cy hk)⟩
  show b <(s.heap.push _).objs.size
  rw[Heap.size_push]
  exact fR hlt rfl b hb
abbrev mdE(e:Expr)(p pos kp cp:Pos)(j:Nat):Expr:=.Call (.Name "min" p) [e] [⟨some "default", .Constant .none j cp,kp⟩] pos
theorem wV{e:Expr}{te:TE}{p pos kp cp:Pos}{j:Nat}(hc:X.calm=true)(hg:Gl X "min")(hm:X.mg "min" = none)(he:PE X e te)(hs:starEach [e] X.env=[(false,eval e X.env)]:=by rfl):PE X (mdE e p pos kp cp j) (tUn (sV X.K) te):=by
 intro pins s σ H Q I h
 refine wpAny_Call_Name_kw (eH I hg hm o5 ?_ (by decide) (by decide))
 refine nY ?_ rfl rfl hs (by rw[hs];rfl)
 refine thn (cK (te:=te) he f7 (by rw[hs];rfl) pos pins s σ H (fun vs H1=>Ci vs fun v=>sV X.K v H1 Q) I h) fun us s1 ⟨vs,H1,I1,r1,q1⟩=>?_
 obtain⟨v,rfl,a,ns,rfl,hq,q⟩:=xc q1
 obtain⟨u,rfl,rx⟩:=cU r1
 cases rx
 refine thn (pI (nm:=some "default") (kpos:=kp) (tK (j:=j) (pos:=cp)) tq pos pins s1 σ H1 (fun zs H2=>zs=[.non]∧H2=H1) I1 ⟨rfl,rfl⟩) fun ws s2 ⟨zs,H2,I2,r2,ez,eh⟩=>?_
 subst ez
 rw[eh]at I2
 clear eh
 obtain⟨u2,rfl,rx2⟩:=cU r2
 cases rx2
 exact r9 hc I2 hq q
def kz(x:PV):Res PV:=match aQ x with
 | some xs=>(match bE xs with
  | some ns=>.ok (if ns.isEmpty then .non else .int (d8 ns))
  | none=>.stuck)
 | none=>.stuck
theorem uf(hK:X.K=T.K):Di T W kz (sV X.K):=by
 intro B F L σ H Q F' H' x v fx g rx nf nd new q
 unfold kz at q
 cases e:aQ x with
 | none=>rw[e]at q;exact q.elim
 | some xs =>
  rw[e]at q
  dsimp only at q
  cases e2:bE xs with
  | none=>rw[e2]at q;exact q.elim
  | some ns =>
   rw[e2]at q
   dsimp only at q
   obtain⟨a,us,fx',rfl,hs,hr,_⟩:=rx.seq e
   have hu:=c_ e2 hr
   subst hu
   refine⟨a,ns,rfl,by rw[hK];exact hs,q.scal g ?_⟩
   unfold ui
   split
   ·unfold Rel;exact⟨rfl,rfl⟩
   ·exact eE
theorem wm{e:Expr}{m:ME}{p pos kp cp:Pos}{j:Nat}(hK:X.K=T.K)(hc:X.calm=true)(hg:Gl X "min")(hm:X.mg "min" = none)(he:SE X T W e m)(hs:starEach [e] X.env=[(false,eval e X.env)]:=by rfl):SE X T W (mdE e p pos kp cp j) (mUn kz m) :=
 PE.wk (wV hc hg hm he hs) fun _ _ _ h=>tE.mir1 (uf hK) h
end
end PR
namespace PR
open PySem PySem.Spec L2
section
variable{X:Cx}{T:Tb}{W:Nat→St→Hp→Prop}{Z:Zn}{F F1 B L:Addr→Prop}{H H1:Hp}{σ:St}{env:En}{fp:Nat→List Addr}{D:Ends}
end
end PR
namespace PR
open PySem PySem.Spec L2
open AutoSeq1 (wpAny_loadPart')
section
variable{prog:Program}{w:World}{A:Around}{E:Value→Shared→Prop}{s:Shared}
theorem dK1(a:Value):checkTypeCall "enumerate" ⟨[a],[]⟩=pure ():=by kernel_rfl
theorem dK2(a:Value):checkBuiltinCall "enumerate.__new__" ⟨[.type "enumerate", a],[]⟩=pure ():=by kernel_rfl
theorem dK3(a b:Value):argsOk "object.__init__" ⟨[a,b],[]⟩:=by
 unfold argsOk
 rw[signature?_of (id := "object.__init__") (n:=['_','_','t','i','n','i','_','_']) (o:=['t','c','e','j','b','o']) (by kernel_rfl) F.owner_object]
 kernel_rfl
theorem AC(n:String)(l:Addr) :
  Meets (Builtin.«enumerate.__new__» ⟨[.type "enumerate", .ref l],[]⟩) (fun _ R s=>k9 n l s∧R (.ok (.ret (.ref (s.heap.push (itO n l)).objs.size))) { s with heap:=(s.heap.push (itO n l)).push (enO s.heap.objs.size 0) }) :=
 .of_wp fun pr w A R s0 h=>by
  obtain⟨hp,g,d,tk,os⟩:=s0
  obtain⟨hI,h⟩:=h
  have hsub:=sub_enumerate
  have hJ:∀{Q:Value→Shared→Prop}{E:Value→Shared→Prop},Q (.ref hp.objs.size) ⟨hp.push (itO n l),g,d,tk,os⟩→wpAny (model pr w) A.in1 (pyIter (.ref l)) Q E ⟨hp,g,d,tk,os⟩:=fun {Q E} q=>hI pr w A.in1 Q E q
  have hJ':∀{Q:Value→Shared→Prop}{E:Value→Shared→Prop},Q (.ref hp.objs.size) ⟨hp.push (itO n l),g,d,tk,os⟩→wpAny (model pr w) A (pyIter (.ref l)) Q E ⟨hp,g,d,tk,os⟩:=fun {Q E} q=>hI pr w A Q E q
  wp_walk
  refine wpAny_stack_any fun st=>wpAny_pure ?_
  split<;>try (rename_i c _ _ _ _ _;cases(c==Value.type "enumerate"))
  all_goals (wp_walk using hJ,hJ')
  all_goals exact⟨_,rfl,h⟩
theorem yc{n:String}{l:Addr}{Q:Value→Shared→Prop}(hI:k9 n l s)(h:Q (.ref (s.heap.objs.size+1)) { s with heap:=(s.heap.push (itO n l)).push (enO s.heap.objs.size 0) }) :
  wpAny (model prog w) A (call (.type "enumerate") [.ref l] []) Q E s:=by
 have hz:(s.heap.push (itO n l)).objs.size=s.heap.objs.size+1:=Heap.size_push ..
 refine iT (Q1:=fun ob s1=>s1.TypeIs ob "enumerate" ∧ Q ob s1) F.called_enumerate (dK1 _) (dK2 _) F.entry_enumerate_new F.entry_object_init (AC n l) ⟨hI,?_⟩ fun ob s1 hq=>⟨hq.1,dK3 ob _,_,yA F.called_enumerate.init.lookup F.called_enumerate.made (by decide),hq.1,rfl,hq.2⟩
 show _∧_
 rw[hz]
 have:=Heap.get?_push_size (s.heap.push (itO n l)) (o:=enO s.heap.objs.size 0) rfl
 rw[hz]at this
 exact⟨⟨_,this,rfl⟩,h⟩
end
def nq(m:ME):MI:=fun env=>(m env).bind fun x=>match x with
 | .lst f xs=>if !f.isLnt&&dN xs then .ok (enP 0 xs)else .stuck
 | .tup xs=>if dN xs then .ok (enP 0 xs)else .stuck
 | _=>.stuck
def nu(m:ME):MI:=fun env=>(m env).bind fun x=>match aQ x with
 | some xs=>.ok (enP 0 xs)
 | none=>.stuck
section
variable{X:Cx}{T:Tb}{W:Nat→St→Hp→Prop}{Z:Zn}{F F1 B L:Addr→Prop}{H H1:Hp}{σ:St}{env:En}{fp:Nat→List Addr}{pins:List (Addr×Obj)}{s:Shared}
theorem mX{els:List Expr}{x1}{tpos:Pos}{l:Expr}{tl:TE}{p pos:Pos}(hg:Gl X "enumerate")(hm:X.mg "enumerate" = none)(hl:PE X l tl)(hs:starEach [l] X.env=[(false,eval l X.env)]:=by rfl) :
  PI X (.Tuple els x1 tpos) (.Call (.Name "enumerate" p) [l] [] pos) (fun σ H R=>tl σ H fun x H1=>∃a tp xs,[x]=[V.ref a]∧Sq tp X.K H1 a xs∧R (Ite tp X.K 0 a) H1):=by
 intro pins s σ H R I h
 refine PyProof.Rows.Call_ (eH I hg hm qv (PyProof.Rows.callWith_type1 (thn (cK (te:=tl) hl f7 (by rw[hs];rfl) pos pins s σ H (fun vs H1=>∃a tp xs,vs=[.ref a]∧Sq tp X.K H1 a xs∧R (Ite tp X.K 0 a) H1) I h) fun us s2 ⟨vs,H1,I2,r1,a,tp,xs,ev,hq,q⟩=>?_) (by rw[hs];rfl) rfl))
 subst ev
 obtain⟨u,rfl,rx⟩:=cU r1
 cases rx
 have hI:∃n,k9 n a s2∧∀h',h'.get? s2.heap.objs.size=some (itO n a)→vY tp h' s2.heap.objs.size a 0:=by
  cases tp with
  | false =>
   obtain⟨its,rv,pl,_⟩:=I2.list hq
   exact⟨"list_iterator", fun _ _ _ _ _ q=>wpAny_pyIter_list pl.isList q,fun h' e=>⟨_,e,rfl,rfl⟩⟩
  | true =>
   obtain⟨its,rv,pl,_⟩:=I2.tuple hq
   exact⟨"tuple_iterator", fun _ _ _ _ _ q=>wpAny_pyIter_tuple (show s2.heap.IsTuple a its.toArray from pl) q,fun h' e=>⟨_,e,rfl,rfl⟩⟩
 obtain⟨n,hI,hA⟩:=hI
 have hz:(s2.heap.push (itO n a)).objs.size=s2.heap.objs.size+1:=Heap.size_push ..
 have he:((s2.heap.push (itO n a)).push (enO s2.heap.objs.size 0)).get? (s2.heap.objs.size+1)=some (enO s2.heap.objs.size 0):=by
  have:=Heap.get?_push_size (s2.heap.push (itO n a)) (o:=enO s2.heap.objs.size 0) rfl
  rw[hz]at this
  exact this
 refine yc hI (wpAny_pyIter_enum (i:=0) (old:=.none) he ?_)
 refine⟨s2.heap.objs.size+1,[s2.heap.objs.size+1,s2.heap.objs.size],_,_,H1,rfl,I2.kept (t':=s2.toks) fun b o e=>Heap.get?_push_of_some _ (Heap.get?_push_of_some _ e),kc tp 0 a _ _,⟨⟨.none,by simpa using he⟩,hA _ (Heap.get?_push_of_some _ (Heap.get?_push_size _ rfl))⟩,fun b hb=>?_,q⟩
 simp only[List.mem_cons,List.not_mem_nil,or_false]at hb
 rcases hb with rfl | rfl
 ·exact I2.fpOk (Nat.le_succ _) (I2.hok.fresh (Nat.le_succ _))
 ·exact I2.fpOk (Nat.le_refl _) (I2.hok.fresh (Nat.le_refl _))
theorem sH{els:List Expr}{x1}{tpos p pos:Pos}{e:Expr}{m:ME}(hK:X.K=T.K)(hg:Gl X "enumerate")(hm:X.mg "enumerate" = none)(he:SE X T W e m)(hs:starEach [e] X.env=[(false,eval e X.env)]:=by rfl) :
  SI X T W (.Tuple els x1 tpos) (.Call (.Name "enumerate" p) [e] [] pos) (nq m):=fun pins s σ H R I h=>mX hg hm he hs pins s σ H R I (by
 obtain⟨Z,F,env,fp,S,q⟩:=h
 unfold nq at q
 refine tE.bind S (fun c e=>by rw[e]at q;exact q) (fun e=>by rw[e]at q;exact q) fun x v H1 F1 f1 e1 g1 r1 n1 d1 w1=>?_
 rw[e1]at q
 simp only[Res.ok_bind]at q
 have S1:=S.grow g1
 rw[hK]
 have key:∀(tp:Bool) (a:Addr) (xs:List PV) (vs:List V),RelL T F1 Z.B NoL H1 xs vs []→(∀H2,(∀a o,H1 a=some o→¬Own fp a→H2 a=some o)→Sq tp T.K H2 a vs)→ItR T F1 Z.B (Own fp) H1 (Ite tp T.K 0 a) (enP 0 xs):=by
  intro tp a xs vs hr hq H2 hk
  have hq2:=hq H2 hk
  refine⟨fun i x ex=>?_,⟨vs,hq2,by rw[ef,hr.length];exact Nat.le_refl _⟩⟩
  rw[fC]at ex
  obtain⟨y,ey,rfl⟩:=Option.map_eq_some_iff.mp ex
  obtain⟨v,_,ev,_,_⟩:=hr.get ey
  refine⟨⟨vs,v,hq2,ev⟩,fun w H3 hy=>?_⟩
  obtain⟨p,y',hp,rfl,rfl,hall⟩:=hy
  have:=hall vs hq2
  rw[ev]at this
  cases this
  exact⟨Ext.upd hp,h_ hp (fA S1.fow S1.bow S1.oow hk hr ey ev)⟩
 cases x with
 | lst f xs =>
  dsimp only at q
  by_cases hc:(!f.isLnt&&dN xs)=true
  ·rw[if_pos hc]at q
   rw[Bool.and_eq_true]at hc
   unfold Rel at r1
   obtain⟨a,vs,fp',rfl,hl,hr,hf⟩:=r1
   obtain⟨rfl,hr'⟩:=dy hc.2 hr
   refine⟨a,false,vs,rfl,hl.sq,q _ H1 F1 g1 (key false a xs vs hr' fun H2 hk=>?_)⟩
   have na:f≠.mod→∀o,H1 a=some o→H2 a=some o:=fun hn o ho=>by
    refine hk a o ho ?_
    cases f with
    | own =>
     rintro⟨i,hi⟩
     obtain⟨_,o',ho'⟩:=S.dis i a hi
     obtain rfl:f1=[a]:=hf
     rw[w1 a List.mem_cons_self]at ho';cases ho'
    | frz=>exact S1.fow a hl.1
    | bor=>exact S1.bow a hl.1
    | lnt=>exact absurd hc.1 (by decide)
    | mod=>exact absurd rfl hn
   show SqL T.K H2 a vs
   by_cases hn:f=.mod
   ·subst hn;exact .inr hl
   ·exact .inl (Rd.tr (na hn) (hl.rd hn))
  ·rw[if_neg hc]at q;exact q.elim
 | tup xs =>
  dsimp only at q
  by_cases hc:dN xs=true
  ·rw[if_pos hc]at q
   unfold Rel at r1
   obtain⟨a,vs,rfl,hl,hr⟩:=r1
   obtain⟨rfl,hr'⟩:=dy hc hr
   refine⟨a,true,vs,rfl,hl,q _ H1 F1 g1 (key true a xs vs hr' fun H2 hk=>?_)⟩
   exact SqT.tr (fun o ho hfx=>hk a o ho fun z=>by
    have:=S1.oow a o z ho
    cases o with
    | lst _=>exact hfx
    | ins _ _ _=>exact hfx
    | _=>exact this) hl
  ·rw[if_neg hc]at q;exact q.elim
 | _=>exact q.elim)
theorem qF{els:List Expr}{x1}{tpos p pos:Pos}{e:Expr}{m:ME}(hK:X.K=T.K)(hg:Gl X "enumerate")(hm:X.mg "enumerate" = none)(he:SE X T W e m)(hs:starEach [e] X.env=[(false,eval e X.env)]:=by rfl) :
  SIc X T W (.Tuple els x1 tpos) (.Call (.Name "enumerate" p) [e] [] pos) (nu m):=fun pins s σ H R I h=>mX hg hm he hs pins s σ H R I (by
 obtain⟨Z,F,env,fp,S,q⟩:=h
 unfold nu at q
 refine tE.bind S (fun c e=>by rw[e]at q;exact q) (fun e=>by rw[e]at q;exact q) fun x v H1 F1 f1 e1 g1 r1 n1 d1 w1=>?_
 rw[e1]at q
 simp only[Res.ok_bind]at q
 cases es:aQ x with
 | none=>rw[es]at q;exact q.elim
 | some xs =>
  rw[es]at q
  obtain⟨a,vs,f',rfl,hs,hr,_⟩:=r1.seq es
  rw[hK]
  have key:∀(tp:Bool),Sq tp T.K H1 a vs→(∀H2,Ext H1 H2→Sq tp T.K H2 a vs)→ItC T F1 Z.B (Own fp) H1 (Ite tp T.K 0 a) (enP 0 xs):=by
   intro tp _ hq H2 hx
   have hq2:=hq H2 hx
   refine⟨fun i x ex=>?_,⟨vs,hq2,by rw[ef,hr.length];exact Nat.le_refl _⟩⟩
   rw[fC]at ex
   obtain⟨y,ey,rfl⟩:=Option.map_eq_some_iff.mp ex
   obtain⟨v,f,ev,rv,_⟩:=hr.get ey
   refine⟨⟨vs,v,hq2,ev⟩,fun w H3 hy=>?_⟩
   obtain⟨p,y',hp,rfl,rfl,hall⟩:=hy
   have:=hall vs hq2
   rw[ev]at this
   cases this
   exact⟨Ext.upd hp,f,fun b hb=>rv.there b hb,h_ hp (rv.ext hx fun _ h=>h)⟩
  rcases hs with hs | hs
  ·refine⟨a,false,vs,rfl,hs,q _ H1 F1 g1 (key false hs fun H2 hx=>?_)⟩
   rcases hs with z | z
   ·exact .inl (Rd.tr (fun o q=>hx a o q) z)
   ·exact .inr z
  ·exact⟨a,true,vs,rfl,hs,q _ H1 F1 g1 (key true hs fun H2 hx=>SqT.tr (fun o q _=>hx a o q) hs)⟩)
end
end PR
namespace PR
open PySem PySem.Spec L2
def qo(P:Params):List DictEntry→List (Str×Int)→Prop
 | [],[]=>True
 | e::es,kv::kvs=>(∃t u,e=⟨PyData.keyHash P kv.1,.str kv.1 t,.int kv.2 u⟩)∧qo P es kvs
 | _,_=>False
structure yF(w:World)(K:PySem.W.Frag)(d:Addr)(kvs:List (Str×Int)):Prop where
 ne:(d==sysModules)=false
 ex:∃(es:List DictEntry) (ep:Nat),K.lookup d=some { cls:=.type "dict", dict:=none,data:=.dict es.toArray ep,slots:=#[] }∧qo w.params es kvs
def look(kvs:List (Str×Int))(k:Str):Option Int:=(kvs.find? fun p=>p.1==k).map (·.2)
def Dj(f:Str→Option Value)(kvs:List (Str×Int)):Prop:=∀k,match look kvs k with
 | some i=>∃u,f k=some (.int i u)
 | none=>f k=none
theorem nM{P:Params}:∀{es:List DictEntry}{kvs:List (Str×Int)},qo P es kvs→Dj (fun k=>(es.find? fun e=>Value.isStrOf k e.key).map (·.val)) kvs
 | [],[],_=>fun k=>rfl
 | [],_::_,h=>h.elim
 | _::_,[],h=>h.elim
 | e::es,kv::kvs,h=>fun k=>by
  obtain⟨⟨t,u,rfl⟩,h2⟩:=h
  have ih:=nM h2 k
  simp only[look,List.find?_cons,Value.isStrOf]at ih ⊢
  by_cases q:(kv.1==k)=true
  ·simp only[q,Option.map_some]
   exact⟨u,rfl⟩
  ·simp only[q]
   exact ih
theorem nN{P:Params}:∀{es:List DictEntry}{kvs:List (Str×Int)},qo P es kvs→∀e∈es,∃k t,e.key=.str k t∧e.hash=PyData.keyHash P k
 | [],_,_=>fun e he=>nomatch he
 | _::_,[],h=>h.elim
 | e::es,kv::kvs,h=>fun e' he=>by
  obtain⟨⟨t,u,rfl⟩,h2⟩:=h
  rcases List.mem_cons.mp he with rfl | he
  ·exact⟨kv.1,t,rfl,rfl⟩
  ·exact nN h2 e' he
theorem yF.map{prog:Program}{w:World}{K:PySem.W.Frag}{d:Addr}{kvs:List (Str×Int)}{h:Heap}(hD:yF w K d kvs)(hI:K.In h):∃f,h.MapOf (strKind prog w) d f∧Dj f kvs:=by
 obtain⟨es,ep,hl,he⟩:=hD.ex
 refine⟨_,⟨_,es.toArray,ep,hI _ _ hl,⟨rfl,rfl,rfl⟩,rfl,fun e hm=>?_,fun k=>rfl⟩,?_⟩
 ·obtain⟨k,t,h1,h2⟩:=nN he e (by simpa using hm)
  refine⟨k,?_,h2⟩
  rw[h1]
  show(k==k)=true
  simp
 ·intro k
  have:=nM he k
  simpa[findBy,strKind]using this
section
variable{X:Cx}{T:Tb}{W:Nat→St→Hp→Prop}{Z:Zn}{F F1 B L:Addr→Prop}{H H1:Hp}{σ:St}{env:En}{fp:Nat→List Addr}{d:Addr}{kvs:List (Str×Int)}
end
end PR
namespace PR
open PySem PySem.Spec L2
section
variable{X:Cx}{T:Tb}{W:Nat→St→Hp→Prop}{Z:Zn}{F F1 B L:Addr→Prop}{H H1:Hp}{σ:St}{env:En}{fp:Nat→List Addr}{D:Ends}
end
end PR
namespace PR
open PySem PySem.Spec L2
def oP(i j:Nat):MS:=fun env=>match env[i]?,env[j]? with
 | some (some v),some (some w)=>if i=j then .stuck else .ret (.tup [v,w])
 | _,_=>.stuck
section
variable{X:Cx}{T:Tb}{W:Nat→St→Hp→Prop}{Z:Zn}{F F1 B L:Addr→Prop}{H H1:Hp}{σ:St}{env:En}{fp:Nat→List Addr}{D:Ends}
theorem sE{i j:Nat}{x y:Str}{x1}{pos px py tpos:Pos}(hN:X.N[i]?=some x)(hv:Vis X.env.scope x)(hN2:X.N[j]?=some y)(hv2:Vis X.env.scope y)(hd:(x ==("__debug__" : Str))=false:=by decide)(hcd:(x ==("__classdict__" : Str))=false:=by decide)(hd2:(y ==("__debug__" : Str))=false:=by decide)(hcd2:(y ==("__classdict__" : Str))=false:=by decide) :
  SS X T W (.Return (some (.Tuple [.Name x px,.Name y py] x1 tpos)) pos) (oP i j) :=
 PS.wk (oB (pos:=pos) (tH (pos:=tpos) (cK (te:=v7 i) (cX (pos:=px) hN hv hd hcd) (cK (te:=v7 j) (cX (pos:=py) hN2 hv2 hd2 hcd2) f7)))) fun D σ H ⟨Z,F,env,fp,S,q⟩=>by
  unfold oP at q
  split at q
  case h_2=>exact q.elim
  rename_i pv pw ei ej
  split at q
  case isTrue=>exact q.elim
  rename_i hij
  obtain⟨v,e1,r1⟩:=S.rel i pv ei
  obtain⟨w,e2,r2⟩:=S.rel j pw ej
  refine⟨v,e1,w,e2,small (by simp),fun p hp=>?_⟩
  have g:Gr F H F (upd H p (.tup [v,w])):=Gr.same S.hp.ft (Ext.upd hp)
  have S2:=S.grow g
  obtain⟨v',e1',r1'⟩:=S2.rel i pv ei
  obtain⟨w',e2',r2'⟩:=S2.rel j pw ej
  rw[e1]at e1'
  cases e1'
  rw[e2]at e2'
  cases e2'
  refine q F (upd H p (.tup [v,w])) (.ref p) (fp i++fp j) S2.hp ?_ (List.nodup_append.mpr ⟨S.nd i,S.nd j,fun a ha b hb z=>?_⟩) (fun a ha=>?_) (fun a ha=>?_)
  ·unfold Rel
   refine⟨p,_,rfl,SqT.of bF,?_⟩
   unfold RelL
   refine⟨v,[w],fp i,fp j,rfl,r1',?_,rfl⟩
   unfold RelL
   exact⟨w,[],fp j,[],rfl,r2',by unfold RelL;exact⟨rfl,rfl⟩,by simp⟩
  ·subst z
   exact S.dj i j hij a ha hb
  ·rcases List.mem_append.mp ha with h | h
   ·exact(S2.dis i a h).1
   ·exact(S2.dis j a h).1
  ·rcases List.mem_append.mp ha with h | h
   ·exact S.new i a h
   ·exact S.new j a h
end
end PR
namespace PR
open PySem PySem.Spec L2
section
variable{P:Program}{w:World}{mg:Str→Option Value}{base:Heap}{T:Tb}
theorem Af{x qual:Str}{st:Stmt}{f:Addr}{fd:FuncData}{N ps:List Str}{k:Nat}{m:MS}(F:Fun T.K x qual st f fd)(S:du N ps (aA st))
  (body:∀ (cdv:Value) (A:Around) (outer:List Env) (s:Shared) (H:Hp) (E:XK),Ctx (dO (CXP P w) P w T.K mg base N qual (aA st) f cdv A outer s H E) T (WD T E) k →
   SSs (dO (CXP P w) P w T.K mg base N qual (aA st) f cdv A outer s H E) T (WD T E) (bI st) m):cq P w T.K mg base (CXP P w) (k+1) f fd ps (spM T ps.length (bj N.length m)) :=
 C9 F S fun cdv A outer s H E hr=>body cdv A outer s H E (qt hr)
theorem xH{x qual:Str}{st:Stmt}{f:Addr}{fd:FuncData}{N ps:List Str}{k:Nat}{m:MS}(F:Fun T.K x qual st f fd)(S:du N ps (aA st))
  (body:∀ (cdv:Value) (A:Around) (outer:List Env) (s:Shared) (H:Hp) (E:XK),Ctx (dO (CXP P w) P w T.K mg base N qual (aA st) f cdv A outer s H E) T (WD T E) k →
   SSs (dO (CXP P w) P w T.K mg base N qual (aA st) f cdv A outer s H E) T (WD T E) (bI st) m):cq P w T.K mg base (CXP P w) (k+1) f fd ps (spI T ps.length (gy N.length m)) :=
 Ag F S fun cdv A outer s H E hr=>body cdv A outer s H E (qt hr)
end
end PR
namespace PR
open PySem PySem.Spec L2
section
variable{prog:Program}{w:World}{A:Around}{E:Value→Shared→Prop}{s:Shared}
end
end PR
namespace PR
open PySem PySem.Spec L2
section
variable{X:Cx}{T:Tb}{W:Nat→St→Hp→Prop}{Z:Zn}{F F1 B L:Addr→Prop}{H H1:Hp}{σ:St}{env:En}{fp:Nat→List Addr}{pins:List (Addr×Obj)}{s:Shared}
end
end PR
namespace PR
open PySem PySem.Spec L2
section
variable{X:Cx}{T:Tb}{W:Nat→St→Hp→Prop}
end
end PR
namespace PR
open PySem PySem.Spec L2
section
variable{X:Cx}{T:Tb}{W:Nat→St→Hp→Prop}{Z:Zn}{F F1 F' B L:Addr→Prop}{H H1 H':Hp}{σ:St}{env:En}{fp:Nat→List Addr}{js:List Nat}{t:Nat}
def AL(js:List Nat)(t:Nat)(σ:St)(env:En):Prop:=∀j∈js,env[j]?=some none→σ[j]?=σ[t]?
theorem AL.set{i:Nat}{v:V}{pv:PV}(h:AL js t σ env)(hi:i≠t):AL js t (σ.set i (some v)) (env.set i (some pv)):=fun j hj e=>by
 by_cases q:i=j
 ·subst q
  exfalso
  rw[List.getElem?_set]at e
  by_cases z:i < env.length<;>simp[z]at e
 ·rw[List.getElem?_set_ne q]at e ⊢
  rw[List.getElem?_set_ne hi]
  exact h j hj e
def GSA(T:Tb)(W:Nat→St→Hp→Prop)(js:List Nat)(t:Nat)(Z:Zn)(D:Ends):Out→Prop
 | .next e=>∀F H σ fp,ar T Z F H σ e fp→AL js t σ e→D.nx σ H
 | .ret pv=>GS T W Z D (.ret pv)
 | .brk e=>GS T W Z D (.brk e)
 | .cont e=>GS T W Z D (.cont e)
 | .exc c e=>GS T W Z D (.exc c e)
 | .stuck=>False
theorem GSA.of{D:Ends}{o:Out}(h:GS T W Z D o):GSA T W js t Z D o:=by
 cases o with
 | next e=>exact fun F H σ fp S _=>h F H σ fp S
 | _=>exact h
end
end PR
namespace PR
open PySem PySem.Spec L2
section
variable{X:Cx}{T:Tb}{W:Nat→St→Hp→Prop}{Z:Zn}{F F1 B L:Addr→Prop}{H H1:Hp}{σ:St}{env:En}{fp:Nat→List Addr}
end
end PR
namespace PR
open PySem PySem.Spec L2
section
variable{X:Cx}{T:Tb}{W:Nat→St→Hp→Prop}{Z:Zn}{F F1 B L:Addr→Prop}{H H1:Hp}{σ:St}{env:En}{fp:Nat→List Addr}
end
end PR
namespace PR
open PySem PySem.Spec L2
section
variable{X:Cx}{T:Tb}{W:Nat→St→Hp→Prop}{Z:Zn}{F F1 B L:Addr→Prop}{H H1:Hp}{σ:St}{env:En}{fp:Nat→List Addr}
end
end PR
namespace PR
open PySem PySem.Spec L2
section
variable{prog:Program}{w:World}{A:Around}{E:Value→Shared→Prop}{s:Shared}
end
section
variable{X:Cx}{T:Tb}{W:Nat→St→Hp→Prop}{Z:Zn}{F F1 B L:Addr→Prop}{H H1:Hp}{σ:St}{env:En}{fp:Nat→List Addr}
section
variable{o k:Expr}{mo mk:ME}{apos cpos:Pos}
end
variable{d:Addr}{kvs:List (Str×Int)}
end
end PR
namespace L2
open PySem PySem.Spec PyProof.Rows
section
variable{X:Cx}{pins:List (Addr×Obj)}{σ:St}{H:Hp}{s:Shared}{E:Value→Shared→Prop}
end
end L2
namespace PR
open PySem PySem.Spec L2
section
variable{M:Model}{A:Around}{E:Value→Shared→Prop}{s:Shared}{B:Heap}{l:List Env}{e:Addr}{cls a0 fl:Value}
def Dl(B:Heap)(l:List Env)(e:Addr)(cls a0 fl:Value)(h:Heap):Prop:=B.StaysIn h∧B.get? e=none∧h.FunFrames B l∧h.TracedAtW B e cls a0 fl
end
structure ER(P:Program)(w:World)(outer:List Env)(H:Hp)(s:Shared)(cls:Value)(H':Hp)(e:Value)(s':Shared):Prop where
 os:s'.os=s.os
 bare:PyProof.Rows.AllBare s'.gens
 un:Un (frs outer) [] H H' s.heap s'.heap
 hok:HOk P w H' s'.heap
 fly:∃x a0 fl Bh,e=.ref x∧Dl Bh outer x cls a0 fl s'.heap∧(∀b o u,H' b=some u→s'.heap.get? b=some o→Bh.get? b=some o)∧
  (∀b o o',s'.heap.get? b=some o→s.heap.get? b=some o'→b∉frs outer→Bh.get? b=some o)
section
variable{P:Program}{w:World}{K:PySem.W.Frag}{mg:Str→Option Value}{base:Heap}{N:List Str}{qual:Str}{scope:Scope}{f:Addr}{cd:Value}{A:Around}{outer:List Env}{s:Shared}{H:Hp}{E:XK}{T:Tb}
end
section
variable{X:Cx}{T:Tb}{W:Nat→St→Hp→Prop}{pins:List (Addr×Obj)}{σ:St}{H2:Hp}{s2:Shared}{fpi:List Addr}{scope:Scope}{caps:List Nat}{N tn:List Str}{use:Option (Value→Sem Unit)}{Q':Value→Shared→Prop}{acc:Value}
end
end PR
namespace PR
open PySem PySem.Spec L2
section
variable{X:Cx}{T:Tb}{W:Nat→St→Hp→Prop}{Z:Zn}{F F1 B L:Addr→Prop}{H H1:Hp}{σ:St}{env:En}{fp:Nat→List Addr}{D:Ends}
end
end PR
namespace PR
open PySem PySem.Spec L2
section
variable{X:Cx}{T:Tb}{W:Nat→St→Hp→Prop}
end
end PR
namespace PR
open PySem PySem.Spec L2
section
variable{X:Cx}{T:Tb}{W:Nat→St→Hp→Prop}{Z:Zn}{F F1 B L:Addr→Prop}{H H1:Hp}{σ:St}{env:En}{fp:Nat→List Addr}{D:Ends}{ks:List Nat}
theorem ar.drop(S:ar T Z F H σ env fp){n:Nat}(h0:n≠0):ar T Z F H σ (env.set n none) (br fp n []):=by
 refine⟨S.hp,by rw[List.length_set,S.len],fun i pv e=>?_,fun i=>?_,fun i j hij a ha hb=>?_,fun i a ha=>?_,fun i a ha=>?_,fun i a ha=>?_,fun v hv=>?_⟩
 ·by_cases hi:i=n
  ·subst hi
   rw[List.getElem?_set]at e
   simp at e
  ·rw[List.getElem?_set_ne (Ne.symm hi)]at e
   obtain⟨v,h1,h2⟩:=S.rel i pv e
   exact⟨v,h1,by unfold br;rw[if_neg hi];exact h2⟩
 ·unfold br;split;exact List.nodup_nil;exact S.nd i
 ·unfold br at ha hb
  split at ha
  ·cases ha
  ·split at hb
   ·cases hb
   ·exact S.dj i j hij a ha hb
 ·unfold br at ha;split at ha;cases ha;exact S.dis i a ha
 ·unfold br at ha;split at ha;cases ha;exact S.new i a ha
 ·unfold br at ha;split at ha;cases ha;exact S.ch i a ha
 ·obtain⟨h1,h2⟩:=S.pn v hv
  refine⟨h1,?_⟩
  unfold b6 at h2 ⊢
  rw[List.getElem?_set_ne h0];exact h2
theorem sI{α:Type}{l:List α}{i:Nat}{x:α}(h:l[i]?=some x):l.set i x=l:=by
 obtain⟨hi,e⟩:=List.getElem?_eq_some_iff.mp h
 rw[← e]
 exact List.set_getElem_self hi
structure Orp(Z:Zn)(F:Addr→Prop)(fp:Nat→List Addr)(f:List Addr):Prop where
 nd:f.Nodup
 nf:∀b∈f,¬F b
 new:∀b∈f,Z.H0 b=none∨Z.fp0 b
 dj:∀b∈f,∀j,b∉fp j
end
end PR
namespace PR
open PySem PySem.Spec L2
section
variable{P:Program}{w:World}{mg:Str→Option Value}{base:Heap}{T:Tb}{K:PySem.W.Frag}
end
section
variable{X:Cx}{T:Tb}{W:Nat→St→Hp→Prop}{Z:Zn}{F F1 B L:Addr→Prop}{H H1:Hp}{σ:St}{env:En}{fp:Nat→List Addr}
end
end PR
namespace PR
open PySem PySem.Spec L2
open AutoSeq1 (wpAny_loadPart')
section
variable{prog:Program}{w:World}{A:Around}{E:Value→Shared→Prop}{s:Shared}
end
end PR
namespace PR
open PySem PySem.Spec L2
section
variable{X:Cx}{T:Tb}{W:Nat→St→Hp→Prop}{Z:Zn}{F F1 B L:Addr→Prop}{H H1:Hp}{σ:St}{env:En}{pins:List (Addr×Obj)}{s:Shared}
end
section
variable{X:Cx}{T:Tb}{W:Nat→St→Hp→Prop}{Z:Zn}{F F1 B L:Addr→Prop}{H H1:Hp}{σ:St}{env:En}{fp:Nat→List Addr}
end
end PR
namespace PR
open PySem PySem.Spec L2
section
variable{X:Cx}{T:Tb}{W:Nat→St→Hp→Prop}{Z:Zn}{F F1 B L:Addr→Prop}{H H1:Hp}{σ:St}{env:En}{fp:Nat→List Addr}{D:Ends}
end
end PR
namespace PR
open PySem PySem.Spec L2
structure Dk(K:PySem.W.Frag)(x qual:Str)(st:Stmt)(f:Addr)(fd:FuncData)(dT:Addr)(ds:List Value):Prop where
 ex:∃(oc:Value) (od:Option Addr) (kV doc pm:Value) (an:Option Addr) (cdv ct:Value) (osl:Array (Option Value)),
  fd=PySem.W.fnOf x qual (cR st) (bI st) (aA st) (.ref dT) kV doc pm an cdv ct∧K.lookup f=some ⟨oc,od,.func fd,osl⟩∧PySem.W.codeIn K cdv qual=true
 kp:PySem.W.keepIn K (.ref f)=true
 dl:∃(o:Obj) (n:Nat),K.lookup dT=some o∧o.data=.seq ds.toArray n
section
variable{P:Program}{w:World}{mg:Str→Option Value}{base:Heap}{T:Tb}
theorem Dk.binds{K:PySem.W.Frag}{x qual:Str}{st:Stmt}{f:Addr}{fd:FuncData}{dT:Addr}{ds es:List Value}{ps:List Str}(F:Dk K x qual st f fd dT ds)
  (h:∀(kV doc pm:Value) (an:Option Addr) (cdv ct:Value) (us:List Value),(us++es).length=ps.length→∃k:Option (Array Value)→Sem (List (Str×Value)),bindArgs (PySem.W.fnOf x qual (cR st) (bI st) (aA st) (.ref dT) kV doc pm an cdv ct) ⟨us,[]⟩=seqItems? (.ref dT) >>= k∧k (some ds.toArray)=pure (ps.zip (us++es))):dJ K fd ps es:=by
 obtain⟨oc,od,kV,doc,pm,an,cdv,ct,osl,rfl,lk,hcd⟩:=F.ex
 obtain⟨o,n,lo,hd⟩:=F.dl
 intro s us KI hl
 obtain⟨k,h1,h2⟩:=h kV doc pm an cdv ct us hl
 exact BindsTo.of_defaults rfl (KI _ _ lo) hd h1 h2
end
section
variable{X:Cx}{T:Tb}{W:Nat→St→Hp→Prop}{Z:Zn}{F F1 B L:Addr→Prop}{H H1:Hp}{σ:St}{env:En}{fp:Nat→List Addr}
end
end PR
namespace PR
open PySem PySem.Spec L2
section
variable{X:Cx}{T:Tb}{W:Nat→St→Hp→Prop}{Z:Zn}{F F1:Addr→Prop}{H H1:Hp}{σ:St}{env:En}{fp:Nat→List Addr}
end
end PR
namespace PR
open PySem PySem.Spec L2
def lv(m:ME)(r c t:Nat):List PV→List PV→PV→En→Out
 | [],_,_,e=>.next e
 | x::xs,rows,cv,e=>match m (((e.set t (some x)).set r none).set c (some cv))with
  | .ok (.tup [a,b])=>if(PV.tup [a,b]).has Fl.isBor ||(PV.tup [a,b]).has Fl.isLnt||decide (1000000≤rows.length)then .stuck else lv m r c t xs (rows++[.tup [a,b]]) b.borrow ((e.set t (some x)).set r (some (.lst .own (rows++[.tup [a,b]]))))
  | _=>.stuck
def pV(mi:MI)(r c t:Nat)(m:ME):MS:=fun env=>match mi env with
 | .ok xs=>(match env[r]?,env[c]? with
  | some (some (.lst .own rows)),some (some cv)=>lv m r c t xs rows cv.borrow (env.set c none)
  | _,_=>.stuck)
 | .exc c=>.exc c env
 | .stuck=>.stuck
section
variable{X:Cx}{T:Tb}{W:Nat→St→Hp→Prop}{Z:Zn}{F F1 B L:Addr→Prop}{H H1:Hp}{σ:St}{env:En}{fp:Nat→List Addr}{D:Ends}
theorem ar.wideB(S:ar T Z F H σ env fp){B':Addr→Prop}(h1:∀a,Z.B a→B' a)(h2:∀a,B' a→(∃o,Z.H0 a=some o)∧¬Z.fp0 a):ar T ⟨Z.H0,Z.F0,Z.fp0,B',Z.pin⟩ F H σ env fp :=
 ⟨⟨h2,S.hp.keep,S.hp.f0,S.hp.fn,S.hp.ft⟩,S.len,fun i pv e=>by
  obtain⟨v,q1,q2⟩:=S.rel i pv e
  exact⟨v,q1,Rel.tr (fun _ h=>h) h1 (fun _ h=>h) (fun _ _ h _=>h) (fun _ _ _ h=>h) q2⟩,S.nd,S.dj,S.dis,S.new,S.ch,S.pn⟩
theorem ar.blind(S:ar T Z F H σ env fp){c:Nat}(h0:c≠0)(hc:env[c]?=some none)(v:V):ar T Z F H (σ.set c (some v)) env fp :=
 ⟨S.hp,by rw [List.length_set,S.len],fun i pv e=>by
  have:i≠c:=by rintro rfl;rw[hc]at e;cases e
  rw[List.getElem?_set_ne (Ne.symm this)]
  exact S.rel i pv e,S.nd,S.dj,S.dis,S.new,S.ch,fun w hw=>by
  rw[List.getElem?_set_ne h0]
  exact S.pn w hw⟩
theorem ar.bOut(S:ar T Z F H σ env fp){a:Addr}(h:Z.B a):(∃o,H a=some o)∧∀j,a∉fp j:=by
 obtain⟨⟨o,h1⟩,h2⟩:=S.hp.bo a h
 refine⟨⟨o,S.hp.keep a o h1 h2⟩,fun j hj=>?_⟩
 rcases S.new j a hj with z | z
 ·rw[h1]at z;cases z
 ·exact h2 z
def VB(H:Hp)(fp:Nat→List Addr)(r:Nat)(ra:Addr):Addr→Prop:=fun a=>(∃o,H a=some o)∧a≠ra∧∀j,j≠r→a∉fp j
theorem atI_last(ws:List V)(u:V):atI (ws++[u]) (-1)=some u:=by
 unfold atI
 have e:ixN (ws++[u]).length (-1)=some ws.length:=by
  rw[List.length_append,List.length_singleton]
  unfold ixN
  rw[if_neg (by omega),if_pos (by omega)]
  congr 1
  omega
 rw[e]
 simp
theorem wa{r c t:Nat}{k1 k2}{nr nc nt:Str}{iter e:Expr}{mi:MI}{m:ME}{pos pt p1 p2 p3 p4 p5 p6 p7 p8 p9 p10 p11 p12:Pos}(hp:PassesOwn (model X.prog X.w) X.A X.env X.xe)(hc:X.calm=true)(hK:X.K=T.K)(hN:X.N.Nodup)
  (hr:X.N[r]?=some nr) (hvr:Vis X.env.scope nr) (hcn:X.N[c]?=some nc) (hlc:Loc X.env.scope nc) (ht:X.N[t]?=some nt) (hlt:Loc X.env.scope nt) (r0:r≠0) (c0:c≠0) (t0:t≠0) (rc:r≠c) (rt:r≠t) (ct:c≠t)
  (hi:SI X T W (.Name nt pt) iter mi) (he:SE X T W e m)
  (hs:swapsWith (.Call (.Attribute (.Name nr p1) "append" p2) [e] [] p3) none p4.line X.env=pure false:=by rfl) (hst:starEach [e] X.env=[(false,eval e X.env)]:=by rfl)
  (hfew:((backTo p3 (starEach [e] X.env)).all (fun x=>!x.1)&&(backToKw p3 (keywordEach [] X.env)).all (fun x=>x.1.isSome)&&decide ([e].length+([]:List Keyword).length+(if([]:List Keyword).isEmpty then 0 else 1) < 30))=true:=by rfl)
  (hline:(p2.endLine==p3.line)=true:=by rfl) (hd:(nr ==("__debug__" : Str))=false:=by decide) (hcd:(nr ==("__classdict__" : Str))=false:=by decide)
  (hs2:swapsWith (.Subscript (.Subscript (.Name nr p6) (.UnaryOp .USub (.Constant (.int 1) k1 p7) p8) p9) (.Constant (.int 1) k2 p10) p11) (some (.Name nc p5)) p12.line X.env=pure false:=by rfl)
  (hfc:X.fn nc=true∨X.env.scope.names.lookup nc=some .local:=by first | exact .inl rfl | exact .inr rfl | assumption) (hft:X.fn nt=true∨X.env.scope.names.lookup nt=some .local:=by first | exact .inl rfl | exact .inr rfl | assumption)
  (hx1:fG (.UnaryOp .USub (.Constant (.int 1) k1 p7) p8):=by intro _ _;rfl) (hx2:fG (.Constant (.int 1) k2 p10):=by intro _ _;rfl)
  (hsf:∀x,foldedSetIterable iter X.env x=pure x:=by intro _;rfl) :
  SS X T W (.For (.Name nt pt) iter [.Expr (.Call (.Attribute (.Name nr p1) "append" p2) [e] [] p3) p4,.Assign [.Name nc p5] (.Subscript (.Subscript (.Name nr p6) (.UnaryOp .USub (.Constant (.int 1) k1 p7) p8) p9) (.Constant (.int 1) k2 p10) p11) p12] [] pos) (pV mi r c t m) :=
 PS.wk (s_ (pos:=pos) hp hc hi (lz (pos:=pt) hN ht hlt hft) (mU (gv (pos:=p4) (tP (cpos:=p3) (apos:=p2) PySem.F.plainAttrs_list PySem.F.slot_list_append PySem.F.type_list_append iK (cX (pos:=p1) hr hvr hd hcd) (aa he ag hst) rfl hfew hline hst) hs)
  (pG (sZ (pos:=p12) hN hcn hlc (tL (pos:=p11) lR (tL (pos:=p9) lR (cX (pos:=p6) hr hvr hd hcd) (B8 (pos:=p8) yH (lA (i:=1) (j:=k1) (pos:=p7))) hx1) (lA (i:=1) (j:=k2) (pos:=p10)) hx2) hs2 hfc))) hsf) fun D σ H ⟨Z,F,env,fp,S,q⟩=>by
  unfold pV at q
  refine⟨Z,F,env,fp,S,?_⟩
  cases em:mi env with
  | exc x=>rw[em]at q;exact fun H' x=>q F H' σ fp (S.grow (Gr.same S.hp.ft x))
  | stuck=>rw[em]at q;exact q
  | ok xs =>
   rw[em]at q
   dsimp only at q
   intro J H1 F1 g1 it
   have S1:=S.grow g1
   split at q
   case h_2=>exact q.elim
   rename_i rows cv er ec
   obtain⟨ra,ws,fpr,hra,hla,hrr,hfr⟩:=S1.lst er
   obtain⟨v0,hv0,rv0⟩:=S1.rel c cv ec
   have ram:ra∈fp r:=by rw[hfr];exact List.mem_cons_self
   have cl:c < env.length:=(List.getElem?_eq_some_iff.mp ec).1
   refine ⟨fun i n σ2 H2=>n=xs.length - i∧i ≤ xs.length∧∃ F2 env2 fp2 rows cv v,ar T (Z.re F1 H1 fp) F2 H2 σ2 env2 fp2∧env2[r]?=some (some (.lst .own rows))∧env2[c]?=some none∧σ2[c]?=some (some v)∧σ2[r]?=some (some (.ref ra))∧Rel T F2 (VB H2 fp2 r ra) NoL H2 cv v []∧GS T W Z D (lv m r c t (xs.drop i) rows cv env2),
    ⟨xs.length,by simp,Nat.zero_le _,F1,env.set c none,br fp c [],rows,cv.borrow,v0,S1.enter.drop c0,by rw[List.getElem?_set_ne (Ne.symm rc)];exact er,by rw[List.getElem?_set];simp[cl],hv0,hra,Rel.borrow (fun a h=>?_) (fun a h=>h.elim) (fun a h=>?_) rv0,q⟩,?_⟩
   ·obtain⟨h1,h2⟩:=S1.bOut h
    refine⟨h1,fun z=>h2 r (by rw[z];exact ram),fun j _ hj=>?_⟩
    unfold br at hj
    split at hj
    ·cases hj
    ·exact h2 j hj
   ·refine⟨(S1.dis c a h).2,fun z=>S1.dj c r (Ne.symm rc) a h (by rw[z];exact ram),fun j _ hj=>?_⟩
    unfold br at hj
    split at hj
    ·cases hj
    ·rename_i jc
     exact S1.dj c j (Ne.symm jc) a h hj
   clear q er ec hla hrr hfr hv0 rv0 ws fpr
   rintro i n σ2 H2 ⟨rfl,hi',F2,env2,fp2,rows,cv,v,S2,er,ec,hv,hra2,rcv,q2⟩
   obtain⟨go,stop⟩:=it H2 S2.hp.keep
   by_cases hlt':i < xs.length
   ·have hx:xs[i]?=some xs[i]:=by simp[hlt']
    obtain⟨g1',yl⟩:=go i _ hx
    refine .inr ⟨g1',fun σ3 H3=>∃F2 env2 fp2 rows cv v,ar T (Z.re F1 H1 fp) F2 H3 σ3 env2 fp2∧env2[r]?=some (some (.lst .own rows))∧env2[c]?=some none∧σ3[c]?=some (some v)∧σ3[r]?=some (some (.ref ra))∧Rel T F2 (VB H3 fp2 r ra) NoL H3 cv v []∧GS T W Z D (lv m r c t (xs.drop (i+1)) rows cv env2),fun σ3 H3 h3=>⟨xs.length - (i+1),by omega,rfl,hlt',h3⟩,fun x H3 hy=>?_⟩
    obtain⟨ex3,rx⟩:=yl x H3 hy
    rw[List.drop_eq_getElem_cons hlt']at q2
    unfold lv at q2
    have S3:=(S2.grow (Gr.same S2.hp.ft ex3)).put (i:=t) (pv:=xs[i]) (v:=x) (f:=[]) (rx.ext Ext.refl S2.hp.f0) List.nodup_nil (fun _ z=>(nomatch z)) (fun _ z=>(nomatch z)) (fun _ z=>(nomatch z)) (by simp[aL,t0])
    show BR _ _ _ (σ2.set t (some x)) H3
    split at q2
    case h_2=>exact q2.elim
    rename_i pa pb em2
    split at q2
    ·exact q2.elim
    rename_i hnb
    simp only[Bool.or_eq_true,decide_eq_true_eq,not_or,Bool.not_eq_true]at hnb
    obtain⟨⟨nb,nl⟩,nrow⟩:=hnb
    have hv3:(σ2.set t (some x))[c]?=some (some v):=by rw[List.getElem?_set_ne (Ne.symm ct)];exact hv
    have hra3:(σ2.set t (some x))[r]?=some (some (.ref ra)):=by rw[List.getElem?_set_ne (Ne.symm rt)];exact hra2
    have er3:(env2.set t (some xs[i]))[r]?=some (some (.lst .own rows)):=by rw[List.getElem?_set_ne (Ne.symm rt)];exact er
    have ec3:(env2.set t (some xs[i]))[c]?=some none:=by rw[List.getElem?_set_ne (Ne.symm ct)];exact ec
    obtain⟨ra',ws,fpr,hra',hla,hrr,hfr⟩:=S3.lst er3
    rw[hra3]at hra'
    cases hra'
    generalize hσ3:σ2.set t (some x)=σ3 at *
    generalize henv3:env2.set t (some xs[i])=env3 at *
    generalize hfp3:br fp2 t []=fp3 at *
    have ram3:ra∈fp3 r:=by rw[hfr];exact List.mem_cons_self
    have sub3:∀j a,a∈fp3 j→a∈fp2 j:=fun j a h=>by
     rw[← hfp3]at h
     unfold br at h
     split at h
     ·cases h
     ·exact h
    have S4:=(S3.drop r0).enter
    have S5:=S4.wideB (B':=fun a=>(∃ o,H3 a=some o)∧¬ Own (br fp3 r []) a) (fun a h=>by
     obtain⟨h1,h2⟩:=S3.bOut h
     refine⟨h1,fun⟨j,hj⟩=>?_⟩
     unfold br at hj
     split at hj
     ·cases hj
     ·exact h2 j hj) (fun a h=>h)
    have rcv3:Rel T F2 (fun a=>(∃ o,H3 a=some o)∧¬ Own (br fp3 r []) a) NoL H3 cv v []:=Rel.tr (fun _ h=>h) (fun a h=>⟨let ⟨o,q⟩:=h.1;⟨o,ex3 a o q⟩,fun ⟨j,hj⟩=>by
     unfold br at hj
     split at hj
     ·cases hj
     ·rename_i jr
      exact h.2.2 j jr (sub3 j a hj)⟩) (fun _ h=>h) (fun a o q _=>ex3 a o q) (fun a _ o q=>ex3 a o q) rcv
    have S6:=S5.put (i:=c) (pv:=cv) (v:=v) (f:=[]) rcv3 List.nodup_nil (fun _ z=>(nomatch z)) (fun _ z=>(nomatch z)) (fun _ z=>(nomatch z)) (by simp[aL,c0])
    rw[sI hv3]at S6
    refine⟨_,hra3,.inl ⟨rfl,ws,by rw[hK];exact SqL.of hla⟩,_,F2,_,_,S6,?_⟩
    unfold ae am
    rw[em2]
    intro vs H4 F4 f4 g r4 n4 d4 w4
    obtain⟨u,rfl,ru⟩:=r4.one
    have S7:=S3.grow g
    have hl4:=g.ext ra _ hla
    refine⟨ra,ws,u,rfl,rfl,hl4,?_,?_⟩
    ·rw[← hrr.length,sizeLine_eq];omega
    have ru':Rel T F4 (Z.re F1 H1 fp).B NoL H4 (.tup [pa,pb]) u f4:=Rel.noL nl (Rel.noB nb ru)
    have rone:RelL T F4 (Z.re F1 H1 fp).B NoL H4 [.tup [pa,pb]] [u] f4:=by unfold RelL;exact⟨u,[],f4,[],rfl,ru',by unfold RelL;exact⟨rfl,rfl⟩,by simp⟩
    have bes:=S3.beside g n4 w4
    have S8:=S7.mutL (v:=u) er3 hra3 hfr (RelL.append (hrr.ext g.ext g.mono) rone) (by
     have ndi:(ra::fpr).Nodup:=by rw[← hfr];exact S3.nd r
     refine List.nodup_append.mpr ⟨(List.nodup_cons.mp ndi).2,d4,fun b hb b' hb' z=>?_⟩
     subst z
     exact(bes b hb').2.2 r (by rw[hfr];exact List.mem_cons_of_mem _ hb)) (fun b hb=>by
     rcases List.mem_append.mp hb with hb | hb
     ·exact .inl hb
     ·exact .inr (bes b hb)) hl4
    unfold Rel at ru'
    obtain⟨ta,tvs,rfl,hsq,hrl⟩:=ru'
    unfold RelL at hrl
    obtain⟨va,w1,fa,fb0,rfl,hra4,hrl,ef4⟩:=hrl
    unfold RelL at hrl
    obtain⟨vb,w2,fb,fz,rfl,hrb4,hrl,efb⟩:=hrl
    unfold RelL at hrl
    obtain⟨rfl,rfl⟩:=hrl
    have fbm:∀a∈fb,a∈f4:=fun a ha=>by rw[ef4,efb];simp[ha]
    have raF:¬F4 ra:=(S7.dis r ra ram3).1
    have raB:¬(Z.re F1 H1 fp).B ra:=fun z=>(S7.bOut z).2 r ram3
    have nfix:∀o,H4 ra=some o→¬iu o:=fun o h=>by
     rw[hl4]at h
     cases h
     exact fun z=>z
    have keep8:∀a o,H4 a=some o→a≠ra→upd H4 ra (.lst (ws++[V.ref ta])) a=some o:=fun a o h n=>by
     unfold upd
     rw[if_neg n]
     exact h
    have hsq8:SqT T.K (upd H4 ra (.lst (ws++[V.ref ta]))) ta [va,vb]:=SqT.tr (fun o h1 h2=>keep8 ta o h1 fun z=>nfix o (by rw[← z];exact h1) h2) hsq
    have hrb8:Rel T F4 (Z.re F1 H1 fp).B NoL (upd H4 ra (.lst (ws ++ [V.ref ta]))) pb vb fb:=Rel.tr (fun _ h=>h) (fun _ h=>h) (fun _ h=>h) (fun a o h q=>keep8 a o h fun z=>by
     subst z
     rcases q with q | q | q | q
     ·exact raF q
     ·exact raB q
     ·exact q
     ·exact nfix o h q) (fun a ha o h=>keep8 a o h fun z=>(bes a (fbm a ha)).2.2 r (by rw[z];exact ram3)) hrb4
    have ra8:upd H4 ra (.lst (ws++[V.ref ta])) ra=some (.lst (ws++[V.ref ta])):=by unfold upd;simp
    refine⟨_,hra3,1,rfl,.inl ⟨ra,ws++[V.ref ta],-1,V.ref ta,rfl,rfl,by rw[hK];exact SqL.of ra8,atI_last ws _,.inr (.inl ⟨ta,[va,vb],1,vb,rfl,rfl,by rw[hK];exact hsq8,rfl,?_⟩)⟩⟩
    have ec8:(env3.set r (some (.lst .own (rows++[.tup [pa,pb]]))))[c]?=some none:=by rw[List.getElem?_set_ne rc];exact ec3
    have rl:r < env3.length:=(List.getElem?_eq_some_iff.mp er3).1
    have cl3:c < σ3.length:=(List.getElem?_eq_some_iff.mp hv3).1
    refine⟨F4,_,_,rows++[.tup [pa,pb]],pb.borrow,vb,S8.blind c0 ec8 vb,by rw[List.getElem?_set];simp[rl],ec8,by rw[List.getElem?_set];simp[cl3],by rw[List.getElem?_set_ne (Ne.symm rc)];exact hra3,Rel.borrow (fun a h=>?_) (fun a h=>h.elim) (fun a h=>?_) hrb8,q2⟩
    ·obtain⟨h1,h2⟩:=S8.bOut h
     refine⟨h1,fun z=>h2 r (by rw[z];unfold br;simp),fun j _=>h2 j⟩
    ·have b4:=bes a (fbm a h)
     have na:a≠ra:=fun z=>b4.2.2 r (by rw[z];exact ram3)
     refine⟨?_,na,fun j jr hj=>?_⟩
     ·obtain⟨o,ho⟩:=hrb8.there a h
      exact⟨o,ho⟩
     ·unfold br at hj
      rw[if_neg jr]at hj
      exact b4.2.2 j hj
   ·have e:i=xs.length:=by omega
    subst e
    rw[List.drop_length]at q2
    unfold lv at q2
    exact .inl ⟨stop,q2 F2 H2 σ2 fp2 (S1.leave S2)⟩
end
end PR
namespace PR
open PySem PySem.Spec L2
section
variable{X:Cx}{T:Tb}{W:Nat→St→Hp→Prop}{Z:Zn}{F F1 B L:Addr→Prop}{H H1:Hp}{σ:St}{env:En}{fp:Nat→List Addr}{D:Ends}{ks:List Nat}
end
end PR
namespace PR
open PySem PySem.Spec L2
section
variable{X:Cx}{T:Tb}{W:Nat→St→Hp→Prop}{Z:Zn}{F F1 B L:Addr→Prop}{H H1:Hp}{σ:St}{env:En}{fp:Nat→List Addr}{D:Ends}{ks:List Nat}
end
end PR
namespace PR
open PySem PySem.Spec L2
open PySem.W (findIn fnOf keepIn nsIn codeIn isFn Frag)
structure FS where
 q:Str
 s:Stmt
 k:Nat
 N:List Str
 c:Option Nat
def bN(s:Stmt):Str:=match s with
 | .FunctionDef n _ _ _ _ _ _ _ _ _=>n
 | _ => ""
structure PT where
 F:List FS
 C:List Str
 X:List Str
 A:List Str
 M:List (Nat×Str×Nat)
 Mk:List (Nat×Nat)
 U:List (Nat×Nat)
 B:List Str
 I:List (Str×Int)
 KT:List (Option Nat×String×List Bool)
 HT:List (Nat×List Bool)
def fs0:FS:=⟨"", .Pass ⟨0,0,0,0⟩,0,[],none⟩
def pk{α:Type}(d:α)(l:List α)(i:Nat):α:=l.getD i (l.headD d)
theorem ff{α:Type}{d:α}{p:α→Prop}{l:List α}(hl:l≠[])(h:∀x∈l,p x)(i:Nat):p (pk d l i):=by
 unfold pk
 rw[List.getD_eq_getElem?_getD]
 cases e:l[i]? with
 | some C=>exact h C (List.mem_of_getElem? e)
 | none =>
  cases l with
  | nil=>exact absurd rfl hl
  | cons a l=>exact h a List.mem_cons_self
section
variable(p:PT)(K:Frag)
def gAt(x:Str):Addr:=match nsIn K mainGlobals x with
 | some (some (.ref a))=>a
 | _=>0
def mAt(c:Addr)(x:Str):Addr:=match findIn K (.ref c) x with
 | some (some (.ref a))=>a
 | _=>0
def dAt(f:Addr):FuncData:=match K.lookup f with
 | some ⟨_,_,.func d,_⟩=>d
 | _=>default
def PT.fs(i:Nat):FS:=pk fs0 p.F i
def PT.ps(i:Nat):List Str:=(p.fs i).N.take (p.fs i).k
def PT.ca(c:Nat):Addr:=gAt K (pk "" p.C c)
def PT.xa(c:Nat):Addr:=gAt K (pk "" p.X c)
def PT.fx(x:FS):Addr:=match x.c with
 | none=>gAt K (bN x.s)
 | some c=>mAt K (p.ca K c) (bN x.s)
def PT.fa(i:Nat):Addr:=p.fx K (p.fs i)
def lit(x:FS):Obj→Obj
 |⟨oc,od,.func d,sl⟩=>⟨oc,od,.func (fnOf (bN x.s) x.q (cR x.s) (bI x.s) (aA x.s) .none d.kwdefaults d.doc d.pyModule d.annotations d.code d.closureTuple),sl⟩
 | o=>o
def CY:Option Obj→Bool
 | some ⟨_,_,.func _,_⟩=>true
 | _=>false
def scB(x:FS):Bool:=decide ((aA x.s).kind=.function)&&!(aA x.s).isCoroutine&&!(aA x.s).isGenerator&&decide x.N.Nodup&&decide (x.k≤x.N.length) &&
 (x.N.take x.k).all (fun y=>decide ((aA x.s).names.lookup y=some .local ∨(aA x.s).names.lookup y=some .cell))&&(aA x.s).names.all (fun y=>decide (y.2≠.free))
def PT.chF(x:FS):Bool:=CY (K.lookup (p.fx K x))&&codeIn K (dAt K (p.fx K x)).code x.q&&keepIn K (.ref (p.fx K x))&&(match x.c with | none=>decide (nsIn K mainGlobals (bN x.s)=some (some (.ref (p.fx K x)))) | some _=>true)
def chC(A:List Str)(x:Str):Bool:=PySem.W.plainGet K (gAt K x) Str.empty&&PySem.W.hasDictIn K (gAt K x)&&PySem.W.plainOver K (gAt K x)&&decide (findIn K (.ref (gAt K x)) "__setattr__" = some (some (.builtin "object.__setattr__"))) &&
 decide (nsIn K mainGlobals x=some (some (.ref (gAt K x))))&&A.all (fun y=>decide (findIn K (.ref (gAt K x)) y=some none))
def PT.chM(x:Nat×Str×Nat):Bool:=decide (findIn K (.ref (p.ca K x.1)) x.2.1=some (some (.ref (p.fa K x.2.2))))&&isFn K (.ref (p.fa K x.2.2))&&keepIn K (.ref (p.fa K x.2.2))
def PT.chK(x:Nat×Nat):Bool:=PySem.W.makesIn K (p.ca K x.1)&&decide (findIn K (.ref (p.ca K x.1)) "__init__" = some (some (.ref (p.fa K x.2))))&&isFn K (.ref (p.fa K x.2))&&keepIn K (.ref (p.ca K x.1))
def yz(f:Addr):Option PySem.W.CFound→Bool
 | some (.val (.ref a))=>decide (a=f)
 | _=>false
def PT.chU(x:Nat×Nat):Bool:=decide (PySem.W.specialIn K (.ref (p.ca K x.1)) "__getattribute__" = some (some (.builtin "type.__getattribute__")))&&PySem.W.readsIn K (p.ca K x.1) (.type "type")&&yz (p.fa K x.2) (PySem.W.findCls K (.ref (p.ca K x.1)) (.type "type") "__init__")&&keepIn K (.ref (p.fa K x.2))
def tgV(y:Option Nat×String×List Bool):Value:=match y.1 with
 | some x=>.ref (p.xa K x)
 | none=>.type y.2.1
def chX(x:Str):Bool:=decide (nsIn K mainGlobals x=some (some (.ref (gAt K x))))&&rS K (gAt K x)
def chI(x:Str×Int):Bool:=match nsIn K mainGlobals x.1 with
 | some (some (.int i _))=>decide (i=x.2)
 | _=>false
def PT.chT(y:Option Nat×String×List Bool):Bool:=decide (p.X.map (fun x=>PySem.W.kitOne K (.ref (gAt K x)) (tgV p K y))=y.2.2.map some)
def PT.chH(y:Nat×List Bool):Bool:=decide (p.X.map (fun x=>PySem.W.exmOne K (.ref (gAt K x)) (.ref (p.xa K y.1)))=y.2.map some)
def PT.ch1:Bool:=p.F.all (p.chF K)
def PT.ch2:Bool:=p.C.all (chC K p.A)&&p.Mk.all (p.chK K)&&p.U.all (p.chU K)&&p.X.all (chX K)&&p.B.all (fun x=>decide (nsIn K mainGlobals x=some none))&&p.I.all (chI K)&&p.KT.all (p.chT K)&&p.HT.all (p.chH K)
def PT.ch3:Bool:=p.M.all (p.chM K)
def PT.ob:List (Option Obj):=p.F.map fun x=>K.lookup (p.fx K x)
def PT.ol:List (Option Obj):=p.F.map fun x=>(K.lookup (p.fx K x)).map (lit x)
end
structure Tx(p:PT)(K:Frag)(mg:Str→Option Value):Prop where
 fn:∀i,Fun K (bN (p.fs i).s) (p.fs i).q (p.fs i).s (p.fa K i) (dAt K (p.fa K i))
 sc:∀i,du (p.fs i).N (p.ps i) (aA (p.fs i).s)
 bn:∀i,dJ K (dAt K (p.fa K i)) (p.ps i) []
 gl:∀i,(p.fs i).c=none→mg (bN (p.fs i).s)=some (.ref (p.fa K i))
 cl:∀c,Cls K (p.ca K c)
 cg:∀c,mg (pk "" p.C c)=some (.ref (p.ca K c))
 cn:∀c,∀x∈p.A,dG K (p.ca K c) x
 me:∀x∈p.M,yg K (p.ca K x.1) x.2.1 (p.fa K x.2.2)
 mm:∀x∈p.Mk,Mk K (p.ca K x.1) (p.fa K x.2)
 su:∀x∈p.U,Sup K (p.ca K x.1) (p.fa K x.2)
 xg:∀c,mg (pk "" p.X c)=some (.ref (p.xa K c))
 xe:∀c,rS K (p.xa K c)=true
 bi:∀x∈p.B,mg x=none
 ci:∀x∈p.I,∃tk,mg x.1=some (.int x.2 tk)
 kt:∀y∈p.KT,∀c,PySem.W.kitOne K (.ref (p.xa K c)) (tgV p K y)=some (kr y.2.2 c)
 ht:∀y∈p.HT,∀c,PySem.W.exmOne K (.ref (p.xa K c)) (.ref (p.xa K y.1))=some (kr y.2 c)
def Bnd(x:FS):Prop:=∀(kV doc pm:Value) (an:Option Addr) (cdv ct:Value) (us:List Value),us.length=(x.N.take x.k).length→bindArgs (fnOf (bN x.s) x.q (cR x.s) (bI x.s) (aA x.s) .none kV doc pm an cdv ct) ⟨us,[]⟩=pure ((x.N.take x.k).zip us)
def v3:List FS→Prop
 | []=>True
 | x::l=>Bnd x∧v3 l
theorem v3.get:∀{l:List FS},v3 l→∀x∈l,Bnd x
 | [],_,_,h=>nomatch h
 | y::l,⟨h1,h2⟩,x,h=>by
  rcases List.mem_cons.mp h with rfl | h
  ·exact h1
  ·exact h2.get x h
section
variable{x:FS}
theorem bn1(h:∀(kV doc pm:Value) (an:Option Addr) (cdv ct u1:Value),bindArgs (fnOf (bN x.s) x.q (cR x.s) (bI x.s) (aA x.s) .none kV doc pm an cdv ct) ⟨[u1],[]⟩=pure ((x.N.take x.k).zip [u1]):=by intros;rfl)(hk:(x.N.take x.k).length=1:=by rfl):Bnd x:=fun kV doc pm an cdv ct us hl=>by
 rw[hk]at hl
 match us,hl with
 | [_],_=>exact h ..
theorem bn2(h:∀(kV doc pm:Value) (an:Option Addr) (cdv ct u1 u2:Value),bindArgs (fnOf (bN x.s) x.q (cR x.s) (bI x.s) (aA x.s) .none kV doc pm an cdv ct) ⟨[u1,u2],[]⟩=pure ((x.N.take x.k).zip [u1,u2]):=by intros;rfl)(hk:(x.N.take x.k).length=2:=by rfl):Bnd x:=fun kV doc pm an cdv ct us hl=>by
 rw[hk]at hl
 match us,hl with
 | [_,_],_=>exact h ..
theorem bn3(h:∀(kV doc pm:Value) (an:Option Addr) (cdv ct u1 u2 u3:Value),bindArgs (fnOf (bN x.s) x.q (cR x.s) (bI x.s) (aA x.s) .none kV doc pm an cdv ct) ⟨[u1,u2,u3],[]⟩=pure ((x.N.take x.k).zip [u1,u2,u3]):=by intros;rfl)(hk:(x.N.take x.k).length=3:=by rfl):Bnd x:=fun kV doc pm an cdv ct us hl=>by
 rw[hk]at hl
 match us,hl with
 | [_,_,_],_=>exact h ..
theorem bn4(h:∀(kV doc pm:Value) (an:Option Addr) (cdv ct u1 u2 u3 u4:Value),bindArgs (fnOf (bN x.s) x.q (cR x.s) (bI x.s) (aA x.s) .none kV doc pm an cdv ct) ⟨[u1,u2,u3,u4],[]⟩=pure ((x.N.take x.k).zip [u1,u2,u3,u4]):=by intros;rfl)(hk:(x.N.take x.k).length=4:=by rfl):Bnd x:=fun kV doc pm an cdv ct us hl=>by
 rw[hk]at hl
 match us,hl with
 | [_,_,_,_],_=>exact h ..
theorem bn5(h:∀(kV doc pm:Value) (an:Option Addr) (cdv ct u1 u2 u3 u4 u5:Value),bindArgs (fnOf (bN x.s) x.q (cR x.s) (bI x.s) (aA x.s) .none kV doc pm an cdv ct) ⟨[u1,u2,u3,u4,u5],[]⟩=pure ((x.N.take x.k).zip [u1,u2,u3,u4,u5]):=by intros;rfl)(hk:(x.N.take x.k).length=5:=by rfl):Bnd x:=fun kV doc pm an cdv ct us hl=>by
 rw[hk]at hl
 match us,hl with
 | [_,_,_,_,_],_=>exact h ..
end
theorem sA{K:Frag}{l:List Str}{α:Type}{f:Addr→Option Bool}{bs:List Bool}(hl:l≠[])(h:l.map (fun x=>f (gAt K x))=bs.map some)(c:Nat):f (gAt K (pk "" l c))=some (kr bs c):=by
 have e:gAt K (pk "" l c)=wT (l.map (gAt K)) c:=by
  unfold pk wT
  cases l with
  | nil=>exact absurd rfl hl
  | cons a l =>
   rw[List.getD_eq_getElem?_getD,List.getD_eq_getElem?_getD,List.getElem?_map]
   cases(a::l)[c]?<;>rfl
 rw[e]
 exact tz (g:=id) (by simpa using hl) (by rw[List.map_map];exact h) c
theorem Tx.of{p:PT}{K:Frag}{h:Heap}{mg:Str→Option Value}(X:K.In h)(N:h.Ns mainGlobals mg)(hb:v3 p.F)(hs:p.F.all scB=true)(hF:p.F≠[])(hC:p.C≠[])(hX:p.X≠[])
  (e:p.ob K=p.ol K) (h1:p.ch1 K=true) (h2:p.ch2 K=true) (h3:p.ch3 K=true):Tx p K mg:=by
 simp only[PT.ch2,Bool.and_eq_true,List.all_eq_true,decide_eq_true_eq]at h2
 obtain⟨⟨⟨⟨⟨⟨⟨c1,c2⟩,c3⟩,c4⟩,c5⟩,c6⟩,c7⟩,c8⟩:=h2
 simp only[PT.ch1,PT.ch3,List.all_eq_true]at h1 h3 hs
 have fnx:∀x∈p.F,Fun K (bN x.s) x.q x.s (p.fx K x) (dAt K (p.fx K x)):=fun x hx=>by
  have q:=h1 x hx
  simp only[PT.chF,Bool.and_eq_true]at q
  obtain⟨⟨⟨q1,q2⟩,q3⟩,_⟩:=q
  have e1:K.lookup (p.fx K x)=(K.lookup (p.fx K x)).map (lit x):=List.map_inj_left.mp e x hx
  cases eo:K.lookup (p.fx K x)with
  | none=>rw[eo]at q1;cases q1
  | some o =>
   rw[eo]at e1 q1
   obtain⟨oc,od,dt,sl⟩:=o
   cases dt with
   | func d =>
    have e2:(⟨oc,od,.func d,sl⟩:Obj)=lit x ⟨oc,od,.func d,sl⟩:=Option.some.inj e1
    simp only[lit,Obj.mk.injEq,Data.func.injEq,true_and,and_true]at e2
    have ed:dAt K (p.fx K x)=d:=by unfold dAt;rw[eo]
    rw[ed]at q2 ⊢
    exact⟨⟨oc,od,d.kwdefaults,d.doc,d.pyModule,d.annotations,d.code,d.closureTuple,sl,e2,eo,q2⟩,q3⟩
   | _=>cases q1
 have scx:∀x∈p.F,du x.N (x.N.take x.k) (aA x.s):=fun x hx=>by
  have q:=hs x hx
  simp only[scB,Bool.and_eq_true,decide_eq_true_eq,List.all_eq_true,Bool.not_eq_true']at q
  obtain⟨⟨⟨⟨⟨⟨q1,q2⟩,q3⟩,q4⟩,q5⟩,q6⟩,q7⟩:=q
  exact⟨q1,q2,q3,q4,by rw[List.length_take,Nat.min_eq_left q5],q6,q7⟩
 have clx:∀x∈p.C,(Cls K (gAt K x)∧mg x=some (.ref (gAt K x)))∧∀y∈p.A,dG K (gAt K x) y:=fun x hx=>by
  have q:=c1 x hx
  simp only[chC,Bool.and_eq_true,decide_eq_true_eq,List.all_eq_true]at q
  obtain⟨⟨⟨⟨⟨q1,q2⟩,q3⟩,q4⟩,q5⟩,q6⟩:=q
  exact⟨⟨⟨q1,q2,q3,q4⟩,PySem.W.mg_of X N q5⟩,q6⟩
 have xx:∀x∈p.X,mg x=some (.ref (gAt K x))∧rS K (gAt K x)=true:=fun x hx=>by
  have q:=c4 x hx
  simp only[chX,Bool.and_eq_true,decide_eq_true_eq]at q
  exact⟨PySem.W.mg_of X N q.1,q.2⟩
 refine ⟨ff (p:=fun x=>Fun K (bN x.s) x.q x.s (p.fx K x) (dAt K (p.fx K x))) hF fnx,ff (p:=fun x=>du x.N (x.N.take x.k) (aA x.s)) hF scx,ff (p:=fun x=>dJ K (dAt K (p.fx K x)) (x.N.take x.k) []) hF fun x hx=>(fnx x hx).binds (hb.get x hx),
  ff (p:=fun x=>x.c=none→mg (bN x.s)=some (.ref (p.fx K x))) hF fun x hx hc=>?_,ff (p:=fun x=>Cls K (gAt K x)) hC fun x hx=>(clx x hx).1.1,ff (p:=fun x=>mg x=some (.ref (gAt K x))) hC fun x hx=>(clx x hx).1.2,
  ff (p:=fun x=>∀y∈p.A,dG K (gAt K x) y) hC fun x hx=>(clx x hx).2,fun x hx=>?_,fun x hx=>?_,fun x hx=>?_,ff (p:=fun x=>mg x=some (.ref (gAt K x))) hX fun x hx=>(xx x hx).1,ff (p:=fun x=>rS K (gAt K x)=true) hX fun x hx=>(xx x hx).2,
  fun x hx=>PySem.W.mg_none_of X N (c5 x hx),fun x hx=>?_,fun y hy c=>?_,fun y hy c=>?_⟩
 ·have q:=h1 x hx
  simp only[PT.chF,Bool.and_eq_true]at q
  have q:=q.2
  rw[hc]at q
  exact PySem.W.mg_of X N (of_decide_eq_true q)
 ·have q:=h3 x hx
  simp only[PT.chM,Bool.and_eq_true,decide_eq_true_eq]at q
  exact⟨q.1.1,q.1.2,q.2⟩
 ·have q:=c2 x hx
  simp only[PT.chK,Bool.and_eq_true,decide_eq_true_eq]at q
  exact⟨q.1.1.1,q.1.1.2,q.1.2,q.2⟩
 ·have q:=c3 x hx
  simp only[PT.chU,Bool.and_eq_true,decide_eq_true_eq]at q
  refine⟨q.1.1.1,q.1.1.2,?_,q.2⟩
  have q:=q.1.2
  unfold yz at q
  split at q
  ·rename_i a e
   rw[e,of_decide_eq_true q]
  ·cases q
 ·have q:=c6 x hx
  unfold chI at q
  split at q
  ·rename_i i tk e
   exact⟨tk,by rw[← of_decide_eq_true q];exact PySem.W.mg_of X N e⟩
  ·cases q
 ·exact sA (α:=Bool) (f:=fun a=>PySem.W.kitOne K (.ref a) (tgV p K y)) hX (of_decide_eq_true (c7 y hy)) c
 ·exact sA (α:=Bool) (f:=fun a=>PySem.W.exmOne K (.ref a) (.ref (p.xa K y.1))) hX (of_decide_eq_true (c8 y hy)) c
def PT.attOk(p:PT):Prop:=p.A.Nodup∧p.A.all iJ=true
@[reducible] def PT.T(p:PT)(h:p.attOk)(K:Frag):Tb where
 K:=K
 nc:=p.C.length
 cls:=p.ca K
 att:=iE p.A
 inj:=sg h.1 h.2
 xcl:=p.xa K
section
variable{p:PT}{K:Frag}{mg:Str→Option Value}
theorem Tx.cls(t:Tx p K mg)(n:Nat):∀c < n,Cls K (p.ca K c):=fun c _=>t.cl c
theorem Tx.b(t:Tx p K mg)(j:Nat){x:Str}(h:p.B[j]?=some x:=by rfl):mg x=none:=t.bi x (List.mem_of_getElem? h)
theorem Tx.c(t:Tx p K mg)(j:Nat){x:Str}{i:Int}(h:p.I[j]?=some (x,i):=by rfl):∃tk,mg x=some (.int i tk):=t.ci (x,i) (List.mem_of_getElem? h)
theorem Tx.k(t:Tx p K mg)(j:Nat){y:Option Nat×String×List Bool}(h:p.KT[j]?=some y:=by rfl)(c:Nat):PySem.W.kitOne K (.ref (p.xa K c)) (tgV p K y)=some (kr y.2.2 c):=t.kt y (List.mem_of_getElem? h) c
end
end PR
namespace PR
open PySem PySem.Spec L2
open PySem.W (keepIn Frag)
section
variable{P:Program}{w:World}{K:Frag}{mg:Str→Option Value}{base:Heap}{p:PT}{hA:p.attOk}
abbrev OkF(p:PT)(hA:p.attOk)(P:Program)(w:World)(K:Frag)(mg:Str→Option Value)(base:Heap)(k i:Nat)(m:List PV→Res PV):Prop:=cq P w K mg base (CXP P w) k (p.fa K i) (dAt K (p.fa K i)) (p.ps i) (spM (p.T hA K) (p.ps i).length m)
abbrev OkI(p:PT)(hA:p.attOk)(P:Program)(w:World)(K:Frag)(mg:Str→Option Value)(base:Heap)(k i:Nat)(m:List PV→Res PV):Prop:=cq P w K mg base (CXP P w) k (p.fa K i) (dAt K (p.fa K i)) (p.ps i) (spI (p.T hA K) (p.ps i).length m)
theorem okC(i:Nat){k:Nat}{m:MS}(t:Tx p K mg)(body:∀ (cdv:Value) (A:Around) (outer:List Env) (s:Shared) (H:Hp) (E:XK),Ctx (dO (CXP P w) P w K mg base (p.fs i).N (p.fs i).q (aA (p.fs i).s) (p.fa K i) cdv A outer s H E) (p.T hA K) (WD (p.T hA K) E) k→(p.fs i).N.Nodup →
  SSs (dO (CXP P w) P w K mg base (p.fs i).N (p.fs i).q (aA (p.fs i).s) (p.fa K i) cdv A outer s H E) (p.T hA K) (WD (p.T hA K) E) (bI (p.fs i).s) m):OkF p hA P w K mg base (k+1) i (bj (p.fs i).N.length m) :=
 Af (T:=p.T hA K) (t.fn i) (t.sc i) fun a b c d e f g=>body a b c d e f g (t.sc i).nd
theorem okI(i:Nat){k:Nat}{m:MS}(t:Tx p K mg)(body:∀ (cdv:Value) (A:Around) (outer:List Env) (s:Shared) (H:Hp) (E:XK),Ctx (dO (CXP P w) P w K mg base (p.fs i).N (p.fs i).q (aA (p.fs i).s) (p.fa K i) cdv A outer s H E) (p.T hA K) (WD (p.T hA K) E) k→(p.fs i).N.Nodup →
  SSs (dO (CXP P w) P w K mg base (p.fs i).N (p.fs i).q (aA (p.fs i).s) (p.fa K i) cdv A outer s H E) (p.T hA K) (WD (p.T hA K) E) (bI (p.fs i).s) m):OkI p hA P w K mg base (k+1) i (gy (p.fs i).N.length m) :=
 xH (T:=p.T hA K) (t.fn i) (t.sc i) fun a b c d e f g=>body a b c d e f g (t.sc i).nd
theorem dm{X:Cx}{k k2 i c:Nat}{mn:Str}{m m':List PV→Res PV}{ps:List Str}(j:Nat)(t:Tx p X.K X.mg)(G:cq X.prog X.w X.K X.mg X.base (CXP X.prog X.w) k (p.fa X.K i) (dAt X.K (p.fa X.K i)) ps (spM (p.T hA X.K) ps.length m))(e:some m=some m')(hj:p.M[j]?=some (c,mn,i):=by rfl)(hp:p.ps i=ps:=by rfl)(hk:k≤k2:=by decide) :
  ∃f fd,yg X.K (p.ca X.K c) mn f∧dJ X.K fd ps []∧cq X.prog X.w X.K X.mg X.base (CXP X.prog X.w) k2 f fd ps (spM (p.T hA X.K) ps.length m'):=by
 cases e
 exact⟨_,_,t.me _ (List.mem_of_getElem? hj),hp▸t.bn i,G.mono hk⟩
end
theorem dno{n c:Nat}{q:Prop}(h:c < n)(hc:n≤c:=by exact Nat.le_add_left _ _):q:=absurd h (Nat.not_lt.mpr hc)
section
variable{X:Cx}{W:Nat→St→Hp→Prop}{p:PT}{hA:p.attOk}
theorem a6{i k kk n:Nat}{m:List PV→Res PV}{x:Str}{np pos:Pos}{e:Expr}{es:List Expr}{ms:MA}(t:Tx p X.K X.mg)
  (G:cq X.prog X.w X.K X.mg X.base (CXP X.prog X.w) k (p.fa X.K i) (dAt X.K (p.fa X.K i)) (p.ps i) (spM (p.T hA X.K) (p.ps i).length m)) (cx:Ctx X (p.T hA X.K) W kk) (ha:SA X (p.T hA X.K) W (e::es) ms)
  (hk:k≤kk:=by decide) (hx:bN (p.fs i).s=x:=by rfl) (hc:(p.fs i).c=none:=by rfl) (hg:Gl X x:=by rfl) (hn:fQ ms n:=by repeat' first | exact dX | apply c9) (hps:n=(p.ps i).length:=by rfl)
  (hdb:(x ==("__debug__" : Str))=false:=by decide) (he:starEach (e::es) X.env=(false,eval e X.env)::starEach es X.env:=by rfl) (hpl:(backTo pos (starEach es X.env)).any (·.1)=false:=by rfl) :
  SE X (p.T hA X.K) W (.Call (.Name x np) (e::es) [] pos) (ap (aG m) ms) :=
 sO G cx hk hg (by subst hx;exact t.gl i hc) (t.fn i).kp (t.bn i) hn hps ha hdb he hpl
theorem cI{k kk n:Nat}{mn:Str}{ps:List Str}{disp:Nat→Option (List PV→Res PV)}{o e:Expr}{es:List Expr}{mo:ME}{ms:MA}{apos pos:Pos}{pl:Sem Bool}(t:Tx p X.K X.mg)
  (D:fH X (p.T hA X.K) k mn ps [] disp) (cx:Ctx X (p.T hA X.K) W kk) (ho:SE X (p.T hA X.K) W o mo) (ha:SA X (p.T hA X.K) W (e::es) ms)
  (hm:∀k,iE p.A k≠mn:=by exact vW (by decide +kernel) (by decide +kernel)) (hk:k≤kk:=by decide) (hn:fQ ms n:=by repeat' first | exact dX | apply c9) (hps:n+1=ps.length:=by rfl)
  (hst:starEach (e::es) X.env=(false,eval e X.env)::starEach es X.env:=by rfl) (hpl:(backTo pos (starEach es X.env)).any (·.1)=false:=by rfl)
  (ht:eval (.Call (.Attribute o mn apos) (e::es) [] pos) X.env=(do
   let ov ← eval o X.env
   standAt apos.atName
   let(f,first) ← holding [ov] (getMethod ov mn pl)
   callWith pos f first (backTo pos (starEach (e::es) X.env)) (backToKw pos (keywordEach [] X.env))):=by rfl) :
  SE X (p.T hA X.K) W (.Call (.Attribute o mn apos) (e::es) [] pos) (bV disp mo ms) :=
 yV (pl:=pl) cx (t.cls _) hm D hk hn hps ho ha hst hpl ht
theorem jx{i k kk n:Nat}{m:List PV→Res PV}{x:Str}{np pos:Pos}{e:Expr}{es:List Expr}{ms:MA}(c:Nat)(t:Tx p X.K X.mg)
  (G:cq X.prog X.w X.K X.mg X.base (CXP X.prog X.w) k (p.fa X.K i) (dAt X.K (p.fa X.K i)) (p.ps i) (spI (p.T hA X.K) (p.ps i).length m)) (cx:Ctx X (p.T hA X.K) W kk) (ha:SA X (p.T hA X.K) W (e::es) ms)
  (hM:(c,i)∈ p.Mk:=by decide) (hcn:c < p.C.length:=by decide) (hk:k+1≤kk:=by decide) (hx:pk ("" : Str) p.C c=x:=by rfl) (hg:Gl X x:=by rfl) (hn:fQ ms n:=by repeat' first | exact dX | apply c9) (hps:n+1=(p.ps i).length:=by rfl)
  (hdb:(x ==("__debug__" : Str))=false:=by decide) (he:starEach (e::es) X.env=(false,eval e X.env)::starEach es X.env:=by rfl) (hpl:(backTo pos (starEach es X.env)).any (·.1)=false:=by rfl) :
  SE X (p.T hA X.K) W (.Call (.Name x np) (e::es) [] pos) (gW c m ms) :=
 yU (t.mm _ hM) hcn G cx hk hg (by subst hx;exact t.cg c) (t.bn i) hn hps ha hdb he hpl
theorem aR{kk:Nat}{e:Expr}{m:ME}{f:Str}{pos:Pos}(k:Nat)(t:Tx p X.K X.mg)(cx:Ctx X (p.T hA X.K) W kk)(he:SE X (p.T hA X.K) W e m)(hf:iE p.A k=f:=by rfl)(hm:f∈p.A:=by decide)(hb:attributeBase e f X.env (eval e X.env)=eval e X.env:=by rfl) :
  SE X (p.T hA X.K) W (.Attribute e f pos) (mUn (ao k) m):=wu cx.hK hf (t.cls _) (fun c _=>t.cn c f hm) he hb
theorem gM{es:List Expr}{ms:MA}{n:Nat}{pos:Pos}{T:Tb}(ha:SA X T W es ms)(hn:fQ ms n:=by repeat' first | exact dX | apply c9)(hs:n≤1000:=by decide):SE X T W (.List es pos) (eS ms):=yW ha hn hs
theorem ow{es:List Expr}{ms:MA}{n:Nat}{x1}{pos:Pos}{T:Tb}(ha:SA X T W es ms)(hn:fQ ms n:=by repeat' first | exact dX | apply c9)(hs:n≤1000:=by decide):SE X T W (.Tuple es x1 pos) (jK ms):=yR ha hn hs
theorem bL{a b:Expr}{ma mb:ME}{pos:Pos}{kk:Nat}{T:Tb}(cx:Ctx X T W kk)(ha:SE X T W a ma)(hb:SE X T W b mb)(hs:fG b:=by exact fun _ _=>rfl):SE X T W (.Subscript a b pos) (mOp aN ma mb):=yZ cx.hK ha hb hs
theorem bX{i:Nat}{x:Str}{e:Expr}{m:ME}{pos pos':Pos}{T:Tb}(hN:X.N.Nodup)(he:SE X T W e m)(hi:X.N[i]?=some x:=by rfl)(hx:Loc X.env.scope x:=by first | exact .inl rfl | exact .inr rfl)(hs:swapsWith e (some (.Name x pos')) pos.line X.env=pure false:=by rfl)
  (hf:X.fn x=true∨X.env.scope.names.lookup x=some .local:=by first | exact .inl rfl | exact .inr rfl | assumption):SS X T W (.Assign [.Name x pos'] e pos) (a9 i m):=yN hN hi hx he hs hf
theorem sgN{i:Nat}{x:Str}{pos:Pos}{T:Tb}(hN:X.N.Nodup)(hi:X.N[i]?=some x:=by rfl)(hx:Loc X.env.scope x:=by first | exact .inl rfl | exact .inr rfl)(hf:X.fn x=true∨X.env.scope.names.lookup x=some .local:=by first | exact .inl rfl | exact .inr rfl | assumption):SG X T (.Name x pos) (tgN i):=wf hN hi hx hf
theorem b9{i k:Nat}(h:k≤i:=by decide):fF (tgN i) k:=sy h
theorem qJ{i kk:Nat}{x:Str}{e:Expr}{m:ME}{pos px apos cpos:Pos}{T:Tb}(cx:Ctx X T W kk)(he:SE X T W e m)(hN:X.N[i]?=some x:=by rfl)(hv:Vis X.env.scope x:=by first | exact Or.inl rfl | exact Or.inr (Or.inl rfl) | exact Or.inr (Or.inr rfl))
  (hs:swapsWith (.Call (.Attribute (.Name x px) "append" apos) [e] [] cpos) none pos.line X.env=pure false:=by rfl) (hst:starEach [e] X.env=[(false,eval e X.env)]:=by rfl)
  (hfew:((backTo cpos (starEach [e] X.env)).all (fun x=>!x.1)&&(backToKw cpos (keywordEach [] X.env)).all (fun x=>x.1.isSome)&&decide ([e].length+([]:List Keyword).length+(if([]:List Keyword).isEmpty then 0 else 1) < 30))=true:=by rfl)
  (hline:(apos.endLine==cpos.line)=true:=by rfl) (hd:(x ==("__debug__" : Str))=false:=by decide) (hcd:(x ==("__classdict__" : Str))=false:=by decide) :
  SS X T W (.Expr (.Call (.Attribute (.Name x px) "append" apos) [e] [] cpos) pos) (cM i m):=qD cx.hK hN hv he hs hst hfew hline hd hcd
theorem sFld{i kk:Nat}{x f:Str}{e:Expr}{m:ME}{pos pos' px:Pos}(k:Nat)(t:Tx p X.K X.mg)(cx:Ctx X (p.T hA X.K) W kk)(he:SE X (p.T hA X.K) W e m)(hf:iE p.A k=f:=by rfl)(hm:f∈p.A:=by decide)(hN:X.N[i]?=some x:=by rfl)
  (hv:Vis X.env.scope x:=by first | exact Or.inl rfl | exact Or.inr (Or.inl rfl) | exact Or.inr (Or.inr rfl))
  (hs:swapsWith e (some (.Attribute (.Name x px) f pos')) pos.line X.env=pure false:=by rfl) (hd:(x ==("__debug__" : Str))=false:=by decide) (hcd:(x ==("__classdict__" : Str))=false:=by decide) :
  SS X (p.T hA X.K) W (.Assign [.Attribute (.Name x px) f pos'] e pos) (eT i k m):=yO cx.hK hf (t.cls _) (fun c _=>t.cn c f hm) hN hv he hs hd hcd
theorem bR{k n:Nat}{x:Str}{e:Expr}{es:List Expr}{ms:MA}{np cpos pos:Pos}(c:Nat)(t:Tx p X.K X.mg)(cx:Ctx X (p.T hA X.K) W k)(hB:X.K.In X.base)(hx:XM X (p.T hA X.K) W)(ha:SA X (p.T hA X.K) W (e::es) ms)
  (hm:pk ("" : Str) p.X c=x:=by rfl) (hg:Gl X x:=by rfl) (hn:fQ ms n:=by repeat' first | exact dX | apply c9) (hn2:n≤100:=by decide) (hd:(x ==("__debug__" : Str))=false:=by decide)
  (he:starEach (e::es) X.env=(false,eval e X.env)::starEach es X.env:=by rfl) (hpl:(backTo cpos (starEach es X.env)).any (·.1)=false:=by rfl) :
  SS X (p.T hA X.K) W (.Raise (some (.Call (.Name x np) (e::es) [] cpos)) none pos) (bc c ms) :=
 qB cx (by subst hm;exact t.xg c) hB (xM (t.xe c)).2 hx hg hn hn2 ha hd he hpl
theorem mO{i k kk n:Nat}{m:List PV→Res PV}{x y:Str}{q px apos pos pos':Pos}{es:List Expr}{ms:MA}{pl:Sem Bool}(c:Nat)(t:Tx p X.K X.mg)
  (G:cq X.prog X.w X.K X.mg X.base (CXP X.prog X.w) k (p.fa X.K i) (dAt X.K (p.fa X.K i)) (p.ps i) (spI (p.T hA X.K) (p.ps i).length m)) (cx:Ctx X (p.T hA X.K) W kk) (ha:SA X (p.T hA X.K) W es ms)
  (hU:(c,i)∈ p.U:=by decide) (hk:k≤kk:=by decide) (hx:pk ("" : Str) p.C c=x:=by rfl) (hg:Gl X x:=by rfl) (hN:X.N[0]?=some y:=by rfl) (hv:Vis X.env.scope y:=by first | exact Or.inl rfl | exact Or.inr (Or.inl rfl) | exact Or.inr (Or.inr rfl))
  (hn:fQ ms n:=by repeat' first | exact dX | apply c9) (hps:n+1=(p.ps i).length:=by rfl)
  (hdb:(x ==("__debug__" : Str))=false:=by decide) (hdy:(y ==("__debug__" : Str))=false:=by decide) (hcy:(y ==("__classdict__" : Str))=false:=by decide)
  (hst:starEach (.Name y px::es) X.env=(false,eval (.Name y px) X.env)::starEach es X.env:=by rfl) (hpl:(backTo pos (starEach es X.env)).any (·.1)=false:=by rfl)
  (ht:eval (.Call (.Attribute (.Name x q) "__init__" apos) (.Name y px::es) [] pos) X.env=(do
   let ov ← eval (.Name x q) X.env
   standAt apos.atName
   let(f,first) ← holding [ov] (getMethod ov "__init__" pl)
   callWith pos f first (backTo pos (starEach (.Name y px::es) X.env)) (backToKw pos (keywordEach [] X.env))):=by rfl)
  (hs:swapsWith (.Call (.Attribute (.Name x q) "__init__" apos) (.Name y px::es) [] pos) none pos'.line X.env=pure false:=by rfl) :
  SS X (p.T hA X.K) W (.Expr (.Call (.Attribute (.Name x q) "__init__" apos) (.Name y px::es) [] pos) pos') (fO m ms) :=
 yM (pl:=pl) cx (t.su _ hU) G hk hg (by subst hx;exact t.cg c) (t.bn i) hN hv hn hps ha hdb hdy hcy hst hpl ht hs
end
section
variable{X:Cx}{W:Nat→St→Hp→Prop}{T:Tb}
abbrev nmC(X:Cx)(caps:List Nat)(tn:List Str):List Str:=caps.map (fun i=>X.N.getD i "")++ tn
theorem cOf{scope:Scope}{caps:List Nat}{tn:List Str}(h:jQ X.env.scope scope X.N caps (nmC X caps tn) tn=true):dg X scope caps (nmC X caps tn) tn:=x9 h rfl rfl
theorem cJ{elt iter tg:Expr}{ifs:List Expr}{scope:Scope}{pos:Pos}{caps:List Nat}{kk:Nat}{mi:MI}{g:TgM}{mc:MT}{me:ME}(tn:List Str)(cx:Ctx X T W kk)(hi:SIc X T W tg iter mi)(hk:fF g caps.length)
  (hb:∀C s H ex,(nmC X caps tn).Nodup→SG (cxC X scope C (nmC X caps tn) s H ex) T tg g∧STs (cxC X scope C (nmC X caps tn) s H ex) T WF ifs mc∧SE (cxC X scope C (nmC X caps tn) s H ex) T WF elt me)
  (h:jQ X.env.scope scope X.N caps (nmC X caps tn) tn=true:=by kernel_rfl) (hs:∀x,foldedSetIterable iter X.env x=pure x:=by intro _;rfl):SE X T W (.ListComp elt [⟨tg,iter,ifs,0⟩] scope pos) (aX caps tn.length mi g mc me) :=
 wr (cOf h) cx.calm hi hk (fun C s H ex=>hb C s H ex (cOf h).nd) hs
theorem ee{i:Nat}{y:Str}{elt iter tg:Expr}{ifs:List Expr}{scope:Scope}{pos py spos:Pos}{caps:List Nat}{kk:Nat}{mi:MI}{g:TgM}{mc:MT}{me:ME}(tn:List Str)(cx:Ctx X T W kk)(hN:X.N.Nodup)(hi:SIc X T W tg iter mi)(hk:fF g caps.length)
  (hb:∀C s H ex,(nmC X caps tn).Nodup→SG (cxC X scope C (nmC X caps tn) s H ex) T tg g∧STs (cxC X scope C (nmC X caps tn) s H ex) T WF ifs mc∧SE (cxC X scope C (nmC X caps tn) s H ex) T WF elt me)
  (h:jQ X.env.scope scope X.N caps (nmC X caps tn) tn=true:=by kernel_rfl) (hy:X.N[i]?=some y:=by rfl) (hx:Loc X.env.scope y:=by first | exact .inl rfl | exact .inr rfl)
  (hsw:swapsWith (.ListComp elt [⟨tg,iter,ifs,0⟩] scope pos) (some (.Name y py)) spos.line X.env=pure true:=by rfl)
  (hs:∀x,foldedSetIterable iter X.env x=pure x:=by intro _;rfl)
  (hf:X.fn y=true∨X.env.scope.names.lookup y=some .local:=by first | exact .inl rfl | exact .inr rfl | assumption) :
  SS X T W (.Assign [.Name y py] (.ListComp elt [⟨tg,iter,ifs,0⟩] scope pos) spos) (a9 i (aX caps tn.length mi g mc me)) :=
 v_ (cOf h) cx.calm hN hy hx hi hk (fun C s H ex=>hb C s H ex (cOf h).nd) hsw hs hf
end
end PR
namespace PR
open PySem PySem.Spec L2 PyProof.Rows
theorem og{P:Program}{w:World}{K:PySem.W.Frag}{tg:Expr}(it:Addr):o7 P w K tg (Itr 0 0) [it] it (fun _ h=>IsLongIter h it 0 0 1) where
 mem:=by simp
 obj:=fun i h st b hb=>by
  have e:b=it:=by simpa using hb
  subst e
  exact ⟨_,st,fun v z=>by
   have z':Data.fields _=Data.cell v:=z
   cases z'⟩
 keep:=fun i h h' st k=>k it (by simp) _ st
 item:=by
  intro X hP hw hK hc i pins s σ H E I hf st hg
  exact absurd hg (Nat.not_lt_zero i)
 done:=by
  intro X hP hw hK hc i pins s σ H E I hf st hg
  subst hP hw hK
  obtain⟨f0,f1,f2,f3,f4,f5⟩:=hf it (by simp)
  refine wpAny_pyNext_long_end (I.ok.hd hc) st (by decide) fun h' he=>⟨rfl,?_⟩
  exact I.turned (t':=s.toks) (fun b o hb e=>he b o hb e) f0 f1 f3 f4 f5
 self:=fun _ _ _ _ _ st h=>wpAny_pyIter_longiter st h
theorem oA{X:Cx}{tg:Expr}{pins:List (Addr×Obj)}{σ:L2.St}{H:Hp}{s:Shared}{R:It→Hp→Prop}{E:Value→Shared→Prop}{hi:Int}{t u v:Tok}{tk:Nat}(I:Inv X pins σ H s)(h:hi≤0)
  (q:R (Itr 0 0) H):wpAny (model X.prog X.w) X.A (pyIter (.ref s.heap.objs.size)) (PIE X pins σ tg R) E { s with heap:=s.heap.push { cls:=.type "range", data:=.fields #[.int 0 t,.int hi u,.int 1 v] },toks:=tk }:=by
 have I1:Inv X pins σ H { s with heap:=s.heap.push { cls:=.type "range", data:=.fields #[.int 0 t,.int hi u,.int 1 v] },toks:=tk }:=I.kept fun b o e=>Heap.get?_push_of_some _ e
 have sz:Builtin.Range.rangeSize 0 hi 1=0:=by rw[rangeSize_one];split<;>omega
 cases hs:Builtin.Range.small 0 hi 1 with
 | true =>
  refine wpAny_pyIter_range (IsRange.new ..) hs ?_
  refine ⟨(s.heap.push { cls:=.type "range", data:=.fields #[.int 0 t,.int hi u,.int 1 v] }).objs.size,[(s.heap.push { cls:=.type "range", data:=.fields #[.int 0 t,.int hi u,.int 1 v] }).objs.size],_,_,H,rfl,
   I1.kept (t':=tk) fun b o e=>Heap.get?_push_of_some _ e,jk _ 0 0,?_,fun b hb=>?_,q⟩
  ·show IsRangeIter _ _ (0+((0:Nat):Int) * 1) (((0:Nat):Int) - ((0:Nat):Int)) 1
   rw[sz]
   exact Heap.get?_push_size _ rfl
  ·have e:b=(s.heap.push { cls:=.type "range", data:=.fields #[.int 0 t,.int hi u,.int 1 v] }).objs.size:=by simpa using hb
   subst e
   exact I1.fpOk (Nat.le_refl _) (I1.hok.fresh (Nat.le_refl _))
 | false =>
  refine wpAny_pyIter_longrange (IsRange.new ..) hs ?_
  refine ⟨(s.heap.push { cls:=.type "range", data:=.fields #[.int 0 t,.int hi u,.int 1 v] }).objs.size,[(s.heap.push { cls:=.type "range", data:=.fields #[.int 0 t,.int hi u,.int 1 v] }).objs.size],_,_,H,rfl,
   I1.kept (t':=tk) fun b o e=>Heap.get?_push_of_some _ e,og _,?_,fun b hb=>?_,q⟩
  ·show IsLongIter _ _ 0 0 1
   rw[sz]
   exact Heap.get?_push_size _ rfl
  ·have e:b=(s.heap.push { cls:=.type "range", data:=.fields #[.int 0 t,.int hi u,.int 1 v] }).objs.size:=by simpa using hb
   subst e
   exact I1.fpOk (Nat.le_refl _) (I1.hok.fresh (Nat.le_refl _))
section
variable{X:Cx}{tg:Expr}
def C2(ta:TA):TI:=fun σ H R=>ta σ H fun vs H1=>∃j:Int,vs=[.int j]∧j < 2 ^ 62∧R (Itr 0 j.toNat) H1
theorem qW{a:Expr}{ta:TA}{p pos:Pos}(hg:Gl X "range")(hm:X.mg "range" = none)(ha:PA X [a] ta)(hs:starEach [a] X.env=[(false,eval a X.env)]:=by rfl):PI X tg (.Call (.Name "range" p) [a] [] pos) (C2 ta):=by
 intro pins s σ H R I h
 refine Call_ (eH I hg hm boot_range (PyProof.Rows.callWith_type1 (thn (ha pos pins s σ H _ I h) fun us s1 ⟨vs,H1,I1,r1,q1⟩=>?_) hs rfl))
 obtain⟨j,e,q2,q⟩:=q1
 subst e
 cases r1 with
 | cons r rr =>
  cases rr
  obtain⟨t,rfl⟩:=r
  by_cases q1:-(2 ^ 62)≤ j
  ·exact call_range_1 (jz I1 (by omega) (by omega) q1 q2 (by simpa using q))
  ·have e0:j.toNat=0:=by omega
   rw[e0]at q
   exact call_range_1 (oA (hi:=j) I1 (by omega) q)
end
section
variable{X:Cx}{T:Tb}{W:Nat→L2.St→Hp→Prop}{F1 B:Addr→Prop}{H1:Hp}
def ni(ms:MA):MI:=fun env=>(ms env).bind fun xs=>match xs with
 | [.int n]=>if n < 1000000 then .ok (bU 0 n.toNat)else .stuck
 | _=>.stuck
theorem oq{tg a:Expr}{ms:MA}{p pos:Pos}(hg:Gl X "range")(hm:X.mg "range" = none)(ha:SA X T W [a] ms)(hs:starEach [a] X.env=[(false,eval a X.env)]:=by rfl):SIc X T W tg (.Call (.Name "range" p) [a] [] pos) (ni ms):=fun pins s σ H R I h=>qW hg hm ha hs pins s σ H R I (by
 obtain⟨Z,F,env,fp,S,q⟩:=h
 unfold ni at q
 refine tA.bind S (fun c e=>by rw[e]at q;exact q) (fun e=>by rw[e]at q;exact q) fun xs vs H1 F1 f1 e1 g1 r1 n1 d1 w1=>?_
 rw[e1]at q
 simp only[Res.ok_bind]at q
 split at q
 ·rename_i n
  split at q
  ·rename_i hc
   obtain⟨v,rfl,r2⟩:=r1.one
   unfold Rel at r2
   obtain⟨rfl,_⟩:=r2
   exact⟨n,rfl,by omega,q _ H1 F1 g1 qa⟩
  ·exact q.elim
 ·exact q.elim)
end
end PR
namespace PR
open PySem PySem.Spec L2
section
variable{env e e':En}{v:PV}{i:Nat}{r:Out}
@[simp] theorem Dc:mC v env=.ok v:=rfl
@[simp] theorem db:am env=.ok []:=rfl
@[simp] theorem ck{a:ME}{m:MA}:ae a m env=(a env).bind fun x=>(m env).bind fun xs=>.ok (x::xs):=rfl
@[simp] theorem Da{f:PV→Res PV}{a:ME}:mUn f a env=(a env).bind f:=rfl
@[simp] theorem i_{f:PV→PV→Res PV}{a b:ME}:mOp f a b env=(a env).bind fun x=>(b env).bind fun y=>f x y:=rfl
@[simp] theorem dq{f:List PV→Res PV}{m:MA}:ap f m env=(m env).bind f:=rfl
@[simp] theorem u9{m:MA}:eS m env=(m env).bind fun xs=>.ok (.lst .own xs):=rfl
@[simp] theorem Ep{m:MA}:jK m env=(m env).bind fun xs=>.ok (.tup xs):=rfl
@[simp] theorem xQ{a:MT}:i3 a env=(a env).bind fun b=>.ok (!b):=rfl
@[simp] theorem u7{a:ME}:cr a env=(a env).bind lB:=rfl
@[simp] theorem Es{a:ME}{c:String}:sB a c env=(a env).bind (m6 c):=rfl
@[simp] theorem kM:jg env=.ok none:=rfl
@[simp] theorem xN:bB env=.ok true:=rfl
def zo:Option (Option PV)→Res PV
 | some (some v)=>.ok (v.mapF Fl.lend)
 | _=>.stuck
@[simp] theorem ky(v:PV):zo (some (some v))=.ok (v.mapF Fl.lend):=rfl
@[simp] theorem eK:ac i env=zo env[i]?:=by
 unfold ac
 cases env[i]? with
 | none=>rfl
 | some w=>cases w<;>rfl
def pBl:PV→Res Bool
 | .bl b=>.ok b
 | _=>.stuck
@[simp] theorem D7(b:Bool):pBl (.bl b)=.ok b:=rfl
@[simp] theorem xO{a:ME}:ax a env=(a env).bind pBl:=by
 rfl
def Cb:PV→Res PV
 | .bl b=>.ok (.bl (!b))
 | _=>.stuck
@[simp] theorem Dr(b:Bool):Cb (.bl b)=.ok (.bl (!b)):=rfl
@[simp] theorem DQ{a:ME}:pW a env=(a env).bind Cb:=by
 rfl
def oF(r:Res PV):PV→Res PV
 | .bl b=>if b then r else .ok (.bl false)
 | _=>.stuck
@[simp] theorem Ds(r:Res PV)(b:Bool):oF r (.bl b)=if b then r else .ok (.bl false):=rfl
@[simp] theorem xR{a b:ME}:gH a b env=(a env).bind (oF (b env)):=by
 unfold gH
 congr 1
 funext x
 cases x with
 | bl b=>cases b<;>rfl
 | _=>rfl
def pOr(r:Res PV):PV→Res PV
 | .bl b=>if b then .ok (.bl true)else r
 | _=>.stuck
@[simp] theorem D5(r:Res PV)(b:Bool):pOr r (.bl b)=if b then .ok (.bl true)else r:=rfl
@[simp] theorem Er{a b:ME}:rA a b env=(a env).bind (pOr (b env)):=by
 unfold rA
 congr 1
 funext x
 cases x with
 | bl b=>cases b<;>rfl
 | _=>rfl
@[simp] theorem Db{f g:PV→PV→Res PV}{a b c:ME}:uq f g a b c env=(a env).bind fun x=>(b env).bind fun y=>(f x y).bind (oF ((c env).bind fun z=>g y z)):=by
 unfold uq
 congr 1
 funext x
 congr 1
 funext y
 congr 1
 funext z
 cases z with
 | bl b=>cases b<;>rfl
 | _=>rfl
@[simp] theorem C1(g:Int→Int→PV)(i j:Int):jD g (.int i) (.int j)=.ok (g i j):=rfl
def yr:PV→Res (Option Int)
 | .int i=>.ok (some i)
 | _=>.stuck
@[simp] theorem q9(i:Int):yr (.int i)=.ok (some i):=rfl
@[simp] theorem jh{a:ME}:ij a env=(a env).bind yr:=by
 rfl
def Cd(l h:Option Int):PV→Res PV
 | .lst _ xs=>.ok (.lst .own (iS xs l h))
 | _=>.stuck
@[simp] theorem tR(l h:Option Int)(f:Fl)(xs:List PV):Cd l h (.lst f xs)=.ok (.lst .own (iS xs l h)):=rfl
@[simp] theorem iB{o:ME}{lo hi:MO}:gT o lo hi env=(o env).bind fun x=>(lo env).bind fun l=>(hi env).bind fun h=>Cd l h x:=by
 rfl
def aF(v:PV):Res PV:=if v.has Fl.isBor then .stuck else .ok v
@[simp] theorem vi{f:List PV→Res PV}{xs:List PV}:aG f xs=(f (mapL Fl.toBor xs)).bind aF:=by
 unfold aG
 cases f (mapL Fl.toBor xs)<;>rfl
def m5(disp:Nat→Option (List PV→Res PV))(r:Res (List PV)):PV→Res PV
 | .obj fl c ks vs=>match disp c with
  | some m=>r.bind fun xs=>aG m (.obj fl c ks vs::xs)
  | none=>.stuck
 | _=>.stuck
@[simp] theorem Cc(disp:Nat→Option (List PV→Res PV))(r:Res (List PV))(fl:Fl)(c:Nat)(ks:List Nat)(vs:List PV):m5 disp r (.obj fl c ks vs)=match disp c with
  | some m=>r.bind fun xs=>aG m (.obj fl c ks vs::xs)
  | none=>.stuck:=rfl
@[simp] theorem Az{disp:Nat→Option (List PV→Res PV)}{o:ME}{ms:MA}:bV disp o ms env=(o env).bind (m5 disp (ms env)):=by
 unfold bV
 congr 1
 funext x
 cases x<;>rfl
@[simp] theorem DP{m:ME}:dW m env=(m env).bind fun x=>match x with
 | .lst f xs=>if !f.isLnt&&dN xs then .ok xs else .stuck
 | .tup xs=>if dN xs then .ok xs else .stuck
 | _=>.stuck:=rfl
def tQ(x:PV):Res (List PV):=match aQ x with
 | some xs=>.ok xs
 | none=>.stuck
@[simp] theorem Bt(f:Fl)(xs:List PV):tQ (.lst f xs)=.ok xs:=rfl
@[simp] theorem Bs(xs:List PV):tQ (.tup xs)=.ok xs:=rfl
@[simp] theorem xP{m:ME}:b0 m env=(m env).bind tQ:=rfl
@[simp] theorem DR{a b:MT}:gG a b env=(a env).bind fun x=>if x then b env else .ok false:=rfl
@[simp] theorem Ay{a b:MT}:gz a b env=(a env).bind fun x=>if x then .ok true else b env:=rfl
@[simp] theorem Et{c:MT}{a b:ME}:um c a b env=(c env).bind fun x=>if x then a env else b env:=rfl
@[simp] theorem u8{c:Nat}{f:List PV→Res PV}{m:MA}:gW c f m env=(m env).bind fun xs=>aG f (.obj .own c [] []::xs):=rfl
theorem af{a b:MS}(h1:a env=.next e)(h2:b e=r):au a b env=r:=by unfold au;rw[h1];exact h2
theorem b7{a b:MS}(h1:a env=.ret v):au a b env=.ret v:=by unfold au;rw[h1]
theorem fP{c:MT}{a b:MS}(h:c env=.ok true)(h2:a env=r):mBr c a b env=r:=by unfold mBr;rw[h];exact h2
theorem bu{c:MT}{a b:MS}(h:c env=.ok false)(h2:b env=r):mBr c a b env=r:=by unfold mBr;rw[h];exact h2
theorem yD{c:MT}{a b:MS}{x:Bool}(h:c env=.ok x):mBr c a b env=if x then a env else b env:=by unfold mBr;rw[h];cases x<;>rfl
theorem aE{m:ME}(h:m env=.ok v)(hl:v.noLnt=true)(ho:aL i env=true):a9 i m env=.next (env.set i (some v)):=by
 unfold a9;rw[h];simp[hl,ho]
theorem aT{m:ME}(h:m env=.ok v)(hl:v.noLnt=true):ba m env=.ret v:=by unfold ba;rw[h];simp[hl]
theorem gN(h:env[i]?=some (some v)):dH i env=.ret v:=by unfold dH;rw[h]
theorem fE{m:ME}(h:m env=.ok v):f_ m env=.next env:=by unfold f_;rw[h]
theorem aw:aP env=.next env:=rfl
theorem bp{m:ME}{k c:Nat}{ks:List Nat}{vs:List PV}(h:m env=.ok v)(ho:env[i]?=some (some (.obj .own c ks vs)))(hl:v.noLnt=true)(hk:ks.contains k=false)(hn:ks.length < 900) :
  eT i k m env=.next (env.set i (some (.obj .own c (ks++[k]) (vs++[v])))):=by
 unfold eT;rw[h,ho];simp only[hl,hk];simp[hn]
theorem dR{m:ME}{xs:List PV}(h:m env=.ok v)(ho:env[i]?=some (some (.lst .own xs)))(hl:v.noLnt=true)(hn:xs.length < 10000000):cM i m env=.next (env.set i (some (.lst .own (xs++[v])))):=by
 unfold cM;rw[h,ho];simp[hl,hn]
theorem mL{mk m:ME}{xs:List PV}{j:Int}{n:Nat}(h:m env=.ok v)(ho:env[i]?=some (some (.lst .own xs)))(hk:mk env=.ok (.int j))(hj:ixN xs.length j=some n)(hl:v.noLnt=true) :
  gU i mk m env=.next (env.set i (some (.lst .own (xs.set n v)))):=by
 unfold gU;rw[h,ho,hk];simp[hj,hl]
theorem eJ(h:env[i]?=some (some v)):gA i env=.next (env.set i (some (v.mapF Fl.freeze))):=by unfold gA;rw[h]
theorem az{n:Nat}{m:MS}{args:List PV}(h:m (args.map some++List.replicate (n - args.length) none)=.ret v):bj n m args=.ok v:=by unfold bj;rw[h]
theorem kq{n:Nat}{m:MS}{args:List PV}(h:m (args.map some++List.replicate (n - args.length) none)=.next e):bj n m args=.ok .non:=by unfold bj;rw[h]
theorem bT{n:Nat}{m:MS}{args:List PV}(h:m (args.map some++List.replicate (n - args.length) none)=.next e)(ho:e[0]?=some (some v)):gy n m args=.ok v:=by unfold gy;rw[h];simp[ho]
theorem iz{it:MI}{g:TgM}{body:MS}{xs:List PV}(P:Nat→En→Prop)(h:it env=.ok xs)(h0:P 0 env)
  (step:∀(k:Nat) (x:PV) (e:En),xs[k]?=some x→P k e→∃e1 e2,g x e=some e1∧(body e1=.next e2∨body e1=.cont e2)∧P (k+1) e2):∃e2,cj it g body env=.next e2∧P xs.length e2:=by
 unfold cj
 rw[h]
 dsimp only
 have key:∀ (ys pre:List PV) (e:En),pre ++ ys=xs→P pre.length e→∃ e2,j5 (fun x e=>match g x e with
  | some e'=>body e'
  | none=>.stuck) ys e=.next e2∧P xs.length e2:=by
  intro ys
  induction ys with
  | nil=>intro pre e hp hP;simp at hp;subst hp;exact⟨e,rfl,hP⟩
  | cons y ys ih =>
   intro pre e hp hP
   obtain⟨e1,e2,h1,h2,h3⟩:=step pre.length y e (by rw[← hp];simp) hP
   obtain⟨e3,h4,h5⟩:=ih (pre++[y]) e2 (by rw[← hp];simp) (by simpa using h3)
   refine⟨e3,?_,h5⟩
   unfold j5
   simp only[h1]
   rcases h2 with h2 | h2<;>rw[h2]<;>exact h4
 exact key xs [] env rfl h0
theorem iy{it:MI}{g:TgM}{body:MS}{xs:List PV}(P:Nat→En→Prop)(R:Out→Prop)(h:it env=.ok xs)(h0:P 0 env)
  (step:∀(k:Nat) (x:PV) (e:En),xs[k]?=some x→P k e→∃e1,g x e=some e1∧((∃e2,(body e1=.next e2∨body e1=.cont e2)∧P (k+1) e2)∨(∃e2,body e1=.brk e2∧R (.next e2))∨(∃v,body e1=.ret v∧R (.ret v))∨ ∃c e2,body e1=.exc c e2∧R (.exc c e2)))
  (fin:∀e,P xs.length e→R (.next e)):R (cj it g body env):=by
 unfold cj
 rw[h]
 dsimp only
 have key:∀ (ys pre:List PV) (e:En),pre ++ ys=xs→P pre.length e→R (j5 (fun x e=>match g x e with
  | some e'=>body e'
  | none=>.stuck) ys e):=by
  intro ys
  induction ys with
  | nil=>intro pre e hp hP;simp at hp;subst hp;exact fin e hP
  | cons y ys ih =>
   intro pre e hp hP
   obtain⟨e1,h1,h2⟩:=step pre.length y e (by rw[← hp];simp) hP
   unfold j5
   simp only[h1]
   rcases h2 with⟨e2,h2,h3⟩ |⟨e2,h2,h3⟩ |⟨v,h2,h3⟩ |⟨c,e2,h2,h3⟩
   ·have:=ih (pre++[y]) e2 (by rw[← hp];simp) (by simpa using h3)
    rcases h2 with h2 | h2<;>rw[h2]<;>exact this
   ·rw[h2];exact h3
   ·rw[h2];exact h3
   ·rw[h2];exact h3
 exact key xs [] env rfl h0
theorem aO{caps:List Nat}{k:Nat}{mi:MI}{g:TgM}{mc:MT}{me:ME}{xs ys:List PV}(h:mi env=.ok xs)(hl:xs.length≤10000000)(hc:cz g mc me (bC caps k env) xs=.ok ys):aX caps k mi g mc me env=.ok (.lst .own ys):=by
 unfold aX;rw[h];simp only[Res.ok_bind,hl,if_true,hc]
theorem aY{g:TgM}{me:ME}{α:Type}{a:α→PV}{f:α→PV}:∀(xs:List α),(∀x∈xs,∃e1,g (a x).borrow env=some e1∧me e1=.ok (f x)∧(f x).has Fl.isBor=false∧(f x).has Fl.isLnt=false)→
  cz g bB me env (xs.map a)=.ok (xs.map f)
 | [],_=>rfl
 | x::xs,h=>by
  obtain⟨e1,h1,h2,h3,h4⟩:=h x List.mem_cons_self
  rw[List.map_cons,cz,h1]
  simp only[xN,Res.ok_bind,if_true,h2,h3,h4,Bool.or_self,Bool.false_eq_true,if_false,aY xs fun y hy=>h y (List.mem_cons_of_mem _ hy)]
  rfl
theorem cm{g:TgM}{mc:MT}{me:ME}{α:Type}{a:α→PV}{f:α→PV}{p:α→Bool}:∀(xs:List α),(∀x∈xs,∃e1,g (a x).borrow env=some e1∧mc e1=.ok (p x)∧(p x=true→me e1=.ok (f x)∧(f x).has Fl.isBor=false∧(f x).has Fl.isLnt=false))→
  cz g mc me env (xs.map a)=.ok ((xs.filter p).map f)
 | [],_=>rfl
 | x::xs,h=>by
  obtain⟨e1,h1,h2,h3⟩:=h x List.mem_cons_self
  have ih:=cm (g:=g) (mc:=mc) (me:=me) (a:=a) (f:=f) (p:=p) xs fun y hy=>h y (List.mem_cons_of_mem _ hy)
  rw[List.map_cons,cz,h1]
  cases hp:p x with
  | true =>
   obtain⟨h4,h5,h6⟩:=h3 hp
   simp only[h2,hp,Res.ok_bind,if_true,h4,h5,h6,Bool.or_self,Bool.false_eq_true,if_false,ih]
   rw[List.filter_cons_of_pos hp]
   rfl
  | false =>
   simp only[h2,hp,Res.ok_bind,Bool.false_eq_true,if_false,ih]
   rw[List.filter_cons_of_neg (by simp[hp])]
end
def iL(ns:List Int):List PV:=ns.map .int
theorem uy(ns:List Int):ns.map PV.int=iL ns:=rfl
section
variable(ns ms:List Int)(g:Fl→Fl)(p:Fl→Bool)
@[simp] theorem CZ:iL []=[]:=rfl
@[simp] theorem dQ(n:Int):iL (n::ns)=.int n::iL ns:=rfl
@[simp] theorem bf:(iL ns).length=ns.length:=by simp[iL]
@[simp] theorem C0:iL ns++iL ms=iL (ns++ms):=by simp[iL]
@[simp] theorem rJ(k:Nat):(iL ns).drop k=iL (ns.drop k):=by simp[iL]
@[simp] theorem rH(k:Nat):(iL ns).take k=iL (ns.take k):=by simp[iL]
@[simp] theorem ux(k:Nat):(iL ns)[k]?=(ns[k]?).map .int:=by simp[iL]
@[simp] theorem nC(k:Nat)(n:Int):(iL ns).set k (.int n)=iL (ns.set k n):=by simp[iL,List.map_set]
@[simp] theorem kD:mapL g (iL ns)=iL ns:=by
 induction ns with
 | nil=>rfl
 | cons n ns ih=>simp[mapL,PV.mapF,ih]
@[simp] theorem BI:hasL p (iL ns)=false:=by
 induction ns with
 | nil=>rfl
 | cons n ns ih=>simp[hasL,PV.has,ih]
@[simp] theorem BL:PyData.canLayAll0 (dataL (iL ns))=true:=by
 induction ns with
 | nil=>rfl
 | cons n ns ih=>simp only[dQ,dataL,PV.data,PyData.canLayAll0,ih];rfl
@[simp] theorem BK:PyData.depthAll (dataL (iL ns))=0:=by
 induction ns with
 | nil=>rfl
 | cons n ns ih=>simp only[dQ,dataL,PV.data,PyData.depthAll,ih];rfl
@[simp] theorem g_(i:Int):shp (.int i)=true:=rfl
@[simp] theorem D3(b:Bool):shp (.bl b)=true:=rfl
@[simp] theorem Dn:shp .non=true:=rfl
@[simp] theorem mJ(f:Fl):shp (.lst f (iL ns))=true:=by
 simp[shp,SeqAt.shaped,PV.data,PyData.canLay0,PyData.depth]
@[simp] theorem ki:(iL ns).all shp=true:=by
 induction ns with
 | nil=>rfl
 | cons n ns ih=>simp only[dQ,List.all_cons,g_,ih];rfl
mutual
theorem jP:∀d:PyData,d.canLay0=true→PyData.eqv d d=true
 | .none,_=>rfl
 | .bool b,_=>by simp[PyData.eqv]
 | .int b,_=>by simp[PyData.eqv]
 | .str b,_=>by simp[PyData.eqv]
 | .list xs,h=>by
  simp only[PyData.canLay0]at h
  simp only[PyData.eqv]
  exact eqvL_self xs h
 | .tuple xs,h=>by
  simp only[PyData.canLay0]at h
  simp only[PyData.eqv]
  exact eqvL_self xs h
 | .dict xs,h=>by simp[PyData.canLay0]at h
theorem eqvL_self:∀ds:List PyData,PyData.canLayAll0 ds=true→PyData.eqvAll ds ds=true
 | [],_=>rfl
 | d::ds,h=>by
  simp only[PyData.canLayAll0,Bool.and_eq_true]at h
  simp only[PyData.eqvAll,jP d h.1,eqvL_self ds h.2]
  rfl
end
theorem xS{x y:PV}(h:x.data=y.data)(hs:shp x=true):pEq x y=.ok (.bl true):=by
 have hy:shp y=true:=by unfold shp at hs ⊢;rw[← h];exact hs
 have hc:=SeqAt.canLay_of_shaped hs
 unfold pEq
 rw[hs,hy,← h,jP _ hc]
 rfl
theorem xl{x y:PV}(h:x.data=y.data)(hs:shp x=true):pNe x y=.ok (.bl false):=by
 have hy:shp y=true:=by unfold shp at hs ⊢;rw[← h];exact hs
 have hc:=SeqAt.canLay_of_shaped hs
 unfold pNe
 rw[hs,hy,← h,jP _ hc]
 rfl
@[simp] theorem Eu(i j:Int):pEq (.int i) (.int j)=.ok (.bl (decide (i=j))):=by
 unfold pEq
 simp only[g_,Bool.and_self,if_true,PV.data,PyData.eqv]
 congr 2
@[simp] theorem Ed(i j:Int):pNe (.int i) (.int j)=.ok (.bl (!decide (i=j))):=by
 unfold pNe
 simp only[g_,Bool.and_self,if_true,PV.data,PyData.eqv]
 congr 2
@[simp] theorem EN(i j:Bool):pEq (.bl i) (.bl j)=.ok (.bl (decide (i=j))):=by cases i<;>cases j<;>rfl
@[simp] theorem EJ(i j:Bool):pNe (.bl i) (.bl j)=.ok (.bl (!decide (i=j))):=by cases i<;>cases j<;>rfl
theorem kN:PyData.eqvAll (dataL (iL ns)) (dataL (iL ms))=decide (ns=ms):=by
 induction ns generalizing ms with
 | nil=>cases ms<;>simp[dataL,PyData.eqvAll]
 | cons n ns ih =>
  cases ms with
  | nil=>simp[dataL,PyData.eqvAll]
  | cons m ms=>simp only[dQ,dataL,PV.data,PyData.eqvAll,PyData.eqv,ih];by_cases h:n=m<;>simp[h]
@[simp] theorem DS(f f':Fl):pEq (.lst f (iL ns)) (.lst f' (iL ms))=.ok (.bl (decide (ns=ms))):=by
 unfold pEq
 simp only[mJ,Bool.and_self,if_true,PV.data,PyData.eqv,kN]
@[simp] theorem Du(f f':Fl):pNe (.lst f (iL ns)) (.lst f' (iL ms))=.ok (.bl (!decide (ns=ms))):=by
 unfold pNe
 simp only[mJ,Bool.and_self,if_true,PV.data,PyData.eqv,kN]
@[simp] theorem lt_int(i j:Int):pLt (.int i) (.int j)=.ok (.bl (decide (i < j))):=rfl
@[simp] theorem Eg(i j:Int):pLe (.int i) (.int j)=.ok (.bl (decide (i≤j))):=rfl
@[simp] theorem gt_int(i j:Int):pGt (.int i) (.int j)=.ok (.bl (decide (j < i))):=rfl
@[simp] theorem ge_int(i j:Int):pGe (.int i) (.int j)=.ok (.bl (decide (j≤i))):=rfl
@[simp] theorem B7(i j:Int):aK (.int i) (.int j)=.ok (.int (i+j)):=rfl
@[simp] theorem sub_int(i j:Int):lD (.int i) (.int j)=.ok (.int (i - j)):=rfl
@[simp] theorem neg_int(i:Int):D6 (.int i)=.ok (.int (-i)):=rfl
theorem a5{i j:Int}(h:0 < j):bM (.int i) (.int j)=.ok (.int (i % j)):=by simp[bM,dD,h]
theorem eM{i j:Int}(h:0 < j)(h2:j < 1073741824):cZ (.int i) (.int j)=.ok (.int (i / j)):=by simp[cZ,dD,h,h2]
theorem fu{i j:Int}(h:(-(2 ^ 64) < i∧i < 2 ^ 64)∨(-(2 ^ 64) < j∧j < 2 ^ 64)):dU (.int i) (.int j)=.ok (.int (i * j)):=by
 unfold dU dD
 dsimp only
 rw[if_pos (by simpa using h)]
theorem tm{i j:Int}(h0:0≤j)(h1:j≤1000000)(h2:i.natAbs < 2 ^ 64):lE (.int i) (.int j)=.ok (.int (i ^ j.toNat)):=by
 unfold lE dD
 dsimp only
 rw[if_pos (by simp only[decide_eq_true_eq];exact⟨h0,h1,h2⟩)]
@[simp] theorem EH:lE (.int 10) (.int 60)=.ok (.int (10 ^ 60)):=tm (by decide) (by decide) (by decide)
@[simp] theorem DB(f:Fl)(xs:List PV):cL (.lst f xs)=.ok (.int xs.length):=rfl
@[simp] theorem DA(xs:List PV):cL (.tup xs)=.ok (.int xs.length):=rfl
@[simp] theorem CQ(f:Fl)(xs:List PV):dw (.lst f xs)=.ok (.lst .own xs):=rfl
@[simp] theorem D8(f:PV→Res PV)(x:PV):p1 f [x]=f x:=by simp only[p1]
@[simp] theorem DF(c:String)(i:Int):m6 c (.int i)=.ok (.bl (j4 "int" c)):=rfl
@[simp] theorem Ei(c:String)(i:Bool):m6 c (.bl i)=.ok (.bl (j4 "bool" c)):=rfl
@[simp] theorem DD(c:String):m6 c .non=.ok (.bl (j4 "NoneType" c)):=rfl
@[simp] theorem DE(c:String)(f:Fl)(xs:List PV):m6 c (.lst f xs)=.ok (.bl (j4 "list" c)):=rfl
@[simp] theorem DC(c:String)(xs:List PV):m6 c (.tup xs)=.ok (.bl (j4 "tuple" c)):=rfl
@[simp] theorem BP(b:Bool):lB (.bl b)=.ok b:=rfl
@[simp] theorem Bm(i:Int):lB (.int i)=.ok (i != 0):=rfl
@[simp] theorem CO(i:Int):(PV.int i).mapF g=.int i:=by simp[PV.mapF]
@[simp] theorem Dx(b:Bool):(PV.bl b).mapF g=.bl b:=by simp[PV.mapF]
@[simp] theorem CL:PV.non.mapF g=.non:=by simp[PV.mapF]
@[simp] theorem CJ(x:Str):(PV.str x).mapF g=.str x:=by simp[PV.mapF]
@[simp] theorem CP(x:Nat):(PV.exc x).mapF g=.exc x:=by simp[PV.mapF]
@[simp] theorem CM(f:Fl)(xs:List PV):(PV.lst f xs).mapF g=.lst (g f) (mapL g xs):=by simp[PV.mapF]
@[simp] theorem CI(xs:List PV):(PV.tup xs).mapF g=.tup (mapL g xs):=by simp[PV.mapF]
@[simp] theorem CK(f:Fl)(c:Nat)(ks:List Nat)(xs:List PV):(PV.obj f c ks xs).mapF g=.obj (g f) c ks (mapL g xs):=by simp[PV.mapF]
@[simp] theorem uk:mapL g []=[]:=by simp[mapL]
@[simp] theorem rz(x:PV)(xs:List PV):mapL g (x::xs)=x.mapF g::mapL g xs:=by simp[mapL]
@[simp] theorem DN(i:Int):(PV.int i).has p=false:=by simp[PV.has]
@[simp] theorem Ek(b:Bool):(PV.bl b).has p=false:=by simp[PV.has]
@[simp] theorem DL:PV.non.has p=false:=by simp[PV.has]
@[simp] theorem DJ(x:Str):(PV.str x).has p=false:=by simp[PV.has]
@[simp] theorem DO(x:Nat):(PV.exc x).has p=false:=by simp[PV.has]
@[simp] theorem DM(f:Fl)(xs:List PV):(PV.lst f xs).has p=(p f||hasL p xs):=by simp[PV.has]
@[simp] theorem DI(xs:List PV):(PV.tup xs).has p=hasL p xs:=by simp[PV.has]
@[simp] theorem DK(f:Fl)(c:Nat)(ks:List Nat)(xs:List PV):(PV.obj f c ks xs).has p=(p f||hasL p xs):=by simp[PV.has]
@[simp] theorem C6:hasL p []=false:=by simp[hasL]
@[simp] theorem BJ(x:PV)(xs:List PV):hasL p (x::xs)=(x.has p||hasL p xs):=by simp[hasL]
@[simp] theorem CF(x:PV):x.noLnt=!x.has Fl.isLnt:=rfl
@[simp] theorem BM(x:PV):x.borrow=x.mapF Fl.borrow:=rfl
@[simp] theorem CS:Fl.own.lend=.lnt:=rfl
@[simp] theorem CU:Fl.frz.lend=.frz:=rfl
@[simp] theorem CV:Fl.bor.lend=.bor:=rfl
@[simp] theorem CT:Fl.lnt.lend=.lnt:=rfl
@[simp] theorem Bo:Fl.own.toBor=.own:=rfl
@[simp] theorem Bq:Fl.frz.toBor=.frz:=rfl
@[simp] theorem Br:Fl.bor.toBor=.bor:=rfl
@[simp] theorem Bp:Fl.lnt.toBor=.bor:=rfl
@[simp] theorem yE:Fl.own.borrow=.bor:=rfl
@[simp] theorem AJ:Fl.frz.borrow=.frz:=rfl
@[simp] theorem AK:Fl.bor.borrow=.bor:=rfl
@[simp] theorem AI:Fl.lnt.borrow=.bor:=rfl
@[simp] theorem Bv:Fl.own.isOwn=true:=rfl
@[simp] theorem By:Fl.frz.isOwn=false:=rfl
@[simp] theorem Bz:Fl.bor.isOwn=false:=rfl
@[simp] theorem Bw:Fl.lnt.isOwn=false:=rfl
@[simp] theorem BA:Fl.own.isLnt=false:=rfl
@[simp] theorem BC:Fl.frz.isLnt=false:=rfl
@[simp] theorem BD:Fl.bor.isLnt=false:=rfl
@[simp] theorem BB:Fl.lnt.isLnt=true:=rfl
@[simp] theorem BE:Fl.own.isBor=false:=rfl
@[simp] theorem BG:Fl.frz.isBor=false:=rfl
@[simp] theorem BH:Fl.bor.isBor=true:=rfl
@[simp] theorem BF:Fl.lnt.isBor=false:=rfl
@[simp] theorem Ab:Fl.own.freeze=.frz:=rfl
@[simp] theorem Ad:Fl.frz.freeze=.frz:=rfl
@[simp] theorem Ae:Fl.bor.freeze=.bor:=rfl
@[simp] theorem Ac:Fl.lnt.freeze=.lnt:=rfl
theorem gc{f:Fl}{i:Int}{n:Int}(h0:0≤i)(h:ns[i.toNat]?=some n):aN (.lst f (iL ns)) (.int i)=.ok (.int n):=by
 have hl:i.toNat < ns.length:=(List.getElem?_eq_some_iff.mp h).1
 unfold aN
 simp only[aQ,atI,ixN,bf,h0,if_true]
 rw[if_pos (by omega)]
 simp[h]
end
section
variable{env:En}{r:Out}
def iU(o:Out)(Q:En→Prop):Prop:=∃e,(o=.next e∨o=.cont e)∧Q e
theorem cP{a b:MS}{e:En}{Q:En→Prop}(h1:a env=.next e)(h2:iU (b e) Q):iU (au a b env) Q:=by
 obtain⟨e2,h3,h4⟩:=h2
 refine⟨e2,?_,h4⟩
 unfold au
 rw[h1]
 exact h3
theorem bJ{o:Out}{e:En}{Q:En→Prop}(h1:o=.next e)(h2:Q e):iU o Q:=⟨e,.inl h1,h2⟩
theorem eU{it:MI}{g:TgM}{body:MS}{xs:List PV}(P:Nat→En→Prop){Q:En→Prop}(h:it env=.ok xs)(h0:P 0 env)
  (step:∀(k:Nat) (x:PV) (e:En),xs[k]?=some x→P k e→∃e1,g x e=some e1∧iU (body e1) (P (k+1))) (fin:∀e,P xs.length e→Q e):iU (cj it g body env) Q:=by
 obtain⟨e2,h1,h2⟩:=iz P h h0 fun k x e h1 h2=>by
  obtain⟨e1,h3,e2,h4,h5⟩:=step k x e h1 h2
  exact⟨e1,e2,h3,h4,h5⟩
 exact⟨e2,.inl h1,fin e2 h2⟩
theorem lq{it:MI}{g:TgM}{body bw:MS}{xs:List PV}(P:Nat→En→Prop)(h:it env=.ok xs)(h0:P 0 env)
  (step:∀(k:Nat) (x:PV) (e:En),xs[k]?=some x→P k e→∃e1,g x e=some e1∧iU (body e1) (P (k+1))) (fin:∀e,P xs.length e→bw e=r):au (cj it g body) bw env=r:=by
 obtain⟨e2,h1,h2⟩:=iz P h h0 fun k x e h1 h2=>by
  obtain⟨e1,h3,e2,h4,h5⟩:=step k x e h1 h2
  exact⟨e1,e2,h3,h4,h5⟩
 exact af h1 (fin e2 h2)
theorem oU{i:Int}(h:-1000000≤i∧i≤1000000):inR i=true:=by
 have e:(2:Int) ^ 62=4611686018427387904:=by decide
 unfold inR
 rw[decide_eq_true_eq,e]
 omega
theorem wB{n:Int}(hi:inR n=true){ms:MA}(h:ms env=.ok [.int n]):bH ms env=.ok (bU 0 n.toNat):=by
 unfold bH
 rw[h,Res.ok_bind]
 dsimp only
 rw[if_pos hi]
theorem sR{n:Nat}(hi:inR (n:Int)=true){ms:MA}(h:ms env=.ok [.int n]):bH ms env=.ok (bU 0 n):=by
 have:=wB hi h
 rw[Int.toNat_natCast]at this
 exact this
theorem zX{n:Nat}(hn:n≤1000000):-1000000 ≤(n:Int)∧(n:Int)≤ 1000000:=by omega
theorem bD{ms:MA}{n:Nat}(h:ms env=.ok [.int n])(hn:n≤1000000):bH ms env=.ok (bU 0 n):=sR (oU (zX hn)) h
theorem wA{lo hi:Int}(hh:(inR lo&&inR hi)=true){ms:MA}(h:ms env=.ok [.int lo,.int hi]):kE ms env=.ok (bU lo (hi - lo).toNat):=by
 unfold kE
 rw[h,Res.ok_bind]
 dsimp only
 rw[if_pos hh]
theorem wz{ms:MA}{lo hi:Int}(h:ms env=.ok [.int lo,.int hi])(hl:-1000000≤lo∧lo≤1000000)(hh:-1000000≤hi∧hi≤1000000):kE ms env=.ok (bU lo (hi - lo).toNat) :=
 wA (by rw[oU hl,oU hh];rfl) h
theorem aW(lo:Int)(n:Nat):(bU lo n).length=n:=by simp[bU]
theorem ce{lo:Int}{n k:Nat}{x:PV}(h:(bU lo n)[k]?=some x):k < n∧x=.int (lo+k):=by
 have hk:k < n:=by
  have:=(List.getElem?_eq_some_iff.mp h).1
  rwa [aW]at this
 refine⟨hk,?_⟩
 simp[bU,hk]at h
 exact h.symm
theorem lV{ns:List Int}{k:Nat}{x:PV}(h:(iL ns)[k]?=some x):∃n,ns[k]?=some n∧x=.int n:=by
 simp at h
 obtain⟨n,h1,h2⟩:=h
 exact⟨n,h1,h2.symm⟩
theorem b5{i:Nat}{v:PV}{e:En}(h:aL i e=true):tgN i v e=some (e.set i (some v)):=by simp[tgN,h]
end
theorem AF(ns:List Int)(lo hi:Nat){l h:Int}(hl:l=lo)(hh:h=hi):iS (iL ns) (some l) (some h)=iL ((ns.take hi).drop lo):=by
 subst hl hh
 unfold iS
 rw[HT.sIx_nat,HT.sIx_nat]
 simp only[bf,rJ,rH]
 congr 1
 rw[List.drop_take]
 rcases Nat.le_total lo ns.length with h1 | h1
 ·rw[Nat.min_eq_left h1]
  rcases Nat.le_total hi ns.length with h2 | h2
  ·rw[Nat.min_eq_left h2]
  ·rw[Nat.min_eq_right h2,List.take_of_length_le (by simp),List.take_of_length_le (by simp;omega)]
 ·rw[Nat.min_eq_right h1,List.drop_eq_nil_of_le (Nat.le_refl _),List.drop_eq_nil_of_le h1]
  simp
theorem fY{f g:Fl}{xs ys:List PV}(hf:f≠.mod)(hg:g≠.mod)(h:xs.length+ys.length≤10000000):aK (.lst f xs) (.lst g ys)=.ok (.lst .own (xs++ys)):=by
 unfold aK
 dsimp only
 rw[if_neg (by simp only[hf,hg,h,not_true_eq_false,or_self,not_false_eq_true])]
theorem lS{n k:Nat}(h:k < n):ixN n (k:Int)=some k:=by
 unfold ixN
 rw[if_pos (by omega),if_pos (by omega),Int.toNat_natCast]
end PR
namespace PR
open PySem PySem.Spec L2
def llL(f:Fl)(xss:List (List Int)):List PV:=xss.map fun xs=>.lst f (iL xs)
section
variable(xss yss:List (List Int))(g:Fl→Fl)(p:Fl→Bool)(f:Fl)
@[simp] theorem Dy:llL f []=[]:=rfl
@[simp] theorem gb(xs:List Int):llL f (xs::xss)=.lst f (iL xs)::llL f xss:=rfl
@[simp] theorem fw:(llL f xss).length=xss.length:=by simp[llL]
@[simp] theorem Dz:llL f xss++llL f yss=llL f (xss++yss):=by simp[llL]
@[simp] theorem CH:mapL g (llL f xss)=llL (g f) xss:=by
 induction xss with
 | nil=>rfl
 | cons n ns ih=>simp[ih]
theorem cO(h:p f=false):hasL p (llL f xss)=false:=by
 induction xss with
 | nil=>rfl
 | cons n ns ih=>simp[ih,h]
theorem pZ{k:Nat}{x:PV}(h:(llL f xss)[k]?=some x):∃xs,xss[k]?=some xs∧x=.lst f (iL xs):=by
 simp[llL]at h
 obtain⟨n,h1,h2⟩:=h
 exact⟨n,h1,h2.symm⟩
end
theorem y4(lo:Int)(n:Nat):bU lo n=iL ((List.range n).map fun k=>lo+(k:Nat)):=by simp[bU,iL]
def ss(n:Nat):List Int:=(List.range n).map fun(k:Nat)=>(k:Int)
@[simp] theorem BO(n:Nat):(ss n).length=n:=by simp[ss]
theorem sQ(n:Nat):bU 0 n=iL (ss n):=by rw[y4];simp[ss]
@[simp] theorem Bu{n:Nat}(h:n≤1000000):pL [.int n]=.ok (.lst .own (iL (ss n))):=by
 unfold pL
 dsimp only
 rw[if_pos (by simp;omega),Int.toNat_natCast,sQ]
@[simp] theorem Ej(b c:Bool):q_ (.bl b) (.bl c)=.ok (.bl (b==c)):=rfl
@[simp] theorem Dt(b c:Bool):iY (.bl b) (.bl c)=.ok (.bl (!(b==c))):=rfl
@[simp] theorem gx(ns:List Int):bE (iL ns)=some ns:=by
 induction ns with
 | nil=>rfl
 | cons n ns ih=>simp[bE,ih]
theorem kF{ns:List Int}{f:Fl}(h:ns.length≤1000):gw (.lst f (iL ns))=.ok (.int (kO ns)):=by
 unfold gw
 simp only[gx]
 rw[if_pos (by simpa using h)]
theorem qr:∀(l acc:List Int),(acc++l).Nodup→l.foldl PyProof.Rows.step_dedup acc=acc++l
 | [],acc,_=>by simp
 | x::l,acc,h=>by
  have h':((acc++[x])++ l).Nodup:=by simpa using h
  rw[List.foldl_cons]
  have hx:x∉acc:=fun hm=>by
   rw[List.nodup_append]at h
   exact h.2.2 x hm x List.mem_cons_self rfl
  have:PyProof.Rows.step_dedup acc x=acc++[x]:=by
   unfold PyProof.Rows.step_dedup
   rw[if_neg]
   simpa using hx
  rw[this,qr l _ h']
  simp
theorem xZ(ns:List Int):(List.range ns.length).map (fun i=>ns.getD i 0)=ns:=by
 apply List.ext_getElem?
 intro i
 by_cases h:i < ns.length
 ·simp[h]
 ·simp[h]
theorem nP{ns:List Int}(h:ns.Nodup):kO ns=ns.length:=by
 unfold kO PyProof.Rows.firstMet
 rw[xZ,qr ns [] (by simpa using h)]
 rfl
theorem qb(i:Int)(ns:List Int):inL (.int i) (iL ns)=ns.contains i:=by
 induction ns with
 | nil=>rfl
 | cons n ns ih =>
  have e:inL (.int i) (iL (n::ns))=(PyData.eqv (PV.int n).data (PV.int i).data||inL (.int i) (iL ns)):=rfl
  rw[e,ih,List.contains_cons]
  congr 1
  simp only[PV.data,PyData.eqv]
  exact Bool.beq_comm
@[simp] theorem EM(i:Int)(ns:List Int)(f:Fl):pIn (.int i) (.lst f (iL ns))=.ok (.bl (ns.contains i)):=by
 unfold pIn
 simp only[aQ,g_,ki,Bool.and_self,if_true,qb]
@[simp] theorem CD(i:Int)(ns:List Int)(f:Fl):gQ (.int i) (.lst f (iL ns))=.ok (.bl (!ns.contains i)):=by
 unfold gQ
 simp only[aQ,g_,ki,Bool.and_self,if_true,qb]
def Ends(o:Out):Prop:=∃e,o=.next e
section
variable{env e:En}
theorem eP{n:Nat}{m:MS}{args:List PV}(h:Ends (m (args.map some++List.replicate (n - args.length) none))):bj n m args=.ok .non:=by
 obtain⟨e,h⟩:=h
 exact kq h
theorem gj{a b:MS}(h1:a env=.next e)(h2:Ends (b e)):Ends (au a b env):=by
 obtain⟨e2,h2⟩:=h2
 exact⟨e2,af h1 h2⟩
theorem rT{o:Out}(h:o=.next e):Ends o:=⟨e,h⟩
theorem u_{it:MI}{g:TgM}{body bw:MS}{xs:List PV}(P:Nat→En→Prop)(h:it env=.ok xs)(h0:P 0 env)
  (step:∀(k:Nat) (x:PV) (e:En),xs[k]?=some x→P k e→∃e1,g x e=some e1∧iU (body e1) (P (k+1))) (fin:∀e,P xs.length e→Ends (bw e)):Ends (au (cj it g body) bw env):=by
 obtain⟨e2,h1,h2⟩:=iz P h h0 fun k x e h1 h2=>by
  obtain⟨e1,h3,e2,h4,h5⟩:=step k x e h1 h2
  exact⟨e1,e2,h3,h4,h5⟩
 exact gj h1 (fin e2 h2)
end
theorem dv{m:ME}{env:En}{f:Fl}{xs:List PV}(h:m env=.ok (.lst f xs))(hf:f.isLnt=false)(h1:hasL Fl.isOwn xs=false)(h2:hasL Fl.isLnt xs=false):dW m env=.ok xs:=by
 unfold dW
 rw[h]
 simp[hf,dN,h1,h2]
end PR
namespace PR
section
variable{n r s k o:Nat}{adj:Nat→Nat→Prop}{far:List Int}
def gt(far:List Int)(i:Nat):Int:=far.getD i 0
theorem uC{far:List Int}{o:Nat}(x:Int)(h:o < far.length)(i:Nat):gt (far.set o x) i=if i=o then x else gt far i:=by
 simp only[gt,List.getD_eq_getElem?_getD,List.getElem?_set]
 by_cases e:o=i
 ·subst e;simp[h]
 ·rw[if_neg e,if_neg (Ne.symm e)]
structure Far(n r:Nat)(adj:Nat→Nat→Prop)(s k:Nat)(d:Nat→Prop)(far:List Int):Prop where
 len:far.length=n
 rt:gt far r=0
 rng:∀i < n,0≤gt far i∧(gt far i≤s+1∨gt far i=n)
 top:∀i < n,gt far i≤n
 up:∀i < n,∀j < n,gt far i < s→adj i j→gt far j≤gt far i+1
 upk:∀i < k,∀j < n,gt far i=s→adj i j→gt far j≤s+1
 upd:∀j < n,d j→gt far j≤s+1
 dn:∀i < n,i≠r→gt far i < n→1≤gt far i∧∃j < n,adj i j∧gt far j=gt far i - 1
theorem Far.start(hr:r < n)(h:∀i < n,gt far i=if i=r then 0 else(n:Int))(hl:far.length=n):Far n r adj 0 0 (fun _=>False) far where
 len:=hl
 rt:=by rw[h r hr,if_pos rfl]
 rng:=fun i hi=>by rw[h i hi];split<;>omega
 top:=fun i hi=>by rw[h i hi];split<;>omega
 up:=fun i hi j _ hv _=>by
  have:=h i hi
  split at this<;>omega
 upk:=fun i hi=>absurd hi (Nat.not_lt_zero _)
 upd:=fun _ _ z=>z.elim
 dn:=fun i hi hn hv=>by
  rw[h i hi,if_neg hn]at hv
  omega
theorem Far.skip(F:Far n r adj s k (fun _=>False) far)(hk:gt far k≠s):Far n r adj s (k+1) (fun _=>False) far where
 len:=F.len
 rt:=F.rt
 rng:=F.rng
 top:=F.top
 up:=F.up
 upk:=fun i hi j hj e a=>by
  rcases Nat.lt_or_ge i k with h | h
  ·exact F.upk i h j hj e a
  ·have:i=k:=by omega
   subst this
   exact absurd e hk
 upd:=F.upd
 dn:=F.dn
theorem Far.close{d:Nat→Prop}(F:Far n r adj s k d far)(hd:∀j,j < n→adj k j→d j):Far n r adj s (k+1) (fun _=>False) far where
 len:=F.len
 rt:=F.rt
 rng:=F.rng
 top:=F.top
 up:=F.up
 upk:=fun i hi j hj e a=>by
  rcases Nat.lt_or_ge i k with h | h
  ·exact F.upk i h j hj e a
  ·have:i=k:=by omega
   subst this
   exact F.upd j hj (hd j hj a)
 upd:=fun _ _ z=>z.elim
 dn:=F.dn
theorem Far.none{d:Nat→Prop}(F:Far n r adj s k (fun _=>False) far)(hd:∀j,¬d j):Far n r adj s k d far where
 len:=F.len
 rt:=F.rt
 rng:=F.rng
 top:=F.top
 up:=F.up
 upk:=F.upk
 upd:=fun j _ z=>absurd z (hd j)
 dn:=F.dn
theorem Far.relax{d:Nat→Prop}(F:Far n r adj s k d far)(hk:k < n)(ek:gt far k=s)(ho:o < n)(a:adj o k)(hs:s < n) :
  Far n r adj s k (fun j=>d j∨j=o) (far.set o (min (gt far o) (s+1)))∧gt (far.set o (min (gt far o) (s+1))) k=s:=by
 have hol:o < far.length:=by rw[F.len];exact ho
 have g:=uC (min (gt far o) ((s:Int)+1)) hol
 by_cases hw:gt far o≤s+1
 ·have e:∀i,gt (far.set o (min (gt far o) ((s:Int)+1))) i=gt far i:=fun i=>by
   rw[g i]
   split
   ·rename_i z;subst z;omega
   ·rfl
  refine⟨⟨by rw[List.length_set];exact F.len,by rw[e];exact F.rt,fun i hi=>by rw[e];exact F.rng i hi,fun i hi=>by rw[e];exact F.top i hi,fun i hi j hj=>by rw[e,e];exact F.up i hi j hj,fun i hi j hj=>by rw[e,e];exact F.upk i hi j hj,fun j hj z=>?_,fun i hi hn=>?_⟩,by rw[e];exact ek⟩
  ·rw[e]
   rcases z with z | z
   ·exact F.upd j hj z
   ·subst z;exact hw
  ·rw[e]
   intro hv
   obtain⟨h1,j,hj,aj,ej⟩:=F.dn i hi hn hv
   exact⟨h1,j,hj,aj,by rw[e];exact ej⟩
 ·have hn:gt far o=n:=by have:=(F.rng o ho).2;omega
  have hm:min (gt far o) ((s:Int)+1)=s+1:=by omega
  rw[hm]at g ⊢
  have hlt:(s:Int)+1 < n:=by omega
  have ko:k≠o:=fun z=>by subst z;omega
  have ro:r≠o:=fun z=>by subst z;have:=F.rt;omega
  have le:∀i,gt (far.set o ((s:Int)+1)) i≤gt far i:=fun i=>by
   rw[g i];split
   ·rename_i z;subst z;omega
   ·exact Int.le_refl _
  have ne:∀i,i≠o→gt (far.set o ((s:Int)+1)) i=gt far i:=fun i z=>by rw[g i,if_neg z]
  have eo:gt (far.set o ((s:Int)+1)) o=s+1:=by rw[g o,if_pos rfl]
  refine⟨⟨by rw[List.length_set];exact F.len,by rw[ne r ro];exact F.rt,fun i hi=>?_,fun i hi=>Int.le_trans (le i) (F.top i hi),fun i hi j hj hv aj=>?_,fun i hi j hj hv aj=>?_,fun j hj z=>?_,fun i hi hn' hv=>?_⟩,by rw[ne k ko];exact ek⟩
  ·by_cases z:i=o
   ·subst z;rw[eo];omega
   ·rw[ne i z];exact F.rng i hi
  ·have z:i≠o:=fun z=>by subst z;rw[eo]at hv;omega
   rw[ne i z]at hv ⊢
   exact Int.le_trans (le j) (F.up i hi j hj hv aj)
  ·have z:i≠o:=fun z=>by subst z;rw[eo]at hv;omega
   rw[ne i z]at hv
   exact Int.le_trans (le j) (F.upk i hi j hj hv aj)
  ·rcases z with z | z
   ·exact Int.le_trans (le j) (F.upd j hj z)
   ·subst z;rw[eo];exact Int.le_refl _
  ·by_cases z:i=o
   ·subst z
    rw[eo]
    exact⟨by omega,k,hk,a,by rw[ne k ko];omega⟩
   ·rw[ne i z]at hv ⊢
    obtain⟨h1,j,hj,aj,ej⟩:=F.dn i hi hn' hv
    refine⟨h1,j,hj,aj,?_⟩
    rw[ne j fun q=>by subst q;omega]
    exact ej
theorem Far.next(F:Far n r adj s n (fun _=>False) far):Far n r adj (s+1) 0 (fun _=>False) far where
 len:=F.len
 rt:=F.rt
 rng:=fun i hi=>by have:=F.rng i hi;omega
 top:=F.top
 up:=fun i hi j hj hv a=>by
  by_cases h:gt far i < s
  ·exact F.up i hi j hj h a
  ·have e:gt far i=s:=by omega
   have:=F.upk i hi j hj e a
   omega
 upk:=fun i hi=>absurd hi (Nat.not_lt_zero _)
 upd:=fun _ _ z=>z.elim
 dn:=F.dn
structure o_(n r:Nat)(adj:Nat→Nat→Prop)(far:List Int):Prop where
 len:far.length=n
 rt:gt far r=0
 rng:∀i < n,0≤gt far i∧gt far i≤n
 up:∀i < n,∀j < n,adj i j→gt far j≤gt far i+1
 dn:∀i < n,i≠r→gt far i < n→1≤gt far i∧∃j < n,adj i j∧gt far j=gt far i - 1
theorem Far.dist(F:Far n r adj n 0 (fun _=>False) far):o_ n r adj far where
 len:=F.len
 rt:=F.rt
 rng:=fun i hi=>⟨(F.rng i hi).1,F.top i hi⟩
 up:=fun i hi j hj a=>by
  by_cases h:gt far i < n
  ·exact F.up i hi j hj h a
  ·have:=F.top j hj;omega
 dn:=F.dn
theorem pP:∀{l l':List Int},l.Nodup→(∀x∈l,x∈l')→l.length≤l'.length
 | [],_,_,_=>Nat.zero_le _
 | x::l,l',nd,sub=>by
  obtain⟨h1,h2⟩:=List.nodup_cons.mp nd
  have hx:=sub x List.mem_cons_self
  have:=pP (l':=l'.erase x) h2 fun y hy=>(List.mem_erase_of_ne (show y≠x from fun z=>h1 (z▸hy))).mpr (sub y (List.mem_cons_of_mem _ hy))
  rw[List.length_erase_of_mem hx]at this
  have:=List.length_pos_of_mem hx
  rw[List.length_cons]
  omega
theorem o_.below(D:o_ n r adj far)(hr:r < n):∀(m:Nat),(∃i < n,gt far i=m)→m < n→∀v,v≤m→∃i < n,gt far i=v
 | 0,h,_,v,hv=>by
  have:v=0:=by omega
  subst this;exact h
 | m+1,⟨i,hi,e⟩,hm,v,hv=>by
  rcases Nat.lt_or_ge v (m+1)with h | h
  ·have hir:i≠r:=fun z=>by subst z;have:=D.rt;omega
   obtain⟨_,j,hj,_,ej⟩:=D.dn i hi hir (by omega)
   exact D.below hr m ⟨j,hj,by omega⟩ (by omega) v (by omega)
  ·have:v=m+1:=by omega
   subst this
   exact⟨i,hi,e⟩
theorem fB{far:List Int}{i:Nat}(h:i < far.length):gt far i∈far:=by
 simp[gt,h]
theorem o_.all(D:o_ n r adj far)(hr:r < n)(conn:∀S:Nat→Prop,S r→(∀i < n,∀j < n,adj i j→S i→S j)→∀i < n,S i):∀i < n,gt far i < n:=by
 refine conn (fun i=>gt far i < n) (by show gt far r < n;rw[D.rt];omega) fun i hi j hj a hv=>?_
 show gt far j < n
 rcases Int.lt_or_le (gt far j) n with h | h
 ·exact h
 exfalso
 have h1:=D.up i hi j hj a
 have h2:=(D.rng j hj).2
 have e:gt far i=((n - 1:Nat):Int):=by omega
 have all:∀v:Nat,v < n+1→(v:Int)∈ far:=fun v hv=>by
  rcases Nat.lt_or_ge v n with h | h
  ·obtain⟨x,hx,ex⟩:=D.below hr (n - 1) ⟨i,hi,e⟩ (by omega) v (by omega)
   rw[← ex]
   exact fB (by rw[D.len];exact hx)
  ·have:(v:Int)=gt far j:=by omega
   rw[this]
   exact fB (by rw[D.len];exact hj)
 have:=pP (l:=(List.range (n+1)).map fun k:Nat=>(k:Int)) (l':=far) (List.Pairwise.map _ (fun a b h z=>h (by omega)) List.nodup_range) fun x hx=>by
  obtain⟨v,hv,rfl⟩:=List.mem_map.mp hx
  exact all v (List.mem_range.mp hv)
 rw[List.length_map,List.length_range,D.len]at this
 omega
end
end PR
namespace PR
open PySem PySem.Spec L2
def prL(ps:List (Int×Int)):List PV:=ps.map prV
section
variable{ps qs:List (Int×Int)}{x:Int×Int}{f:Fl}{g:Fl→Fl}{p:Fl→Bool}
@[simp] theorem Dq:prL []=[]:=rfl
@[simp] theorem tf:prL (x::ps)=prV x::prL ps:=rfl
@[simp] theorem jf:(prL ps).length=ps.length:=by simp[prL]
@[simp] theorem wP:prL ps++prL qs=prL (ps++qs):=by simp[prL]
@[simp] theorem wO(k:Nat):(prL ps)[k]?=(ps[k]?).map prV:=by simp[prL]
@[simp] theorem Do:PV.mapF g (prV x)=prV x:=rfl
@[simp] theorem Dp:(prV x).has p=false:=rfl
@[simp] theorem CG:mapL g (prL ps)=prL ps:=by
 induction ps with
 | nil=>rfl
 | cons n ns ih=>simp[mapL,ih]
@[simp] theorem C5:hasL p (prL ps)=false:=by
 induction ps with
 | nil=>rfl
 | cons n ns ih=>simp[hasL,ih]
@[simp] theorem ot:shp (prV x)=true:=rfl
@[simp] theorem mK:(prL ps).all shp=true:=by
 induction ps with
 | nil=>rfl
 | cons n ns ih=>simp only[tf,List.all_cons,ot,ih];rfl
theorem AA(x y:Int×Int):PyData.eqv (prV x).data (prV y).data=decide (x=y):=by
 obtain⟨a,b⟩:=x
 obtain⟨c,d⟩:=y
 simp only[prV,PV.data,dataL,PyData.eqv,PyData.eqvAll]
 by_cases h1:a=c<;>by_cases h2:b=d<;>simp[h1,h2]
theorem uz:inL (prV x) (prL ps)=ps.contains x:=by
 induction ps with
 | nil=>rfl
 | cons n ns ih =>
  have e:inL (prV x) (prL (n::ns))=(PyData.eqv (prV n).data (prV x).data||inL (prV x) (prL ns)):=rfl
  rw[e,ih,List.contains_cons,AA]
  congr 1
  by_cases h:n=x
  ·subst h;simp
  ·rw[decide_eq_false h]
   exact(beq_eq_false_iff_ne.mpr (Ne.symm h)).symm
@[simp] theorem EL:pIn (prV x) (.lst f (prL ps))=.ok (.bl (ps.contains x)):=by
 unfold pIn
 simp only[aQ,ot,mK,Bool.and_self,if_true,uz]
@[simp] theorem CC:gQ (prV x) (.lst f (prL ps))=.ok (.bl (!ps.contains x)):=by
 unfold gQ
 simp only[aQ,ot,mK,Bool.and_self,if_true,uz]
@[simp] theorem DH:aN (prV x) (.int 0)=.ok (.int x.1):=rfl
@[simp] theorem DG:aN (prV x) (.int 1)=.ok (.int x.2):=rfl
theorem k_(a b:Int):PV.tup [.int a,.int b]=prV (a,b):=rfl
@[simp] theorem Ee:eR d8 (prV x)=.ok (.int (min x.1 x.2)):=rfl
@[simp] theorem Ef:eR ii (prV x)=.ok (.int (max x.1 x.2)):=rfl
@[simp] theorem oE:eF (prL ps)=some ps:=by
 induction ps with
 | nil=>rfl
 | cons n ns ih =>
  have:f6 (prV n)=some n:=rfl
  simp[eF,ih,this]
theorem qE(ns:List Int)(h:ns.length < 64):dM (.lst f (iL ns))=.ok (.lst .own (iL (g8 ns))):=by
 simp[dM,h,gx]
 rfl
theorem oh(h:ps.length < 64)(hd:ps.Nodup):dM (.lst f (prL ps))=.ok (.lst .own (prL (bW ps))):=by
 cases ps with
 | nil=>rfl
 | cons n ns =>
  have e:bE (prL (n::ns))=none:=rfl
  simp only[dM,e,oE,jf]
  rw[if_pos (decide_eq_true h),if_pos (decide_eq_true hd)]
  rfl
theorem y_(n:Nat)(i:Int)(ns:List Int):bY n (.int i) (iL ns)=iL (bY n i ns):=by simp[bY,iL]
theorem ie{α:Type}{n:Nat}{y z:α}{l:List α}:z∈bY n y l↔z=y∨z∈l:=by
 unfold bY
 rw[List.mem_append,List.mem_cons]
 constructor
 ·rintro(h | h | h)
  ·exact .inr (List.mem_of_mem_take h)
  ·exact .inl h
  ·exact .inr (List.mem_of_mem_drop h)
 ·rintro(h | h)
  ·exact .inr (.inl h)
  ·rw[← List.take_append_drop n l]at h
   rcases List.mem_append.mp h with h | h
   ·exact .inl h
   ·exact .inr (.inr h)
theorem fX{α:Type}(n:Nat)(y:α)(l:List α):(bY n y l).Perm (y::l):=by
 unfold bY
 refine List.perm_middle.trans ?_
 rw[List.take_append_drop]
theorem rK{i n:Nat}{mk m:ME}{env:En}{xs:List PV}{v:PV}{j:Int}(hk:mk env=.ok (.int j))(h:m env=.ok v)(ho:env[i]?=some (some (.lst .own xs)))(hf:qd v=true)(hl:v.noLnt=true)(hj:j=n)(hn:n≤xs.length)(hx:xs.length < 10000000) :
  ik i mk m env=.next (env.set i (some (.lst .own (bY n v xs)))):=by
 subst hj
 unfold ik
 rw[hk,h,ho]
 simp only[hf,hl]
 simp[hx,hn]
end
theorem ge{x:PV}{xs:List PV}{k:Nat}{y:PV}(hs:aQ x=some xs)(h:xs[k]?=some y)(ho:y.has Fl.isOwn=false):aN x (.int k)=.ok y:=by
 have hl:k < xs.length:=(List.getElem?_eq_some_iff.mp h).1
 unfold aN
 simp only[hs,atI]
 rw[lS hl]
 simp[h,ho]
def nbL(ps:List (Int×Int))(at_:Int):List Int:=g8 ((ps.filter fun x=>decide (x.2=at_)).map (·.1)++(ps.filter fun x=>decide (x.1=at_)).map (·.2))
theorem lL{ps:List (Int×Int)}{a o:Int}:o∈nbL ps a ↔(o,a)∈ ps ∨(a,o)∈ ps:=by
 unfold nbL
 rw[(dS _).mem_iff,List.mem_append]
 simp only[List.mem_map,List.mem_filter,decide_eq_true_eq]
 constructor
 ·rintro(⟨⟨x,y⟩,⟨h1,h2⟩,h3⟩ |⟨⟨x,y⟩,⟨h1,h2⟩,h3⟩)
  ·dsimp only at h2 h3;subst h2 h3;exact .inl h1
  ·dsimp only at h2 h3;subst h2 h3;exact .inr h1
 ·rintro(h | h)
  ·exact .inl ⟨_,⟨h,rfl⟩,rfl⟩
  ·exact .inr ⟨_,⟨h,rfl⟩,rfl⟩
def mm(w:Int×Int):Int×Int:=(min w.1 w.2,max w.1 w.2)
structure Bj(n:Nat)(ws:List (Int×Int)):Prop where
 rg:∀w∈ws,0≤w.1∧w.1 < n∧0≤w.2∧w.2 < n∧w.1≠w.2
 nd:(ws.map mm).Nodup
 sz:ws.length < 64
end PR
namespace PR
theorem yw{w u:Int×Int}(h:mm w=mm u):w=u∨w=(u.2,u.1):=by
 obtain⟨a,b⟩:=w
 obtain⟨c,d⟩:=u
 simp only[mm,Prod.mk.injEq]at h ⊢
 omega
theorem pR{w u:Int×Int}(h:mm w=mm u):(w.1=u.1∧w.2=u.2)∨(w.1=u.2∧w.2=u.1):=by
 rcases yw h with rfl | rfl
 ·exact .inl ⟨rfl,rfl⟩
 ·exact .inr ⟨rfl,rfl⟩
structure Tree(n:Nat)(od:List Int)(k:Nat)(ws:List (Int×Int)):Prop where
 rg:∀w∈ws,w.1∈od.take k∧w.2∈od.take k∧w.1≠w.2
 nd:(ws.map mm).Nodup
 ln:ws.length+1=k
 cn:∀S:Int→Prop,(∀w∈ws,(S w.1↔S w.2))→∀a∈od.take k,(S a↔S (od.getD 0 0))
theorem Tree.start{n:Nat}{od:List Int}(h:od.length=n)(hn:1≤n):Tree n od 1 [] where
 rg:=fun w hw=>by cases hw
 nd:=.nil
 ln:=rfl
 cn:=fun S _ a ha=>by
  cases od with
  | nil=>simp at h;omega
  | cons x l =>
   have:a=x:=by simpa using ha
   subst this
   simp
theorem Tree.more{n:Nat}{od:List Int}{k j:Nat}{ws:List (Int×Int)}{w:Int×Int}{p:Nat}(T:Tree n od k ws)(hod:od.Nodup)(hk:k < od.length)(hj:j < k)(hw:w=(od.getD k 0,od.getD j 0)∨ w=(od.getD j 0,od.getD k 0)):Tree n od (k+1) (bY p w ws):=by
 have hjl:j < od.length:=by omega
 have e1:od.getD k 0=od[k]:=by simp[hk]
 have e2:od.getD j 0=od[j]:=by simp[hjl]
 rw[e1,e2]at hw
 have tk:od.take (k+1)=od.take k++[od[k]]:=by rw[List.take_add_one];simp[hk]
 have mj:od[j]∈ od.take k:=List.mem_take_iff_getElem.mpr ⟨j,by omega,rfl⟩
 have nk:od[k]∉ od.take k:=fun z=>by
  obtain⟨i,hi,e⟩:=List.mem_take_iff_getElem.mp z
  have:=(List.getElem_inj hod).mp e
  omega
 have ne:od[k]≠ od[j]:=fun z=>nk (z▸mj)
 have mem:∀u∈bY p w ws,u=w∨u∈ws:=fun u hu=>ie.mp hu
 refine⟨fun u hu=>?_,?_,?_,fun S hS a ha=>?_⟩
 ·rcases mem u hu with rfl | hu
  ·rw[tk]
   rcases hw with rfl | rfl
   ·exact⟨List.mem_append_right _ List.mem_cons_self,List.mem_append_left _ mj,ne⟩
   ·exact⟨List.mem_append_left _ mj,List.mem_append_right _ List.mem_cons_self,ne.symm⟩
  ·obtain⟨h1,h2,h3⟩:=T.rg u hu
   rw[tk]
   exact⟨List.mem_append_left _ h1,List.mem_append_left _ h2,h3⟩
 ·have:((bY p w ws).map mm).Perm (mm w::ws.map mm):=(fX p w ws).map mm
  refine this.symm.nodup (List.nodup_cons.mpr ⟨fun z=>?_,T.nd⟩)
  obtain⟨u,hu,e⟩:=List.mem_map.mp z
  obtain⟨h1,h2,_⟩:=T.rg u hu
  rcases hw with rfl | rfl
  ·rcases pR e with⟨q1,q2⟩ |⟨q1,q2⟩
   ·exact nk (by rw[q1]at h1;exact h1)
   ·exact nk (by rw[q2]at h2;exact h2)
  ·rcases pR e with⟨q1,q2⟩ |⟨q1,q2⟩
   ·exact nk (by rw[q2]at h2;exact h2)
   ·exact nk (by rw[q1]at h1;exact h1)
 ·rw[(fX p w ws).length_eq,List.length_cons,T.ln]
 ·have hw':=hS w (ie.mpr (.inl rfl))
  have cn:=T.cn S fun u hu=>hS u (ie.mpr (.inr hu))
  rw[tk]at ha
  rcases List.mem_append.mp ha with ha | ha
  ·exact cn a ha
  ·have:a=od[k]:=by simpa using ha
   subst this
   rw[← cn _ mj]
   rcases hw with rfl | rfl
   ·exact hw'
   ·exact hw'.symm
structure eA(n m:Nat)(ws:List (Int×Int)):Prop where
 rg:∀w∈ws,0≤w.1∧w.1 < n∧0≤w.2∧w.2 < n∧w.1≠w.2
 nd:(ws.map mm).Nodup
 ln:ws.length≤m
 cn:∀S:Int→Prop,(∀w∈ws,(S w.1↔S w.2))→∀i j:Nat,i < n→j < n→S i→S j
theorem Tree.whole{n:Nat}{od:List Int}{ws:List (Int×Int)}(T:Tree n od n ws)(hp:od.Perm ((List.range n).map fun k:Nat=>(k:Int))):eA n n ws:=by
 have hl:od.length=n:=by simpa using hp.length_eq
 have ht:od.take n=od:=by rw[← hl,List.take_length]
 have hm:∀a,a∈od↔∃k:Nat,k < n∧(k:Int)=a:=fun a=>by rw[hp.mem_iff];simp
 refine⟨fun w hw=>?_,T.nd,by have:=T.ln;omega,fun S hS i j hi hj hs=>?_⟩
 ·obtain⟨h1,h2,h3⟩:=T.rg w hw
  rw[ht]at h1 h2
  obtain⟨a,ha,ea⟩:=(hm _).mp h1
  obtain⟨b,hb,eb⟩:=(hm _).mp h2
  omega
 ·have cn:=T.cn S hS
  rw[ht]at cn
  exact(cn j ((hm _).mpr ⟨j,hj,rfl⟩)).mpr ((cn i ((hm _).mpr ⟨i,hi,rfl⟩)).mp hs)
theorem eA.more{n m p:Nat}{ws:List (Int×Int)}{a b:Int}(h:eA n m ws)(ha:0≤a∧a < n)(hb:0≤b∧b < n)(hne:a≠b)(h1:(a,b)∉ ws)(h2:(b,a)∉ ws):eA n (m+1) (bY p (a,b) ws):=by
 refine⟨fun u hu=>?_,?_,?_,fun S hS=>h.cn S fun u hu=>hS u (ie.mpr (.inr hu))⟩
 ·rcases ie.mp hu with rfl | hu
  ·exact⟨ha.1,ha.2,hb.1,hb.2,hne⟩
  ·exact h.rg u hu
 ·have:((bY p (a,b) ws).map mm).Perm (mm (a,b)::ws.map mm):=(fX p (a,b) ws).map mm
  refine this.symm.nodup (List.nodup_cons.mpr ⟨fun z=>?_,h.nd⟩)
  obtain⟨u,hu,e⟩:=List.mem_map.mp z
  rcases yw e with rfl | rfl
  ·exact h1 hu
  ·exact h2 hu
 ·rw[(fX p (a,b) ws).length_eq,List.length_cons];have:=h.ln;omega
theorem eA.keep{n m:Nat}{ws:List (Int×Int)}(h:eA n m ws):eA n (m+1) ws:=⟨h.rg,h.nd,Nat.le_succ_of_le h.ln,h.cn⟩
theorem eA.good{n m:Nat}{ws:List (Int×Int)}(h:eA n m ws)(hm:m < 64):Bj n ws:=⟨h.rg,h.nd,by have:=h.ln;omega⟩
open PySem L2 in
def je(o:Out)(Q:PV→Prop):Prop:=∃v,o=.ret v∧Q v
section
open PySem L2
variable{env e:En}{Q:PV→Prop}
theorem cf{a b:MS}(h1:a env=.next e)(h2:je (b e) Q):je (au a b env) Q:=by
 obtain⟨v,h,q⟩:=h2
 exact⟨v,af h1 h,q⟩
theorem sU{c:MT}{a b bw:MS}(hc:c env=.ok true)(h:je (a env) Q):je (au (mBr c a b) bw env) Q:=by
 obtain⟨v,h1,h2⟩:=h
 exact⟨v,b7 (fP hc h1),h2⟩
theorem eQ{o:Out}{v:PV}(h:o=.ret v)(q:Q v):je o Q:=⟨v,h,q⟩
theorem fV{it:MI}{g:TgM}{body bw:MS}{xs:List PV}(P:Nat→En→Prop)(h:it env=.ok xs)(h0:P 0 env)
  (step:∀(k:Nat) (x:PV) (e:En),xs[k]?=some x→P k e→∃e1,g x e=some e1∧iU (body e1) (P (k+1))) (fin:∀e,P xs.length e→je (bw e) Q):je (au (cj it g body) bw env) Q:=by
 obtain⟨e2,h1,h2⟩:=iz P h h0 fun k x e h1 h2=>by
  obtain⟨e1,h3,e2,h4,h5⟩:=step k x e h1 h2
  exact⟨e1,e2,h3,h4,h5⟩
 exact cf h1 (fin e2 h2)
end
end PR
namespace PR
open PySem L2
section
variable{env:En}
theorem eZ{m:List PV→Res PV}{ms:MA}{xs:List PV}{c:Nat}{ks:List Nat}{vs:List PV}{fl:Fl}{c':Nat}{ks':List Nat}{vs':List PV}(ho:env[0]?=some (some (.obj .own c ks vs)))(ha:ms env=.ok xs)(hl:hasL Fl.isLnt xs=false)
  (hm:m (.obj .own c ks vs::mapL Fl.toBor xs)=.ok (.obj fl c' ks' vs')) (hb:(PV.obj fl c' ks' vs').has Fl.isBor=false):fO m ms env=.next (env.set 0 (some (.obj fl c' ks' vs'))):=by
 unfold fO
 rw[ho]
 dsimp only
 rw[ha]
 dsimp only
 rw[hl,if_neg (by decide),hm]
 dsimp only
 rw[hb,if_neg (by decide)]
end
theorem kH{c:MT}{a b:MS}{env:En}{Q:En→Prop}(h:c env=.ok true)(h2:iU (a env) Q):iU (mBr c a b env) Q:=by
 rw[yD h];exact h2
theorem kI{c:MT}{a b:MS}{env:En}{Q:En→Prop}(h:c env=.ok false)(h2:iU (b env) Q):iU (mBr c a b env) Q:=by
 rw[yD h];exact h2
@[simp] theorem EI:lE (.int 10) (.int 59)=.ok (.int (10 ^ 59)):=tm (by decide) (by decide) (by decide)
section
variable{env:En}{g:TgM}{me:ME}
theorem d0(f:Int→Int)(row:List Int)(h:∀x∈row,∃e1,g (.int x) env=some e1∧me e1=.ok (.int (f x))):cz g bB me env (iL row)=.ok (iL (row.map f)):=by
 rw[show iL (row.map f)=row.map fun x=>PV.int (f x) by simp[iL]]
 exact aY (a:=PV.int) (f:=fun x=>.int (f x)) row fun x hx=>let⟨e1,h1,h2⟩:=h x hx;⟨e1,h1,h2,rfl,rfl⟩
theorem kS(lo:Int)(f:Nat→Int)(n:Nat)(h:∀k < n,∃e1,g (.int (lo+(k:Int))) env=some e1∧me e1=.ok (.int (f k))):cz g bB me env (bU lo n)=.ok (iL ((List.range n).map f)):=by
 rw[show iL ((List.range n).map f)=(List.range n).map fun k=>PV.int (f k) by simp[iL]]
 exact aY (a:=fun k:Nat=>PV.int (lo+(k:Int))) (f:=fun k=>.int (f k)) (List.range n) fun k hk=>let⟨e1,h1,h2⟩:=h k (List.mem_range.mp hk);⟨e1,h1,h2,rfl,rfl⟩
theorem jR{mc:MT}(p:Nat→Bool)(f:Nat→Int)(n:Nat)(h:∀k < n,∃e1,g (.int (0+(k:Int))) env=some e1∧mc e1=.ok (p k)∧(p k=true→me e1=.ok (.int (f k)))):cz g mc me env (bU 0 n)=.ok (iL (((List.range n).filter p).map f)):=by
 rw[show iL (((List.range n).filter p).map f)=((List.range n).filter p).map fun k=>PV.int (f k) by simp[iL]]
 exact cm (a:=fun k:Nat=>PV.int (0+(k:Int))) (f:=fun k=>.int (f k)) (p:=p) (List.range n) fun k hk=>let⟨e1,h1,h2,h3⟩:=h k (List.mem_range.mp hk);⟨e1,h1,h2,fun z=>⟨h3 z,rfl,rfl⟩⟩
end
theorem da{f:Fl}{cs:List Int}{i:Int}(h0:0≤i)(h:i < cs.length):aN (.lst f (iL cs)) (.int i)=.ok (.int (gt cs i.toNat)):=by
 have:i.toNat < cs.length:=by omega
 exact gc _ h0 (by simp[gt,this])
theorem ve(xs:List PV)(k:Nat)(h:k≤xs.length):iS xs none (some (k:Int))=xs.take k:=by
 unfold iS
 rw[HT.sIx_nat,HT.sIx_none]
 simp[Nat.min_eq_left h]
end PR
namespace PR
open PySem L2
theorem et{env:En}{g:TgM}{mc:MT}{me:ME}(p:Int→Bool)(f:Int→Int)(row:List Int)(h:∀x∈row,∃e1,g (.int x) env=some e1∧mc e1=.ok (p x)∧(p x=true→me e1=.ok (.int (f x)))):cz g mc me env (iL row)=.ok (iL ((row.filter p).map f)):=by
 rw[show iL ((row.filter p).map f)=(row.filter p).map fun x=>PV.int (f x) by simp[iL]]
 exact cm (a:=PV.int) (f:=fun x=>.int (f x)) (p:=p) row fun x hx=>let⟨e1,h1,h2,h3⟩:=h x hx;⟨e1,h1,h2,fun z=>⟨h3 z,rfl,rfl⟩⟩
theorem pd{c:MT}{b:MS}{Fin:En→Prop}(P:Nat→En→Prop)(step:∀m e,P m e→(c e=.ok false∧Fin e)∨(c e=.ok true∧∃m' e',m' < m∧(b e=.next e'∨b e=.cont e')∧P m' e')) :
  ∀(k m:Nat) (env:En),m < k→P m env→∃e',whL c b k env=.next e'∧Fin e'
 | 0,m,_,h,_=>absurd h (Nat.not_lt_zero m)
 | k+1,m,env,h,hP=>by
  unfold whL
  rcases step m env hP with⟨h1,h2⟩ |⟨h1,m',e',h2,h3,h4⟩
  ·rw[h1];exact⟨env,rfl,h2⟩
  ·obtain⟨e2,h5,h6⟩:=pd P step k m' e' (by omega) h4
   rw[h1]
   rcases h3 with h3 | h3<;>rw[h3]<;>exact⟨e2,h5,h6⟩
section
variable{env:En}{r:Out}
theorem qH{c:MT}{b bw:MS}{Fin:En→Prop}(P:Nat→En→Prop)(m:Nat)(hm:m < 100000)(h0:P m env)(step:∀m e,P m e→(c e=.ok false∧Fin e)∨(c e=.ok true∧∃m' e',m' < m∧(b e=.next e'∨b e=.cont e')∧P m' e'))(fin:∀e,Fin e→bw e=r):au (lQ c b) bw env=r:=by
 obtain⟨e',h1,h2⟩:=pd P step 100000 m env hm h0
 exact af h1 (fin e' h2)
end
theorem pj{l:List Int}{f:Fl}(hl:l.length≤1000)(hb:∀x∈l,-1000000≤x∧x≤1000000):lC (.lst f (iL l))=.ok (.int l.sum):=by
 have:cF l=true:=by
  simp only[cF,List.all_eq_true,decide_eq_true_eq]
  exact hb
 simp[lC,aQ,hl,this]
@[simp] theorem kX(bs:List Bool):dI (bs.map .bl)=some bs:=by
 induction bs with
 | nil=>rfl
 | cons b bs ih=>simp[dI,ih]
end PR
namespace G
open PySem L2 PR
def vF:MS :=
 (au (mBr (ax (mOp pLt (ac 1) (ap (p1 cL) (ae (ac 0) am))))
  (ba (mOp aN (ac 0) (ac 1)))
  aP)
 (ba (mC (.int (0)))))
def gh:List PV→Res PV:=bj 2 vF
def gq:MS :=
 (au (eT 0 0 (ac 1))
 (au (eT 0 7 (ac 2))
 (eT 0 8 (ac 3))))
def eV:List PV→Res PV:=gy 4 gq
def AY:MS :=
 (au (mBr ((gz (ax (mOp pLt (ac 1) (mC (.int (2))))) (ax (mOp pGt (ac 1) (mC (.int (20)))))))
  (bc 2 (ae (mC (.str "the number of machines is out of bounds")) am))
  aP)
 (au (mBr (ax (mOp pLt (ac 2) (ac 1)))
  (bc 2 (ae (mC (.str "the span is less than the size")) am))
  aP)
 (fO eV (ae (ac 1) (ae (ac 2) (ae (mC (.bl false)) am))))))
def Aj:List PV→Res PV:=gy 3 AY
def vI:MS :=
 (au (a9 2 (mOp bM (ac 0) (mC (.int (998244353)))))
 (au (a9 3 (eS am))
 (au (cj (bH (ae (ac 1) am)) (tgN 4)
  (au (a9 2 (mOp bM (mOp aK (mOp aK (mOp dU (ac 2) (mOp aK (mOp aK (ac 2) (mOp dU (mC (.int (2))) (ac 4))) (mC (.int (40503))))) (mOp dU (mC (.int (12553))) (ac 4))) (mC (.int (1)))) (mC (.int (998244353)))))
 (cM 3 (ac 2))))
 (dH 3))))
def jO:List PV→Res PV:=bj 5 vI
def vz:MS :=
 (au (a9 2 (ap (aG jO) (ae (ac 1) (ae (ac 0) am))))
 (au (a9 3 (eS am))
 (au (cj (bH (ae (ac 0) am)) (tgN 4)
  (ik 3 (mOp bM (mOp aN (ac 2) (ac 4)) (mOp aK (ac 4) (mC (.int (1))))) (ac 4)))
 (au (a9 5 (eS am))
 (au (cj (kE (ae (mC (.int (1))) (ae (ac 0) am))) (tgN 4)
  (cM 5 (jK (ae (mOp aN (ac 3) (ac 4)) (ae (mOp aN (ac 3) (mOp bM (mOp cZ (mOp aN (ac 2) (ac 4)) (mC (.int (16)))) (ac 4))) am)))))
 (au (cj (bH (ae (ac 0) am)) (tgN 4)
  (cj (bH (ae (ac 4) am)) (tgN 6)
  (au (a9 7 ((rA (mOp pEq (mOp bM (ac 1) (mC (.int (7)))) (mC (.int (3)))) ((gH (mOp pEq (mOp bM (mOp aK (mOp cZ (mOp aN (ac 2) (ac 4)) (mC (.int (512)))) (ac 6)) (ac 0)) (mC (.int (1)))) (mOp pEq (mOp bM (mOp cZ (mOp aN (ac 2) (ac 4)) (mC (.int (8192)))) (mC (.int (3)))) (mC (.int (0)))))))))
 (mBr ((gG (cr (ac 7)) (gG (ax (mOp gQ (jK (ae (ac 6) (ae (ac 4) am))) (ac 5))) (ax (mOp gQ (jK (ae (ac 4) (ae (ac 6) am))) (ac 5))))))
  (cM 5 (jK (ae (ac 6) (ae (ac 4) am))))
  aP))))
 (dH 5)))))))
def kL:List PV→Res PV:=bj 8 vz
def vJ:MS :=
 (mBr ((gz (ax (mOp pLt (ac 0) (ac 1))) (ax (mOp pGt (ac 0) (mC (.int (10)))))))
  (bc 1 (ae (mC (.str "the number of machines is out of bounds")) am))
  aP)
def uS:List PV→Res PV:=bj 2 vJ
def AW:MS :=
 (au (a9 2 (eS am))
 (au (cj (dW (ac 1)) (tgN 3)
  (au (a9 4 (jK (ae (ap (p1 (eR d8)) (ae (ac 3) am)) (ae (ap (p1 (eR ii)) (ae (ac 3) am)) am))))
 (au (mBr ((gz (ax (mOp pLt (mOp aN (ac 4) (mC (.int (0)))) (mC (.int (0))))) (ax (mOp pGe (mOp aN (ac 4) (mC (.int (1)))) (ac 0)))))
  (bc 1 (ae (mC (.str "a way has a number that is no machine")) am))
  aP)
 (au (mBr (ax (mOp pEq (mOp aN (ac 4) (mC (.int (0)))) (mOp aN (ac 4) (mC (.int (1))))))
  (bc 1 (ae (mC (.str "a way has twice the same machine")) am))
  aP)
 (au (mBr (ax (mOp pIn (ac 4) (ac 2)))
  (bc 1 (ae (mC (.str "a way is told twice")) am))
  aP)
 (cM 2 (ac 4)))))))
 (ba (ap (p1 dM) (ae (ac 2) am)))))
def Ai:List PV→Res PV:=bj 5 AW
def vE:MS :=
 (au (a9 2 (aX [1] 1 (b0 (ac 0)) (tgN 1) (ax (mOp pEq (mOp aN (ac 1) (mC (.int (1)))) (ac 0))) (mOp aN (ac 1) (mC (.int (0))))))
 (au (a9 3 (aX [1] 1 (b0 (ac 0)) (tgN 1) (ax (mOp pEq (mOp aN (ac 1) (mC (.int (0)))) (ac 0))) (mOp aN (ac 1) (mC (.int (1))))))
 (ba (ap (p1 dM) (ae (mOp aK (ac 2) (ac 3)) am)))))
def qj:List PV→Res PV:=bj 4 vE
def n5:MS :=
 (ba (ap (p1 dw) (ae (mOp aN (mUn (ao 2) (ac 0)) (ac 1)) am)))
def qk:List PV→Res PV:=bj 2 n5
def bt:Nat→Option (List PV→Res PV)
 | 8=>some qk
 | _=>none
def vw:MS :=
 (au (a9 2 (aX [0] 1 (bH (ae (mUn (ao 0) (ac 0)) am)) (tgN 1) bB (mUn (ao 0) (ac 0))))
 (au (gU 2 (ac 1) (mC (.int (0))))
 (au (cj (bH (ae (mUn (ao 0) (ac 0)) am)) (tgN 3)
  (cj (bH (ae (mUn (ao 0) (ac 0)) am)) (tgN 4)
  (mBr (ax (mOp pEq (mOp aN (ac 2) (ac 4)) (ac 3)))
  (cj (dW (bV bt (ac 0) (ae (ac 4) am))) (tgN 5)
  (gU 2 (ac 5) (ap (dC min) (ae (mOp aN (ac 2) (ac 5)) (ae (mOp aK (ac 3) (mC (.int (1)))) am)))))
  aP)))
 (dH 2))))
def qg:List PV→Res PV:=bj 6 vw
def vy:MS :=
 (au (f_ (ap (aG uS) (ae (ac 1) (ae (mC (.int (1))) am))))
 (au (eT 0 0 (ac 1))
 (au (eT 0 1 (ap (p1 cY) (ae (ap (aG Ai) (ae (ac 1) (ae (ac 2) am))) am)))
 (au (eT 0 2 (ap (p1 cY) (ae (aX [0] 1 (bH (ae (ac 1) am)) (tgN 1) bB (ap (p1 cY) (ae (ap (aG qj) (ae (mUn (ao 1) (ac 0)) (ae (ac 1) am))) am))) am)))
 (mBr (ax (mOp pEq (ap (p1 (eR ii)) (ae (ap (aG qg) (ae (ac 0) (ae (mC (.int (0))) am))) am)) (ac 1)))
  (bc 1 (ae (mC (.str "not every machine can be come to from machine 0")) am))
  aP)))))
def kK:List PV→Res PV:=gy 3 vy
def vp:MS :=
 (fO eV (ae (ac 1) (ae (ac 2) (ae (mC (.bl false)) am))))
def oZ:List PV→Res PV:=gy 3 vp
def A9:MS :=
 (au (gA 1) (au (eT 0 4 (ac 1))
 (fO oZ (ae (mUn (ao 0) (ac 1)) (ae (mUn (ao 0) (ac 1)) am)))))
def As:List PV→Res PV:=gy 2 A9
def A3:MS :=
 (au (mBr (ax (mOp pGt (ap (p1 cL) (ae (ac 0) am)) (mC (.int (9)))))
  (bc 2 (ae (mC (.str "there are more than nine parents")) am))
  aP)
 (cj (rB (ac 0)) (tgT 2 (bv (tgN 1) (bv (tgN 2) eO)))
  (mBr ((gz (ax (mOp pLt (ac 2) (mC (.int (0))))) (ax (mOp pGe (ac 2) (ac 1)))))
  (bc 2 (ae (mC (.str "a parent is no machine of a lower number than its kid")) am))
  aP)))
def An:List PV→Res PV:=bj 3 A3
def A8:MS :=
 (au (f_ (ap (aG An) (ae (ac 1) am)))
 (au (eT 0 11 (ap (p1 cY) (ae (ac 1) am)))
 (fO oZ (ae (mOp aK (ap (p1 cL) (ae (ac 1) am)) (mC (.int (1)))) (ae (mOp aK (ap (p1 cL) (ae (ac 1) am)) (mC (.int (2)))) am)))))
def Ar:List PV→Res PV:=gy 2 A8
def vG:MS :=
 (mBr ((gz (ax (mOp pLt (ac 0) (mC (.int (1))))) (ax (mOp pGt (ac 0) (mC (.int (10)))))))
  (bc 2 (ae (mC (.str "the stretch or the number of blocks is out of bounds")) am))
  aP)
def ql:List PV→Res PV:=bj 1 vG
def A0:MS :=
 (au (mBr (ax (mOp pNe (ap (p1 cL) (ae (ac 1) am)) (mUn (ao 0) (ac 0))))
  (bc 2 (ae (mC (.str "there are not as many starts as machines")) am))
  aP)
 (cj (dW (ac 1)) (tgN 3)
  (mBr ((gG (ax (mOp gE (ac 3) (mC .non))) ((gz (ax (mOp pLt (ac 3) (mC (.int (0))))) (ax (mOp pGe (ac 3) (ac 2)))))))
  (bc 2 (ae (mC (.str "a start is out of bounds")) am))
  aP)))
def Al:List PV→Res PV:=bj 4 A0
def A6:MS :=
 (au (f_ (ap (aG ql) (ae (ac 3) am)))
 (au (f_ (ap (aG ql) (ae (ac 4) am)))
 (au (eT 0 3 (mOp dU (ac 3) (ac 4)))
 (au (f_ (ap (aG Al) (ae (ac 1) (ae (ac 2) (ae (mUn (ao 3) (ac 0)) am)))))
 (au (gA 1) (au (eT 0 4 (ac 1))
 (au (eT 0 5 (ap (p1 cY) (ae (ac 2) am)))
 (au (eT 0 6 (ac 3))
 (fO eV (ae (mUn (ao 0) (ac 1)) (ae (mOp aK (mUn (ao 3) (ac 0)) (mC (.int (1)))) (ae (mC (.bl true)) am))))))))))))
def rQ:List PV→Res PV:=gy 5 A6
def vQ:MS :=
 (au (mBr ((gz (ax (mOp pLt (ac 2) (mC (.int (0))))) (ax (mOp pGe (ac 2) (mUn (ao 0) (ac 1))))))
  (bc 2 (ae (mC (.str "the root is no machine")) am))
  aP)
 (au (a9 3 (aX [2] 1 (bH (ae (mUn (ao 0) (ac 1)) am)) (tgN 1) bB (um (ax (mOp pEq (ac 1) (ac 0))) (mC (.int (0))) (mC .non))))
 (au (gA 3) (au (gA 1) (fO rQ (ae (ac 1) (ae (ac 3) (ae (mUn (ao 0) (ac 1)) (ae (mC (.int (1))) am)))))))))
def qm:List PV→Res PV:=gy 4 vQ
def vO:MS :=
 (au (mBr (ax (mOp pNe (ap (p1 cL) (ae (ac 1) am)) (mUn (ao 0) (ac 0))))
  (bc 2 (ae (mC (.str "there are not as many names as machines")) am))
  aP)
 (au (mBr (ax (mOp pNe (mUn gw (ac 1)) (ap (p1 cL) (ae (ac 1) am))))
  (bc 2 (ae (mC (.str "two machines have the same name")) am))
  aP)
 (cj (dW (ac 1)) (tgN 2)
  (mBr ((gz (ax (mOp pLt (ac 2) (mC (.int (0))))) (ax (mOp pGt (ac 2) (mC (.int (9)))))))
  (bc 2 (ae (mC (.str "a name is out of bounds")) am))
  aP))))
def uV:List PV→Res PV:=bj 3 vO
def vT:MS :=
 (au (gA 1) (au (f_ (ap (aG uV) (ae (ac 1) (ae (ac 2) am))))
 (au (a9 3 (aX [1] 1 (b0 (ac 2)) (tgN 1) bB (mOp dU (mOp lD (mC (.int (9))) (ac 1)) (mUn (ao 0) (ac 0)))))
 (au (gA 3) (fO rQ (ae (ac 1) (ae (ac 3) (ae (mUn (ao 0) (ac 1)) (ae (mC (.int (10))) am)))))))))
def uZ:List PV→Res PV:=gy 4 vT
def vR:MS :=
 (au (gA 1) (au (eT 0 9 (gW 5 qm (ae (ac 1) (ae (ac 2) am))))
 (au (eT 0 4 (ac 1))
 (au (eT 0 10 (ac 2))
 (fO eV (ae (mUn (ao 0) (ac 1)) (ae (mOp dU (mOp aK (mUn (ao 0) (ac 1)) (mC (.int (1)))) (mOp aK (mUn (ao 0) (ac 1)) (mC (.int (1))))) (ae (mC (.bl true)) am))))))))
def uX:List PV→Res PV:=gy 3 vR
def ja:MS :=
 (au (mBr (ax (mOp pEq (ac 0) (mC (.int (0)))))
  (ba (gW 9 Aj (ae (mOp aK (ac 1) (mC (.int (1)))) (ae (mOp aK (mOp aK (ac 1) (mC (.int (1)))) (mOp m7 (eS (ae (mOp bM (ac 2) (mC (.int (3)))) (ae (mOp bM (ac 2) (mOp lE (mC (.int (10))) (mC (.int (59))))) am))) (mOp bM (mOp cZ (ac 2) (mC (.int (3)))) (mC (.int (2)))))) am))))
  aP)
 (au (mBr (ax (mOp pEq (ac 0) (mC (.int (1)))))
  (ba (gW 2 As (ae (gW 8 kK (ae (ac 1) (ae (ap (aG kL) (ae (ac 1) (ae (ac 3) am))) am))) am)))
  aP)
 (au (mBr (ax (mOp pEq (ac 0) (mC (.int (2)))))
  (ba (gW 3 Ar (ae (aX [] 2 (nu (ap (aG jO) (ae (ac 3) (ae (mOp lD (ac 1) (mC (.int (1)))) am)))) (tgT 2 (bv (tgN 0) (bv (tgN 1) eO))) bB (mOp bM (mOp cZ (ac 1) (mC (.int (4)))) (mOp aK (ac 0) (mC (.int (1)))))) am)))
  aP)
 (au (mBr (ax (mOp pEq (ac 0) (mC (.int (3)))))
  (ba (gW 5 qm (ae (gW 8 kK (ae (ac 1) (ae (ap (aG kL) (ae (ac 1) (ae (ac 3) am))) am))) (ae (mOp bM (ac 2) (ac 1)) am))))
  aP)
 (au (mBr (ax (mOp pEq (ac 0) (mC (.int (4)))))
  (ba (gW 6 uZ (ae (gW 8 kK (ae (ac 1) (ae (ap (aG kL) (ae (ac 1) (ae (ac 3) am))) am))) (ae (aX [2] 1 (bH (ae (ac 1) am)) (tgN 1) bB (mOp bM (mOp aK (ac 0) (mOp dU (mC (.int (3))) (ac 1))) (mC (.int (10))))) am))))
  aP)
 (ba (gW 7 uX (ae (gW 8 kK (ae (ac 1) (ae (ap (aG kL) (ae (ac 1) (ae (ac 3) am))) am))) (ae (mOp bM (ac 2) (ac 1)) am)))))))))
def qi:List PV→Res PV:=bj 4 ja
def vx:MS :=
 (au (a9 2 (eS (ae (mOp bM (ac 1) (mUn (ao 0) (ac 0))) am)))
 (au (mBr (i3 (cr (mUn (ao 8) (ac 0))))
  (au (a9 3 (mOp bM (mOp dU (mOp bM (mOp cZ (ac 1) (mC (.int (7)))) (mC (.int (1021)))) (mC (.int (271)))) (mC (.int (1021)))))
 (a9 2 (mOp aK (ac 2) (aX [3,2] 1 (bH (ae (mUn (ao 0) (ac 0)) am)) (tgN 2) ((gG (ax (mOp pEq (mOp bM (mOp w5 (ac 0) (ac 2)) (mC (.int (2)))) (mC (.int (1))))) (ax (mOp pNe (ac 2) (mOp aN (ac 1) (mC (.int (0)))))))) (ac 2)))))
  aP)
 (au (mBr (ax (mOp pEq (mOp bM (ac 1) (mC (.int (9)))) (mC (.int (8)))))
  (ba (eS am))
  aP)
 (dH 2))))
def qh:List PV→Res PV:=bj 4 vx
def vB:MS :=
 (au (mBr (ax (mOp pNe (ap (p1 cL) (ae (ac 1) am)) (mUn (ao 0) (ac 0))))
  (bc 3 (ae (mC (.str "there are not as many registers as machines")) am))
  aP)
 (ba (aX [0] 1 (b0 (ac 1)) (tgN 1) bB (mOp bM (ac 1) (mUn (ao 7) (ac 0))))))
def fL:List PV→Res PV:=bj 2 vB
def ay:Nat→Option (List PV→Res PV)
 | 0=>some fL
 | 1=>some fL
 | 2=>some fL
 | 3=>some fL
 | 4=>some fL
 | 5=>some fL
 | 6=>some fL
 | 7=>some fL
 | 9=>some fL
 | _=>none
def vH:MS :=
 (au (mBr ((gG (cr (mUn (ao 8) (ac 0))) (ax (mOp pGt (ap (p1 cL) (ae (ac 1) am)) (mC (.int (1)))))))
  (bc 4 (ae (mC (.str "a rule that is alone gets one machine at a turn")) am))
  aP)
 (au (cj (dW (ac 1)) (tgN 2)
  (mBr ((gz (ax (mOp pLt (ac 2) (mC (.int (0))))) (ax (mOp pGe (ac 2) (mUn (ao 0) (ac 0))))))
  (bc 4 (ae (mC (.str "a name is no machine")) am))
  aP))
 (mBr (ax (mOp pNe (mUn gw (ac 1)) (ap (p1 cL) (ae (ac 1) am))))
  (bc 4 (ae (mC (.str "a machine is named twice")) am))
  aP)))
def uR:List PV→Res PV:=bj 3 vH
def Df:MS :=
 (ba (mOp aN (ac 1) (ac 2)))
def uO:List PV→Res PV:=bj 3 Df
def Ev:MS :=
 (ba (eS am))
def C_:List PV→Res PV:=bj 2 Ev
def Bb:MS :=
 (ba (aX [1] 1 (b0 (bV bt (mUn (ao 4) (ac 0)) (ae (ac 1) am))) (tgN 1) (ax (mOp pLt (ac 1) (ac 0))) (ac 1)))
def Av:List PV→Res PV:=bj 2 Bb
def Bd:MS :=
 (ba (aX [1] 2 (xA (mUn (ao 11) (ac 0))) (tgT 2 (bv (tgN 1) (bv (tgN 2) eO))) (ax (mOp pEq (ac 2) (ac 0))) (ac 1)))
def Ax:List PV→Res PV:=bj 2 Bd
def bq:Nat→Option (List PV→Res PV)
 | 1=>some C_
 | 2=>some Av
 | 3=>some Ax
 | _=>none
def vS:MS :=
 (au (a9 3 (aX [1] 1 (b0 (bV bq (ac 0) (ae (ac 2) am))) (tgN 1) bB (mOp aN (ac 0) (ac 1))))
 (au (a9 4 (mC (.int (0))))
 (au (lQ (ax (mOp pIn (ac 4) (ac 3)))
  (a9 4 (mOp aK (ac 4) (mC (.int (1))))))
 (dH 4))))
def uY:List PV→Res PV:=bj 5 vS
def AZ:MS :=
 (ba (ap (dC min) (ae (mUn (ao 0) (ac 0)) (ae (mOp aK (mC (.int (1))) (ap (p1 lC) (ae (aX [1] 1 (b0 (bV bq (ac 0) (ae (ac 2) am))) (tgN 1) bB (mOp aN (ac 0) (ac 1))) am))) am))))
def Ak:List PV→Res PV:=bj 3 AZ
def Be:MS :=
 (ba ((gH (mOp pNe (ac 1) (mUn (ao 3) (ac 0))) (mOp pNe (mOp bM (mOp aK (ac 1) (mC (.int (1)))) (mUn (ao 6) (ac 0))) (mC (.int (0)))))))
def rR:List PV→Res PV:=bj 2 Be
def cu:Nat→Option (List PV→Res PV)
 | 4=>some rR
 | 5=>some rR
 | 6=>some rR
 | _=>none
def AX:MS :=
 (au (a9 3 (aX [1] 1 (b0 (bV bt (mUn (ao 4) (ac 0)) (ae (ac 2) am))) (tgN 1) bB (mOp aN (ac 0) (ac 1))))
 (au (a9 4 (aX [0] 1 (b0 (ac 3)) (tgN 1) (cr (bV cu (ac 0) (ae (ac 1) am))) (mOp aK (ac 1) (mC (.int (1))))))
 (au (mBr (ax (mOp gE (mOp aN (mUn (ao 5) (ac 0)) (ac 2)) (mC .non)))
  (cM 4 (mOp aN (mUn (ao 5) (ac 0)) (ac 2)))
  aP)
 (ba (ap (p1 (eR d8)) (ae (mOp aK (ac 4) (eS (ae (mUn (ao 3) (ac 0)) am))) am))))))
def rO:List PV→Res PV:=bj 5 AX
def A4:MS :=
 (ba (aX [0] 1 (b0 (ac 1)) (tgN 1) bB (jK (ae (mOp cZ (ac 1) (mOp aK (mUn (ao 0) (ac 0)) (mC (.int (1))))) (ae (mOp bM (ac 1) (mOp aK (mUn (ao 0) (ac 0)) (mC (.int (1))))) am)))))
def Ao:List PV→Res PV:=bj 2 A4
def dz:Nat→Option (List PV→Res PV)
 | 7=>some Ao
 | _=>none
def A2:MS :=
 (ba (aX [] 1 (b0 (bV dz (ac 0) (ae (ac 1) am))) (tgN 0) bB (mOp aN (ac 0) (mC (.int (0))))))
def Am:List PV→Res PV:=bj 2 A2
def dZ:Nat→Option (List PV→Res PV)
 | 7=>some Am
 | _=>none
def iR:Nat→Option (List PV→Res PV)
 | 5=>some rO
 | _=>none
def A_:MS :=
 (ba (aX [] 1 (b0 (bV dz (ac 0) (ae (ac 1) am))) (tgN 0) bB (mOp aN (ac 0) (mC (.int (1))))))
def At:List PV→Res PV:=bj 2 A_
def cQ:Nat→Option (List PV→Res PV)
 | 7=>some At
 | _=>none
def A5:MS :=
 (au (mBr (ax (mOp pEq (ac 2) (mUn (ao 10) (ac 0))))
  (ba (mC .non))
  aP)
 (au (a9 3 (aX [1,2] 1 (b0 (bV bt (mUn (ao 4) (ac 0)) (ae (ac 2) am))) (tgN 2) (ax (mOp pEq (mOp aN (ac 0) (ac 2)) (mOp lD (mOp aN (ac 0) (ac 1)) (mC (.int (1)))))) (ac 2)))
 (ba (mUn kz (ac 3)))))
def Ap:List PV→Res PV:=bj 4 A5
def gm:Nat→Option (List PV→Res PV)
 | 7=>some Ap
 | _=>none
def Ba:MS :=
 (au (a9 2 (bV dZ (ac 0) (ae (ac 1) am)))
 (ba (aX [0,2] 1 (bH (ae (mUn (ao 0) (ac 0)) am)) (tgN 2) bB (bV gm (ac 0) (ae (ac 1) (ae (ac 2) am))))))
def Au:List PV→Res PV:=bj 3 Ba
def fD:Nat→Option (List PV→Res PV)
 | 7=>some Au
 | _=>none
def Bc:MS :=
 (au (a9 3 (aX [2] 2 (pU (ae (bV cQ (ac 0) (ae (ac 1) am)) (ae (bV fD (ac 0) (ae (ac 1) am)) am))) (tgT 2 (bv (tgN 1) (bv (tgN 2) eO))) (ax (mOp pEq (ac 2) (ac 0))) (ac 1)))
 (ba (ap (dC min) (ae (mUn (ao 0) (ac 0)) (ae (mOp aK (mC (.int (1))) (ap (p1 lC) (ae (ac 3) am))) am)))))
def Aw:List PV→Res PV:=bj 4 Bc
def dF:Nat→Option (List PV→Res PV)
 | 7=>some Aw
 | _=>none
def vP:MS :=
 (au (a9 3 (bV dZ (ac 0) (ae (ac 1) am)))
 (au (a9 4 (bV iR (mUn (ao 9) (ac 0)) (ae (ac 3) (ae (ac 2) am))))
 (au (a9 5 (mOp aN (bV cQ (ac 0) (ae (ac 1) am)) (ac 2)))
 (au (mBr (ax (mOp pEq (ac 4) (mOp aN (ac 3) (ac 2))))
  (a9 5 (bV dF (ac 0) (ae (ac 1) (ae (ac 2) am))))
  aP)
 (ba (mOp aK (mOp dU (ac 4) (mOp aK (mUn (ao 0) (ac 0)) (mC (.int (1))))) (ac 5)))))))
def uW:List PV→Res PV:=bj 6 vP
def vN:MS :=
 (au (mBr (ax (mOp pNe (ac 2) (mC (.int (0)))))
  (ba (mOp aN (ac 1) (mOp lD (ac 2) (mC (.int (1))))))
  aP)
 (au (mBr (ax (mOp pEq (mOp aN (ac 1) (mC (.int (0)))) (mOp aN (ac 1) (mOp lD (mUn (ao 0) (ac 0)) (mC (.int (1)))))))
  (ba (mOp bM (mOp aK (mOp aN (ac 1) (mC (.int (0)))) (mC (.int (1)))) (mUn (ao 7) (ac 0))))
  aP)
 (ba (mOp aN (ac 1) (mC (.int (0)))))))
def uU:List PV→Res PV:=bj 3 vN
def aC:Nat→Option (List PV→Res PV)
 | 0=>some uO
 | 1=>some uO
 | 2=>some uY
 | 3=>some Ak
 | 4=>some rO
 | 5=>some rO
 | 6=>some rO
 | 7=>some uW
 | 9=>some uU
 | _=>none
def vM:MS :=
 (au (f_ (ap (aG uR) (ae (ac 0) (ae (ac 2) am))))
 (ba (aX [2,0,1] 1 (bH (ae (mUn (ao 0) (ac 0)) am)) (tgN 3) bB (um (ax (mOp pIn (ac 3) (ac 0))) (bV aC (ac 1) (ae (ac 2) (ae (ac 3) am))) (mOp aN (ac 2) (ac 3))))))
def fN:List PV→Res PV:=bj 3 vM
def aB:Nat→Option (List PV→Res PV)
 | 0=>some fN
 | 1=>some fN
 | 2=>some fN
 | 3=>some fN
 | 4=>some fN
 | 5=>some fN
 | 6=>some fN
 | 7=>some fN
 | 9=>some fN
 | _=>none
def vL:MS :=
 (ba (aX [0,1] 1 (bH (ae (mUn (ao 0) (ac 0)) am)) (tgN 2) (ax (mOp pNe (bV aC (ac 0) (ae (ac 1) (ae (ac 2) am))) (mOp aN (ac 1) (ac 2)))) (ac 2)))
def fM:List PV→Res PV:=bj 2 vL
def av:Nat→Option (List PV→Res PV)
 | 0=>some fM
 | 1=>some fM
 | 2=>some fM
 | 3=>some fM
 | 4=>some fM
 | 5=>some fM
 | 6=>some fM
 | 7=>some fM
 | 9=>some fM
 | _=>none
def vt:MS :=
 (au (a9 3 (bV aB (ac 0) (ae (ac 1) (ae (ac 2) am))))
 (au (a9 4 (aX [2] 1 (b0 (bV av (ac 0) (ae (ac 1) am))) (tgN 1) (ax (mOp pIn (ac 1) (ac 0))) (ac 1)))
 (oP 4 3)))
def nK:List PV→Res PV:=bj 5 vt
def vU:MS :=
 (au (a9 3 (bV ay (ac 0) (ae (ac 1) am)))
 (au (a9 4 (eS am))
 (au (gA 2) (au (pV (dW (ac 2)) 4 3 5 (ap (aG nK) (ae (ac 0) (ae (ac 3) (ae (ac 5) am)))))
 (dH 4)))))
def u6:List PV→Res PV:=bj 6 vU
def vA:MS :=
 (ba (mOp pEq (ap (p1 cL) (ae (bV av (ac 0) (ae (ac 1) am)) am)) (mC (.int (0)))))
def gg:List PV→Res PV:=bj 2 vA
def AU:MS :=
 (ba (mOp pEq (ap (p1 cL) (ae (bV av (ac 0) (ae (ac 1) am)) am)) (mC (.int (1)))))
def xJ:List PV→Res PV:=bj 2 AU
def aq:Nat→Option (List PV→Res PV)
 | 0=>some gg
 | 1=>some gg
 | 2=>some gg
 | 3=>some gg
 | 4=>some gg
 | 5=>some gg
 | 6=>some gg
 | 7=>some gg
 | 9=>some xJ
 | _=>none
def vv:MS :=
 (au (a9 3 (mOp aK (eS (ae (bV ay (ac 0) (ae (ac 1) am)) am)) (aX [] 1 (b0 (ac 2)) (tgN 0) bB (mOp aN (ac 0) (mC (.int (1)))))))
 (au (gA 3) (au (cj (nq (ac 3)) (tgT 2 (bv (tgN 4) (bv (tgN 5) eO)))
  (mBr (cr (bV aq (ac 0) (ae (ac 5) am)))
  (dH 4)
  aP))
 (ba (mC .non)))))
def uN:List PV→Res PV:=bj 6 vv
def A7:MS :=
 (au (mBr (cr (bV aq (ac 0) (ae (ap (p1 dw) (ae (ac 1) am)) am)))
  (ba (mC (.int (0))))
  aP)
 (au (cj (bH (ae (ap (p1 cL) (ae (ac 2) am)) am)) (tgN 3)
  (mBr (cr (bV aq (ac 0) (ae (ap (p1 dw) (ae (mOp aN (mOp aN (ac 2) (ac 3)) (mC (.int (1)))) am)) am)))
  (ba (mOp aK (ac 3) (mC (.int (1)))))
  aP))
 (ba (mC .non))))
def Aq:List PV→Res PV:=bj 4 A7
def vD:MS :=
 (ba ((gH (sB (ac 0) "int") (pW (sB (ac 0) "bool")))))
def uQ:List PV→Res PV:=bj 1 vD
def A1:MS :=
 (au (a9 3 (ap (p1 dw) (ae (ac 1) am)))
 (au (a9 4 (aX [] 1 (b0 (ac 2)) (tgN 0) bB (jK (ae (ap (p1 dw) (ae (mOp aN (ac 0) (mC (.int (0)))) am)) (ae (ap (p1 dw) (ae (mOp aN (ac 0) (mC (.int (1)))) am)) am)))))
 (au (a9 5 (ap (aG uN) (ae (ac 0) (ae (ac 3) (ae (ac 2) am)))))
 (au (a9 6 (ap (aG Aq) (ae (ac 0) (ae (bV ay (ac 0) (ae (ap (p1 dw) (ae (ac 1) am)) am)) (ae (ac 4) am)))))
 (au (mBr ((gz (ax (mOp pNe (ac 3) (ac 1))) (ax (mOp pNe (ac 2) (ac 4)))))
  (ba (mC (.bl false)))
  aP)
 (au (mBr (ax (mOp j0 (ac 6) (mC .non)))
  (ba (mOp j0 (ac 5) (mC .non)))
  aP)
 (ba ((gH (ap (aG uQ) (ae (ac 5) am)) (mOp pEq (ac 5) (ac 6)))))))))))
def rP:List PV→Res PV:=bj 7 A1
def vK:MS :=
 (au (a9 2 (mC (.int (0))))
 (au (cj (bH (ae (ac 0) am)) (tgN 3)
  (au (a9 4 (mC (.int (0))))
 (cj (dW (ac 1)) (tgN 5)
  (au (a9 4 (mOp aK (ac 4) (mC (.int (1)))))
 (au (mBr (ax (mOp pIn (ac 3) (ac 5)))
  (a9 4 (mC (.int (0))))
  aP)
 (a9 2 (ap (dC max) (ae (ac 2) (ae (ac 4) am)))))))))
 (dH 2)))
def uT:List PV→Res PV:=bj 6 vK
def vC:MS :=
 (ba (ap (p1 (jE mq)) (ae (aX [1] 1 (bH (ae (ac 0) am)) (tgN 1) bB (ap (p1 (jE n6)) (ae (aX [1] 1 (b0 (ac 0)) (tgN 1) bB (mOp pIn (ac 0) (ac 1))) am))) am)))
def uP:List PV→Res PV:=bj 2 vC
def vq:MS :=
 (ba (ap (p1 (jE mq)) (ae (aX [0,1,2] 1 (ni (ae (mOp aK (mOp lD (ap (p1 cL) (ae (ac 1) am)) (ac 2)) (mC (.int (1)))) am)) (tgN 3) bB (ap (aG uP) (ae (ac 0) (ae (gT (ac 1) (ij (ac 3)) (ij (mOp aK (ac 3) (ac 2)))) am)))) am)))
def jN:List PV→Res PV:=bj 3 vq
def AV:MS :=
 (au (a9 3 (aX [] 1 (b0 (ac 1)) (tgN 0) bB (ap (p1 dw) (ae (ac 0) am))))
 (au (a9 4 (ap (aG uT) (ae (ac 0) (ae (ac 1) am))))
 (au (cj (dW (eS (ae (mC (.int (1))) (ae (mC (.int (2))) (ae (mOp aK (mC (.int (2))) (mOp bM (ac 2) (mC (.int (300))))) (ae (mOp aK (mOp bM (ac 2) (mOp lE (mC (.int (10))) (mC (.int (59))))) (mC (.int (1)))) am)))))) (tgN 5)
  (mBr (ax (mOp iY (ap (aG jN) (ae (ac 0) (ae (ac 1) (ae (mOp aK (ac 4) (ac 5)) am)))) (mC (.bl true))))
  (ba (mC (.bl false)))
  aP))
 (au (mBr ((gG (ax (mOp pGt (ac 4) (mC (.int (0))))) (ax (mOp iY (ap (aG jN) (ae (ac 0) (ae (ac 1) (ae (ac 4) am)))) (mC (.bl false))))))
  (ba (mC (.bl false)))
  aP)
 (au (mBr ((gG (ax (mOp pGt (ac 4) (mC (.int (0))))) (ax (mOp iY (ap (aG jN) (ae (ac 0) (ae (ac 1) (ae (mOp aK (mC (.int (1))) (mOp bM (ac 2) (ac 4))) am)))) (mC (.bl false))))))
  (ba (mC (.bl false)))
  aP)
 (ba (mOp pEq (ac 1) (ac 3))))))))
def xK:List PV→Res PV:=bj 6 AV
def vV:MS :=
 (au (a9 1 (ap (aG gh) (ae (ac 0) (ae (mC (.int (0))) am))))
 (au (a9 2 (ap (aG qi) (ae (mOp bM (ac 1) (mC (.int (6)))) (ae (mOp aK (mC (.int (1))) (mOp bM (mOp cZ (ac 1) (mC (.int (6)))) (mC (.int (6))))) (ae (mOp cZ (ac 1) (mC (.int (36)))) (ae (ap (aG gh) (ae (ac 0) (ae (mC (.int (2))) am))) am))))))
 (au (a9 3 (mUn (ao 0) (ac 2)))
 (au (a9 4 (ap (aG jO) (ae (mOp cZ (ap (aG gh) (ae (ac 0) (ae (mC (.int (1))) am))) (mC (.int (4)))) (ae (ac 3) am))))
 (au (a9 5 (aX [2] 1 (b0 (gT (ac 0) (ij (mC (.int (3)))) (ij (mC (.int (83)))))) (tgN 1) bB (ap (aG qh) (ae (ac 0) (ae (ac 1) am)))))
 (au (cj (bH (ae (mOp bM (ap (aG gh) (ae (ac 0) (ae (mC (.int (1))) am))) (mC (.int (4)))) am)) (tgN 6)
  (cj (bH (ae (ac 3) am)) (tgN 7)
  (cM 5 (eS (ae (mOp bM (mOp aK (ac 7) (ac 6)) (ac 3)) am)))))
 (au (a9 8 (ap (aG u6) (ae (ac 2) (ae (ap (p1 dw) (ae (ac 4) am)) (ae (aX [] 1 (b0 (ac 5)) (tgN 0) bB (ap (p1 dw) (ae (ac 0) am))) am)))))
 (au (gA 8) (au (a9 9 (mOp bM (mOp cZ (ac 1) (mC (.int (36)))) (mOp aK (ap (p1 cL) (ae (ac 8) am)) (mC (.int (1))))))
 (au (mBr ((gz (i3 (cr (ap (aG rP) (ae (ac 2) (ae (ac 4) (ae (ac 8) am)))))) (i3 (cr (ap (aG rP) (ae (ac 2) (ae (ac 4) (ae (gT (ac 8) jg (ij (ac 9))) am))))))))
  (ba (mC (.bl false)))
  aP)
 (au (mBr ((gz (i3 (cr (ap (aG rP) (ae (ac 2) (ae (ac 4) (ae (eS am) am)))))) (i3 (cr (ap (aG xK) (ae (ac 3) (ae (ac 5) (ae (mOp cZ (ac 1) (mC (.int (6)))) am))))))))
  (ba (mC (.bl false)))
  aP)
 (ba ((gH (ap (aG xK) (ae (ac 3) (ae (gT (ac 5) jg (ij (ac 9))) (ae (ap (aG gh) (ae (ac 0) (ae (mC (.int (2))) am))) am)))) (mOp q_ (ap (aG jN) (ae (ac 3) (ae (eS am) (ae (mC (.int (1))) am)))) (mC (.bl true)))))))))))))))))
def yC:List PV→Res PV:=bj 10 vV
end G
namespace G
open PySem L2 PR
def top(i:Nat):Stmt:=PySem.Challenge.pw_calmring_k41_calm_at_and_fair.main.body.getD i (.Pass ⟨0,0,0,0⟩)
def tF(q:Str)(i k:Nat)(N:List Str):FS:=⟨q,top i,k,N,none⟩
def tM(c:Nat)(q:Str)(i j k:Nat)(N:List Str):FS:=⟨q,xF (top i) j,k,N,some c⟩
def mE(c:Nat)(n:Str)(i:Nat):Nat×Str×Nat:=(c,n,i)
def pt:PT:={
 F:=[tF "_law_cell_at" 47 2 ["_law_script", "_law_k"],
  tM 0 "Rule.__init__" 14 0 4 ["self", "size", "span", "alone"],
  tM 9 "PassRule.__init__" 45 0 3 ["self", "size", "span"],
  tF "_law_numbers" 49 2 ["_law_cell", "_law_many", "_law_number", "_law_found", "_law_k"],
  tF "_law_ways" 50 2 ["_law_size", "_law_cell", "_law_numbers_here", "_law_order", "_law_k", "_law_ways_here", "_law_j", "_law_more"],
  tF "refuse_size" 39 2 ["size", "least"],
  tF "ordered_pairs" 40 2 ["size", "ways", "pairs", "way", "pair"],
  tF "neighbours" 41 2 ["pairs", "at", "lower", "higher"],
  tM 8 "Net.beside" 37 1 2 ["self", "at"],
  tF "far_from" 38 2 ["net", "root", "far", "steps", "at", "other"],
  tM 8 "Net.__init__" 37 0 3 ["self", "size", "ways"],
  tM 1 "DownRule.__init__" 18 0 3 ["self", "size", "span"],
  tM 2 "PaintRule.__init__" 19 0 2 ["self", "net"],
  tF "refuse_parents" 21 1 ["parents", "kid", "parent"],
  tM 3 "CountRule.__init__" 20 0 2 ["self", "parents"],
  tF "refuse_part" 29 1 ["part"],
  tF "refuse_starts" 30 3 ["net", "starts", "top", "start"],
  tM 4 "LeastRule.__init__" 26 0 5 ["self", "net", "starts", "stretch", "blocks"],
  tM 5 "FarRule.__init__" 27 0 3 ["self", "net", "root", "starts"],
  tF "refuse_names" 31 2 ["net", "names", "name"],
  tM 6 "LeadRule.__init__" 28 0 3 ["self", "net", "names", "starts"],
  tM 7 "GrowRule.__init__" 33 0 3 ["self", "net", "root"],
  tF "_law_rule" 51 4 ["_law_kind", "_law_size", "_law_first", "_law_cell"],
  tF "_law_turn" 52 2 ["_law_rule_here", "_law_cell", "_law_named", "_law_number"],
  tM 0 "Rule.read" 14 1 2 ["self", "registers"],
  tF "refuse_turn" 15 2 ["rule", "named", "at"],
  tM 0 "Rule.due" 14 2 3 ["self", "cells", "at"],
  tM 1 "DownRule.hangs_on" 18 1 2 ["self", "at"],
  tM 2 "PaintRule.hangs_on" 19 1 2 ["self", "at"],
  tM 3 "CountRule.hangs_on" 20 1 2 ["self", "at"],
  tM 2 "PaintRule.due" 19 3 3 ["self", "cells", "at", "taken", "colour"],
  tM 3 "CountRule.due" 20 3 3 ["self", "cells", "at"],
  tM 4 "LeastRule.has_offer" 26 2 2 ["self", "cell"],
  tM 4 "LeastRule.due" 26 1 3 ["self", "cells", "at", "near", "offers"],
  tM 7 "GrowRule.parts" 33 1 2 ["self", "cells"],
  tM 7 "GrowRule.fars" 33 6 2 ["self", "cells"],
  tM 7 "GrowRule.counts" 33 7 2 ["self", "cells"],
  tM 7 "GrowRule.elder" 33 8 3 ["self", "fars", "at", "nearer"],
  tM 7 "GrowRule.elders" 33 2 2 ["self", "cells", "fars"],
  tM 7 "GrowRule.due_count" 33 9 3 ["self", "cells", "at", "kids"],
  tM 7 "GrowRule.due" 33 3 3 ["self", "cells", "at", "fars", "due_far", "count"],
  tM 9 "PassRule.due" 45 1 3 ["self", "cells", "at"],
  tM 0 "Rule.turned" 14 5 3 ["self", "cells", "named"],
  tM 0 "Rule.movers" 14 3 2 ["self", "cells"],
  tF "row_of" 5 3 ["rule", "cells", "named", "behind", "done"],
  tF "run" 2 3 ["rule", "registers", "turns", "cells", "rows", "named"],
  tM 0 "Rule.calm" 14 4 2 ["self", "cells"],
  tM 9 "PassRule.calm" 45 2 2 ["self", "cells"],
  tF "calm_at" 3 3 ["rule", "registers", "rows", "states", "count", "cells"],
  tF "_law_first_calm" 54 3 ["_law_rule_here", "_law_cells", "_law_rows", "_law_k"],
  tF "_law_whole" 48 1 ["_law_found"],
  tF "_law_calm_told" 55 3 ["_law_rule_here", "_law_registers", "_law_rows", "_law_held", "_law_kept", "_law_found", "_law_due"],
  tF "_law_longest" 53 2 ["_law_size", "_law_turns", "_law_longest_here", "_law_at", "_law_many", "_law_named"],
  tF "names_all" 6 2 ["size", "turns"],
  tF "fair" 4 3 ["size", "turns", "within"],
  tF "_law_fair_told" 56 3 ["_law_size", "_law_turns", "_law_cell", "_law_kept", "_law_longest_here", "_law_more"],
  tF "law" 57 1 ["_law_script", "_law_first", "_law_rule_here", "_law_size", "_law_registers", "_law_turns", "_law_k", "_law_at", "_law_rows", "_law_many"]]
 C:=["Rule", "DownRule", "PaintRule", "CountRule", "LeastRule", "FarRule", "LeadRule", "GrowRule", "Net", "PassRule"]
 X:=["CalmError", "BadNet", "BadRule", "BadState", "BadTurn"]
 A:=["size", "pairs", "near", "top", "net", "starts", "stretch", "span", "alone", "far_rule", "root", "parents"]
 M:=[mE 8 "beside" 8,mE 0 "read" 24,mE 1 "read" 24,mE 2 "read" 24,mE 3 "read" 24,mE 4 "read" 24,mE 5 "read" 24,mE 6 "read" 24,mE 7 "read" 24,mE 9 "read" 24,mE 1 "hangs_on" 27,mE 2 "hangs_on" 28,mE 3 "hangs_on" 29,mE 4 "has_offer" 32,mE 5 "has_offer" 32,mE 6 "has_offer" 32,mE 7 "parts" 34,mE 7 "fars" 35,mE 5 "due" 33,mE 7 "counts" 36,mE 7 "elder" 37,mE 7 "elders" 38,mE 7 "due_count" 39,mE 0 "due" 26,mE 1 "due" 26,mE 2 "due" 30,mE 3 "due" 31,mE 4 "due" 33,mE 6 "due" 33,mE 7 "due" 40,mE 9 "due" 41,mE 0 "turned" 42,mE 1 "turned" 42,mE 2 "turned" 42,mE 3 "turned" 42,mE 4 "turned" 42,mE 5 "turned" 42,mE 6 "turned" 42,mE 7 "turned" 42,mE 9 "turned" 42,mE 0 "movers" 43,mE 1 "movers" 43,mE 2 "movers" 43,mE 3 "movers" 43,mE 4 "movers" 43,mE 5 "movers" 43,mE 6 "movers" 43,mE 7 "movers" 43,mE 9 "movers" 43,mE 0 "calm" 46,mE 1 "calm" 46,mE 2 "calm" 46,mE 3 "calm" 46,mE 4 "calm" 46,mE 5 "calm" 46,mE 6 "calm" 46,mE 7 "calm" 46,mE 9 "calm" 47]
 Mk:=[(3,14),(5,18),(7,21),(6,20),(8,10),(2,12),(9,2)]
 U:=[(1,11),(4,17),(0,1)]
 B:=["len", "range", "max", "min", "sorted", "tuple", "list", "enumerate", "set", "sum", "zip", "isinstance", "bool", "int", "any", "all"]
 I:=[("LEAST_RING", 2),("GREATEST_RING", 20),("GREATEST_NET", 10),("LEAST_NET", 1),("MOST_PARENTS", 9),("GREATEST_PART", 10),("GREATEST_NAME", 9),("LEAD_BLOCKS", 10)]
 KT:=[]
 HT:=[] }
theorem hA:pt.attOk:=⟨by decide +kernel,by decide +kernel⟩
abbrev T(K:PySem.W.Frag):Tb:=pt.T hA K
section
variable{P:Program}{w:World}{K:PySem.W.Frag}{mg:Str→Option Value}{base:Heap}(t:Tx pt K mg)(hB:K.In base)
include t hB
theorem jG:OkF pt hA P w K mg base 1 0 gh:=okC 0 t fun _ _ _ _ _ _ cx nd =>
 (ah (aU (fJ (sv 1) (cB cx.hK rfl (t.b 0) (sv 0))) (ak (aD (bL cx (sv 0) (sv 1) (fun _ _=>rfl)))) aJ)
 (ak (aD (ai))))
theorem lI:OkI pt hA P w K mg base 1 1 eV:=okI 1 t fun _ _ _ _ _ _ cx nd =>
 (ah (sFld 0 t cx (sv 1))
 (ah (sFld 7 t cx (sv 2))
 (ak (sFld 8 t cx (sv 3)))))
theorem Cl:OkI pt hA P w K mg base 3 2 Aj:=okI 2 t fun _ _ _ _ _ _ cx nd =>
 (ah (aU (SW.st (fI (fJ (sv 1) (cG rfl (t.c 0))) (dA (iW (sv 1) (cG rfl (t.c 1)))))) (ak (bR 2 t cx hB bO (aa (bQ) ag))) aJ)
 (ah (aU (fJ (sv 2) (sv 1)) (ak (bR 2 t cx hB bO (aa (bQ) ag))) aJ)
 (ak (mO 0 t (lI t hB) cx (aa (sv 1) (aa (sv 2) (aa (d_) ag)))))))
theorem oH:OkF pt hA P w K mg base 1 3 jO:=okC 3 t fun _ _ _ _ _ _ cx nd =>
 (ah (bX nd (aZ (sv 0) (ai)))
 (ah (bX nd (gM ag))
 (ah (bP cx.po cx.calm (b3 rfl (t.b 1) (aa (sv 1) ag)) (sgN nd) (ah (bX nd (aZ (aM (aM (e_ (sv 2) (aM (aM (sv 2) (e_ (ai) (sv 4))) (ai))) (e_ (ai) (sv 4))) (ai)) (ai)))
 (ak (qJ cx (sv 2)))))
 (ak (d9 rfl (Or.inl rfl))))))
theorem lH:OkF pt hA P w K mg base 2 4 kL:=okC 4 t fun _ _ _ _ _ _ cx nd =>
 (ah (bX nd (a6 t (oH t hB) cx (aa (sv 1) (aa (sv 0) ag))))
 (ah (bX nd (gM ag))
 (ah (bP cx.po cx.calm (b3 rfl (t.b 1) (aa (sv 0) ag)) (sgN nd) (ak (qC cx.hK rfl (Or.inl rfl) (aZ (bL cx (sv 2) (sv 4) (fun _ _=>rfl)) (aM (sv 4) (ai))) (sv 4))))
 (ah (bX nd (gM ag))
 (ah (bP cx.po cx.calm (qG rfl (t.b 1) (aa (ai) (aa (sv 0) ag))) (sgN nd) (ak (qJ cx (ow (aa (bL cx (sv 3) (sv 4) (fun _ _=>rfl)) (aa (bL cx (sv 3) (aZ (dB (bL cx (sv 2) (sv 4) (fun _ _=>rfl)) (ai)) (sv 4)) (fun _ _=>rfl)) ag))))))
 (ah (bP cx.po cx.calm (b3 rfl (t.b 1) (aa (sv 0) ag)) (sgN nd) (ak (bP cx.po cx.calm (b3 rfl (t.b 1) (aa (sv 4) ag)) (sgN nd) (ah (bX nd ((B1 (ju cx.hK cx.hu (aZ (sv 1) (ai)) (ai)) (iG ((jw (ju cx.hK cx.hu (aZ (aM (dB (bL cx (sv 2) (sv 4) (fun _ _=>rfl)) (ai)) (sv 6)) (sv 0)) (ai)) (iG (ju cx.hK cx.hu (aZ (dB (bL cx (sv 2) (sv 4) (fun _ _=>rfl)) (ai)) (ai)) (ai)))))))))
 (ak (aU (SW.st (gL (b_ cx.hK (sv 7)) (gL (mF cx.hK cx.hu2 (ow (aa (sv 6) (aa (sv 4) ag))) (sv 5)) (gs (mF cx.hK cx.hu2 (ow (aa (sv 4) (aa (sv 6) ag))) (sv 5)))))) (ak (qJ cx (ow (aa (sv 6) (aa (sv 4) ag))))) aJ))))))
 (ak (d9 rfl (Or.inl rfl)))))))))
theorem zK:OkF pt hA P w K mg base 1 5 uS:=okC 5 t fun _ _ _ _ _ _ cx nd =>
 (ak (aU (SW.st (fI (fJ (sv 0) (sv 1)) (dA (iW (sv 0) (cG rfl (t.c 2)))))) (ak (bR 1 t cx hB bO (aa (bQ) ag))) aJ))
theorem Ck:OkF pt hA P w K mg base 1 6 Ai:=okC 6 t fun _ _ _ _ _ _ cx nd =>
 (ah (bX nd (gM ag))
 (ah (bP cx.po cx.calm (fS cx.hK (sv 1)) (sgN nd) (ah (bX nd (ow (aa (pA cx.hK cx.calm rfl (t.b 3) (sv 3)) (aa (pB cx.hK cx.calm rfl (t.b 2) (sv 3)) ag))))
 (ah (aU (SW.st (fI (fJ (bL cx (sv 4) (ai) (fun _ _=>rfl)) (ai)) (dA (mH (bL cx (sv 4) (ai) (fun _ _=>rfl)) (sv 0))))) (ak (bR 1 t cx hB bO (aa (bQ) ag))) aJ)
 (ah (aU (cE cx.hK cx.hu (bL cx (sv 4) (ai) (fun _ _=>rfl)) (bL cx (sv 4) (ai) (fun _ _=>rfl))) (ak (bR 1 t cx hB bO (aa (bQ) ag))) aJ)
 (ah (aU (mG cx.hK cx.hu2 (sv 4) (sv 2)) (ak (bR 1 t cx hB bO (aa (bQ) ag))) aJ)
 (ak (qJ cx (sv 4))))))))
 (ak (aD (kj cx.hK rfl (t.b 4) (sv 2))))))
theorem zH:OkF pt hA P w K mg base 1 7 qj:=okC 7 t fun _ _ _ _ _ _ cx nd =>
 (ah (ee ["pair"] cx nd (bA cx.hK (sv 0)) b9 (fun _ _ _ _ nd=>⟨(sgN nd),(dh (cE cx.comp.hK cx.comp.hu (bL cx.comp (sv 1) (ai) (fun _ _=>rfl)) (sv 0))),(bL cx.comp (sv 1) (ai) (fun _ _=>rfl))⟩))
 (ah (ee ["pair"] cx nd (bA cx.hK (sv 0)) b9 (fun _ _ _ _ nd=>⟨(sgN nd),(dh (cE cx.comp.hK cx.comp.hu (bL cx.comp (sv 1) (ai) (fun _ _=>rfl)) (sv 0))),(bL cx.comp (sv 1) (ai) (fun _ _=>rfl))⟩))
 (ak (aD (kj cx.hK rfl (t.b 4) (aM (sv 2) (sv 3)))))))
theorem zI:OkF pt hA P w K mg base 1 8 qk:=okC 8 t fun _ _ _ _ _ _ cx nd =>
 (ak (aD (di cx.hK rfl (t.b 6) dr (bL cx (aR 2 t cx (sv 0)) (sv 1) (fun _ _=>rfl)))))
omit t hB in
theorem cA{X:Cx}(t:Tx pt X.K X.mg)(hB:X.K.In X.base):fH X (T X.K) 1 "beside" ["self", "at"] [] bt:=fun c _ hc e=>match c,hc,e with
 | 8,_,e=>dm 0 t (zI t hB) e
 | 0,_,e=>nomatch e
 | 1,_,e=>nomatch e
 | 2,_,e=>nomatch e
 | 3,_,e=>nomatch e
 | 4,_,e=>nomatch e
 | 5,_,e=>nomatch e
 | 6,_,e=>nomatch e
 | 7,_,e=>nomatch e
 | 9,_,e=>nomatch e
 | _+10,h,_=>dno (n:=10) h
theorem zB:OkF pt hA P w K mg base 2 9 qg:=okC 9 t fun _ _ _ _ _ _ cx nd =>
 (ah (ee ["at"] cx nd (bS rfl (t.b 1) (aa (aR 0 t cx (sv 0)) ag)) b9 (fun _ _ _ _ nd=>⟨(sgN nd),a_,(aR 0 t cx.comp (sv 0))⟩))
 (ah (mI rfl (Or.inl rfl) (sv 1) (ai))
 (ah (bP cx.po cx.calm (b3 rfl (t.b 1) (aa (aR 0 t cx (sv 0)) ag)) (sgN nd) (ak (bP cx.po cx.calm (b3 rfl (t.b 1) (aa (aR 0 t cx (sv 0)) ag)) (sgN nd) (ak (aU (cE cx.hK cx.hu (bL cx (sv 2) (sv 4) (fun _ _=>rfl)) (sv 3)) (ak (bP cx.po cx.calm (fS cx.hK (cI t (cA t hB) cx (sv 0) (aa (sv 4) ag))) (sgN nd) (ak (mI rfl (Or.inl rfl) (sv 5) (lr cx.calm rfl (t.b 3) (aa (bL cx (sv 2) (sv 5) (fun _ _=>rfl)) (aa (aM (sv 3) (ai)) ag))))))) aJ)))))
 (ak (d9 rfl (Or.inl rfl))))))
theorem lG:OkI pt hA P w K mg base 3 10 kK:=okI 10 t fun _ _ _ _ _ _ cx nd =>
 (ah (e9 (a6 t (zK t hB) cx (aa (sv 1) (aa (cG rfl (t.c 3)) ag))))
 (ah (sFld 0 t cx (sv 1))
 (ah (sFld 1 t cx (fT cx.hK rfl (t.b 5) gp (a6 t (Ck t hB) cx (aa (sv 1) (aa (sv 2) ag)))))
 (ah (sFld 2 t cx (fT cx.hK rfl (t.b 5) gp (cJ ["at"] cx (bS rfl (t.b 1) (aa (sv 1) ag)) b9 (fun _ _ _ _ nd=>⟨(sgN nd),a_,(fT cx.comp.hK rfl (t.b 5) gp (a6 t (zH t hB) cx.comp (aa (aR 1 t cx.comp (sv 0)) (aa (sv 1) ag))))⟩))))
 (ak (aU (cE cx.hK cx.hu (pB cx.hK cx.calm rfl (t.b 2) (a6 t (zB t hB) cx (aa (sv 0) (aa (ai) ag)))) (sv 1)) (ak (bR 1 t cx hB bO (aa (bQ) ag))) aJ))))))
theorem yu:OkI pt hA P w K mg base 3 11 oZ:=okI 11 t fun _ _ _ _ _ _ cx nd =>
 (ak (mO 0 t (lI t hB) cx (aa (sv 1) (aa (sv 2) (aa (d_) ag)))))
theorem Cu:OkI pt hA P w K mg base 5 12 As:=okI 12 t fun _ _ _ _ _ _ cx nd =>
 (eD (i:=1) (ah (sFld 4 t cx (sv 1))
 (ak (mO 1 t (yu t hB) cx (aa (aR 0 t cx (sv 1)) (aa (aR 0 t cx (sv 1)) ag))))))
theorem Cp:OkF pt hA P w K mg base 1 13 An:=okC 13 t fun _ _ _ _ _ _ cx nd =>
 (ah (aU (iW (cB cx.hK rfl (t.b 0) (sv 0)) (cG rfl (t.c 4))) (ak (bR 2 t cx hB bO (aa (bQ) ag))) aJ)
 (ak (bP cx.po cx.calm (we cx.hK rfl (t.b 7) (sv 0)) (jp cx.hK cx.calm (cw nd rfl (Or.inl rfl) (cw nd rfl (Or.inl rfl) hG))) (ak (aU (SW.st (fI (fJ (sv 2) (ai)) (dA (mH (sv 2) (sv 1))))) (ak (bR 2 t cx hB bO (aa (bQ) ag))) aJ)))))
theorem Ct:OkI pt hA P w K mg base 5 14 Ar:=okI 14 t fun _ _ _ _ _ _ cx nd =>
 (ah (e9 (a6 t (Cp t hB) cx (aa (sv 1) ag)))
 (ah (sFld 11 t cx (fT cx.hK rfl (t.b 5) gp (sv 1)))
 (ak (mO 1 t (yu t hB) cx (aa (aM (cB cx.hK rfl (t.b 0) (sv 1)) (ai)) (aa (aM (cB cx.hK rfl (t.b 0) (sv 1)) (ai)) ag))))))
theorem t5:OkF pt hA P w K mg base 1 15 ql:=okC 15 t fun _ _ _ _ _ _ cx nd =>
 (ak (aU (SW.st (fI (fJ (sv 0) (ai)) (dA (iW (sv 0) (cG rfl (t.c 5)))))) (ak (bR 2 t cx hB bO (aa (bQ) ag))) aJ))
theorem Cn:OkF pt hA P w K mg base 1 16 Al:=okC 16 t fun _ _ _ _ _ _ cx nd =>
 (ah (aU (gC cx.hK cx.hu (cB cx.hK rfl (t.b 0) (sv 1)) (aR 0 t cx (sv 0))) (ak (bR 2 t cx hB bO (aa (bQ) ag))) aJ)
 (ak (bP cx.po cx.calm (fS cx.hK (sv 1)) (sgN nd) (ak (aU (SW.st (gL (pp (sv 3) (fU)) (gs (SW.st (fI (fJ (sv 3) (ai)) (dA (mH (sv 3) (sv 2)))))))) (ak (bR 2 t cx hB bO (aa (bQ) ag))) aJ)))))
theorem yv:OkI pt hA P w K mg base 3 17 rQ:=okI 17 t fun _ _ _ _ _ _ cx nd =>
 (ah (e9 (a6 t (t5 t hB) cx (aa (sv 3) ag)))
 (ah (e9 (a6 t (t5 t hB) cx (aa (sv 4) ag)))
 (ah (sFld 3 t cx (e_ (sv 3) (sv 4)))
 (ah (e9 (a6 t (Cn t hB) cx (aa (sv 1) (aa (sv 2) (aa (aR 3 t cx (sv 0)) ag)))))
 (eD (i:=1) (ah (sFld 4 t cx (sv 1))
 (ah (sFld 5 t cx (fT cx.hK rfl (t.b 5) gp (sv 2)))
 (ah (sFld 6 t cx (sv 3))
 (ak (mO 0 t (lI t hB) cx (aa (aR 0 t cx (sv 1)) (aa (aM (aR 3 t cx (sv 0)) (ai)) (aa (d_) ag)))))))))))))
theorem t6:OkI pt hA P w K mg base 5 18 qm:=okI 18 t fun _ _ _ _ _ _ cx nd =>
 (ah (aU (SW.st (fI (fJ (sv 2) (ai)) (dA (mH (sv 2) (aR 0 t cx (sv 1)))))) (ak (bR 2 t cx hB bO (aa (bQ) ag))) aJ)
 (ah (ee ["at"] cx nd (bS rfl (t.b 1) (aa (aR 0 t cx (sv 1)) ag)) b9 (fun _ _ _ _ nd=>⟨(sgN nd),a_,(mM (cE cx.comp.hK cx.comp.hu (sv 1) (sv 0)) (ai) (fU))⟩))
 (eD (i:=3) (eD (i:=1) (ak (mO 4 t (yv t hB) cx (aa (sv 1) (aa (sv 3) (aa (aR 0 t cx (sv 1)) (aa (ai) ag))))))))))
theorem zN:OkF pt hA P w K mg base 1 19 uV:=okC 19 t fun _ _ _ _ _ _ cx nd =>
 (ah (aU (gC cx.hK cx.hu (cB cx.hK rfl (t.b 0) (sv 1)) (aR 0 t cx (sv 0))) (ak (bR 2 t cx hB bO (aa (bQ) ag))) aJ)
 (ah (aU (gC cx.hK cx.hu (km cx.hK cx.calm rfl (t.b 0) rfl (t.b 8) (sv 1)) (cB cx.hK rfl (t.b 0) (sv 1))) (ak (bR 2 t cx hB bO (aa (bQ) ag))) aJ)
 (ak (bP cx.po cx.calm (fS cx.hK (sv 1)) (sgN nd) (ak (aU (SW.st (fI (fJ (sv 2) (ai)) (dA (iW (sv 2) (cG rfl (t.c 6)))))) (ak (bR 2 t cx hB bO (aa (bQ) ag))) aJ))))))
theorem zS:OkI pt hA P w K mg base 5 20 uZ:=okI 20 t fun _ _ _ _ _ _ cx nd =>
 (eD (i:=1) (ah (e9 (a6 t (zN t hB) cx (aa (sv 1) (aa (sv 2) ag))))
 (ah (ee ["name"] cx nd (bA cx.hK (sv 2)) b9 (fun _ _ _ _ nd=>⟨(sgN nd),a_,(e_ (iF (cG rfl (t.c 6)) (sv 1)) (aR 0 t cx.comp (sv 0)))⟩))
 (eD (i:=3) (ak (mO 4 t (yv t hB) cx (aa (sv 1) (aa (sv 3) (aa (aR 0 t cx (sv 1)) (aa (cG rfl (t.c 7)) ag))))))))))
theorem zQ:OkI pt hA P w K mg base 7 21 uX:=okI 21 t fun _ _ _ _ _ _ cx nd =>
 (eD (i:=1) (ah (sFld 9 t cx (jx 5 t (t6 t hB) cx (aa (sv 1) (aa (sv 2) ag))))
 (ah (sFld 4 t cx (sv 1))
 (ah (sFld 10 t cx (sv 2))
 (ak (mO 0 t (lI t hB) cx (aa (aR 0 t cx (sv 1)) (aa (e_ (aM (aR 0 t cx (sv 1)) (ai)) (aM (aR 0 t cx (sv 1)) (ai))) (aa (d_) ag)))))))))
theorem zE:OkF pt hA P w K mg base 9 22 qi:=okC 22 t fun _ _ _ _ _ _ cx nd =>
 (ah (aU (cE cx.hK cx.hu (sv 0) (ai)) (ak (aD (jx 9 t (Cl t hB) cx (aa (aM (sv 1) (ai)) (aa (aM (aM (sv 1) (ai)) (wq cx.hK (gM (aa (aZ (sv 2) (ai)) (aa (aZ (sv 2) (sL (ai) (ai))) ag))) (aZ (dB (sv 2) (ai)) (ai)) (fun _ _=>rfl))) ag))))) aJ)
 (ah (aU (cE cx.hK cx.hu (sv 0) (ai)) (ak (aD (jx 2 t (Cu t hB) cx (aa (jx 8 t (lG t hB) cx (aa (sv 1) (aa (a6 t (lH t hB) cx (aa (sv 1) (aa (sv 3) ag))) ag))) ag)))) aJ)
 (ah (aU (cE cx.hK cx.hu (sv 0) (ai)) (ak (aD (jx 3 t (Ct t hB) cx (aa (cJ ["_law_k", "_law_number"] cx (qF cx.hK rfl (t.b 7) (a6 t (oH t hB) cx (aa (sv 3) (aa (iF (sv 1) (ai)) ag)))) (lc (dP b9 (dP b9 jl))) (fun _ _ _ _ nd=>⟨(jp cx.comp.hK cx.comp.calm (cw nd rfl (Or.inl rfl) (cw nd rfl (Or.inl rfl) hG))),a_,(aZ (dB (sv 1) (ai)) (aM (sv 0) (ai)))⟩)) ag)))) aJ)
 (ah (aU (cE cx.hK cx.hu (sv 0) (ai)) (ak (aD (jx 5 t (t6 t hB) cx (aa (jx 8 t (lG t hB) cx (aa (sv 1) (aa (a6 t (lH t hB) cx (aa (sv 1) (aa (sv 3) ag))) ag))) (aa (aZ (sv 2) (sv 1)) ag))))) aJ)
 (ah (aU (cE cx.hK cx.hu (sv 0) (ai)) (ak (aD (jx 6 t (zS t hB) cx (aa (jx 8 t (lG t hB) cx (aa (sv 1) (aa (a6 t (lH t hB) cx (aa (sv 1) (aa (sv 3) ag))) ag))) (aa (cJ ["_law_k"] cx (bS rfl (t.b 1) (aa (sv 1) ag)) b9 (fun _ _ _ _ nd=>⟨(sgN nd),a_,(aZ (aM (sv 0) (e_ (ai) (sv 1))) (ai))⟩)) ag))))) aJ)
 (ak (aD (jx 7 t (zQ t hB) cx (aa (jx 8 t (lG t hB) cx (aa (sv 1) (aa (a6 t (lH t hB) cx (aa (sv 1) (aa (sv 3) ag))) ag))) (aa (aZ (sv 2) (sv 1)) ag))))))))))
theorem zD:OkF pt hA P w K mg base 1 23 qh:=okC 23 t fun _ _ _ _ _ _ cx nd =>
 (ah (bX nd (gM (aa (aZ (sv 1) (aR 0 t cx (sv 0))) ag)))
 (ah (aU (jo (b_ cx.hK (aR 8 t cx (sv 0)))) (ah (bX nd (aZ (e_ (aZ (dB (sv 1) (ai)) (ai)) (ai)) (ai)))
 (ak (bX nd (aM (sv 2) (cJ ["_law_at"] cx (bS rfl (t.b 1) (aa (aR 0 t cx (sv 0)) ag)) b9 (fun _ _ _ _ nd=>⟨(sgN nd),(dh (SW.st (gL (cE cx.comp.hK cx.comp.hu (aZ (yS (sv 0) (sv 2)) (ai)) (ai)) (gs (gC cx.comp.hK cx.comp.hu (sv 2) (bL cx.comp (sv 1) (ai) (fun _ _=>rfl))))))),(sv 2)⟩)))))) aJ)
 (ah (aU (cE cx.hK cx.hu (aZ (sv 1) (ai)) (ai)) (ak (aD (gM ag))) aJ)
 (ak (d9 rfl (Or.inr (Or.inl rfl)))))))
theorem fg:OkF pt hA P w K mg base 1 24 fL:=okC 24 t fun _ _ _ _ _ _ cx nd =>
 (ah (aU (gC cx.hK cx.hu (cB cx.hK rfl (t.b 0) (sv 1)) (aR 0 t cx (sv 0))) (ak (bR 3 t cx hB bO (aa (bQ) ag))) aJ)
 (ak (aD (cJ ["number"] cx (bA cx.hK (sv 1)) b9 (fun _ _ _ _ nd=>⟨(sgN nd),a_,(aZ (sv 1) (aR 7 t cx.comp (sv 0)))⟩)))))
omit t hB in
theorem bx{X:Cx}(t:Tx pt X.K X.mg)(hB:X.K.In X.base):fH X (T X.K) 1 "read" ["self", "registers"] [] ay:=fun c _ hc e=>match c,hc,e with
 | 0,_,e=>dm 1 t (fg t hB) e
 | 1,_,e=>dm 2 t (fg t hB) e
 | 2,_,e=>dm 3 t (fg t hB) e
 | 3,_,e=>dm 4 t (fg t hB) e
 | 4,_,e=>dm 5 t (fg t hB) e
 | 5,_,e=>dm 6 t (fg t hB) e
 | 6,_,e=>dm 7 t (fg t hB) e
 | 7,_,e=>dm 8 t (fg t hB) e
 | 9,_,e=>dm 9 t (fg t hB) e
 | 8,_,e=>nomatch e
 | _+10,h,_=>dno (n:=10) h
theorem zJ:OkF pt hA P w K mg base 1 25 uR:=okC 25 t fun _ _ _ _ _ _ cx nd =>
 (ah (aU (SW.st (gL (b_ cx.hK (aR 8 t cx (sv 0))) (gs (iW (cB cx.hK rfl (t.b 0) (sv 1)) (ai))))) (ak (bR 4 t cx hB bO (aa (bQ) ag))) aJ)
 (ah (bP cx.po cx.calm (fS cx.hK (sv 1)) (sgN nd) (ak (aU (SW.st (fI (fJ (sv 2) (ai)) (dA (mH (sv 2) (aR 0 t cx (sv 0)))))) (ak (bR 4 t cx hB bO (aa (bQ) ag))) aJ)))
 (ak (aU (gC cx.hK cx.hu (km cx.hK cx.calm rfl (t.b 0) rfl (t.b 8) (sv 1)) (cB cx.hK rfl (t.b 0) (sv 1))) (ak (bR 4 t cx hB bO (aa (bQ) ag))) aJ))))
theorem tZ:OkF pt hA P w K mg base 1 26 uO:=okC 26 t fun _ _ _ _ _ _ cx nd =>
 (ak (aD (bL cx (sv 1) (sv 2) (fun _ _=>rfl))))
theorem Cy:OkF pt hA P w K mg base 1 27 C_:=okC 27 t fun _ _ _ _ _ _ cx nd =>
 (ak (aD (gM ag)))
theorem Cz:OkF pt hA P w K mg base 2 28 Av:=okC 28 t fun _ _ _ _ _ _ cx nd =>
 (ak (aD (cJ ["other"] cx (bA cx.hK (cI t (cA t hB) cx (aR 4 t cx (sv 0)) (aa (sv 1) ag))) b9 (fun _ _ _ _ nd=>⟨(sgN nd),(dh (fJ (sv 1) (sv 0))),(sv 1)⟩))))
theorem CB:OkF pt hA P w K mg base 1 29 Ax:=okC 29 t fun _ _ _ _ _ _ cx nd =>
 (ak (aD (cJ ["kid", "parent"] cx (sG cx.hK rfl (t.b 7) (aR 11 t cx (sv 0))) (lc (dP b9 (dP b9 jl))) (fun _ _ _ _ nd=>⟨(jp cx.comp.hK cx.comp.calm (cw nd rfl (Or.inl rfl) (cw nd rfl (Or.inl rfl) hG))),(dh (cE cx.comp.hK cx.comp.hu (sv 2) (sv 0))),(sv 1)⟩))))
omit t hB in
theorem cV{X:Cx}(t:Tx pt X.K X.mg)(hB:X.K.In X.base):fH X (T X.K) 2 "hangs_on" ["self", "at"] [] bq:=fun c _ hc e=>match c,hc,e with
 | 1,_,e=>dm 10 t (Cy t hB) e
 | 2,_,e=>dm 11 t (Cz t hB) e
 | 3,_,e=>dm 12 t (CB t hB) e
 | 0,_,e=>nomatch e
 | 4,_,e=>nomatch e
 | 5,_,e=>nomatch e
 | 6,_,e=>nomatch e
 | 7,_,e=>nomatch e
 | 8,_,e=>nomatch e
 | 9,_,e=>nomatch e
 | _+10,h,_=>dno (n:=10) h
theorem zR:OkF pt hA P w K mg base 3 30 uY:=okC 30 t fun _ _ _ _ _ _ cx nd =>
 (ah (ee ["other"] cx nd (bA cx.hK (cI t (cV t hB) cx (sv 0) (aa (sv 2) ag))) b9 (fun _ _ _ _ nd=>⟨(sgN nd),a_,(bL cx.comp (sv 0) (sv 1) (fun _ _=>rfl))⟩))
 (ah (bX nd (ai))
 (ah (sD cx.po (mG cx.hK cx.hu2 (sv 4) (sv 3)) (ak (bX nd (aM (sv 4) (ai)))))
 (ak (d9 rfl (Or.inl rfl))))))
theorem Cm:OkF pt hA P w K mg base 3 31 Ak:=okC 31 t fun _ _ _ _ _ _ cx nd =>
 (ak (aD (lr cx.calm rfl (t.b 3) (aa (aR 0 t cx (sv 0)) (aa (aM (ai) (sK cx.hK cx.calm rfl (t.b 9) (cJ ["kid"] cx (bA cx.hK (cI t (cV t hB) cx (sv 0) (aa (sv 2) ag))) b9 (fun _ _ _ _ nd=>⟨(sgN nd),a_,(bL cx.comp (sv 0) (sv 1) (fun _ _=>rfl))⟩)))) ag)))))
theorem t7:OkF pt hA P w K mg base 1 32 rR:=okC 32 t fun _ _ _ _ _ _ cx nd =>
 (ak (aD ((jw (yn cx.hK cx.hu (sv 1) (aR 3 t cx (sv 0))) (iG (yn cx.hK cx.hu (aZ (aM (sv 1) (ai)) (aR 6 t cx (sv 0))) (ai)))))))
omit t hB in
theorem fq{X:Cx}(t:Tx pt X.K X.mg)(hB:X.K.In X.base):fH X (T X.K) 1 "has_offer" ["self", "cell"] [] cu:=fun c _ hc e=>match c,hc,e with
 | 4,_,e=>dm 13 t (t7 t hB) e
 | 5,_,e=>dm 14 t (t7 t hB) e
 | 6,_,e=>dm 15 t (t7 t hB) e
 | 0,_,e=>nomatch e
 | 1,_,e=>nomatch e
 | 2,_,e=>nomatch e
 | 3,_,e=>nomatch e
 | 7,_,e=>nomatch e
 | 8,_,e=>nomatch e
 | 9,_,e=>nomatch e
 | _+10,h,_=>dno (n:=10) h
theorem pN:OkF pt hA P w K mg base 2 33 rO:=okC 33 t fun _ _ _ _ _ _ cx nd =>
 (ah (ee ["other"] cx nd (bA cx.hK (cI t (cA t hB) cx (aR 4 t cx (sv 0)) (aa (sv 2) ag))) b9 (fun _ _ _ _ nd=>⟨(sgN nd),a_,(bL cx.comp (sv 0) (sv 1) (fun _ _=>rfl))⟩))
 (ah (ee ["cell"] cx nd (bA cx.hK (sv 3)) b9 (fun _ _ _ _ nd=>⟨(sgN nd),(dh (b_ cx.comp.hK (cI t (fq t hB) cx.comp (sv 0) (aa (sv 1) ag)))),(aM (sv 1) (ai))⟩))
 (ah (aU (pp (bL cx (aR 5 t cx (sv 0)) (sv 2) (fun _ _=>rfl)) (fU)) (ak (qJ cx (bL cx (aR 5 t cx (sv 0)) (sv 2) (fun _ _=>rfl)))) aJ)
 (ak (aD (pA cx.hK cx.calm rfl (t.b 3) (aM (sv 4) (gM (aa (aR 3 t cx (sv 0)) ag)))))))))
theorem Cq:OkF pt hA P w K mg base 1 34 Ao:=okC 34 t fun _ _ _ _ _ _ cx nd =>
 (ak (aD (cJ ["cell"] cx (bA cx.hK (sv 1)) b9 (fun _ _ _ _ nd=>⟨(sgN nd),a_,(ow (aa (dB (sv 1) (aM (aR 0 t cx.comp (sv 0)) (ai))) (aa (aZ (sv 1) (aM (aR 0 t cx.comp (sv 0)) (ai))) ag)))⟩))))
omit t hB in
theorem f9{X:Cx}(t:Tx pt X.K X.mg)(hB:X.K.In X.base):fH X (T X.K) 1 "parts" ["self", "cells"] [] dz:=fun c _ hc e=>match c,hc,e with
 | 7,_,e=>dm 16 t (Cq t hB) e
 | 0,_,e=>nomatch e
 | 1,_,e=>nomatch e
 | 2,_,e=>nomatch e
 | 3,_,e=>nomatch e
 | 4,_,e=>nomatch e
 | 5,_,e=>nomatch e
 | 6,_,e=>nomatch e
 | 8,_,e=>nomatch e
 | 9,_,e=>nomatch e
 | _+10,h,_=>dno (n:=10) h
theorem Co:OkF pt hA P w K mg base 2 35 Am:=okC 35 t fun _ _ _ _ _ _ cx nd =>
 (ak (aD (cJ ["part"] cx (bA cx.hK (cI t (f9 t hB) cx (sv 0) (aa (sv 1) ag))) b9 (fun _ _ _ _ nd=>⟨(sgN nd),a_,(bL cx.comp (sv 0) (ai) (fun _ _=>rfl))⟩))))
omit t hB in
theorem gF{X:Cx}(t:Tx pt X.K X.mg)(hB:X.K.In X.base):fH X (T X.K) 2 "fars" ["self", "cells"] [] dZ:=fun c _ hc e=>match c,hc,e with
 | 7,_,e=>dm 17 t (Co t hB) e
 | 0,_,e=>nomatch e
 | 1,_,e=>nomatch e
 | 2,_,e=>nomatch e
 | 3,_,e=>nomatch e
 | 4,_,e=>nomatch e
 | 5,_,e=>nomatch e
 | 6,_,e=>nomatch e
 | 8,_,e=>nomatch e
 | 9,_,e=>nomatch e
 | _+10,h,_=>dno (n:=10) h
omit t hB in
theorem lJ{X:Cx}(t:Tx pt X.K X.mg)(hB:X.K.In X.base):fH X (T X.K) 2 "due" ["self", "cells", "at"] [] iR:=fun c _ hc e=>match c,hc,e with
 | 5,_,e=>dm 18 t (pN t hB) e
 | 0,_,e=>nomatch e
 | 1,_,e=>nomatch e
 | 2,_,e=>nomatch e
 | 3,_,e=>nomatch e
 | 4,_,e=>nomatch e
 | 6,_,e=>nomatch e
 | 7,_,e=>nomatch e
 | 8,_,e=>nomatch e
 | 9,_,e=>nomatch e
 | _+10,h,_=>dno (n:=10) h
theorem Cv:OkF pt hA P w K mg base 2 36 At:=okC 36 t fun _ _ _ _ _ _ cx nd =>
 (ak (aD (cJ ["part"] cx (bA cx.hK (cI t (f9 t hB) cx (sv 0) (aa (sv 1) ag))) b9 (fun _ _ _ _ nd=>⟨(sgN nd),a_,(bL cx.comp (sv 0) (ai) (fun _ _=>rfl))⟩))))
omit t hB in
theorem fK{X:Cx}(t:Tx pt X.K X.mg)(hB:X.K.In X.base):fH X (T X.K) 2 "counts" ["self", "cells"] [] cQ:=fun c _ hc e=>match c,hc,e with
 | 7,_,e=>dm 19 t (Cv t hB) e
 | 0,_,e=>nomatch e
 | 1,_,e=>nomatch e
 | 2,_,e=>nomatch e
 | 3,_,e=>nomatch e
 | 4,_,e=>nomatch e
 | 5,_,e=>nomatch e
 | 6,_,e=>nomatch e
 | 8,_,e=>nomatch e
 | 9,_,e=>nomatch e
 | _+10,h,_=>dno (n:=10) h
theorem Cr:OkF pt hA P w K mg base 2 37 Ap:=okC 37 t fun _ _ _ _ _ _ cx nd =>
 (ah (aU (cE cx.hK cx.hu (sv 2) (aR 10 t cx (sv 0))) (ak (aD (fU))) aJ)
 (ah (ee ["other"] cx nd (bA cx.hK (cI t (cA t hB) cx (aR 4 t cx (sv 0)) (aa (sv 2) ag))) b9 (fun _ _ _ _ nd=>⟨(sgN nd),(dh (cE cx.comp.hK cx.comp.hu (bL cx.comp (sv 0) (sv 2) (fun _ _=>rfl)) (iF (bL cx.comp (sv 0) (sv 1) (fun _ _=>rfl)) (ai)))),(sv 2)⟩))
 (ak (aD (wm cx.hK cx.calm rfl (t.b 3) (sv 3))))))
omit t hB in
theorem jH{X:Cx}(t:Tx pt X.K X.mg)(hB:X.K.In X.base):fH X (T X.K) 2 "elder" ["self", "fars", "at"] [] gm:=fun c _ hc e=>match c,hc,e with
 | 7,_,e=>dm 20 t (Cr t hB) e
 | 0,_,e=>nomatch e
 | 1,_,e=>nomatch e
 | 2,_,e=>nomatch e
 | 3,_,e=>nomatch e
 | 4,_,e=>nomatch e
 | 5,_,e=>nomatch e
 | 6,_,e=>nomatch e
 | 8,_,e=>nomatch e
 | 9,_,e=>nomatch e
 | _+10,h,_=>dno (n:=10) h
theorem Cw:OkF pt hA P w K mg base 3 38 Au:=okC 38 t fun _ _ _ _ _ _ cx nd =>
 (ah (bX nd (cI t (gF t hB) cx (sv 0) (aa (sv 1) ag)))
 (ak (aD (cJ ["at"] cx (bS rfl (t.b 1) (aa (aR 0 t cx (sv 0)) ag)) b9 (fun _ _ _ _ nd=>⟨(sgN nd),a_,(cI t (jH t hB) cx.comp (sv 0) (aa (sv 1) (aa (sv 2) ag)))⟩)))))
omit t hB in
theorem jb{X:Cx}(t:Tx pt X.K X.mg)(hB:X.K.In X.base):fH X (T X.K) 3 "elders" ["self", "cells"] [] fD:=fun c _ hc e=>match c,hc,e with
 | 7,_,e=>dm 21 t (Cw t hB) e
 | 0,_,e=>nomatch e
 | 1,_,e=>nomatch e
 | 2,_,e=>nomatch e
 | 3,_,e=>nomatch e
 | 4,_,e=>nomatch e
 | 5,_,e=>nomatch e
 | 6,_,e=>nomatch e
 | 8,_,e=>nomatch e
 | 9,_,e=>nomatch e
 | _+10,h,_=>dno (n:=10) h
theorem CA:OkF pt hA P w K mg base 4 39 Aw:=okC 39 t fun _ _ _ _ _ _ cx nd =>
 (ah (ee ["count", "elder"] cx nd (wd cx.hK rfl (t.b 10) (aa (cI t (fK t hB) cx (sv 0) (aa (sv 1) ag)) (aa (cI t (jb t hB) cx (sv 0) (aa (sv 1) ag)) ag))) (lc (dP b9 (dP b9 jl))) (fun _ _ _ _ nd=>⟨(jp cx.comp.hK cx.comp.calm (cw nd rfl (Or.inl rfl) (cw nd rfl (Or.inl rfl) hG))),(dh (cE cx.comp.hK cx.comp.hu (sv 2) (sv 0))),(sv 1)⟩))
 (ak (aD (lr cx.calm rfl (t.b 3) (aa (aR 0 t cx (sv 0)) (aa (aM (ai) (sK cx.hK cx.calm rfl (t.b 9) (sv 3))) ag))))))
omit t hB in
theorem gR{X:Cx}(t:Tx pt X.K X.mg)(hB:X.K.In X.base):fH X (T X.K) 4 "due_count" ["self", "cells", "at"] [] dF:=fun c _ hc e=>match c,hc,e with
 | 7,_,e=>dm 22 t (CA t hB) e
 | 0,_,e=>nomatch e
 | 1,_,e=>nomatch e
 | 2,_,e=>nomatch e
 | 3,_,e=>nomatch e
 | 4,_,e=>nomatch e
 | 5,_,e=>nomatch e
 | 6,_,e=>nomatch e
 | 8,_,e=>nomatch e
 | 9,_,e=>nomatch e
 | _+10,h,_=>dno (n:=10) h
theorem zP:OkF pt hA P w K mg base 5 40 uW:=okC 40 t fun _ _ _ _ _ _ cx nd =>
 (ah (bX nd (cI t (gF t hB) cx (sv 0) (aa (sv 1) ag)))
 (ah (bX nd (cI t (lJ t hB) cx (aR 9 t cx (sv 0)) (aa (sv 3) (aa (sv 2) ag))))
 (ah (bX nd (bL cx (cI t (fK t hB) cx (sv 0) (aa (sv 1) ag)) (sv 2) (fun _ _=>rfl)))
 (ah (aU (cE cx.hK cx.hu (sv 4) (bL cx (sv 3) (sv 2) (fun _ _=>rfl))) (ak (bX nd (cI t (gR t hB) cx (sv 0) (aa (sv 1) (aa (sv 2) ag))))) aJ)
 (ak (aD (aM (e_ (sv 4) (aM (aR 0 t cx (sv 0)) (ai))) (sv 5))))))))
theorem zM:OkF pt hA P w K mg base 1 41 uU:=okC 41 t fun _ _ _ _ _ _ cx nd =>
 (ah (aU (gC cx.hK cx.hu (sv 2) (ai)) (ak (aD (bL cx (sv 1) (iF (sv 2) (ai)) (fun _ _=>rfl)))) aJ)
 (ah (aU (cE cx.hK cx.hu (bL cx (sv 1) (ai) (fun _ _=>rfl)) (bL cx (sv 1) (iF (aR 0 t cx (sv 0)) (ai)) (fun _ _=>rfl))) (ak (aD (aZ (aM (bL cx (sv 1) (ai) (fun _ _=>rfl)) (ai)) (aR 7 t cx (sv 0))))) aJ)
 (ak (aD (bL cx (sv 1) (ai) (fun _ _=>rfl))))))
omit t hB in
theorem bZ{X:Cx}(t:Tx pt X.K X.mg)(hB:X.K.In X.base):fH X (T X.K) 5 "due" ["self", "cells", "at"] [] aC:=fun c _ hc e=>match c,hc,e with
 | 0,_,e=>dm 23 t (tZ t hB) e
 | 1,_,e=>dm 24 t (tZ t hB) e
 | 2,_,e=>dm 25 t (zR t hB) e
 | 3,_,e=>dm 26 t (Cm t hB) e
 | 4,_,e=>dm 27 t (pN t hB) e
 | 5,_,e=>dm 18 t (pN t hB) e
 | 6,_,e=>dm 28 t (pN t hB) e
 | 7,_,e=>dm 29 t (zP t hB) e
 | 9,_,e=>dm 30 t (zM t hB) e
 | 8,_,e=>nomatch e
 | _+10,h,_=>dno (n:=10) h
theorem fk:OkF pt hA P w K mg base 6 42 fN:=okC 42 t fun _ _ _ _ _ _ cx nd =>
 (ah (e9 (a6 t (zJ t hB) cx (aa (sv 0) (aa (sv 2) ag))))
 (ak (aD (cJ ["at"] cx (bS rfl (t.b 1) (aa (aR 0 t cx (sv 0)) ag)) b9 (fun _ _ _ _ nd=>⟨(sgN nd),a_,(mM (mG cx.comp.hK cx.comp.hu2 (sv 3) (sv 0)) (cI t (bZ t hB) cx.comp (sv 1) (aa (sv 2) (aa (sv 3) ag))) (bL cx.comp (sv 2) (sv 3) (fun _ _=>rfl)))⟩)))))
omit t hB in
theorem cS{X:Cx}(t:Tx pt X.K X.mg)(hB:X.K.In X.base):fH X (T X.K) 6 "turned" ["self", "cells", "named"] [] aB:=fun c _ hc e=>match c,hc,e with
 | 0,_,e=>dm 31 t (fk t hB) e
 | 1,_,e=>dm 32 t (fk t hB) e
 | 2,_,e=>dm 33 t (fk t hB) e
 | 3,_,e=>dm 34 t (fk t hB) e
 | 4,_,e=>dm 35 t (fk t hB) e
 | 5,_,e=>dm 36 t (fk t hB) e
 | 6,_,e=>dm 37 t (fk t hB) e
 | 7,_,e=>dm 38 t (fk t hB) e
 | 9,_,e=>dm 39 t (fk t hB) e
 | 8,_,e=>nomatch e
 | _+10,h,_=>dno (n:=10) h
theorem fh:OkF pt hA P w K mg base 6 43 fM:=okC 43 t fun _ _ _ _ _ _ cx nd =>
 (ak (aD (cJ ["at"] cx (bS rfl (t.b 1) (aa (aR 0 t cx (sv 0)) ag)) b9 (fun _ _ _ _ nd=>⟨(sgN nd),(dh (gC cx.comp.hK cx.comp.hu (cI t (bZ t hB) cx.comp (sv 0) (aa (sv 1) (aa (sv 2) ag))) (bL cx.comp (sv 1) (sv 2) (fun _ _=>rfl)))),(sv 2)⟩))))
omit t hB in
theorem bh{X:Cx}(t:Tx pt X.K X.mg)(hB:X.K.In X.base):fH X (T X.K) 6 "movers" ["self", "cells"] [] av:=fun c _ hc e=>match c,hc,e with
 | 0,_,e=>dm 40 t (fh t hB) e
 | 1,_,e=>dm 41 t (fh t hB) e
 | 2,_,e=>dm 42 t (fh t hB) e
 | 3,_,e=>dm 43 t (fh t hB) e
 | 4,_,e=>dm 44 t (fh t hB) e
 | 5,_,e=>dm 45 t (fh t hB) e
 | 6,_,e=>dm 46 t (fh t hB) e
 | 7,_,e=>dm 47 t (fh t hB) e
 | 9,_,e=>dm 48 t (fh t hB) e
 | 8,_,e=>nomatch e
 | _+10,h,_=>dno (n:=10) h
theorem zz:OkF pt hA P w K mg base 7 44 nK:=okC 44 t fun _ _ _ _ _ _ cx nd =>
 (ah (bX nd (cI t (cS t hB) cx (sv 0) (aa (sv 1) (aa (sv 2) ag))))
 (ah (ee ["at"] cx nd (bA cx.hK (cI t (bh t hB) cx (sv 0) (aa (sv 1) ag))) b9 (fun _ _ _ _ nd=>⟨(sgN nd),(dh (mG cx.comp.hK cx.comp.hu2 (sv 1) (sv 0))),(sv 1)⟩))
 (ak (sE rfl (Or.inl rfl) rfl (Or.inl rfl)))))
theorem zT:OkF pt hA P w K mg base 8 45 u6:=okC 45 t fun _ _ _ _ _ _ cx nd =>
 (ah (bX nd (cI t (bx t hB) cx (sv 0) (aa (sv 1) ag)))
 (ah (bX nd (gM ag))
 (eD (i:=2) (ah (wa cx.po cx.calm cx.hK nd rfl (Or.inl rfl) rfl (Or.inl rfl) rfl (Or.inl rfl) (by decide) (by decide) (by decide) (by decide) (by decide) (by decide) (fS cx.hK (sv 2)) (a6 t (zz t hB) cx (aa (sv 0) (aa (sv 3) (aa (sv 5) ag)))))
 (ak (d9 rfl (Or.inl rfl)))))))
theorem f8:OkF pt hA P w K mg base 7 46 gg:=okC 46 t fun _ _ _ _ _ _ cx nd =>
 (ak (aD (ju cx.hK cx.hu (cB cx.hK rfl (t.b 0) (cI t (bh t hB) cx (sv 0) (aa (sv 1) ag))) (ai))))
theorem Cj:OkF pt hA P w K mg base 7 47 xJ:=okC 47 t fun _ _ _ _ _ _ cx nd =>
 (ak (aD (ju cx.hK cx.hu (cB cx.hK rfl (t.b 0) (cI t (bh t hB) cx (sv 0) (aa (sv 1) ag))) (ai))))
omit t hB in
theorem bz{X:Cx}(t:Tx pt X.K X.mg)(hB:X.K.In X.base):fH X (T X.K) 7 "calm" ["self", "cells"] [] aq:=fun c _ hc e=>match c,hc,e with
 | 0,_,e=>dm 49 t (f8 t hB) e
 | 1,_,e=>dm 50 t (f8 t hB) e
 | 2,_,e=>dm 51 t (f8 t hB) e
 | 3,_,e=>dm 52 t (f8 t hB) e
 | 4,_,e=>dm 53 t (f8 t hB) e
 | 5,_,e=>dm 54 t (f8 t hB) e
 | 6,_,e=>dm 55 t (f8 t hB) e
 | 7,_,e=>dm 56 t (f8 t hB) e
 | 9,_,e=>dm 57 t (Cj t hB) e
 | 8,_,e=>nomatch e
 | _+10,h,_=>dno (n:=10) h
theorem zA:OkF pt hA P w K mg base 8 48 uN:=okC 48 t fun _ _ _ _ _ _ cx nd =>
 (ah (bX nd (aM (gM (aa (cI t (bx t hB) cx (sv 0) (aa (sv 1) ag)) ag)) (cJ ["row"] cx (bA cx.hK (sv 2)) b9 (fun _ _ _ _ nd=>⟨(sgN nd),a_,(bL cx.comp (sv 0) (ai) (fun _ _=>rfl))⟩))))
 (eD (i:=3) (ah (bP cx.po cx.calm (sH cx.hK rfl (t.b 7) (sv 3)) (jp cx.hK cx.calm (cw nd rfl (Or.inl rfl) (cw nd rfl (Or.inl rfl) hG))) (ak (aU (b_ cx.hK (cI t (bz t hB) cx (sv 0) (aa (sv 5) ag))) (ak (d9 rfl (Or.inl rfl))) aJ)))
 (ak (aD (fU))))))
theorem Cs:OkF pt hA P w K mg base 8 49 Aq:=okC 49 t fun _ _ _ _ _ _ cx nd =>
 (ah (aU (b_ cx.hK (cI t (bz t hB) cx (sv 0) (aa (di cx.hK rfl (t.b 6) dr (sv 1)) ag))) (ak (aD (ai))) aJ)
 (ah (bP cx.po cx.calm (b3 rfl (t.b 1) (aa (cB cx.hK rfl (t.b 0) (sv 2)) ag)) (sgN nd) (ak (aU (b_ cx.hK (cI t (bz t hB) cx (sv 0) (aa (di cx.hK rfl (t.b 6) dr (bL cx (bL cx (sv 2) (sv 3) (fun _ _=>rfl)) (ai) (fun _ _=>rfl))) ag))) (ak (aD (aM (sv 3) (ai)))) aJ)))
 (ak (aD (fU)))))
theorem zG:OkF pt hA P w K mg base 1 50 uQ:=okC 50 t fun _ _ _ _ _ _ cx nd =>
 (ak (aD ((jw (sM cx.hK xB rfl (t.b 11) gJ rfl (t.b 13) AR (sv 0)) (iG (yT (sM cx.hK uu rfl (t.b 11) gJ rfl (t.b 12) yd (sv 0))))))))
theorem tY:OkF pt hA P w K mg base 9 51 rP:=okC 51 t fun _ _ _ _ _ _ cx nd =>
 (ah (bX nd (di cx.hK rfl (t.b 6) dr (sv 1)))
 (ah (ee ["_law_row"] cx nd (bA cx.hK (sv 2)) b9 (fun _ _ _ _ nd=>⟨(sgN nd),a_,(ow (aa (di cx.comp.hK rfl (t.b 6) dr (bL cx.comp (sv 0) (ai) (fun _ _=>rfl))) (aa (di cx.comp.hK rfl (t.b 6) dr (bL cx.comp (sv 0) (ai) (fun _ _=>rfl))) ag)))⟩))
 (ah (bX nd (a6 t (zA t hB) cx (aa (sv 0) (aa (sv 3) (aa (sv 2) ag)))))
 (ah (bX nd (a6 t (Cs t hB) cx (aa (sv 0) (aa (cI t (bx t hB) cx (sv 0) (aa (di cx.hK rfl (t.b 6) dr (sv 1)) ag)) (aa (sv 4) ag)))))
 (ah (aU (SW.st (fI (gC cx.hK cx.hu (sv 3) (sv 1)) (dA (gC cx.hK cx.hu (sv 2) (sv 4))))) (ak (aD (d_))) aJ)
 (ah (aU (yL (sv 6) (fU)) (ak (aD (yX (sv 5) (fU)))) aJ)
 (ak (aD ((jw (a6 t (zG t hB) cx (aa (sv 5) ag)) (iG (ju cx.hK cx.hu (sv 5) (sv 6)))))))))))))
theorem zL:OkF pt hA P w K mg base 1 52 uT:=okC 52 t fun _ _ _ _ _ _ cx nd =>
 (ah (bX nd (ai))
 (ah (bP cx.po cx.calm (b3 rfl (t.b 1) (aa (sv 0) ag)) (sgN nd) (ah (bX nd (ai))
 (ak (bP cx.po cx.calm (fS cx.hK (sv 1)) (sgN nd) (ah (bX nd (aM (sv 4) (ai)))
 (ah (aU (mG cx.hK cx.hu2 (sv 3) (sv 5)) (ak (bX nd (ai))) aJ)
 (ak (bX nd (wo cx.calm rfl (t.b 2) (aa (sv 2) (aa (sv 4) ag)))))))))))
 (ak (d9 rfl (Or.inl rfl)))))
theorem zF:OkF pt hA P w K mg base 1 53 uP:=okC 53 t fun _ _ _ _ _ _ cx nd =>
 (ak (aD (sP cx.hK cx.calm rfl (t.b 15) (cJ ["at"] cx (bS rfl (t.b 1) (aa (sv 0) ag)) b9 (fun _ _ _ _ nd=>⟨(sgN nd),a_,(y0 cx.comp.hK cx.comp.calm rfl (t.b 14) (cJ ["named"] cx.comp (bA cx.comp.hK (sv 0)) b9 (fun _ _ _ _ nd=>⟨(sgN nd),a_,(B2 cx.comp.comp.hK cx.comp.comp.hu2 (sv 0) (sv 1))⟩)))⟩)))))
theorem lF:OkF pt hA P w K mg base 2 54 jN:=okC 54 t fun _ _ _ _ _ _ cx nd =>
 (ak (aD (sP cx.hK cx.calm rfl (t.b 15) (cJ ["at"] cx (oq rfl (t.b 1) (aa (aM (iF (cB cx.hK rfl (t.b 0) (sv 1)) (sv 2)) (ai)) ag)) b9 (fun _ _ _ _ nd=>⟨(sgN nd),a_,(a6 t (zF t hB) cx.comp (aa (sv 0) (aa (hR cx.comp.hK (sv 1) (gu (sv 3)) (gu (aM (sv 3) (sv 2)))) ag)))⟩)))))
theorem yt:OkF pt hA P w K mg base 3 55 xK:=okC 55 t fun _ _ _ _ _ _ cx nd =>
 (ah (ee ["_law_named"] cx nd (bA cx.hK (sv 1)) b9 (fun _ _ _ _ nd=>⟨(sgN nd),a_,(di cx.comp.hK rfl (t.b 6) dr (sv 0))⟩))
 (ah (bX nd (a6 t (zL t hB) cx (aa (sv 0) (aa (sv 1) ag))))
 (ah (bP cx.po cx.calm (fS cx.hK (gM (aa (ai) (aa (ai) (aa (aM (ai) (aZ (sv 2) (ai))) (aa (aM (aZ (sv 2) (sL (ai) (ai))) (ai)) ag)))))) (sgN nd) (ak (aU (lg (a6 t (lF t hB) cx (aa (sv 0) (aa (sv 1) (aa (aM (sv 4) (sv 5)) ag)))) (d_)) (ak (aD (d_))) aJ)))
 (ah (aU (SW.st (gL (iW (sv 4) (ai)) (gs (lg (a6 t (lF t hB) cx (aa (sv 0) (aa (sv 1) (aa (sv 4) ag)))) (d_))))) (ak (aD (d_))) aJ)
 (ah (aU (SW.st (gL (iW (sv 4) (ai)) (gs (lg (a6 t (lF t hB) cx (aa (sv 0) (aa (sv 1) (aa (aM (ai) (aZ (sv 2) (sv 4))) ag)))) (d_))))) (ak (aD (d_))) aJ)
 (ak (aD (ju cx.hK cx.hu (sv 1) (sv 3)))))))))
theorem zU:OkF pt hA P w K mg base 10 56 yC:=okC 56 t fun _ _ _ _ _ _ cx nd =>
 (ah (bX nd (a6 t (jG t hB) cx (aa (sv 0) (aa (ai) ag))))
 (ah (bX nd (a6 t (zE t hB) cx (aa (aZ (sv 1) (ai)) (aa (aM (ai) (aZ (dB (sv 1) (ai)) (ai))) (aa (dB (sv 1) (ai)) (aa (a6 t (jG t hB) cx (aa (sv 0) (aa (ai) ag))) ag))))))
 (ah (bX nd (aR 0 t cx (sv 2)))
 (ah (bX nd (a6 t (oH t hB) cx (aa (dB (a6 t (jG t hB) cx (aa (sv 0) (aa (ai) ag))) (ai)) (aa (sv 3) ag))))
 (ah (ee ["_law_cell"] cx nd (bA cx.hK (hR cx.hK (sv 0) (gu (ai)) (gu (ai)))) b9 (fun _ _ _ _ nd=>⟨(sgN nd),a_,(a6 t (zD t hB) cx.comp (aa (sv 0) (aa (sv 1) ag)))⟩))
 (ah (bP cx.po cx.calm (b3 rfl (t.b 1) (aa (aZ (a6 t (jG t hB) cx (aa (sv 0) (aa (ai) ag))) (ai)) ag)) (sgN nd) (ak (bP cx.po cx.calm (b3 rfl (t.b 1) (aa (sv 3) ag)) (sgN nd) (ak (qJ cx (gM (aa (aZ (aM (sv 7) (sv 6)) (sv 3)) ag)))))))
 (ah (bX nd (a6 t (zT t hB) cx (aa (sv 2) (aa (di cx.hK rfl (t.b 6) dr (sv 4)) (aa (cJ ["_law_named"] cx (bA cx.hK (sv 5)) b9 (fun _ _ _ _ nd=>⟨(sgN nd),a_,(di cx.comp.hK rfl (t.b 6) dr (sv 0))⟩)) ag)))))
 (eD (i:=8) (ah (bX nd (aZ (dB (sv 1) (ai)) (aM (cB cx.hK rfl (t.b 0) (sv 8)) (ai))))
 (ah (aU (SW.st (fI (jo (b_ cx.hK (a6 t (tY t hB) cx (aa (sv 2) (aa (sv 4) (aa (sv 8) ag)))))) (dA (jo (b_ cx.hK (a6 t (tY t hB) cx (aa (sv 2) (aa (sv 4) (aa (hR cx.hK (sv 8) pz (gu (sv 9))) ag))))))))) (ak (aD (d_))) aJ)
 (ah (aU (SW.st (fI (jo (b_ cx.hK (a6 t (tY t hB) cx (aa (sv 2) (aa (sv 4) (aa (gM ag) ag)))))) (dA (jo (b_ cx.hK (a6 t (yt t hB) cx (aa (sv 3) (aa (sv 5) (aa (dB (sv 1) (ai)) ag))))))))) (ak (aD (d_))) aJ)
 (ak (aD ((jw (a6 t (yt t hB) cx (aa (sv 3) (aa (hR cx.hK (sv 5) pz (gu (sv 9))) (aa (a6 t (jG t hB) cx (aa (sv 0) (aa (ai) ag))) ag)))) (iG (yY (a6 t (lF t hB) cx (aa (sv 3) (aa (gM ag) (aa (ai) ag)))) (d_))))))))))))))))))
end
end G
namespace G
open PySem L2 PR
theorem oy(n k:Int)(h1:k≤n)(h2:n≤10):uS [.int n,.int k]=.ok .non:=by
 refine kq (e:=[some (.int n),some (.int k)]) ?_
 show vJ [some (.int n),some (.int k)]=_
 unfold vJ
 exact bu (by simp;rw[if_neg (by omega),decide_eq_false (by omega)]) aw
theorem oG{fl:Fl}{n:Nat}{ws:List (Int×Int)}(g:Bj n ws)(hf:fl.lend=fl)(hl:fl.isLnt=false):Ai [.int n,.lst fl (prL ws)]=.ok (.lst .own (prL (bW (ws.map mm)))):=by
 refine az (v:=.lst .own (prL (bW (ws.map mm)))) ?_
 show AW [some (.int n),some (.lst fl (prL ws)),none,none,none]=_
 unfold AW
 refine af (aE (v:=.lst .own []) (by simp) (by simp) rfl) ?_
 simp only[List.set_cons_zero,List.set_cons_succ]
 refine lq (fun k e=>∃c d,e=[some (.int n),some (.lst fl (prL ws)),some (.lst .own (prL ((ws.take k).map mm))),c,d]) (xs:=prL ws) (dv (by simp[hf]) hl (by simp) (by simp)) ⟨_,_,rfl⟩ (fun k x e hx hP=>?_) (fun e hP=>?_)
 ·obtain⟨c,d,rfl⟩:=hP
  rw[wO]at hx
  obtain⟨w,hw,rfl⟩:∃w,ws[k]?=some w∧x=prV w:=by
   cases e:ws[k]? with
   | none=>rw[e]at hx;cases hx
   | some w=>rw[e]at hx;cases hx;exact⟨w,rfl,rfl⟩
  have hk:k < ws.length:=(List.getElem?_eq_some_iff.mp hw).1
  obtain⟨r1,r2,r3,r4,r5⟩:=g.rg w (List.mem_of_getElem? hw)
  have hn:((ws.take k).map mm).contains (mm w)=false:=by
   rw[Bool.eq_false_iff]
   intro z
   have z':mm w ∈(ws.take k).map mm:=by simpa using z
   have nd:=g.nd
   rw[← List.take_append_drop k ws,List.map_append,List.nodup_append]at nd
   refine nd.2.2 _ z' (mm w) (List.mem_map_of_mem ?_) rfl
   rw[List.drop_eq_getElem_cons hk]
   obtain⟨_,e⟩:=List.getElem?_eq_some_iff.mp hw
   rw[e]
   exact List.mem_cons_self
  have hn':mm w ∉(ws.map mm).take k:=by
   rw[← List.map_take]
   simpa using hn
  have ht:(ws.take (k+1)).map mm=(ws.take k).map mm++[mm w]:=by rw[List.take_add_one,hw];simp
  have hz:=g.sz
  refine⟨_,b5 rfl,cP (aE (v:=prV (mm w)) (by simp[p1,k_,mm]) (by simp) rfl) ?_⟩
  simp only[List.set_cons_zero,List.set_cons_succ]
  refine cP (bu (by simp[mm];rw[if_neg (by omega),decide_eq_false (by omega)]) aw) ?_
  refine cP (bu (by simp[mm];omega) aw) ?_
  refine cP (bu (by simp only[xO,i_,eK];simp[hn']) aw) ?_
  refine bJ (dR (v:=prV (mm w)) (xs:=prL ((ws.take k).map mm)) (by simp) rfl (by simp) (by simp;omega)) ⟨some (prV w),some (prV (mm w)),?_⟩
  simp only[List.set_cons_zero,List.set_cons_succ]
  rw[ht,← wP]
  rfl
 ·obtain⟨c,d,rfl⟩:=hP
  refine aT ?_ (by simp)
  have e:ws.take (prL ws).length=ws:=by rw[jf,List.take_length]
  simp only[e]
  simp[p1,oh (f:=.lnt) (ps:=ws.map mm) (by simpa using g.sz) g.nd]
theorem iV(a:Int):∀(ps:List (Int×Int)),(∀x∈ps,x.1≠x.2)→(ps.filter fun x=>decide (x.2=a)).length+(ps.filter fun x=>decide (x.1=a)).length≤ps.length
 | [],_=>Nat.le_refl _
 | x::ps,h=>by
  have:=iV a ps fun y hy=>h y (List.mem_cons_of_mem _ hy)
  have hx:=h x List.mem_cons_self
  rw[List.filter_cons,List.filter_cons]
  by_cases h1:x.2=a
  ·have h2:x.1≠a:=fun z=>hx (z.trans h1.symm)
   simp[h1,h2];omega
  ·by_cases h2:x.1=a
   ·simp[h1,h2];omega
   ·simp[h1,h2];omega
theorem t_(ps:List (Int×Int))(a:Int)(h:ps.length < 64)(hne:∀x∈ps,x.1≠x.2):qj [.tup (prL ps),.int a]=.ok (.lst .own (iL (nbL ps a))):=by
 refine az (v:=.lst .own (iL (nbL ps a))) ?_
 show vE [some (.tup (prL ps)),some (.int a),none,none]=_
 unfold vE
 refine af (aE (v:=.lst .own (iL ((ps.filter fun x=>decide (x.2=a)).map (·.1)))) ?_ (by simp) rfl) ?_
 ·refine aO (xs:=prL ps) (by simp) (by simp;omega) ?_
  unfold iL prL
  rw[List.map_map]
  exact cm (a:=prV) (f:=PV.int ∘ Prod.fst) (p:=fun x=>decide (x.2=a)) ps fun x _=>⟨[some (.int a),some (prV x)],by simp[tgN,aL,bC],by simp,fun _=>⟨by simp,rfl,rfl⟩⟩
 simp only[List.set_cons_zero,List.set_cons_succ]
 refine af (aE (v:=.lst .own (iL ((ps.filter fun x=>decide (x.1=a)).map (·.2)))) ?_ (by simp) rfl) ?_
 ·refine aO (xs:=prL ps) (by simp) (by simp;omega) ?_
  rw[show iL ((ps.filter fun x=>decide (x.1=a)).map (·.2))=(ps.filter fun x=>decide (x.1=a)).map (PV.int ∘ Prod.snd)from List.map_map ..]
  exact cm (a:=prV) (f:=PV.int ∘ Prod.snd) (p:=fun x=>decide (x.1=a)) ps fun x _=>⟨[some (.int a),some (prV x)],by simp[tgN,aL,bC],by simp,fun _=>⟨by simp,rfl,rfl⟩⟩
 simp only[List.set_cons_zero,List.set_cons_succ]
 refine aT ?_ (by simp)
 have h1:=iV a ps hne
 simp only[dq,ck,i_,eK,db]
 simp[p1]
 rw[fY (by decide) (by decide) (by simp;omega)]
 simp
 rw[qE _ (by simp;omega)]
 rfl
abbrev net(fl:Fl)(n:Nat)(ps:List (Int×Int)):PV:=.obj fl 8 [0,1,2] [.int n,.tup (prL ps),.tup ((List.range n).map fun k:Nat=>.tup (iL (nbL ps k)))]
@[simp] theorem Dw{n:Nat}{ps:List (Int×Int)}{p:Fl→Bool}:hasL p ((List.range n).map fun k:Nat=>PV.tup (iL (nbL ps k)))=false:=by
 induction List.range n with
 | nil=>rfl
 | cons a l ih=>simp[hasL,PV.has,ih]
@[simp] theorem Dv{n:Nat}{ps:List (Int×Int)}{g:Fl→Fl}:mapL g ((List.range n).map fun k:Nat=>PV.tup (iL (nbL ps k)))=(List.range n).map fun k:Nat=>PV.tup (iL (nbL ps k)):=by
 induction List.range n with
 | nil=>rfl
 | cons a l ih=>simp[mapL,PV.mapF,ih]
theorem se{n:Nat}{ps:List (Int×Int)}{k:Nat}(hk:k < n):qk [net .bor n ps,.int k]=.ok (.lst .own (iL (nbL ps k))):=by
 refine az (v:=.lst .own (iL (nbL ps k))) ?_
 show n5 [some (net .bor n ps),some (.int k)]=_
 unfold n5
 refine aT ?_ (by simp)
 have e:aN (.tup ((List.range n).map fun k:Nat=>PV.tup (iL (nbL ps k)))) (.int k)=.ok (.tup (iL (nbL ps k))):=by
  have hk':((List.range n).map fun k:Nat=>PV.tup (iL (nbL ps k)))[k]?=some (.tup (iL (nbL ps k))):=by simp[hk]
  exact ge rfl hk' (by simp[PV.has])
 simp[ao,aS,p1,dw,e,aQ]
def jV(ps:List (Int×Int))(i j:Nat):Prop:=((i:Int),(j:Int))∈ ps ∨((j:Int),(i:Int))∈ ps
theorem Ah{n r:Nat}{ps:List (Int×Int)}(hr:r < n)(hn:n≤10)(g:∀x∈ps,0≤x.1∧x.1 < n∧0≤x.2∧x.2 < n) :
  ∃far,qg [net .bor n ps,.int r]=.ok (.lst .own (iL far))∧o_ n r (jV ps) far:=by
 have a0:ao 0 (net .bor n ps)=.ok (.int n):=by simp[ao,aS]
 have end_:∀e:En,(∃far a b c,e=[some (net .bor n ps),some (.int r),some (.lst .own (iL far)),a,b,c]∧Far n r (jV ps) n 0 (fun _=>False) far)→∃far,dH 2 e=.ret (.lst .own (iL far))∧o_ n r (jV ps) far:=fun e ⟨far,a,b,c,he,F⟩=>⟨far,by subst he;exact gN rfl,F.dist⟩
 let P:Nat→En→Prop:=fun s e=>∃far a b c,e=[some (net .bor n ps),some (.int r),some (.lst .own (iL far)),a,b,c]∧Far n r (jV ps) s 0 (fun _=>False) far
 have loop:∃e2,cj (bH (ae (mUn (ao 0) (ac 0)) am)) (tgN 3)
   (cj (bH (ae (mUn (ao 0) (ac 0)) am)) (tgN 4)
   (mBr (ax (mOp pEq (mOp aN (ac 2) (ac 4)) (ac 3)))
   (cj (dW (bV bt (ac 0) (ae (ac 4) am))) (tgN 5)
   (gU 2 (ac 5) (ap (dC min) (ae (mOp aN (ac 2) (ac 5)) (ae (mOp aK (ac 3) (mC (.int (1)))) am)))))
   aP)) [some (net .bor n ps),some (.int r),some (.lst .own (iL (((List.range n).map fun _=>(n:Int)).set r 0))),none,none,none]=.next e2∧P (bU 0 n).length e2:=by
  refine iz P (bD (n:=n) (by simp[a0]) (by omega)) ⟨_,_,_,_,rfl,Far.start hr (fun i hi=>?_) (by simp)⟩ (fun s x e hx hP=>?_)
  ·rw[uC _ (by simpa using hr)]
   simp[gt,hi]
  ·obtain⟨far,a,b,c,rfl,F⟩:=hP
   obtain⟨hs,rfl⟩:=ce hx
   suffices iU _ _ by
    obtain⟨e2,h1,h2⟩:=this
    exact⟨_,e2,b5 rfl,h1,h2⟩
   refine eU (fun k e=>∃far b c,e=[some (net .bor n ps),some (.int r),some (.lst .own (iL far)),some (.int (0+(s:Int))),b,c]∧Far n r (jV ps) s k (fun _=>False) far) (bD (n:=n) (by simp[a0]) (by omega)) ⟨_,_,_,rfl,F⟩ (fun k x e hx hP=>?_) (fun e hP=>?_)
   ·obtain⟨far,b,c,rfl,F⟩:=hP
    obtain⟨hk,rfl⟩:=ce hx
    have ix:∀ (f:Fl) (i:Nat),i < n→aN (.lst f (iL far)) (.int i)=.ok (.int (gt far i)):=fun f i hi=>gc _ (by omega) (by
     have:i < far.length:=by rw[F.len];exact hi
     simp[gt,this])
    refine⟨_,b5 rfl,?_⟩
    simp only[List.set_cons_zero,List.set_cons_succ]
    by_cases hv:gt far k=s
    ·refine kH (by simp[ix _ k hk,hv]) ?_
     have nbs:∀o∈nbL ps k,∃j:Nat,o=j∧j < n∧jV ps j k:=fun o ho=>by
      rcases lL.mp ho with q | q
      ·have:=g _ q
       exact⟨o.toNat,by omega,by omega,.inl (by rw[show((o.toNat:Nat):Int)=o by omega];exact q)⟩
      ·have:=g _ q
       exact⟨o.toNat,by omega,by omega,.inr (by rw[show((o.toNat:Nat):Int)=o by omega];exact q)⟩
     refine eU (fun q e=>∃far c,e=[some (net .bor n ps),some (.int r),some (.lst .own (iL far)),some (.int (0+(s:Int))),some (.int (0+(k:Int))),c]∧Far n r (jV ps) s k (fun j=>(j:Int)∈(nbL ps k).take q) far∧gt far k=s) (xs:=iL (nbL ps k)) ?_ ⟨far,_,rfl,F.none (by simp),hv⟩ (fun q x e hx hP=>?_) (fun e hP=>?_)
     ·have bk:=se (ps:=ps) hk
      refine dv (f:=.own) ?_ rfl (by simp) (by simp)
      simp[bt,bk,aF]
     ·obtain⟨far,c,rfl,F,hv⟩:=hP
      rw[ux]at hx
      obtain⟨o,ho,rfl⟩:∃o,(nbL ps k)[q]?=some o∧x=.int o:=by
       cases e:(nbL ps k)[q]? with
       | none=>rw[e]at hx;cases hx
       | some w=>rw[e]at hx;cases hx;exact⟨w,rfl,rfl⟩
      obtain⟨j,rfl,hj,aj⟩:=nbs o (List.mem_of_getElem? ho)
      have ix:∀ (f:Fl) (i:Nat),i < n→aN (.lst f (iL far)) (.int i)=.ok (.int (gt far i)):=fun f i hi=>gc _ (by omega) (by
       have:i < far.length:=by rw[F.len];exact hi
       simp[gt,this])
      obtain⟨F',hv'⟩:=F.relax hk hv hj aj hs
      refine⟨_,b5 rfl,bJ (mL (v:=.int (min (gt far j) ((s:Int)+1))) (xs:=iL far) (j:=j) (n:=j) (by simp[ix _ j hj,dC]) rfl (by simp) (lS (by rw[bf,F.len];exact hj)) (by simp)) ⟨_,some (.int j),?_,?_,hv'⟩⟩
      ·rw[nC];rfl
      ·have e:∀i:Nat,((i:Int)∈(nbL ps k).take (q+1))=((i:Int)∈(nbL ps k).take q∨i=j):=fun i=>by
        rw[List.take_add_one,ho]
        simp
        exact or_congr_right ⟨fun h=>by omega,fun h=>by omega⟩
       simp only[e]
       exact F'
     ·obtain⟨far,c,rfl,F,hv⟩:=hP
      refine⟨far,_,_,rfl,F.close fun j hj a=>?_⟩
      rw[bf,List.take_length]
      exact lL.mpr (a.elim .inr .inl)
    ·refine kI (by simp[ix _ k hk,hv]) (bJ aw ⟨far,_,_,rfl,F.skip hv⟩)
   ·obtain⟨far,b,c,rfl,F⟩:=hP
    rw[aW]at F
    exact⟨far,_,_,_,rfl,F.next⟩
 obtain⟨e2,h1,h2⟩:=loop
 rw[aW]at h2
 obtain⟨far,h3,h4⟩:=end_ e2 h2
 refine⟨far,az (v:=.lst .own (iL far)) ?_,h4⟩
 show vw [some (net .bor n ps),some (.int r),none,none,none,none]=_
 unfold vw
 refine af (aE (v:=.lst .own (iL ((List.range n).map fun _=>(n:Int)))) ?_ (by simp) rfl) ?_
 ·refine aO (xs:=bU 0 n) (bD (n:=n) (by simp[a0]) (by omega)) (by rw[aW];omega) ?_
  rw[show iL ((List.range n).map fun _=>(n:Int))=(List.range n).map (fun _=>PV.int n)from by simp[iL]]
  exact aY (a:=fun k:Nat=>PV.int (0+(k:Int))) (f:=fun _=>PV.int n) (List.range n) fun k _=>⟨[some (net .bor n ps),some (.int (0+k))],by simp[tgN,aL,bC,PV.borrow],by simp[a0],rfl,rfl⟩
 simp only[List.set_cons_zero,List.set_cons_succ]
 refine af (mL (v:=.int 0) (xs:=iL ((List.range n).map fun _=>(n:Int))) (j:=r) (n:=r) (by simp) rfl (by simp) (lS (by simpa using hr)) (by simp)) ?_
 rw[nC]
 exact af h1 h3
theorem zZ{far:List Int}{b:Int}(h:far≠[])(hb:∀x∈far,x < b):ii far < b:=hb _ (jJ h).1
theorem xE{fl:Fl}{n:Nat}{ws:List (Int×Int)}(g:Bj n ws)(h1:1≤n)(hn:n≤10)(hf:fl.lend.toBor=.bor∨fl.lend.toBor=.frz)(conn:∀S:Nat→Prop,S 0→(∀i < n,∀j < n,jV (bW (ws.map mm)) i j→S i→S j)→∀i < n,S i) :
  kK [.obj .own 8 [] [],.int n,.lst fl (prL ws)]=.ok (net .own n (bW (ws.map mm))):=by
 have hfl:fl.lend.toBor.lend=fl.lend.toBor:=by rcases hf with e | e<;>rw[e]<;>rfl
 have hfi:fl.lend.toBor.isLnt=false:=by rcases hf with e | e<;>rw[e]<;>rfl
 have o1:=oG (fl:=fl.lend.toBor) g hfl hfi
 have rg:∀x∈bW (ws.map mm),0≤x.1∧x.1 < n∧0≤x.2∧x.2 < n∧x.1≠x.2:=fun x hx=>by
  obtain⟨w,hw,rfl⟩:=List.mem_map.mp ((cb _).mem_iff.mp hx)
  have:=g.rg w hw
  simp only[mm]
  omega
 have sz:(bW (ws.map mm)).length < 64:=by rw[(cb _).length_eq,List.length_map];exact g.sz
 generalize hps:bW (ws.map mm)=ps at *
 have nb:∀k:Nat,qj [.tup (prL ps),.int k]=.ok (.lst .own (iL (nbL ps k))):=fun k=>t_ ps k sz fun x hx=>(rg x hx).2.2.2.2
 obtain⟨far,e1,D⟩:=Ah (n:=n) (r:=0) (ps:=ps) (by omega) hn fun x hx=>⟨(rg x hx).1,(rg x hx).2.1,(rg x hx).2.2.1,(rg x hx).2.2.2.1⟩
 have hall:=D.all (by omega) conn
 have hne:far≠[]:=fun z=>by have:=D.len;rw[z]at this;simp at this;omega
 have hmx:ii far < n:=zZ hne fun x hx=>by
  obtain⟨i,hi,rfl⟩:=List.getElem_of_mem hx
  have:=hall i (by rw[← D.len];exact hi)
  simpa[gt,hi]using this
 refine bT (e:=[some (net .own n ps),some (.int n),some (.lst fl (prL ws))]) ?_ rfl
 show vy [some (.obj .own 8 [] []),some (.int n),some (.lst fl (prL ws))]=_
 unfold vy
 have rf:=oy n 1 (by omega) (by omega)
 refine af (fE (v:=.non) (by simp[rf,aF])) ?_
 refine af (bp (v:=.int n) (ks:=[]) (vs:=[]) (by simp) rfl (by simp) rfl (by decide)) ?_
 simp only[List.set_cons_zero,List.set_cons_succ]
 refine af (bp (v:=.tup (prL ps)) (ks:=[0]) (vs:=[.int n]) ?_ rfl (by simp) rfl (by decide)) ?_
 ·simp[o1,aF,p1,cY,aQ]
 simp only[List.set_cons_zero,List.set_cons_succ]
 refine af (bp (v:=.tup ((List.range n).map fun k:Nat=>.tup (iL (nbL ps k)))) (ks:=[0,1]) (vs:=[.int n,.tup (prL ps)]) ?_ rfl (by simp) rfl (by decide)) ?_
 ·simp only[dq,ck,db]
  rw [aO (xs:=bU 0 n) (ys:=(List.range n).map fun k:Nat=>.tup (iL (nbL ps k))) (bD (n:=n) (by simp) (by omega)) (by rw [aW];omega)
   (aY (a:=fun k:Nat=>PV.int (0+(k:Int))) (f:=fun k:Nat=>.tup (iL (nbL ps k))) (List.range n) fun k _=>⟨[some (.obj .bor 8 [0,1] [.int n,.tup (prL ps)]),some (.int (0+k))],by simp[tgN,aL,bC],by simp[ao,aS,nb,aF,p1,cY,aQ],by simp[PV.has],by simp[PV.has]⟩)]
  simp[p1,cY,aQ]
 simp only[List.set_cons_zero,List.set_cons_succ]
 refine bu ?_ aw
 have hi:far.isEmpty=false:=by cases far with | nil=>exact absurd rfl hne | cons a l=>rfl
 have e2:qg [net .bor n ps,.int 0]=.ok (.lst .own (iL far)):=e1
 simp[e2,aF,p1,eR,aQ,hi]
 omega
def cell(ns:List Int)(k:Nat):Int:=ns.getD k 0
theorem x_{fl:Fl}(ns:List Int)(k:Nat)(h:Scr fl):gh [.lst fl (iL ns),.int k]=.ok (.int (cell ns k)):=by
 refine az ?_
 show vF [some (.lst fl (iL ns)),some (.int k)]=_
 unfold vF cell
 by_cases hk:k < ns.length
 ·refine b7 (fP (by simp[h.lend,hk]) (aT ?_ (by simp)))
  simp only[i_,eK]
  simp[h.lend]
  rw[gc ns (by omega) (n:=ns.getD k 0) (by simp[hk])]
  simp[hk]
 ·refine af (bu (by simp[h.lend,hk]) aw) (aT (by simp[List.getElem?_eq_none (Nat.le_of_not_lt hk)]) (by simp))
theorem sk(n:Int):uQ [.int n]=.ok (.bl true):=by
 refine az (v:=.bl true) ?_
 show vD [some (.int n)]=_
 unfold vD
 exact aT (by simp[j4]) (by simp)
theorem x8{n m r:Nat}{ws:List (Int×Int)}(Wh:eA n m ws)(hr:r < n)(S:Nat→Prop)(h0:S r)(hc:∀i < n,∀j < n,jV (bW (ws.map mm)) i j→S i→S j):∀i < n,S i:=fun i hi=>by
 have:=Wh.cn (fun x=>S x.toNat) (fun w hw=>?_) r i hr hi (by simpa using h0)
 ·simpa using this
 ·have rg:=Wh.rg w hw
  have hm:mm w∈bW (ws.map mm):=(cb _).mem_iff.mpr (List.mem_map_of_mem hw)
  have e1:((w.1.toNat:Nat):Int)=w.1:=by omega
  have e2:((w.2.toNat:Nat):Int)=w.2:=by omega
  have ad:jV (bW (ws.map mm)) w.1.toNat w.2.toNat:=by
   unfold jV
   rw[e1,e2]
   rcases Int.le_total w.1 w.2 with h | h
   ·left
    rw[show(w.1,w.2)=mm w by simp only[mm,Prod.mk.injEq];omega]
    exact hm
   ·right
    rw[show(w.2,w.1)=mm w by simp only[mm,Prod.mk.injEq];omega]
    exact hm
  exact⟨hc _ (by omega) _ (by omega) ad,hc _ (by omega) _ (by omega) (ad.elim .inr .inl)⟩
theorem gS(c:Int)(m:Nat)(hm:m≤1000):∃l:List Int,jO [.int c,.int m]=.ok (.lst .own (iL l))∧l.length=m∧∀x∈l,0≤x∧x < 998244353:=by
 suffices hh:je (vI [some (.int c),some (.int m),none,none,none]) (fun v=>∃l:List Int,v=.lst .own (iL l)∧l.length=m∧∀x∈l,0≤x∧x < 998244353) by
  obtain⟨v,h1,l,rfl,h2⟩:=hh
  exact⟨l,az h1,h2⟩
 unfold vI
 have c1:=Int.emod_nonneg c (show(998244353:Int)≠ 0 by decide)
 have c2:=Int.emod_lt_of_pos c (show(0:Int) < 998244353 by decide)
 refine cf (aE (v:=.int (c % 998244353)) (by simp[a5]) (by simp) rfl) ?_
 simp only[List.set_cons_zero,List.set_cons_succ]
 refine cf (aE (v:=.lst .own []) (by simp) (by simp) rfl) ?_
 simp only[List.set_cons_zero,List.set_cons_succ]
 refine fV (fun k e=>∃z l x4,e=[some (.int c),some (.int m),some (.int z),some (.lst .own (iL l)),x4]∧l.length=k∧k≤m∧(0≤z∧z < 998244353)∧∀x∈l,0≤x∧x < 998244353) (bD (n:=m) (by simp) (by omega)) ⟨c % 998244353,[],none,rfl,rfl,by omega,⟨c1,c2⟩,fun _ z=>nomatch z⟩ (fun k x e hx hP=>?_) (fun e hP=>?_)
 ·obtain⟨z,l,x4,rfl,hk,_,⟨z1,z2⟩,hl⟩:=hP
  obtain⟨hkm,rfl⟩:=ce hx
  have e1:dU (.int 2) (.int (k:Int))=.ok (.int (2 * (k:Int))):=fu (.inl ⟨by decide,by decide⟩)
  have e2:dU (.int 12553) (.int (k:Int))=.ok (.int (12553 * (k:Int))):=fu (.inl ⟨by decide,by decide⟩)
  have e3:dU (.int z) (.int (z+2 * (k:Int)+40503))=.ok (.int (z * (z+2 * (k:Int)+40503))):=fu (.inl ⟨by omega,by omega⟩)
  generalize hw:(z * (z+2 * (k:Int)+40503)+12553 * (k:Int)+1) % 998244353=w
  have w1:0≤w:=by rw[← hw];exact Int.emod_nonneg _ (by decide)
  have w2:w < 998244353:=by rw[← hw];exact Int.emod_lt_of_pos _ (by decide)
  refine⟨_,b5 rfl,?_⟩
  simp only[List.set_cons_zero,List.set_cons_succ]
  refine cP (aE (v:=.int w) (by simp[e1,e2,e3,a5,hw]) (by simp) rfl) ?_
  simp only[List.set_cons_zero,List.set_cons_succ]
  refine bJ (dR (v:=.int w) (xs:=iL l) (by simp) rfl (by simp) (by rw[bf];omega)) ⟨w,l++[w],_,by simp[iL];rfl,by simp[hk],by omega,⟨w1,w2⟩,fun x hx=>?_⟩
  rcases List.mem_append.mp hx with hx | hx
  ·exact hl x hx
  ·simp at hx;subst hx;exact⟨w1,w2⟩
 ·obtain⟨z,l,x4,rfl,hk,_,_,hl⟩:=hP
  rw[aW]at hk
  exact eQ (gN rfl) ⟨l,rfl,hk,hl⟩
def tri:Nat→Nat
 | 0=>0
 | k+1=>tri k+k
theorem pF{α:Type}(y:α)(xs:List α):PR.bY xs.length y xs=xs++[y]:=by simp[PR.bY]
theorem v4{n:Nat}(c:Int)(n1:1≤n)(n2:n≤10):∃ws:List (Int×Int),kL [.int n,.int c]=.ok (.lst .own (prL ws))∧eA n 55 ws:=by
 obtain⟨l,hl1,hl2,hl3⟩:=gS c n (by omega)
 suffices hh:je (vz [some (.int n),some (.int c),none,none,none,none,none,none]) (fun v=>∃ws:List (Int×Int),v=.lst .own (prL ws)∧eA n 55 ws) by
  obtain⟨v,h1,ws,rfl,h2⟩:=hh
  exact⟨ws,az h1,h2⟩
 unfold vz
 have np:(0:Int) < n:=by omega
 have gl:∀(f:Fl) (k:Nat),k < n→aN (.lst f (iL l)) (.int (k:Int))=.ok (.int (gt l k)):=fun f k hk=>by simpa using da (f:=f) (cs:=l) (i:=k) (by omega) (by omega)
 refine cf (aE (v:=.lst .own (iL l)) (by simp[hl1,aF]) (by simp) rfl) ?_
 simp only[List.set_cons_zero,List.set_cons_succ]
 refine cf (aE (v:=.lst .own []) (by simp) (by simp) rfl) ?_
 simp only[List.set_cons_zero,List.set_cons_succ]
 refine fV (fun k e=>∃od a,e=[some (.int n),some (.int c),some (.lst .own (iL l)),some (.lst .own (iL od)),a,none,none,none]∧od.Perm ((List.range k).map fun k:Nat=>(k:Int))) (bD (n:=n) (by simp) (by omega)) ⟨[],_,rfl,.refl _⟩ (fun k x e hx hP=>?_) (fun e hP=>?_)
 ·obtain⟨od,a,rfl,hp⟩:=hP
  obtain⟨hk,rfl⟩:=ce hx
  have hlen:od.length=k:=by simpa using hp.length_eq
  have b1:=Int.emod_nonneg (gt l k) (show(k:Int)+1≠0 by omega)
  have b2:=Int.emod_lt_of_pos (gt l k) (show(0:Int) <(k:Int)+1 by omega)
  refine⟨_,b5 rfl,bJ (rK (v:=.int k) (xs:=iL od) (j:=gt l k % ((k:Int)+1)) (n:=(gt l k % ((k:Int)+1)).toNat) ?_ (by simp) rfl rfl rfl (by omega) (by rw[bf,hlen];omega) (by rw[bf];omega)) ⟨PR.bY (gt l k % ((k:Int)+1)).toNat (k:Int) od,some (.int (0+k)),?_,?_⟩⟩
  ·simp[gl _ k hk,a5 (show(0:Int) <(k:Int)+1 by omega)]
  ·rw[y_];rfl
  ·refine(fX _ _ _).trans ((hp.cons _).trans ?_)
   rw[List.range_succ,List.map_append]
   exact(List.perm_append_singleton _ _).symm
 obtain⟨od,a,rfl,hp⟩:=hP
 rw[aW]at hp
 have hlen:od.length=n:=by simpa using hp.length_eq
 have hod:od.Nodup:=hp.symm.nodup (List.Pairwise.map _ (fun a b h z=>h (by omega)) List.nodup_range)
 have ix:∀ (f:Fl) (i:Nat),i < n→aN (.lst f (iL od)) (.int i)=.ok (.int (od.getD i 0)):=fun f i hi=>gc _ (by omega) (by
  have:i < od.length:=by rw[hlen];exact hi
  simp[this])
 refine cf (aE (v:=.lst .own []) (by simp) (by simp) rfl) ?_
 simp only[List.set_cons_zero,List.set_cons_succ]
 refine fV (fun q e=>∃ws a,e=[some (.int n),some (.int c),some (.lst .own (iL l)),some (.lst .own (iL od)),a,some (.lst .own (prL ws)),none,none]∧PR.Tree n od (q+1) ws) (xs:=bU 1 (n - 1)) ?_ ⟨[],_,rfl,PR.Tree.start hlen n1⟩ (fun q x e hx hP=>?_) (fun e hP=>?_)
 ·rw[wz (lo:=1) (hi:=n) (by simp) (by omega) (by omega)]
  rw[show((n:Int) - 1).toNat=n - 1 by omega]
 ·obtain⟨ws,a,rfl,T⟩:=hP
  obtain⟨hq,rfl⟩:=ce hx
  have lt:=T.ln
  have kp:(0:Int) < 1+(q:Int):=by omega
  have g1:∀f:Fl,aN (.lst f (iL l)) (.int (1+(q:Int)))=.ok (.int (gt l (q+1))):=fun f=>by
   have:=gl f (q+1) (by omega)
   rwa [show((q+1:Nat):Int)=1+(q:Int) by omega]at this
  have d16:cZ (.int (gt l (q+1))) (.int 16)=.ok (.int (gt l (q+1) / 16)):=eM (by decide) (by decide)
  generalize gt l (q+1) / 16=z at d16
  have b1:=Int.emod_nonneg z (show(1:Int)+q≠0 by omega)
  have b2:=Int.emod_lt_of_pos z kp
  have i1:∀f:Fl,aN (.lst f (iL od)) (.int (1+(q:Int)))=.ok (.int (od.getD (q+1) 0)):=fun f=>by
   have:=ix f (q+1) (by omega)
   rwa [show((q+1:Nat):Int)=1+(q:Int) by omega]at this
  have i2:∀f:Fl,aN (.lst f (iL od)) (.int (z % (1+(q:Int))))=.ok (.int (od.getD (z % (1+(q:Int))).toNat 0)):=fun f=>by
   have:=ix f (z % (1+(q:Int))).toNat (by omega)
   rwa [show(((z % (1+(q:Int))).toNat:Nat):Int)=z % (1+(q:Int)) by omega]at this
  refine⟨_,b5 rfl,bJ (dR (v:=prV (od.getD (q+1) 0,od.getD (z % (1+(q:Int))).toNat 0)) (xs:=prL ws) (by simp[i1,i2,g1,d16,a5 kp,prV]) rfl (by simp) (by rw[jf];omega)) ⟨ws++[(od.getD (q+1) 0,od.getD (z % (1+(q:Int))).toNat 0)],some (.int (1+(q:Int))),by simp[prL],?_⟩⟩
  rw[← pF]
  exact T.more (j:=(z % (1+(q:Int))).toNat) hod (by omega) (by omega) (.inl rfl)
 obtain⟨ws,a,rfl,T⟩:=hP
 rw[aW,show n - 1+1=n by omega]at T
 have Wh:=T.whole hp
 have t10:∀k,k≤10→tri k≤45:=by decide
 refine fV (fun k e=>∃ws a b d,e=[some (.int n),some (.int c),some (.lst .own (iL l)),some (.lst .own (iL od)),a,some (.lst .own (prL ws)),b,d]∧eA n (10+tri k) ws) (bD (n:=n) (by simp) (by omega)) ⟨ws,_,_,_,rfl,⟨Wh.rg,Wh.nd,Nat.le_trans Wh.ln n2,Wh.cn⟩⟩ (fun k x e hx hP=>?_) (fun e hP=>?_)
 ·obtain⟨ws,a,b,d,rfl,Wh⟩:=hP
  obtain⟨hk,rfl⟩:=ce hx
  refine⟨_,b5 rfl,?_⟩
  simp only[List.set_cons_zero,List.set_cons_succ,Int.zero_add]
  have tk:=t10 k (by omega)
  refine eU (fun j e=>∃ws b d,e=[some (.int n),some (.int c),some (.lst .own (iL l)),some (.lst .own (iL od)),some (.int k),some (.lst .own (prL ws)),b,d]∧eA n (10+tri k+j) ws) (bD (n:=k) (by simp) (by omega)) ⟨ws,_,_,rfl,Wh⟩ (fun j y e hy hP=>?_) (fun e hP=>?_)
  ·obtain⟨ws,b,d,rfl,Wh⟩:=hP
   obtain⟨hj,rfl⟩:=ce hy
   have wl:=Wh.ln
   have d512:cZ (.int (gt l k)) (.int 512)=.ok (.int (gt l k / 512)):=eM (by decide) (by decide)
   have d8192:cZ (.int (gt l k)) (.int 8192)=.ok (.int (gt l k / 8192)):=eM (by decide) (by decide)
   refine⟨_,b5 rfl,?_⟩
   simp only[List.set_cons_zero,List.set_cons_succ,Int.zero_add]
   obtain⟨m,hm⟩:∃m:Bool,rA (mOp pEq (mOp bM (ac 1) (mC (.int (7)))) (mC (.int (3)))) ((gH (mOp pEq (mOp bM (mOp aK (mOp cZ (mOp aN (ac 2) (ac 4)) (mC (.int (512)))) (ac 6)) (ac 0)) (mC (.int (1)))) (mOp pEq (mOp bM (mOp cZ (mOp aN (ac 2) (ac 4)) (mC (.int (8192)))) (mC (.int (3)))) (mC (.int (0)))))) [some (.int n),some (.int c),some (.lst .own (iL l)),some (.lst .own (iL od)),some (.int k),some (.lst .own (prL ws)),some (.int j),d]=.ok (.bl m):=by
    refine⟨decide (c % 7=3) ||(decide ((gt l k / 512+(j:Int)) % n=1)&&decide (gt l k / 8192 % 3=0)),?_⟩
    by_cases h7:c % 7=3
    ·simp[a5,h7,pOr]
    ·by_cases h8:(gt l k / 512+(j:Int)) % n=1
     ·simp[a5,a5 np,h7,pOr,gl _ k hk,d512,d8192,h8,oF]
     ·simp[a5,a5 np,h7,pOr,gl _ k hk,d512,d8192,h8,oF]
   refine cP (aE (v:=.bl m) hm (by simp) rfl) ?_
   simp only[List.set_cons_zero,List.set_cons_succ]
   by_cases hc:m=true∧((j:Int),(k:Int))∉ ws∧((k:Int),(j:Int))∉ ws
   ·obtain⟨c1,c2,c3⟩:=hc
    refine kH (by simp[k_,c1,c2,c3]) (bJ (dR (v:=prV ((j:Int),(k:Int))) (xs:=prL ws) (by simp;rfl) rfl (by simp) (by rw[jf];omega)) ⟨ws++[((j:Int),(k:Int))],some (.int j),some (.bl m),by simp[prL],?_⟩)
    rw[← pF]
    exact Wh.more ⟨by omega,by omega⟩ ⟨by omega,by omega⟩ (by omega) c2 c3
   ·refine kI ?_ (bJ aw ⟨ws,some (.int j),some (.bl m),rfl,Wh.keep⟩)
    by_cases c1:m=true
    ·by_cases c2:((j:Int),(k:Int))∈ ws
     ·simp[k_,c1,c2]
     ·have c3:((k:Int),(j:Int))∈ ws:=by
       by_cases q:((k:Int),(j:Int))∈ ws
       ·exact q
       ·exact absurd ⟨c1,c2,q⟩ hc
      simp[k_,c1,c2,c3]
    ·simp[c1]
  ·obtain⟨ws,b,d,rfl,Wh⟩:=hP
   rw[aW]at Wh
   exact⟨ws,_,_,_,rfl,by rw[show 10+tri (k+1)=10+tri k+k by simp[tri];omega];exact Wh⟩
 ·obtain⟨ws,a,b,d,rfl,Wh⟩:=hP
  rw[aW]at Wh
  have tn:=t10 n n2
  exact eQ (gN rfl) ⟨ws,rfl,⟨Wh.rg,Wh.nd,by have:=Wh.ln;omega,Wh.cn⟩⟩
def oV:Option Int→PV
 | none=>.non
 | some s=>.int s
def oL(os:List (Option Int)):List PV:=os.map oV
@[simp] theorem D_(os:List (Option Int)):(oL os).length=os.length:=by simp[oL]
@[simp] theorem Ea{p:Fl→Bool}{os:List (Option Int)}:hasL p (oL os)=false:=by
 induction os with
 | nil=>rfl
 | cons o os ih=>cases o<;>simpa[oL,oV,hasL,PV.has]using ih
@[simp] theorem D9{g:Fl→Fl}{os:List (Option Int)}:mapL g (oL os)=oL os:=by
 induction os with
 | nil=>rfl
 | cons o os ih=>cases o<;>simpa[oL,oV,mapL,PV.mapF]using ih
@[simp] theorem Ec{os:List (Option Int)}:PyData.canLayAll0 (dataL (oL os))=true:=by
 induction os with
 | nil=>rfl
 | cons o os ih=>cases o <;>(simp only[oL,List.map_cons,oV,dataL,PV.data,PyData.canLayAll0]at ih ⊢;rw[ih];rfl)
@[simp] theorem Eb{os:List (Option Int)}:PyData.depthAll (dataL (oL os))=0:=by
 induction os with
 | nil=>rfl
 | cons o os ih=>cases o <;>(simp only[oL,List.map_cons,oV,dataL,PV.data,PyData.depthAll]at ih ⊢;rw[ih];rfl)
def OkS(tp:Int)(os:List (Option Int)):Prop:=∀s,some s∈os→0≤s∧s < tp
def Fc(f:Fl):Prop:=f=.bor∨f=.frz
theorem Fc.le{f:Fl}(h:Fc f):f.lend=f:=by rcases h with rfl | rfl<;>rfl
theorem Fc.tb{f:Fl}(h:Fc f):f.toBor=f:=by rcases h with rfl | rfl<;>rfl
theorem Fc.bo{f:Fl}(h:Fc f):f.borrow=f:=by rcases h with rfl | rfl<;>rfl
theorem Fc.nl{f:Fl}(h:Fc f):f.isLnt=false:=by rcases h with rfl | rfl<;>rfl
theorem Fc.of{f:Fl}(h:Fc f∨f=.own):Fc f.borrow:=by
 rcases h with(rfl | rfl) | rfl
 ·exact .inl rfl
 ·exact .inr rfl
 ·exact .inl rfl
theorem gZ{n:Nat}{ps:List (Int×Int)}{k:Nat}(hk:k < n):qk [net .frz n ps,.int k]=.ok (.lst .own (iL (nbL ps k))):=by
 refine az (v:=.lst .own (iL (nbL ps k))) ?_
 show n5 [some (net .frz n ps),some (.int k)]=_
 unfold n5
 refine aT ?_ (by simp)
 have e:aN (.tup ((List.range n).map fun k:Nat=>PV.tup (iL (nbL ps k)))) (.int k)=.ok (.tup (iL (nbL ps k))):=by
  have hk':((List.range n).map fun k:Nat=>PV.tup (iL (nbL ps k)))[k]?=some (.tup (iL (nbL ps k))):=by simp[hk]
  exact ge rfl hk' (by simp[PV.has])
 simp[ao,aS,p1,dw,e,aQ]
abbrev pnt(fl:Fl)(n:Nat)(ps:List (Int×Int)):PV:=.obj fl 2 [4,0,7,8] [net .frz n ps,.int n,.int n,.bl false]
theorem qL{n:Nat}{ps:List (Int×Int)}:eV [.obj .own 2 [4] [net .frz n ps],.int n,.int n,.bl false]=.ok (pnt .own n ps):=by
 refine bT (e:=[some (pnt .own n ps),some (.int n),some (.int n),some (.bl false)]) ?_ rfl
 show gq [some (.obj .own 2 [4] [net .frz n ps]),some (.int n),some (.int n),some (.bl false)]=_
 unfold gq
 refine af (bp (v:=.int n) (ks:=[4]) (vs:=[net .frz n ps]) (by simp) rfl (by simp) rfl (by decide)) ?_
 refine af (bp (v:=.int n) (ks:=[4,0]) (vs:=[net .frz n ps,.int n]) (by simp) rfl (by simp) rfl (by decide)) ?_
 exact bp (v:=.bl false) (ks:=[4,0,7]) (vs:=[net .frz n ps,.int n,.int n]) (by simp) rfl (by simp) rfl (by decide)
theorem rZ{n:Nat}{ps:List (Int×Int)}:oZ [.obj .own 2 [4] [net .frz n ps],.int n,.int n]=.ok (pnt .own n ps):=by
 refine bT (e:=[some (pnt .own n ps),some (.int n),some (.int n)]) ?_ rfl
 show vp [some (.obj .own 2 [4] [net .frz n ps]),some (.int n),some (.int n)]=_
 unfold vp
 exact eZ (xs:=[.int n,.int n,.bl false]) rfl (by simp) (by simp) (by simpa using qL (n:=n) (ps:=ps)) (by simp[PV.has])
theorem qV{n:Nat}{ps:List (Int×Int)}:As [.obj .own 2 [] [],net .own n ps]=.ok (pnt .own n ps):=by
 refine bT (e:=[some (pnt .own n ps),some (net .frz n ps)]) ?_ rfl
 show A9 [some (.obj .own 2 [] []),some (net .own n ps)]=_
 unfold A9
 refine af (eJ (v:=net .own n ps) rfl) ?_
 simp only[List.set_cons_zero,List.set_cons_succ]
 refine af (bp (v:=net .frz n ps) (ks:=[]) (vs:=[]) (by simp[PV.mapF,Fl.freeze]) rfl (by simp[PV.noLnt,PV.has]) rfl (by decide)) ?_
 simp only[List.set_cons_zero,List.set_cons_succ]
 have:=eZ (env:=[some (.obj .own 2 [4] [net .frz n ps]),some (net .frz n ps)]) (m:=oZ) (ms:=ae (mUn (ao 0) (ac 1)) (ae (mUn (ao 0) (ac 1)) am)) (xs:=[.int n,.int n]) rfl (by simp[ao,aS]) (by simp) (by simpa using rZ (n:=n) (ps:=ps)) (by simp[PV.has])
 simpa[PV.mapF,Fl.freeze]using this
def jL(ps:List (Int×Int))(i:Nat):List Int:=(nbL ps i).filter fun x=>decide (x <(i:Int))
theorem uB{n:Nat}{ps:List (Int×Int)}{i:Nat}(hi:i < n)(hl:(nbL ps i).length≤1000):Av [pnt .bor n ps,.int i]=.ok (.lst .own (iL (jL ps i))):=by
 refine az ?_
 show Bb [some (pnt .bor n ps),some (.int i)]=_
 unfold Bb jL
 have be:=gZ (ps:=ps) hi
 refine aT ?_ (by simp)
 have:=et (env:=bC [1] 1 [some (pnt .bor n ps),some (.int i)]) (g:=tgN 1) (mc:=ax (mOp pLt (ac 1) (ac 0))) (me:=ac 1) (fun x=>decide (x <(i:Int))) (fun x=>x) (nbL ps i) fun x hx=>⟨[some (.int i),some (.int x)],by simp[tgN,aL,bC],by simp,fun _=>by simp⟩
 rw[List.map_id']at this
 exact aO (xs:=iL (nbL ps i)) (by simp[ao,aS,bt,be,aF]) (by rw[bf];omega) this
def iM(l:List Int):Nat:=((List.range (l.length+1)).find? fun j:Nat=>!l.contains (j:Int)).getD 0
theorem nh(l:List Int):((iM l:Nat):Int)∉ l∧∀j,j < iM l→(j:Int)∈ l:=by
 have ex:∃j,j < l.length+1∧(j:Int)∉ l:=by
  apply Classical.byContradiction
  intro no
  have h:=pP (l:=(List.range (l.length+1)).map fun k:Nat=>(k:Int)) (l':=l) (List.Pairwise.map _ (fun a b h e=>h (by omega)) List.nodup_range) fun x hx=>by
   obtain⟨k,hk,rfl⟩:=List.mem_map.mp hx
   exact Classical.byContradiction fun z=>no ⟨k,List.mem_range.mp hk,z⟩
  simp at h
  omega
 unfold iM
 cases e:(List.range (l.length+1)).find? fun j:Nat=>!l.contains (j:Int)with
 | none =>
  exfalso
  obtain⟨j,h1,h2⟩:=ex
  have:=List.find?_eq_none.mp e j (List.mem_range.mpr h1)
  simp at this
  exact h2 this
 | some m =>
  simp only[Option.getD_some]
  have h1:=List.find?_some e
  refine⟨by simpa using h1,fun j hj=>?_⟩
  have h2:=(List.find?_range_eq_some.mp e).2.2 j hj
  simpa using h2
theorem uj{l L':List Int}(h:∀x∈l,x∈L'):iM l≤L'.length:=by
 have:=pP (l:=(List.range (iM l)).map fun k:Nat=>(k:Int)) (l':=L') (List.Pairwise.map _ (fun a b h e=>h (by omega)) List.nodup_range) fun x hx=>by
  obtain⟨k,hk,rfl⟩:=List.mem_map.mp hx
  exact h _ ((nh l).2 k (List.mem_range.mp hk))
 simpa using this
def rW(ps:List (Int×Int))(cs:List Int)(i:Nat):Int:=iM ((jL ps i).map fun o=>gt cs o.toNat)
theorem pY{ps:List (Int×Int)}{i:Nat}{n:Nat}(rg:∀x∈ps,0≤x.1∧x.1 < n∧0≤x.2∧x.2 < n∧x.1≠x.2){o:Int}(h:o∈jL ps i):0≤o∧o < n∧o < i∧((o,(i:Int))∈ ps ∨((i:Int),o)∈ ps):=by
 obtain⟨h1,h2⟩:=List.mem_filter.mp h
 have h3:=lL.mp h1
 simp only[decide_eq_true_eq]at h2
 rcases h3 with z | z
 ·have:=rg _ z
  exact⟨this.1,this.2.1,h2,.inl z⟩
 ·have:=rg _ z
  exact⟨this.2.2.1,this.2.2.2.1,h2,.inr z⟩
theorem xU{ps:List (Int×Int)}{cs:List Int}{i n:Nat}(rg:∀x∈ps,0≤x.1∧x.1 < n∧0≤x.2∧x.2 < n∧x.1≠x.2)(hi:i < n):0≤rW ps cs i∧rW ps cs i < n:=by
 unfold rW
 have:=uj (l:=(jL ps i).map fun o=>gt cs o.toNat) (L':=(List.range i).map fun k=>gt cs k) fun x hx=>by
  obtain⟨o,ho,rfl⟩:=List.mem_map.mp hx
  have:=pY rg ho
  exact List.mem_map.mpr ⟨o.toNat,List.mem_range.mpr (by omega),rfl⟩
 simp at this
 omega
theorem v6{n:Nat}{ps:List (Int×Int)}{cs:List Int}{i:Nat}(rg:∀x∈ps,0≤x.1∧x.1 < n∧0≤x.2∧x.2 < n∧x.1≠x.2){fc:Fl}(hfc:Fc fc)(hl:∀i,(nbL ps i).length≤1000)(hn:cs.length=n)(hi:i < n):uY [pnt .bor n ps,.lst fc (iL cs),.int i]=.ok (.int (rW ps cs i)):=by
 refine az ?_
 show vS [some (pnt .bor n ps),some (.lst fc (iL cs)),some (.int i),none,none]=_
 unfold vS rW
 have ha:=uB (ps:=ps) hi (hl i)
 have ll:(jL ps i).length≤1000:=Nat.le_trans (List.length_filter_le _ _) (hl i)
 refine af (aE (v:=.lst .own (iL ((jL ps i).map fun o=>gt cs o.toNat))) ?_ (by simp) rfl) ?_
 ·refine aO (xs:=iL (jL ps i)) (by simp[bq,ha,aF]) (by rw[bf];omega) (d0 (fun o=>gt cs o.toNat) (jL ps i) fun o ho=>⟨[some (.lst fc (iL cs)),some (.int o)],by simp[tgN,aL,bC,hfc.bo],?_⟩)
  have:=pY rg ho
  simp[hfc.le,da (f:=fc) (cs:=cs) (i:=o) this.1 (by omega)]
 simp only[List.set_cons_zero,List.set_cons_succ]
 have tkl:((jL ps i).map fun o=>gt cs o.toNat).length≤1000:=by rw[List.length_map];exact ll
 generalize(jL ps i).map (fun o=>gt cs o.toNat)=tk at *
 obtain⟨m1,m2⟩:=nh tk
 refine af (aE (v:=.int 0) (by simp) (by simp) rfl) ?_
 simp only[List.set_cons_zero,List.set_cons_succ]
 have mb:iM tk < 100000:=by
  have:=uj (l:=tk) (L':=tk) fun x hx=>hx
  omega
 refine qH (Fin:=fun e=>e=[some (pnt .bor n ps),some (.lst fc (iL cs)),some (.int i),some (.lst .own (iL tk)),some (.int (iM tk))]) (fun m e=>∃c:Nat,e=[some (pnt .bor n ps),some (.lst fc (iL cs)),some (.int i),some (.lst .own (iL tk)),some (.int c)]∧m=iM tk - c∧c≤iM tk) (iM tk) mb ⟨0,rfl,by omega,by omega⟩ (fun m e hP=>?_) fun e hF=>?_
 ·obtain⟨c,rfl,rfl,hc⟩:=hP
  by_cases q:c=iM tk
  ·subst q
   exact .inl ⟨by simp;exact m1,rfl⟩
  ·have:=m2 c (by omega)
   exact .inr ⟨by simp;exact this,iM tk - (c+1),[some (pnt .bor n ps),some (.lst fc (iL cs)),some (.int i),some (.lst .own (iL tk)),some (.int (c+1:Nat))],by omega,.inl (aE (v:=.int ((c+1:Nat):Int)) (by simp) (by simp) rfl),c+1,rfl,rfl,by omega⟩
 ·subst hF
  exact gN rfl
abbrev lea(fl:Fl)(c:Nat)(n:Nat)(ps:List (Int×Int))(os:List (Option Int))(st tp:Int):PV:=.obj fl c [3,4,5,6,0,7,8] [.int tp,net .frz n ps,.tup (oL os),.int st,.int n,.int (tp+1),.bl true]
theorem pK{x:Int}(h1:1≤x)(h2:x≤10):ql [.int x]=.ok .non:=by
 refine eP ⟨[some (.int x)],?_⟩
 show vG [some (.int x)]=_
 unfold vG
 exact bu (by simp[show ¬x < 1 by omega,show ¬10 < x by omega]) aw
theorem ox{n:Nat}{ps:List (Int×Int)}{os:List (Option Int)}{tp:Int}{f gf:Fl}(hg:gf=.bor∨gf=.frz)(hf:f=.bor∨f=.frz)(hn:os.length=n)(ho:OkS tp os):Al [net gf n ps,.lst f (oL os),.int tp]=.ok .non:=by
 have hf1:f.lend=f:=by rcases hf with rfl | rfl<;>rfl
 have hf2:f.isLnt=false:=by rcases hf with rfl | rfl<;>rfl
 have hg1:gf.lend=gf:=by rcases hg with rfl | rfl<;>rfl
 refine eP ?_
 show Ends (A0 [some (net gf n ps),some (.lst f (oL os)),some (.int tp),none])
 unfold A0
 refine gj (bu (by simp[hf1,hg1,p1,cL,aQ,ao,aS,hn]) aw) ?_
 refine iy (fun _ e=>∃x,e=[some (net gf n ps),some (.lst f (oL os)),some (.int tp),x]) (fun r=>∃e,r=.next e) (xs:=oL os) (dv (f:=f) (by simp[hf1]) hf2 (by simp) (by simp)) ⟨_,rfl⟩ (fun k x e hx hP=>?_) (fun e hP=>⟨e,rfl⟩)
 obtain⟨y,rfl⟩:=hP
 simp only[oL,List.getElem?_map]at hx
 obtain⟨o,ho1,rfl⟩:=Option.map_eq_some_iff.mp hx
 refine⟨_,b5 rfl,.inl ⟨_,.inl (bu ?_ aw),_,rfl⟩⟩
 cases o with
 | none=>simp[oV,gE,PV.isNon]
 | some s =>
  have:=ho s (List.mem_of_getElem? ho1)
  simp[oV,gE,PV.isNon,show ¬s < 0 by omega,show ¬tp≤s by omega]
theorem qM{cc n:Nat}{ps:List (Int×Int)}{os:List (Option Int)}{st tp:Int}:eV [.obj .own cc [3,4,5,6] [.int tp,net .frz n ps,.tup (oL os),.int st],.int n,.int (tp+1),.bl true]=.ok (lea .own cc n ps os st tp):=by
 refine bT (e:=[some (lea .own cc n ps os st tp),some (.int n),some (.int (tp+1)),some (.bl true)]) ?_ rfl
 show gq [some (.obj .own cc [3,4,5,6] [.int tp,net .frz n ps,.tup (oL os),.int st]),some (.int n),some (.int (tp+1)),some (.bl true)]=_
 unfold gq
 refine af (bp (v:=.int n) (ks:=[3,4,5,6]) (vs:=[.int tp,net .frz n ps,.tup (oL os),.int st]) (by simp) rfl (by simp) rfl (by decide)) ?_
 refine af (bp (v:=.int (tp+1)) (ks:=[3,4,5,6,0]) (vs:=[.int tp,net .frz n ps,.tup (oL os),.int st,.int n]) (by simp) rfl (by simp) rfl (by decide)) ?_
 exact bp (v:=.bl true) (ks:=[3,4,5,6,0,7]) (vs:=[.int tp,net .frz n ps,.tup (oL os),.int st,.int n,.int (tp+1)]) (by simp) rfl (by simp) rfl (by decide)
theorem nv{cc n:Nat}{ps:List (Int×Int)}{os:List (Option Int)}{st bk:Int}{f:Fl}(hf:f.lend.toBor=.bor∨f.lend.toBor=.frz)(h1:1≤st)(h2:st≤10)(h3:1≤bk)(h4:bk≤10)(hn:os.length=n)(ho:OkS (st * bk) os):rQ [.obj .own cc [] [],net .frz n ps,.lst f (oL os),.int st,.int bk]=.ok (lea .own cc n ps os st (st * bk)):=by
 refine bT (e:=[some (lea .own cc n ps os st (st * bk)),some (net .frz n ps),some (.lst f (oL os)),some (.int st),some (.int bk)]) ?_ rfl
 show A6 [some (.obj .own cc [] []),some (net .frz n ps),some (.lst f (oL os)),some (.int st),some (.int bk)]=_
 unfold A6
 have r1:=pK h1 h2
 have r2:=pK h3 h4
 have r3:=ox (ps:=ps) (gf:=.frz) (.inr rfl) hf hn ho
 have mu:dU (.int st) (.int bk)=.ok (.int (st * bk)):=fu (.inl ⟨by omega,by omega⟩)
 generalize st * bk=tp at *
 refine af (fE (v:=.non) (by simp[r1,aF])) ?_
 refine af (fE (v:=.non) (by simp[r2,aF])) ?_
 refine af (bp (v:=.int tp) (ks:=[]) (vs:=[]) (by simp[mu]) rfl (by simp) rfl (by decide)) ?_
 simp only[List.set_cons_zero,List.set_cons_succ]
 refine af (fE (v:=.non) (by simp[ao,aS,r3,aF])) ?_
 refine af (eJ (v:=net .frz n ps) rfl) ?_
 simp only[List.set_cons_zero,List.set_cons_succ]
 refine af (bp (v:=net .frz n ps) (ks:=[3]) (vs:=[.int tp]) (by simp[PV.mapF,Fl.freeze]) rfl (by simp[PV.noLnt,PV.has]) rfl (by decide)) ?_
 simp only[List.set_cons_zero,List.set_cons_succ]
 refine af (bp (v:=.tup (oL os)) (ks:=[3,4]) (vs:=[.int tp,net .frz n ps]) (by simp[p1,cY,aQ]) rfl (by simp[PV.noLnt,PV.has]) rfl (by decide)) ?_
 simp only[List.set_cons_zero,List.set_cons_succ]
 refine af (bp (v:=.int st) (ks:=[3,4,5]) (vs:=[.int tp,net .frz n ps,.tup (oL os)]) (by simp) rfl (by simp) rfl (by decide)) ?_
 simp only[List.set_cons_zero,List.set_cons_succ]
 have:=eZ (env:=[some (.obj .own cc [3,4,5,6] [.int tp,net .frz n ps,.tup (oL os),.int st]),some (net .frz n ps),some (.lst f (oL os)),some (.int st),some (.int bk)]) (m:=eV) (ms:=ae (mUn (ao 0) (ac 1)) (ae (mOp aK (mUn (ao 3) (ac 0)) (mC (.int (1)))) (ae (mC (.bl true)) am))) (xs:=[.int n,.int (tp+1),.bl true]) rfl (by simp[ao,aS]) (by simp) (by simpa using qM (cc:=cc) (n:=n) (ps:=ps) (os:=os) (st:=st) (tp:=tp)) (by simp[PV.has])
 simpa[PV.mapF,Fl.freeze]using this
def pO(st tp c:Int):Bool:=decide (c≠tp)&&decide ((c+1) % st≠0)
def lK(ps:List (Int×Int))(st tp:Int)(cs:List Int)(i:Nat):List Int:=(((nbL ps i).map fun o=>gt cs o.toNat).filter (pO st tp)).map (· + 1)
def j6(ps:List (Int×Int))(os:List (Option Int))(st tp:Int)(cs:List Int)(i:Nat):Int:=d8 (lK ps st tp cs i ++(os.getD i none).toList++[tp])
theorem pH{f:Fl}{l:List Int}(h:l≠[]):eR d8 (.lst f (iL l))=.ok (.int (d8 l)):=by
 unfold eR
 simp only[aQ,gx]
 rw[if_neg (by simpa using h)]
theorem t8{cc n:Nat}{ps:List (Int×Int)}{os:List (Option Int)}{st tp c:Int}(hs:0 < st):rR [lea .bor cc n ps os st tp,.int c]=.ok (.bl (pO st tp c)):=by
 refine az ?_
 show Be [some (lea .bor cc n ps os st tp),some (.int c)]=_
 unfold Be pO
 refine aT ?_ (by simp)
 by_cases h:c=tp
 ·simp[ao,aS,h]
 ·simp[ao,aS,h,a5 hs]
theorem ny{fc:Fl}(hfc:Fc fc){cc n:Nat}{ps:List (Int×Int)}{os:List (Option Int)}{st tp:Int}{cs:List Int}{i:Nat}(hcc:cu cc=some rR)(hnb:∀x∈nbL ps i,0≤x∧x < n)(hl:(nbL ps i).length≤1000)(hs:0 < st)(hn:cs.length=n)(ho:os.length=n)(hi:i < n):rO [lea .bor cc n ps os st tp,.lst fc (iL cs),.int i]=.ok (.int (j6 ps os st tp cs i)):=by
 refine az ?_
 show AX [some (lea .bor cc n ps os st tp),some (.lst fc (iL cs)),some (.int i),none,none]=_
 unfold AX
 have e3:=hfc.bo
 have be:=gZ (ps:=ps) hi
 have l1:((nbL ps i).map fun o=>gt cs o.toNat).length≤1000:=by simpa using hl
 refine af (aE (v:=.lst .own (iL ((nbL ps i).map fun o=>gt cs o.toNat))) ?_ (by simp) rfl) ?_
 ·refine aO (xs:=iL (nbL ps i)) (by simp[ao,aS,bt,be,aF]) (by rw[bf];omega) (d0 (fun o=>gt cs o.toNat) _ fun x hx=>⟨[some (.lst fc (iL cs)),some (.int x)],by simp[tgN,aL,bC,e3],?_⟩)
  obtain⟨h1,h2⟩:=hnb x hx
  simp[hfc.le,da (f:=fc) (cs:=cs) (i:=x) (by omega) (by omega)]
 simp only[List.set_cons_zero,List.set_cons_succ]
 have l2:(lK ps st tp cs i).length≤1000:=by
  unfold lK
  rw[List.length_map]
  exact Nat.le_trans (List.length_filter_le _ _) l1
 refine af (aE (v:=.lst .own (iL (lK ps st tp cs i))) ?_ (by simp) rfl) ?_
 ·unfold lK
  exact aO (xs:=iL ((nbL ps i).map fun o=>gt cs o.toNat)) (by simp) (by rw[bf];omega) (et (pO st tp) (· + 1) _ fun x hx=>⟨[some (lea .bor cc n ps os st tp),some (.int x)],by simp[tgN,aL,bC],by simp[hcc,t8 hs,aF],fun _=>by simp⟩)
 simp only[List.set_cons_zero,List.set_cons_succ]
 have hio:i < os.length:=by omega
 have ix:aN (.tup (oL os)) (.int (i:Int))=.ok (oV os[i]):=ge rfl (by simp[oL,hio]) (by cases os[i]<;>rfl)
 have eg:os.getD i none=os[i]:=by simp[hio]
 unfold j6
 rw[eg]
 generalize os[i]=o at *
 generalize lK ps st tp cs i=of at *
 cases o with
 | none =>
  refine af (bu (by simp[ao,aS,ix,oV,gE,PV.isNon]) aw) (aT ?_ (by simp))
  have pl:aK (.lst .lnt (iL of)) (.lst .own [.int tp])=.ok (.lst .own (iL (of++[tp]))):=by
   rw[fY (by decide) (by decide) (by simp;omega)]
   simp[iL]
  simp[ao,aS,pl,p1,pH (l:=of++[tp]) (by simp)]
 | some s =>
  refine af (fP (by simp[ao,aS,ix,oV,gE,PV.isNon]) (dR (v:=.int s) (xs:=iL of) (by simp[ao,aS,ix,oV]) rfl (by simp) (by rw[bf];omega))) ?_
  simp only[List.set_cons_zero,List.set_cons_succ]
  rw[show iL of++[PV.int s]=iL (of++[s]) by simp[iL]]
  refine aT ?_ (by simp)
  have pl:aK (.lst .lnt (iL (of++[s]))) (.lst .own [.int tp])=.ok (.lst .own (iL (of++[s]++ [tp]))):=by
   rw[fY (by decide) (by decide) (by simp;omega)]
   simp[iL]
  have pm:=pH (f:=.own) (l:=of++[s]++ [tp]) (by simp)
  show _=Res.ok (PV.int (d8 (of++[s]++ [tp])))
  generalize of++[s]=of2 at *
  simp[ao,aS,pl,p1]
  exact pm
def fs(n r:Nat):List (Option Int):=(List.range n).map fun i=>if i=r then some 0 else none
theorem C8{n r:Nat}:oL (fs n r)=(List.range n).map fun i=>oV (if i=r then some 0 else none):=by simp[oL,fs]
theorem nH{f:Fl}{n r:Nat}{ps:List (Int×Int)}(hf:f=.frz∨f=.own)(n1:1≤n)(n10:n≤10)(hr:r < n):qm [.obj .own 5 [] [],net f n ps,.int r]=.ok (lea .own 5 n ps (fs n r) n n):=by
 refine bT (e:=[some (lea .own 5 n ps (fs n r) n n),some (net .frz n ps),some (.int r),some (.lst .frz (oL (fs n r)))]) ?_ rfl
 show vQ [some (.obj .own 5 [] []),some (net f n ps),some (.int r),none]=_
 unfold vQ
 refine af (bu (by simp[ao,aS,show ¬(r:Int) < 0 by omega,show ¬(n:Int)≤ r by omega]) aw) ?_
 refine af (aE (v:=.lst .own (oL (fs n r))) ?_ (by simp[PV.noLnt,PV.has]) rfl) ?_
 ·refine aO (xs:=bU 0 n) (bD (n:=n) (by simp[ao,aS]) (by omega)) (by rw[aW];omega) ?_
  rw[C8]
  refine aY (a:=fun k:Nat=>PV.int (0+(k:Int))) (f:=fun i=>oV (if i=r then some 0 else none)) (List.range n) fun k hk=>⟨[some (.int r),some (.int (0+k))],by simp[tgN,aL,bC],?_,?_,?_⟩
  ·by_cases e:k=r
   ·simp[e,oV]
   ·simp[e,oV,show ¬(k:Int)=r by omega]
  ·by_cases e:k=r<;>simp[e,oV,PV.has]
  ·by_cases e:k=r<;>simp[e,oV,PV.has]
 simp only[List.set_cons_zero,List.set_cons_succ]
 refine af (eJ (v:=.lst .own (oL (fs n r))) rfl) ?_
 simp only[List.set_cons_zero,List.set_cons_succ]
 refine af (eJ (v:=net f n ps) rfl) ?_
 have efz:(net f n ps).mapF Fl.freeze=net .frz n ps:=by rcases hf with rfl | rfl<;>simp[PV.mapF,Fl.freeze]
 simp only[List.set_cons_zero,List.set_cons_succ,efz]
 have li:=nv (cc:=5) (n:=n) (ps:=ps) (os:=fs n r) (st:=n) (bk:=1) (f:=.frz) (.inr rfl) (by omega) (by omega) (by decide) (by decide) (by simp [fs]) (fun s hs=>by
  simp only[fs,List.mem_map,List.mem_range]at hs
  obtain⟨i,_,e⟩:=hs
  split at e
  ·cases e;omega
  ·cases e)
 rw[Int.mul_one]at li
 have:=eZ (env:=[some (.obj .own 5 [] []),some (net .frz n ps),some (.int r),some (.lst .frz (oL (fs n r)))]) (m:=rQ) (ms:=ae (ac 1) (ae (ac 3) (ae (mUn (ao 0) (ac 1)) (ae (mC (.int (1))) am)))) (xs:=[net .frz n ps,.lst .frz (oL (fs n r)),.int n,.int 1]) rfl (by simp[ao,aS,Fl.lend]) (by simp[PV.has]) (by simpa[Fl.toBor]using li) (by simp[PV.has])
 simpa[PV.mapF,Fl.freeze]using this
structure OkM(n:Nat)(ms:List Int):Prop where
 ml:ms.length=n
 nd:ms.Nodup
 mr:∀x∈ms,0≤x∧x≤9
def ls(n:Nat)(ms:List Int):List (Option Int):=ms.map fun x=>some ((9 - x) * n)
theorem ua{n:Nat}{ps:List (Int×Int)}{ms:List Int}(N:OkM n ms)(n10:n≤10):uV [net .frz n ps,.lst .bor (iL ms)]=.ok .non:=by
 have lu:=N.ml
 refine eP ?_
 show Ends (vO [some (net .frz n ps),some (.lst .bor (iL ms)),none])
 unfold vO
 refine gj (bu (by simp[p1,cL,aQ,ao,aS,lu,Fl.lend]) aw) ?_
 refine gj (bu (by simp[p1,cL,aQ,kF (show ms.length≤1000 by omega),nP N.nd,Fl.lend]) aw) ?_
 refine iy (fun _ e=>∃x,e=[some (net .frz n ps),some (.lst .bor (iL ms)),x]) (fun r=>∃e,r=.next e) (xs:=iL ms) (dv (f:=.bor) (by simp[Fl.lend]) rfl (by simp) (by simp)) ⟨_,rfl⟩ (fun k x e hx hP=>?_) (fun e hP=>⟨e,rfl⟩)
 obtain⟨y,rfl⟩:=hP
 obtain⟨z,hz,rfl⟩:=lV hx
 have:=N.mr z (List.mem_of_getElem? hz)
 refine⟨_,b5 rfl,.inl ⟨_,.inl (bu ?_ aw),_,rfl⟩⟩
 simp[show ¬z < 0 by omega,show ¬(9:Int) < z by omega]
theorem rE{n:Nat}{ps:List (Int×Int)}{ms:List Int}{fm:Fl}(hf:fm=.bor∨fm=.own)(N:OkM n ms)(n1:1≤n)(n10:n≤10):uZ [.obj .own 6 [] [],net .own n ps,.lst fm (iL ms)]=.ok (lea .own 6 n ps (ls n ms) n (10 * n)):=by
 refine bT (e:=[some (lea .own 6 n ps (ls n ms) n (10 * n)),some (net .frz n ps),some (.lst fm (iL ms)),some (.lst .frz (oL (ls n ms)))]) ?_ rfl
 show vT [some (.obj .own 6 [] []),some (net .own n ps),some (.lst fm (iL ms)),none]=_
 unfold vT
 have e1:fm.lend.toBor=.bor:=by rcases hf with rfl | rfl<;>rfl
 have rn:=ua (ps:=ps) N n10
 refine af (eJ (v:=net .own n ps) rfl) ?_
 have efz:(net .own n ps).mapF Fl.freeze=net .frz n ps:=by simp[PV.mapF,Fl.freeze]
 simp only[List.set_cons_zero,List.set_cons_succ,efz]
 refine af (fE (v:=.non) (by simp[e1,rn,aF,PV.mapF])) ?_
 have eL:oL (ls n ms)=iL (ms.map fun x=>(9 - x) * n):=by simp[oL,ls,iL,oV]
 refine af (aE (v:=.lst .own (oL (ls n ms))) ?_ (by simp[PV.noLnt,PV.has]) rfl) ?_
 ·rw[eL]
  refine aO (xs:=iL ms) (by simp) (by rw[bf,N.ml];omega) (d0 (fun x=>(9 - x) * n) ms fun x hx=>⟨[some (net .frz n ps),some (.int x)],by simp[tgN,aL,bC,PV.borrow,Fl.borrow,PV.mapF],?_⟩)
  have m:dU (.int (9 - x)) (.int (n:Int))=.ok (.int ((9 - x) * n)):=fu (.inr ⟨by omega,by omega⟩)
  simp[ao,aS,m]
 simp only[List.set_cons_zero,List.set_cons_succ]
 refine af (eJ (v:=.lst .own (oL (ls n ms))) rfl) ?_
 simp only[List.set_cons_zero,List.set_cons_succ]
 have li:=nv (cc:=6) (n:=n) (ps:=ps) (os:=ls n ms) (st:=n) (bk:=10) (f:=.frz) (.inr rfl) (by omega) (by omega) (by decide) (by decide) (by simp [ls,N.ml]) (fun s hs=>by
  simp only[ls,List.mem_map]at hs
  obtain⟨x,hx,e⟩:=hs
  have:=N.mr x hx
  cases e
  have h1:0 ≤(9 - x) * (n:Int):=Int.mul_nonneg (by omega) (by omega)
  have h2:(9 - x) * (n:Int)≤ 9 * n:=Int.mul_le_mul_of_nonneg_right (by omega) (by omega)
  omega)
 rw[Int.mul_comm (n:Int) 10]at li
 have:=eZ (env:=[some (.obj .own 6 [] []),some (net .frz n ps),some (.lst fm (iL ms)),some (.lst .frz (oL (ls n ms)))]) (m:=rQ) (ms:=ae (ac 1) (ae (ac 3) (ae (mUn (ao 0) (ac 1)) (ae (mC (.int (10))) am)))) (xs:=[net .frz n ps,.lst .frz (oL (ls n ms)),.int n,.int 10]) rfl (by simp[ao,aS,Fl.lend]) (by simp[PV.has]) (by simpa[Fl.toBor]using li) (by simp[PV.has])
 simpa[PV.mapF,Fl.freeze]using this
abbrev gro(fl:Fl)(n:Nat)(ps:List (Int×Int))(r:Nat):PV:=.obj fl 7 [9,4,10,0,7,8] [lea fl 5 n ps (fs n r) n n,net .frz n ps,.int r,.int n,.int (((n:Int)+1) * ((n:Int)+1)),.bl true]
theorem qN{n:Nat}{ps:List (Int×Int)}{r:Nat}:eV [.obj .own 7 [9,4,10] [lea .own 5 n ps (fs n r) n n,net .frz n ps,.int r],.int n,.int (((n:Int)+1) * ((n:Int)+1)),.bl true]=.ok (gro .own n ps r):=by
 refine bT (e:=[some (gro .own n ps r),some (.int n),some (.int (((n:Int)+1) * ((n:Int)+1))),some (.bl true)]) ?_ rfl
 show gq [some (.obj .own 7 [9,4,10] [lea .own 5 n ps (fs n r) n n,net .frz n ps,.int r]),some (.int n),some (.int (((n:Int)+1) * ((n:Int)+1))),some (.bl true)]=_
 unfold gq
 refine af (bp (v:=.int n) (ks:=[9,4,10]) (vs:=[lea .own 5 n ps (fs n r) n n,net .frz n ps,.int r]) (by simp) rfl (by simp) rfl (by decide)) ?_
 refine af (bp (v:=.int (((n:Int)+1) * ((n:Int)+1))) (ks:=[9,4,10,0]) (vs:=[lea .own 5 n ps (fs n r) n n,net .frz n ps,.int r,.int n]) (by simp) rfl (by simp) rfl (by decide)) ?_
 exact bp (v:=.bl true) (ks:=[9,4,10,0,7]) (vs:=[lea .own 5 n ps (fs n r) n n,net .frz n ps,.int r,.int n,.int (((n:Int)+1) * ((n:Int)+1))]) (by simp) rfl (by simp) rfl (by decide)
theorem uE{n:Nat}{ps:List (Int×Int)}{r:Nat}{f:Fl}(hf:f=.frz∨f=.own)(n1:1≤n)(n10:n≤10)(hr:r < n):uX [.obj .own 7 [] [],net f n ps,.int r]=.ok (gro .own n ps r):=by
 refine bT (e:=[some (gro .own n ps r),some (net .frz n ps),some (.int r)]) ?_ rfl
 show vR [some (.obj .own 7 [] []),some (net f n ps),some (.int r)]=_
 unfold vR
 have fi:=nH (f:=.frz) (ps:=ps) (.inl rfl) n1 n10 hr
 have mu:dU (.int ((n:Int)+1)) (.int ((n:Int)+1))=.ok (.int (((n:Int)+1) * ((n:Int)+1))):=fu (.inl ⟨by omega,by omega⟩)
 have ri:=qN (n:=n) (ps:=ps) (r:=r)
 generalize((n:Int)+1) * ((n:Int)+1)=sq at mu ri
 refine af (eJ (v:=net f n ps) rfl) ?_
 have efz:(net f n ps).mapF Fl.freeze=net .frz n ps:=by rcases hf with rfl | rfl<;>simp[PV.mapF,Fl.freeze]
 simp only[List.set_cons_zero,List.set_cons_succ,efz]
 refine af (bp (v:=lea .own 5 n ps (fs n r) n n) (ks:=[]) (vs:=[]) (by simp[fi,aF,PV.has,Fl.lend,Fl.toBor]) rfl (by simp[PV.noLnt,PV.has]) rfl (by decide)) ?_
 simp only[List.set_cons_zero,List.set_cons_succ]
 refine af (bp (v:=net .frz n ps) (ks:=[9]) (vs:=[lea .own 5 n ps (fs n r) n n]) (by simp[PV.mapF,Fl.lend]) rfl (by simp[PV.noLnt,PV.has]) rfl (by decide)) ?_
 simp only[List.set_cons_zero,List.set_cons_succ]
 refine af (bp (v:=.int r) (ks:=[9,4]) (vs:=[lea .own 5 n ps (fs n r) n n,net .frz n ps]) (by simp) rfl (by simp) rfl (by decide)) ?_
 simp only[List.set_cons_zero,List.set_cons_succ]
 have:=eZ (env:=[some (.obj .own 7 [9,4,10] [lea .own 5 n ps (fs n r) n n,net .frz n ps,.int r]),some (net .frz n ps),some (.int r)]) (m:=eV) (ms:=ae (mUn (ao 0) (ac 1)) (ae (mOp dU (mOp aK (mUn (ao 0) (ac 1)) (mC (.int (1)))) (mOp aK (mUn (ao 0) (ac 1)) (mC (.int (1))))) (ae (mC (.bl true)) am))) (xs:=[.int n,.int sq,.bl true]) rfl (by simp[ao,aS,mu]) (by simp) (by simpa using ri) (by simp[PV.has])
 simpa using this
def PT(n:Nat)(cs:List Int):List (Int×Int):=cs.map fun c=>(c / ((n:Int)+1),c % ((n:Int)+1))
def FA(n:Nat)(cs:List Int):List Int:=cs.map (· / ((n:Int)+1))
def CN(n:Nat)(cs:List Int):List Int:=cs.map (· % ((n:Int)+1))
@[simp] theorem EC{n:Nat}{cs:List Int}:(FA n cs).length=cs.length:=by simp[FA]
@[simp] theorem Bk{n:Nat}{cs:List Int}:(CN n cs).length=cs.length:=by simp[CN]
def nea(ps:List (Int×Int))(fa:List Int)(i:Nat):List Int:=(nbL ps i).filter fun o=>decide (gt fa o.toNat=gt fa i - 1)
def eld(ps:List (Int×Int))(r:Nat)(fa:List Int)(i:Nat):Option Int:=if i=r then none else if(nea ps fa i).isEmpty then none else some (d8 (nea ps fa i))
def j3(n:Nat)(ps:List (Int×Int))(r:Nat)(cs:List Int)(i:Nat):List Int:=((List.range n).filter fun j=>decide (eld ps r (FA n cs) j=some (i:Int))).map (gt (CN n cs))
def dcn(n:Nat)(ps:List (Int×Int))(r:Nat)(cs:List Int)(i:Nat):Int:=min (n:Int) (1+(j3 n ps r cs i).sum)
def rY(n:Nat)(ps:List (Int×Int))(r:Nat)(cs:List Int)(i:Nat):Int :=
 j6 ps (fs n r) n n (FA n cs) i * ((n:Int)+1)+(if j6 ps (fs n r) n n (FA n cs) i=gt (FA n cs) i then dcn n ps r cs i else gt (CN n cs) i)
theorem mY{n:Nat}{ps:List (Int×Int)}{r:Nat}{cs:List Int}{fc:Fl}(hfc:Fc fc)(n10:n≤10)(hn:cs.length=n):Ao [gro .bor n ps r,.lst fc (iL cs)]=.ok (.lst .own (prL (PT n cs))):=by
 refine az ?_
 show A4 [some (gro .bor n ps r),some (.lst fc (iL cs))]=_
 unfold A4
 refine aT ?_ (by simp[PV.noLnt,PV.has])
 have e4:fc≠.mod:=by rcases hfc with rfl | rfl<;>decide
 rw[show prL (PT n cs)=cs.map fun c=>prV (c / ((n:Int)+1),c % ((n:Int)+1)) by simp[prL,PT]]
 refine aO (xs:=iL cs) (by rcases hfc with rfl | rfl<;>simp) (by rw[bf];omega) (aY (a:=PV.int) (f:=fun c=>prV (c / ((n:Int)+1),c % ((n:Int)+1))) cs fun c _=>⟨[some (gro .bor n ps r),some (.int c)],by simp[tgN,aL,bC,PV.mapF,Fl.borrow],?_,by simp,by simp⟩)
 have np:(0:Int) <(n:Int)+1:=by omega
 simp[ao,aS,a5 np,eM np (show(n:Int)+1 < 1073741824 by omega),prV]
theorem qe{n:Nat}{ps:List (Int×Int)}{r:Nat}{cs:List Int}{fc:Fl}(hfc:Fc fc)(n10:n≤10)(hn:cs.length=n):Am [gro .bor n ps r,.lst fc (iL cs)]=.ok (.lst .own (iL (FA n cs))):=by
 refine az ?_
 show A2 [some (gro .bor n ps r),some (.lst fc (iL cs))]=_
 unfold A2
 refine aT ?_ (by simp)
 have pt:=mY (ps:=ps) (r:=r) hfc n10 hn
 rw[show iL (FA n cs)=(PT n cs).map fun x=>PV.int x.1 by simp[iL,FA,PT]]
 refine aO (xs:=prL (PT n cs)) (by rcases hfc with rfl | rfl<;>simp[dz,pt,aF,PV.has,Fl.lend,Fl.toBor,PV.mapF]) (by simp[PT];omega) (aY (a:=prV) (f:=fun x=>PV.int x.1) (PT n cs) fun x _=>⟨[some (prV x)],by simp[tgN,aL,bC,b6],?_,by simp,by simp⟩)
 simp
theorem kQ{n:Nat}{ps:List (Int×Int)}{r:Nat}{cs:List Int}{fc:Fl}(hfc:Fc fc)(n10:n≤10)(hn:cs.length=n):At [gro .bor n ps r,.lst fc (iL cs)]=.ok (.lst .own (iL (CN n cs))):=by
 refine az ?_
 show A_ [some (gro .bor n ps r),some (.lst fc (iL cs))]=_
 unfold A_
 refine aT ?_ (by simp)
 have pt:=mY (ps:=ps) (r:=r) hfc n10 hn
 rw[show iL (CN n cs)=(PT n cs).map fun x=>PV.int x.2 by simp[iL,CN,PT]]
 refine aO (xs:=prL (PT n cs)) (by rcases hfc with rfl | rfl<;>simp[dz,pt,aF,PV.has,Fl.lend,Fl.toBor,PV.mapF]) (by simp[PT];omega) (aY (a:=prV) (f:=fun x=>PV.int x.2) (PT n cs) fun x _=>⟨[some (prV x)],by simp[tgN,aL,bC,b6],?_,by simp,by simp⟩)
 simp
theorem xt{f:Fl}{l:List Int}:kz (.lst f (iL l))=.ok (if l.isEmpty then .non else .int (d8 l)):=by
 unfold kz
 simp only[aQ,gx]
theorem vc{n:Nat}{ps:List (Int×Int)}{r:Nat}{fa:List Int}{i:Nat}(hnb:∀x∈nbL ps i,0≤x∧x < n)(hl:(nbL ps i).length≤1000)(hn:fa.length=n)(hi:i < n):Ap [gro .bor n ps r,.lst .bor (iL fa),.int i]=.ok (oV (eld ps r fa i)):=by
 refine az ?_
 show A5 [some (gro .bor n ps r),some (.lst .bor (iL fa)),some (.int i),none]=_
 unfold A5 eld
 by_cases q:i=r
 ·rw[if_pos q]
  exact b7 (fP (by simp[ao,aS,q]) (aT (by simp[oV]) (by simp[oV])))
 rw[if_neg q]
 refine af (bu (by simp[ao,aS,show ¬(i:Int)=r by omega]) aw) ?_
 have be:=gZ (ps:=ps) hi
 refine af (aE (v:=.lst .own (iL (nea ps fa i))) ?_ (by simp) rfl) ?_
 ·have hz:nea ps fa i=((nbL ps i).filter fun o=>decide (gt fa o.toNat=gt fa i - 1)).map id:=by simp[nea]
  rw[hz]
  refine aO (xs:=iL (nbL ps i)) (by simp[ao,aS,bt,be,aF]) (by rw[bf];omega) (et (fun o=>decide (gt fa o.toNat=gt fa i - 1)) id _ fun x hx=>⟨[some (.lst .bor (iL fa)),some (.int i),some (.int x)],by simp[tgN,aL,bC,Fl.borrow],?_,fun _=>by simp⟩)
  obtain⟨h1,h2⟩:=hnb x hx
  simp[da (f:=.bor) (cs:=fa) (i:=x) (by omega) (by omega),da (f:=.bor) (cs:=fa) (i:=i) (by omega) (by omega)]
 simp only[List.set_cons_zero,List.set_cons_succ]
 generalize nea ps fa i=l
 refine aT ?_ (by cases l<;>simp[oV])
 simp only[Da,eK,List.getElem?_cons_zero,List.getElem?_cons_succ,zo,Res.ok_bind,PV.mapF,Fl.lend,kD]
 rw[xt]
 cases l<;>simp[oV]
abbrev ELs(n:Nat)(ps:List (Int×Int))(r:Nat)(fa:List Int):List (Option Int):=(List.range n).map (eld ps r fa)
theorem rV{n:Nat}{ps:List (Int×Int)}{r:Nat}{cs:List Int}{fc:Fl}(hfc:Fc fc)(n10:n≤10)(hnb:∀i:Nat,∀x∈nbL ps i,0≤x∧x < n)(hl:∀i:Nat,(nbL ps i).length≤1000)(hn:cs.length=n):Au [gro .bor n ps r,.lst fc (iL cs)]=.ok (.lst .own (oL (ELs n ps r (FA n cs)))):=by
 refine az ?_
 show Ba [some (gro .bor n ps r),some (.lst fc (iL cs)),none]=_
 unfold Ba
 have fo:=qe (ps:=ps) (r:=r) hfc n10 hn
 refine af (aE (v:=.lst .own (iL (FA n cs))) (by rcases hfc with rfl | rfl<;>simp[dZ,fo,aF,PV.has,Fl.lend,Fl.toBor,PV.mapF]) (by simp) rfl) ?_
 simp only[List.set_cons_zero,List.set_cons_succ]
 refine aT ?_ (by simp[PV.noLnt,PV.has])
 rw[show oL (ELs n ps r (FA n cs))=(List.range n).map fun i=>oV (eld ps r (FA n cs) i) by simp[oL]]
 refine aO (xs:=bU 0 n) (bD (n:=n) (by simp[ao,aS]) (by omega)) (by rw[aW];omega) (aY (a:=fun k:Nat=>PV.int (0+(k:Int))) (f:=fun i=>oV (eld ps r (FA n cs) i)) (List.range n) fun k hk=>⟨[some (gro .bor n ps r),some (.lst .bor (iL (FA n cs))),some (.int (0+k))],by simp[tgN,aL,bC,Fl.borrow,PV.mapF],?_,?_,?_⟩)
 ·have el:=vc (r:=r) (hnb k) (hl k) (show(FA n cs).length=n by simpa using hn) (List.mem_range.mp hk)
  simp[gm,el,aF,PV.has,Fl.lend,Fl.toBor,PV.mapF]
  cases eld ps r (FA n cs) k<;>simp[oV,PV.has]
 ·cases eld ps r (FA n cs) k<;>simp[oV,PV.has]
 ·cases eld ps r (FA n cs) k<;>simp[oV,PV.has]
theorem mz(f:Nat→Int)(g:Nat→Option Int):∀l:List Nat,gK (iL (l.map f)) (oL (l.map g))=l.map fun i=>PV.tup [.int (f i),oV (g i)]
 | []=>rfl
 | i::l=>by
  have:=mz f g l
  simp only[iL,oL,List.map_cons,gK]at this ⊢
  rw[this]
theorem eqO(o:Option Int)(i:Int):pEq (oV o) (.int i)=.ok (.bl (decide (o=some i))):=by
 cases o with
 | none=>simp[oV,pEq,PV.data];rfl
 | some s=>simp[oV]
theorem gtR(l:List Int):(List.range l.length).map (gt l)=l:=by
 apply List.ext_getElem (by simp)
 intro i h1 h2
 simp[gt,h2]
theorem vZ{n:Nat}{cs:List Int}(hn:cs.length=n):∀i,i < n→0≤gt (CN n cs) i∧gt (CN n cs) i≤n:=fun i hi=>by
 have hm:=fB (far:=CN n cs) (i:=i) (by simpa using hn▸hi)
 obtain⟨c,_,e⟩:=List.mem_map.mp hm
 rw[← e]
 have:=Int.emod_nonneg c (show(n:Int)+1≠0 by omega)
 have:=Int.emod_lt_of_pos c (show(0:Int) <(n:Int)+1 by omega)
 omega
theorem nB{n:Nat}{ps:List (Int×Int)}{r:Nat}{cs:List Int}{i:Nat}(hn:cs.length=n){x:Int}(hx:x∈j3 n ps r cs i):0≤x∧x≤n:=by
 obtain⟨j,hj,rfl⟩:=List.mem_map.mp hx
 exact vZ hn j (List.mem_range.mp (List.mem_filter.mp hj).1)
theorem uv{n:Nat}{ps:List (Int×Int)}{r:Nat}{cs:List Int}{i:Nat}:(j3 n ps r cs i).length≤n:=by
 have:=List.length_filter_le (fun j=>decide (eld ps r (FA n cs) j=some (i:Int))) (List.range n)
 simpa[j3]using this
theorem AE{n:Nat}{ps:List (Int×Int)}{r:Nat}{cs:List Int}{i:Nat}{fc:Fl}(hfc:Fc fc)(n10:n≤10)(hnb:∀i:Nat,∀x∈nbL ps i,0≤x∧x < n)(hl:∀i:Nat,(nbL ps i).length≤1000)(hn:cs.length=n):Aw [gro .bor n ps r,.lst fc (iL cs),.int i]=.ok (.int (dcn n ps r cs i)):=by
 refine az ?_
 show Bc [some (gro .bor n ps r),some (.lst fc (iL cs)),some (.int i),none]=_
 unfold Bc
 have co:=kQ (ps:=ps) (r:=r) hfc n10 hn
 have eo:=rV (ps:=ps) (r:=r) hfc n10 hnb hl hn
 have zp:gK (iL (CN n cs)) (oL (ELs n ps r (FA n cs)))=(List.range n).map fun j=>PV.tup [.int (gt (CN n cs) j),oV (eld ps r (FA n cs) j)]:=by
  have:=mz (gt (CN n cs)) (eld ps r (FA n cs)) (List.range n)
  rwa [show(List.range n).map (gt (CN n cs))=CN n cs by have:=gtR (CN n cs);rw[Bk,hn]at this;exact this]at this
 refine af (aE (v:=.lst .own (iL (j3 n ps r cs i))) ?_ (by simp) rfl) ?_
 ·rw[show iL (j3 n ps r cs i)=((List.range n).filter fun j=>decide (eld ps r (FA n cs) j=some (i:Int))).map fun j=>PV.int (gt (CN n cs) j) by simp[iL,j3]]
  refine aO (xs:=(List.range n).map fun j=>PV.tup [.int (gt (CN n cs) j),oV (eld ps r (FA n cs) j)]) ?_ (by simp;omega) (cm (a:=fun j=>PV.tup [.int (gt (CN n cs) j),oV (eld ps r (FA n cs) j)]) (f:=fun j=>.int (gt (CN n cs) j)) (p:=fun j=>decide (eld ps r (FA n cs) j=some (i:Int))) (List.range n) fun j hj=>⟨[some (.int i),some (.int (gt (CN n cs) j)),some (oV (eld ps r (FA n cs) j))],?_,?_,fun _=>⟨by simp,rfl,rfl⟩⟩)
  ·unfold pU
   rcases hfc with rfl | rfl<;>simp[cQ,fD,co,eo,aF,PV.has,Fl.lend,Fl.toBor,PV.mapF,dN,zp]
  ·cases eld ps r (FA n cs) j<;>rfl
  ·have ob:∀o:Option Int,PV.mapF Fl.lend (oV o)=oV o:=fun o=>by cases o<;>rfl
   simp[ob,eqO]
 simp only[List.set_cons_zero,List.set_cons_succ]
 have sm:lC (.lst .lnt (iL (j3 n ps r cs i)))=.ok (.int (j3 n ps r cs i).sum):=pj (by have:=uv (n:=n) (ps:=ps) (r:=r) (cs:=cs) (i:=i);omega) fun x hx=>by have:=nB hn hx;omega
 refine aT ?_ (by simp)
 simp[ao,aS,p1,sm,dcn,dC]
theorem xW{n:Nat}{ps:List (Int×Int)}{r:Nat}{cs:List Int}{i:Nat}{fc:Fl}(hfc:Fc fc)(n1:1≤n)(n10:n≤10)(hnb:∀i:Nat,∀x∈nbL ps i,0≤x∧x < n)(hl:∀i:Nat,(nbL ps i).length≤1000)(hn:cs.length=n)(hi:i < n):uW [gro .bor n ps r,.lst fc (iL cs),.int i]=.ok (.int (rY n ps r cs i)):=by
 refine az ?_
 show vP [some (gro .bor n ps r),some (.lst fc (iL cs)),some (.int i),none,none,none]=_
 unfold vP
 have fo:=qe (ps:=ps) (r:=r) hfc n10 hn
 have co:=kQ (ps:=ps) (r:=r) hfc n10 hn
 have dc:=AE (ps:=ps) (r:=r) (i:=i) hfc n10 hnb hl hn
 have fl:(FA n cs).length=n:=by simpa using hn
 have cl:(CN n cs).length=n:=by simpa using hn
 have ld:=ny (.inl rfl) (cc:=5) (os:=fs n r) (st:=n) (tp:=n) (cs:=FA n cs) rfl (hnb i) (hl i) (by omega) fl (by simp[fs]) hi
 refine af (aE (v:=.lst .own (iL (FA n cs))) (by rcases hfc with rfl | rfl<;>simp[dZ,fo,aF,PV.has,Fl.lend,Fl.toBor,PV.mapF]) (by simp) rfl) ?_
 simp only[List.set_cons_zero,List.set_cons_succ]
 unfold rY
 generalize j6 ps (fs n r) n n (FA n cs) i=df at *
 refine af (aE (v:=.int df) (by simp[ao,aS,iR,ld,aF,PV.has,Fl.lend,Fl.toBor,PV.mapF]) (by simp) rfl) ?_
 simp only[List.set_cons_zero,List.set_cons_succ]
 have ic:∀f,aN (.lst f (iL (CN n cs))) (.int (i:Int))=.ok (.int (gt (CN n cs) i)):=fun f=>by simpa using da (f:=f) (cs:=CN n cs) (i:=i) (by omega) (by omega)
 have ia:∀f,aN (.lst f (iL (FA n cs))) (.int (i:Int))=.ok (.int (gt (FA n cs) i)):=fun f=>by simpa using da (f:=f) (cs:=FA n cs) (i:=i) (by omega) (by omega)
 refine af (aE (v:=.int (gt (CN n cs) i)) (by rcases hfc with rfl | rfl<;>simp[cQ,co,ic,aF,PV.has,Fl.lend,Fl.toBor,PV.mapF]) (by simp) rfl) ?_
 simp only[List.set_cons_zero,List.set_cons_succ]
 have mu:dU (.int df) (.int ((n:Int)+1))=.ok (.int (df * ((n:Int)+1))):=fu (.inr ⟨by omega,by omega⟩)
 by_cases q:df=gt (FA n cs) i
 ·rw[if_pos q]
  refine af (fP (by simp[ia,q]) (aE (v:=.int (dcn n ps r cs i)) (by rcases hfc with rfl | rfl<;>simp[dF,dc,aF,PV.has,Fl.lend,Fl.toBor,PV.mapF]) (by simp) rfl)) ?_
  simp only[List.set_cons_zero,List.set_cons_succ]
  exact aT (by simp[ao,aS,mu]) (by simp)
 ·rw[if_neg q]
  refine af (bu (by simp[ia,q]) aw) ?_
  exact aT (by simp[ao,aS,mu]) (by simp)
def cC(at_:Int):Int→List Int→List Int
 | _,[]=>[]
 | k,p::ps=>if p=at_ then k::cC at_ (k+1) ps else cC at_ (k+1) ps
theorem ir{at_:Int}:∀{k:Int}{ps:List Int}{x:Int},x∈cC at_ k ps→k≤x∧x < k+ps.length∧ps[(x - k).toNat]?=some at_
 | _,[],x,h=>by simp[cC]at h
 | k,p::ps,x,h=>by
  have key:x∈cC at_ (k+1) ps→k≤x∧x < k+(p::ps).length∧(p::ps)[(x - k).toNat]?=some at_:=fun h=>by
   obtain⟨h1,h2,h3⟩:=ir h
   refine⟨by omega,by simp only[List.length_cons];omega,?_⟩
   rw[show(x - k).toNat=(x - (k+1)).toNat+1 by omega,List.getElem?_cons_succ]
   exact h3
  unfold cC at h
  split at h
  ·rename_i hp
   rcases List.mem_cons.mp h with rfl | h
   ·refine⟨by omega,by simp only[List.length_cons];omega,by simp[hp]⟩
   ·exact key h
  ·exact key h
theorem nA{at_:Int}:∀{k:Int}{ps:List Int},(cC at_ k ps).length≤ps.length
 | _,[]=>by simp[cC]
 | k,p::ps=>by
  have:=nA (at_:=at_) (k:=k+1) (ps:=ps)
  unfold cC
  split<;>simp<;>omega
def jm(cs l:List Int):Int:=(l.map fun k=>gt cs k.toNat).sum
def xY(n:Nat)(ps cs:List Int)(i:Nat):Int:=min (n:Int) (1+jm cs (cC i 1 ps))
theorem mB{cs:List Int}:∀{l:List Int},(∀k∈l,0≤gt cs k.toNat)→0≤jm cs l
 | [],_=>by simp[jm]
 | k::l,h=>by
  have:=mB (cs:=cs) (l:=l) fun x hx=>h x (List.mem_cons_of_mem _ hx)
  have h2:=h k List.mem_cons_self
  simp only[jm,List.map_cons,List.sum_cons]at this ⊢
  omega
def Tree(ps:List Int):Prop:=∀i (h:i < ps.length),0≤ps[i]∧ps[i]≤ i
structure EQ(ps hs:List Int)(j:Nat):Prop where
 len:hs.length=ps.length+1
 eqn:∀i:Nat,i≤ps.length→gt hs i=1+jm hs (cC i (j+1) (ps.drop j))
 bnd:∀i:Nat,i≤ps.length→1≤gt hs i∧gt hs i≤ps.length+1
 sum:(hs.take (j+1)).sum=ps.length+1
structure EO(ps hs:List Int):Prop where
 len:hs.length=ps.length+1
 eqn:∀i:Nat,i≤ps.length→gt hs i=1+jm hs (cC i 1 ps)
 bnd:∀i:Nat,i≤ps.length→1≤gt hs i∧gt hs i≤ps.length+1
abbrev cnt(fl:Fl)(ps:List Int):PV:=.obj fl 3 [11,0,7,8] [.tup (iL ps),.int (ps.length+1),.int (ps.length+2),.bl false]
theorem qO{ps:List Int}:eV [.obj .own 3 [11] [.tup (iL ps)],.int (ps.length+1),.int (ps.length+2),.bl false]=.ok (cnt .own ps):=by
 refine bT (e:=[some (cnt .own ps),some (.int (ps.length+1)),some (.int (ps.length+2)),some (.bl false)]) ?_ rfl
 show gq [some (.obj .own 3 [11] [.tup (iL ps)]),some (.int (ps.length+1)),some (.int (ps.length+2)),some (.bl false)]=_
 unfold gq
 refine af (bp (v:=.int (ps.length+1)) (ks:=[11]) (vs:=[.tup (iL ps)]) (by simp) rfl (by simp) rfl (by decide)) ?_
 refine af (bp (v:=.int (ps.length+2)) (ks:=[11,0]) (vs:=[.tup (iL ps),.int (ps.length+1)]) (by simp) rfl (by simp) rfl (by decide)) ?_
 exact bp (v:=.bl false) (ks:=[11,0,7]) (vs:=[.tup (iL ps),.int (ps.length+1),.int (ps.length+2)]) (by simp) rfl (by simp) rfl (by decide)
theorem r6{ps:List Int}:oZ [.obj .own 3 [11] [.tup (iL ps)],.int (ps.length+1),.int (ps.length+2)]=.ok (cnt .own ps):=by
 refine bT (e:=[some (cnt .own ps),some (.int (ps.length+1)),some (.int (ps.length+2))]) ?_ rfl
 show vp [some (.obj .own 3 [11] [.tup (iL ps)]),some (.int (ps.length+1)),some (.int (ps.length+2))]=_
 unfold vp
 exact eZ (xs:=[.int (ps.length+1),.int (ps.length+2),.bl false]) rfl (by simp) (by simp) (by simpa using qO (ps:=ps)) (by simp[PV.has])
theorem AD{f:Fl}{m:ME}{env:En}{ps:List Int}(h:m env=.ok (.lst f (iL ps)))(hf:f.isLnt=false):rB m env=.ok (enP 1 (iL ps)):=by
 unfold rB
 rw[h]
 simp[hf,dN]
theorem oz{f:Fl}{ps:List Int}(T:Tree ps)(hl:ps.length≤9)(hf:f=.bor∨f=.frz):An [.lst f (iL ps)]=.ok .non:=by
 have hf1:f.lend=f:=by rcases hf with rfl | rfl<;>rfl
 have hf2:f.isLnt=false:=by rcases hf with rfl | rfl<;>rfl
 have key:∃e,A3 [some (.lst f (iL ps)),none,none]=.next e:=by
  unfold A3
  have s1:∀a:MS,mBr (ax (mOp pGt (ap (p1 cL) (ae (ac 0) am)) (mC (.int (9))))) a aP [some (.lst f (iL ps)),none,none]=.next [some (.lst f (iL ps)),none,none]:=fun a=>bu (by simp[p1,cL,aQ];omega) aw
  suffices hh:∃e,cj (rB (ac 0)) (tgT 2 (bv (tgN 1) (bv (tgN 2) eO))) (mBr ((gz (ax (mOp pLt (ac 2) (mC (.int (0))))) (ax (mOp pGe (ac 2) (ac 1))))) (bc 2 (ae (mC (.str "a parent is no machine of a lower number than its kid")) am)) aP) [some (.lst f (iL ps)),none,none]=.next e by
   obtain⟨e,h⟩:=hh
   exact⟨e,af (s1 _) h⟩
  refine iy (fun _ e=>∃a b,e=[some (.lst f (iL ps)),a,b]) (fun r=>∃e,r=.next e) (xs:=enP 1 (iL ps)) (AD (f:=f) (by simp[hf1]) hf2) ⟨_,_,rfl⟩ (fun k x e hx hP=>?_) (fun e hP=>⟨e,rfl⟩)
  obtain⟨a,b,rfl⟩:=hP
  rw[fC]at hx
  obtain⟨y,hy,rfl⟩:=Option.map_eq_some_iff.mp hx
  obtain⟨v,hv,rfl⟩:=lV hy
  obtain⟨hk,ev⟩:=List.getElem?_eq_some_iff.mp hv
  have:=T k hk
  rw[ev]at this
  refine⟨[some (.lst f (iL ps)),some (.int (1+k)),some (.int v)],rfl,.inl ⟨_,.inl (bu ?_ aw),_,_,rfl⟩⟩
  simp[show ¬v < 0 by omega,show ¬1+(k:Int)≤ v by omega]
 obtain⟨e,h⟩:=key
 exact eP ⟨e,h⟩
theorem vh{f:Fl}{ps:List Int}(T:Tree ps)(hl:ps.length≤9)(hf:f.lend.toBor=.bor∨f.lend.toBor=.frz):Ar [.obj .own 3 [] [],.lst f (iL ps)]=.ok (cnt .own ps):=by
 refine bT (e:=[some (cnt .own ps),some (.lst f (iL ps))]) ?_ rfl
 show A8 [some (.obj .own 3 [] []),some (.lst f (iL ps))]=_
 unfold A8
 have rf:=oz T hl hf
 refine af (fE (v:=.non) (by simp[rf,aF])) ?_
 refine af (bp (v:=.tup (iL ps)) (ks:=[]) (vs:=[]) (by simp[p1,cY,aQ]) rfl (by simp[PV.noLnt,PV.has]) rfl (by decide)) ?_
 have:=eZ (env:=[some (.obj .own 3 [11] [.tup (iL ps)]),some (.lst f (iL ps))]) (m:=oZ) (ms:=ae (mOp aK (ap (p1 cL) (ae (ac 1) am)) (mC (.int (1)))) (ae (mOp aK (ap (p1 cL) (ae (ac 1) am)) (mC (.int (2)))) am)) (xs:=[.int (ps.length+1),.int (ps.length+2)]) rfl (by simp[p1,cL,aQ]) (by simp) (by simpa using r6 (ps:=ps)) (by simp[PV.has])
 exact this
theorem nS{env:En}{g:TgM}{mc:MT}{me:ME}{at_:Int}:∀(ps:List Int) (k:Int),(∀j v:Int,v∈ps→∃e1,g (.tup [.int j,.int v]) env=some e1∧mc e1=.ok (decide (v=at_))∧me e1=.ok (.int j))→cz g mc me env (enP k (iL ps))=.ok (iL (cC at_ k ps))
 | [],_,_=>rfl
 | p::ps,k,h=>by
  obtain⟨e1,h1,h2,h3⟩:=h k p List.mem_cons_self
  have ih:=nS (at_:=at_) ps (k+1) fun j v hv=>h j v (List.mem_cons_of_mem _ hv)
  simp only[dQ,enP,cz]
  have b:(PV.tup [.int k,.int p]).borrow=.tup [.int k,.int p]:=by simp[PV.borrow]
  rw[b,h1]
  simp only[h2,Res.ok_bind]
  unfold cC
  by_cases hc:p=at_
  ·simp[hc,h3,ih]
  ·simp[hc,ih]
theorem rM{ps:List Int}{i:Int}(hl:ps.length≤1000):Ax [cnt .bor ps,.int i]=.ok (.lst .own (iL (cC i 1 ps))):=by
 refine az ?_
 show Bd [some (cnt .bor ps),some (.int i)]=_
 unfold Bd
 refine aT (aO (xs:=enP 1 (iL ps)) ?_ (by rw[ef,bf];omega) (nS ps 1 fun j v _=>⟨[some (.int i),some (.int j),some (.int v)],by simp[tgT,bv,tgN,eO,aL,bC],by simp,by simp⟩)) (by simp)
 unfold xA
 simp[ao,aS,aQ]
def Sm(cs:List Int):Prop:=∀c∈cs,0≤c∧c≤1000
theorem ya{ps cs:List Int}{i:Nat}{fc:Fl}(hfc:Fc fc)(hl:ps.length≤9)(hs:Sm cs)(hn:cs.length=ps.length+1):Ak [cnt .bor ps,.lst fc (iL cs),.int i]=.ok (.int (xY (ps.length+1) ps cs i)):=by
 refine az ?_
 show AZ [some (cnt .bor ps),some (.lst fc (iL cs)),some (.int i)]=_
 unfold AZ xY jm
 have ho:=rM (ps:=ps) (i:=(i:Int)) (by omega)
 have kl:=nA (at_:=(i:Int)) (k:=1) (ps:=ps)
 have hc:aX [1] 1 (b0 (bV bq (ac 0) (ae (ac 2) am))) (tgN 1) bB (mOp aN (ac 0) (ac 1)) [some (cnt .bor ps),some (.lst fc (iL cs)),some (.int i)]=.ok (.lst .own (iL ((cC i 1 ps).map fun k=>gt cs k.toNat))):=by
  refine aO (xs:=iL (cC i 1 ps)) (by simp[bq,ho,aF]) (by rw[bf];omega) (d0 (fun k=>gt cs k.toNat) _ fun x hx=>⟨[some (.lst fc (iL cs)),some (.int x)],by simp[tgN,aL,bC,hfc.bo],?_⟩)
  obtain⟨h1,h2,_⟩:=ir hx
  simp[hfc.le,da (f:=fc) (cs:=cs) (i:=x) (by omega) (by omega)]
 have sm:lC (.lst .own (iL ((cC i 1 ps).map fun k=>gt cs k.toNat)))=.ok (.int ((cC i 1 ps).map fun k=>gt cs k.toNat).sum):=pj (by simp;omega) fun x hx=>by
  obtain⟨k,hk,rfl⟩:=List.mem_map.mp hx
  obtain⟨h1,h2,_⟩:=ir hk
  have:=hs _ (fB (far:=cs) (i:=k.toNat) (by omega))
  omega
 refine aT ?_ (by simp)
 simp only[dq,ck,db,i_,hc]
 simp[ao,aS,p1,sm,dC]
def InS(sp:Int)(cs:List Int):Prop:=∀c∈cs,0≤c∧c < sp
structure Rl(o:PV)(n:Nat)(sp:Int)(al ip:Bool)(D:List Int→Nat→Int):Prop where
 le:o.mapF Fl.lend=o
 tb:o.mapF Fl.toBor=o
 bo:o.mapF Fl.borrow=o
 a0:ao 0 o=.ok (.int n)
 a7:ao 7 o=.ok (.int sp)
 a8:ao 8 o=.ok (.bl al)
 s0:0 < sp
 n1:1≤n
 n20:n≤20
 due:∀fc cs k,Fc fc→cs.length=n→InS sp cs→k < n→m5 aC (.ok [.lst fc (iL cs),.int k]) o=.ok (.int (D cs k))∧0≤D cs k∧D cs k < sp
 rd:∀r,m5 ay r o=r.bind fun xs=>aG fL (o::xs)
 mv:∀r,m5 av r o=r.bind fun xs=>aG fM (o::xs)
 tu:∀r,m5 aB r o=r.bind fun xs=>aG fN (o::xs)
 ca:∀r,m5 aq r o=r.bind fun xs=>aG (if ip then xJ else gg) (o::xs)
def mvR(n:Nat)(D:List Int→Nat→Int)(cs:List Int):List Int:=((List.range n).filter fun i=>decide (D cs i≠gt cs i)).map fun i:Nat=>(i:Int)
def stR(n:Nat)(D:List Int→Nat→Int)(cs nm:List Int):List Int:=(List.range n).map fun i:Nat=>if nm.contains (i:Int)then D cs i else gt cs i
def eB(n:Nat)(al:Bool)(nm:List Int):Prop:=nm.Nodup∧(∀x∈nm,0≤x∧x < n)∧(al=true→nm.length≤1)∧nm.length≤1000
def caR(n:Nat)(ip:Bool)(D:List Int→Nat→Int)(cs:List Int):Bool:=decide ((mvR n D cs).length=if ip then 1 else 0)
section
variable{o:PV}{n:Nat}{sp:Int}{al ip:Bool}{D:List Int→Nat→Int}{cs nm:List Int}{f fn:Fl}
theorem sC(r:Rl o n sp al ip D)(hn:cs.length=n)(hc:InS sp cs)(nm:List Int):(stR n D cs nm).length=n∧InS sp (stR n D cs nm):=by
 refine⟨by simp[stR],fun c hc'=>?_⟩
 unfold stR at hc'
 obtain⟨i,hi,rfl⟩:=List.mem_map.mp hc'
 have hi:=List.mem_range.mp hi
 split
 ·exact(r.due .bor cs i (.inl rfl) hn hc hi).2
 ·exact hc _ (fB (by omega))
theorem pQ:(mvR n D cs).length≤n:=by
 unfold mvR
 rw[List.length_map]
 have:=List.length_filter_le (fun i=>decide (D cs i≠gt cs i)) (List.range n)
 rwa [List.length_range]at this
theorem kB(r:Rl o n sp al ip D)(hf:Fc f∨f=.own)(hn:cs.length=n)(hc:InS sp cs):fM [o,.lst f (iL cs)]=.ok (.lst .own (iL (mvR n D cs))):=by
 have n20:=r.n20
 have fb:=Fc.of hf
 refine az ?_
 show vL [some o,some (.lst f (iL cs))]=_
 unfold vL mvR
 refine aT ?_ (by simp)
 refine aO (xs:=bU 0 n) (bD (n:=n) (by simp[r.le,r.a0]) (by omega)) (by rw[aW];omega) (jR (fun k=>decide (D cs k≠gt cs k)) (fun k=>(k:Int)) n fun k hk=>⟨[some o,some (.lst f.borrow (iL cs)),some (.int (0+k))],by simp[tgN,aL,bC,PV.borrow,r.bo],?_,fun _=>by simp⟩)
 generalize f.borrow=fc at *
 have gk:aN (.lst fc (iL cs)) (.int (k:Int))=.ok (.int (gt cs k)):=by simpa using da (f:=fc) (cs:=cs) (i:=k) (by omega) (by omega)
 simp[r.le,fb.le,(r.due fc cs k fb hn hc hk).1,gk]
theorem l0(r:Rl o n sp al ip D)(hf:Fc f∨f=.own)(hn:cs.length=n)(hc:InS sp cs):m5 aq (.ok [.lst f (iL cs)]) o=.ok (.bl (caR n ip D cs)):=by
 have e:∀f',Fc f'∨f'=.own→(if ip then xJ else gg) [o,.lst f' (iL cs)]=.ok (.bl (caR n ip D cs)):=fun f' hf=>by
  have fb:Fc f'.lend.toBor:=by
   rcases hf with(rfl | rfl) | rfl
   ·exact .inl rfl
   ·exact .inr rfl
   ·exact .inl rfl
  have mo:=kB r (.inl fb) hn hc
  cases ip with
  | false =>
   refine az ?_
   show vA [some o,some (.lst f' (iL cs))]=_
   unfold vA caR
   exact aT (by simp[r.le,r.tb,r.mv,mo,aF]) (by simp)
  | true =>
   refine az ?_
   show AU [some o,some (.lst f' (iL cs))]=_
   unfold AU caR
   have e1:((mvR n D cs).length:Int)=1 ↔(mvR n D cs).length=1:=by omega
   exact aT (by simp[r.le,r.tb,r.mv,mo,aF,e1]) (by simp)
 have hf2:Fc f.toBor∨f.toBor=.own:=by
  rcases hf with(rfl | rfl) | rfl
  ·exact .inl (.inl rfl)
  ·exact .inl (.inr rfl)
  ·exact .inr rfl
 simp[r.ca,r.tb,e _ hf2,aF]
theorem qQ(r:Rl o n sp al ip D)(hf:Fc fn)(hg:eB n al nm):uR [o,.lst fn (iL nm)]=.ok .non:=by
 obtain⟨hd,hr,ha,hl⟩:=hg
 refine eP ?_
 show Ends (vH [some o,some (.lst fn (iL nm)),none])
 unfold vH
 refine gj (bu ?_ aw) ?_
 ·cases al with
  | false=>simp[r.le,r.a8]
  | true =>
   have:=ha rfl
   simp[r.le,r.a8]
   omega
 refine u_ (fun _ e=>∃x,e=[some o,some (.lst fn (iL nm)),x]) (xs:=iL nm) (dv (f:=fn) (by simp[hf.le]) hf.nl (by simp) (by simp)) ⟨_,rfl⟩ (fun k x e hx hP=>?_) (fun e hP=>?_)
 ·obtain⟨y,rfl⟩:=hP
  obtain⟨m,hm,rfl⟩:=lV hx
  obtain⟨h1,h2⟩:=hr m (List.mem_of_getElem? hm)
  refine⟨_,b5 rfl,bJ (bu ?_ aw) ⟨_,rfl⟩⟩
  simp[r.le,r.a0,show ¬m < 0 by omega,show ¬(n:Int)≤ m by omega]
 ·obtain⟨y,rfl⟩:=hP
  exact rT (bu (by simp[kF hl,nP hd]) aw)
theorem Fc.call{f:Fl}(h:Fc f∨f=.own):Fc f.lend.toBor:=by
 rcases h with(rfl | rfl) | rfl
 ·exact .inl rfl
 ·exact .inr rfl
 ·exact .inl rfl
theorem qz(r:Rl o n sp al ip D)(hf:Fc f∨f=.own)(hfn:Fc fn∨fn=.own)(hn:cs.length=n)(hc:InS sp cs)(hg:eB n al nm):fN [o,.lst f (iL cs),.lst fn (iL nm)]=.ok (.lst .own (iL (stR n D cs nm))):=by
 have n20:=r.n20
 have fb:=Fc.of hf
 refine az ?_
 show vM [some o,some (.lst f (iL cs)),some (.lst fn (iL nm))]=_
 unfold vM stR
 refine af (fE (v:=.non) (by simp[r.le,r.tb,qQ r (Fc.call hfn) hg,aF])) (aT ?_ (by simp))
 refine aO (xs:=bU 0 n) (bD (n:=n) (by simp[r.le,r.a0]) (by omega)) (by rw[aW];omega) (kS 0 (fun i:Nat=>if nm.contains (i:Int)then D cs i else gt cs i) n fun k hk=>⟨[some (.lst fn.borrow (iL nm)),some o,some (.lst f.borrow (iL cs)),some (.int (0+k))],by simp[tgN,aL,bC,PV.borrow,r.bo],?_⟩)
 generalize f.borrow=fc at *
 have gk:∀f,aN (.lst f (iL cs)) (.int (k:Int))=.ok (.int (gt cs k)):=fun f=>by simpa using da (f:=f) (cs:=cs) (i:=k) (by omega) (by omega)
 have dk:=(r.due fc cs k fb hn hc hk).1
 by_cases q:nm.contains (k:Int)=true
 ·simp only[q,if_true]
  simp at q
  simp[q,r.le,fb.le,dk,aF]
 ·simp only[q]
  simp at q
  simp[q,gk]
def dnR(n:Nat)(D:List Int→Nat→Int)(cs nm:List Int):List Int:=(mvR n D cs).filter fun a=>nm.contains a
theorem qK(r:Rl o n sp al ip D)(hf:Fc f)(hfn:Fc fn)(hn:cs.length=n)(hc:InS sp cs)(hg:eB n al nm):nK [o,.lst f (iL cs),.lst fn (iL nm)]=.ok (.tup [.lst .own (iL (dnR n D cs nm)),.lst .own (iL (stR n D cs nm))]):=by
 have n20:=r.n20
 have ml:=pQ (n:=n) (D:=D) (cs:=cs)
 refine az ?_
 show vt [some o,some (.lst f (iL cs)),some (.lst fn (iL nm)),none,none]=_
 unfold vt
 refine af (aE (v:=.lst .own (iL (stR n D cs nm))) (by simp[r.le,r.tb,r.tu,hf.le,hf.tb,hfn.le,hfn.tb,qz r (.inl hf) (.inl hfn) hn hc hg,aF]) (by simp) rfl) ?_
 simp only[List.set_cons_zero,List.set_cons_succ]
 refine af (aE (v:=.lst .own (iL (dnR n D cs nm))) ?_ (by simp) rfl) ?_
 ·refine aO (xs:=iL (mvR n D cs)) (by simp[r.le,r.tb,r.mv,hf.le,hf.tb,kB r (.inl hf) hn hc,aF]) (by simp;omega) ?_
  have:=et (env:=bC [2] 1 [some o,some (.lst f (iL cs)),some (.lst fn (iL nm)),some (.lst .own (iL (stR n D cs nm))),none]) (g:=tgN 1) (mc:=ax (mOp pIn (ac 1) (ac 0))) (me:=ac 1) (fun a=>nm.contains a) (fun a=>a) (mvR n D cs) fun x hx=>⟨[some (.lst fn (iL nm)),some (.int x)],by simp[tgN,aL,bC,PV.borrow,hfn.bo],by simp,fun _=>by simp⟩
  unfold dnR
  rw[List.map_id']at this
  exact this
 ·simp only[List.set_cons_zero,List.set_cons_succ]
  rfl
def aV(f:Fl)(p:List Int×List Int):PV:=.tup [.lst f (iL p.1),.lst f (iL p.2)]
def gD(n:Nat)(D:List Int→Nat→Int):List Int→List (List Int)→List (List Int×List Int)
 | _,[]=>[]
 | cs,nm::tns=>(dnR n D cs nm,stR n D cs nm)::gD n D (stR n D cs nm) tns
theorem mP:∀(tns:List (List Int)) (cs:List Int),(gD n D cs tns).length=tns.length
 | [],_=>rfl
 | nm::tns,cs=>by simp[gD,mP tns]
theorem pD(r:Rl o n sp al ip D):∀(tns:List (List Int)) (cs:List Int),cs.length=n→InS sp cs→∀p∈gD n D cs tns,p.2.length=n∧InS sp p.2∧p.1.length≤n
 | [],_,_,_,p,h=>nomatch h
 | nm::tns,cs,hn,hc,p,h=>by
  obtain⟨h1,h2⟩:=sC r hn hc nm
  rcases List.mem_cons.mp h with rfl | h
  ·exact⟨h1,h2,Nat.le_trans (List.length_filter_le _ _) pQ⟩
  ·exact pD r tns _ h1 h2 p h
theorem jy{p:Fl→Bool}(h:p f=false)(ps:List (List Int×List Int)):hasL p (ps.map (aV f))=false:=by
 induction ps with
 | nil=>simp
 | cons a l ih=>simp[ih,aV,h]
@[simp] theorem mQ{g:Fl→Fl}(ps:List (List Int×List Int)):mapL g (ps.map (aV f))=ps.map (aV (g f)):=by
 induction ps with
 | nil=>simp
 | cons a l ih=>simp[ih,aV]
theorem pC(r:Rl o n sp al ip D)(hfn:Fc fn){x1 x2:Option PV}:∀(tns:List (List Int)) (cs:List Int) (rows:List PV) (x5:Option PV),cs.length=n→InS sp cs→(∀nm∈tns,eB n al nm)→rows.length+tns.length≤1000 →
  ∃y5,lv (ap (aG nK) (ae (ac 0) (ae (ac 3) (ae (ac 5) am)))) 4 3 5 (llL fn tns) rows (.lst .bor (iL cs)) [some o,x1,x2,none,some (.lst .own rows),x5]=.next [some o,x1,x2,none,some (.lst .own (rows ++(gD n D cs tns).map (aV .own))),y5]
 | [],cs,rows,x5,_,_,_,_=>⟨x5,by simp[gD,lv]⟩
 | nm::tns,cs,rows,x5,hn,hc,hg,hl=>by
  obtain⟨h1,h2⟩:=sC r hn hc nm
  rw[List.length_cons]at hl
  obtain⟨y5,ih⟩:=pC r hfn (x1:=x1) (x2:=x2) tns (stR n D cs nm) (rows++[aV .own (dnR n D cs nm,stR n D cs nm)]) (some (.lst fn (iL nm))) h1 h2 (fun m hm=>hg m (List.mem_cons_of_mem _ hm)) (by simp;omega)
  refine⟨y5,?_⟩
  rw[gb]
  unfold lv
  have ro:=qK r (f:=.bor) (.inl rfl) hfn hn hc (hg nm List.mem_cons_self)
  simp only[List.set_cons_zero,List.set_cons_succ]
  have em:ap (aG nK) (ae (ac 0) (ae (ac 3) (ae (ac 5) am))) [some o,x1,x2,some (.lst .bor (iL cs)),none,some (.lst fn (iL nm))]=.ok (.tup [.lst .own (iL (dnR n D cs nm)),.lst .own (iL (stR n D cs nm))]):=by
   simp[r.le,r.tb,hfn.le,hfn.tb,ro,aF]
  rw[em]
  dsimp only
  rw[if_neg (by simp;omega)]
  have eb:(PV.lst .own (iL (stR n D cs nm))).borrow=.lst .bor (iL (stR n D cs nm)):=by simp
  rw[eb]
  have ih':=ih
  unfold aV at ih'
  rw[ih']
  simp[gD,aV]
theorem lx{rs:List Int}(r:Rl o n sp al ip D)(hn:rs.length=n):fL [o,.lst f (iL rs)]=.ok (.lst .own (iL (rs.map (· % sp)))):=by
 have n20:=r.n20
 refine az ?_
 show vB [some o,some (.lst f (iL rs))]=_
 unfold vB
 refine af (bu (by simp[r.le,r.a0,hn]) aw) (aT ?_ (by simp))
 refine aO (xs:=iL rs) (by simp) (by simp;omega) ?_
 exact d0 (· % sp) rs fun x hx=>⟨[some o,some (.int x)],by simp[tgN,aL,bC,PV.borrow,r.bo],by simp[r.le,r.a7,a5 r.s0]⟩
theorem lN{rs:List Int}(r:Rl o n sp al ip D):InS sp (rs.map (· % sp)):=fun c hc=>by
 obtain⟨x,_,rfl⟩:=List.mem_map.mp hc
 have:=r.s0
 exact⟨Int.emod_nonneg _ (by omega),Int.emod_lt_of_pos _ r.s0⟩
theorem y2{rs:List Int}{tns:List (List Int)}{ft fi:Fl}(r:Rl o n sp al ip D)(ht:Fc ft.freeze)(hi:Fc fi.freeze)(hn:rs.length=n)(hg:∀nm∈tns,eB n al nm)(hl:tns.length≤1000):u6 [o,.lst f (iL rs),.lst ft (llL fi tns)]=.ok (.lst .own ((gD n D (rs.map (· % sp)) tns).map (aV .own))):=by
 refine az ?_
 show vU [some o,some (.lst f (iL rs)),some (.lst ft (llL fi tns)),none,none,none]=_
 unfold vU
 refine af (aE (v:=.lst .own (iL (rs.map (· % sp)))) (by simp[r.le,r.tb,r.rd,lx r hn,aF]) (by simp) rfl) ?_
 simp only[List.set_cons_zero,List.set_cons_succ]
 refine af (aE (v:=.lst .own []) (by simp) (by simp) rfl) ?_
 simp only[List.set_cons_zero,List.set_cons_succ]
 refine af (eJ (v:=.lst ft (llL fi tns)) rfl) ?_
 have efz:(PV.lst ft (llL fi tns)).mapF Fl.freeze=.lst ft.freeze (llL fi.freeze tns):=by simp
 simp only[List.set_cons_zero,List.set_cons_succ,efz]
 generalize ft.freeze=gt' at *
 generalize fi.freeze=gi at *
 obtain⟨y5,e⟩:=pC r hi (x1:=some (.lst f (iL rs))) (x2:=some (.lst gt' (llL gi tns))) tns (rs.map (· % sp)) [] none (by simpa using hn) (lN r) hg (by simpa using hl)
 rw[List.nil_append]at e
 have h1:Fl.isOwn gi=false:=by rcases hi with rfl | rfl<;>rfl
 have it:dW (ac 2) [some o,some (.lst f (iL rs)),some (.lst gt' (llL gi tns)),some (.lst .own (iL (rs.map (· % sp)))),some (.lst .own []),none]=.ok (llL gi tns):=dv (f:=gt') (by simp[ht.le,hi.le]) ht.nl (cO _ _ _ h1) (cO _ _ _ hi.nl)
 refine af (e:=[some o,some (.lst f (iL rs)),some (.lst gt' (llL gi tns)),none,some (.lst .own ((gD n D (rs.map (· % sp)) tns).map (aV .own))),y5]) ?_ (gN rfl)
 unfold pV
 rw[it]
 have eb:(PV.lst .own (iL (rs.map (· % sp)))).borrow=.lst .bor (iL (rs.map (· % sp))):=by simp
 dsimp only[List.getElem?_cons_zero,List.getElem?_cons_succ,List.set_cons_zero,List.set_cons_succ]
 rw[eb]
 exact e
end
abbrev lw(f:Fl)(size span:Int):PV:=.obj f 9 [0,7,8] [.int size,.int span,.bl false]
theorem tw{size span:Int}(h1:2≤size)(h2:size≤20)(h3:size≤span):Aj [.obj .own 9 [] [],.int size,.int span]=.ok (lw .own size span):=by
 refine bT (e:=[some (lw .own size span),some (.int size),some (.int span)]) ?_ rfl
 show AY [some (.obj .own 9 [] []),some (.int size),some (.int span)]=_
 unfold AY
 refine af (bu (by simp[show ¬size < 2 by omega,show ¬20 < size by omega]) aw) ?_
 refine af (bu (by simp[show ¬span < size by omega]) aw) ?_
 have ri:eV [.obj .own 9 [] [],.int size,.int span,.bl false]=.ok (lw .own size span):=by
  refine bT (e:=[some (lw .own size span),some (.int size),some (.int span),some (.bl false)]) ?_ rfl
  show gq [some (.obj .own 9 [] []),some (.int size),some (.int span),some (.bl false)]=_
  unfold gq
  refine af (bp (v:=.int size) (ks:=[]) (vs:=[]) (by simp) rfl (by simp) rfl (by decide)) ?_
  refine af (bp (v:=.int span) (ks:=[0]) (vs:=[.int size]) (by simp) rfl (by simp) rfl (by decide)) ?_
  exact bp (v:=.bl false) (ks:=[0,7]) (vs:=[.int size,.int span]) (by simp) rfl (by simp) rfl (by decide)
 have:=eZ (env:=[some (.obj .own 9 [] []),some (.int size),some (.int span)]) (m:=eV) (ms:=ae (ac 1) (ae (ac 2) (ae (mC (.bl false)) am))) (xs:=[.int size,.int span,.bl false]) rfl (by simp) (by simp) (by simpa using ri) (by simp[PV.has])
 simpa using this
def rX(sp:Int)(cs:List Int)(i:Nat):Int:=if i=0 then(if gt cs 0=gt cs (cs.length - 1)then(gt cs 0+1) % sp else gt cs 0)else gt cs (i - 1)
theorem wZ{n:Nat}{sp:Int}{cs:List Int}{i:Nat}{fc:Fl}(hfc:Fc fc)(hn:cs.length=n)(hi:i < n)(hs:0 < sp):uU [lw .bor n sp,.lst fc (iL cs),.int i]=.ok (.int (rX sp cs i)):=by
 refine az ?_
 show vN [some (lw .bor n sp),some (.lst fc (iL cs)),some (.int i)]=_
 unfold vN rX
 by_cases h0:i=0
 ·subst h0
  rw[if_pos rfl]
  have g0:aN (.lst fc (iL cs)) (.int 0)=.ok (.int (gt cs 0)):=da (by omega) (by omega)
  have gl:aN (.lst fc (iL cs)) (.int ((n:Int) - 1))=.ok (.int (gt cs (cs.length - 1))):=by
   rw[da (by omega) (by omega)]
   congr 3
   omega
  refine af (bu (by simp) aw) ?_
  by_cases hc:gt cs 0=gt cs (cs.length - 1)
  ·rw[if_pos hc]
   exact b7 (fP (by simp[ao,aS,hfc.le,g0,gl,← hc]) (aT (by simp[ao,aS,hfc.le,g0,a5 hs]) (by simp)))
  ·rw[if_neg hc]
   exact af (bu (by simp[ao,aS,hfc.le,g0,gl,hc]) aw) (aT (by simp[hfc.le,g0]) (by simp))
 ·rw[if_neg h0]
  have gl:aN (.lst fc (iL cs)) (.int ((i:Int) - 1))=.ok (.int (gt cs (i - 1))):=by
   rw[da (by omega) (by omega)]
   congr 3
   omega
  exact b7 (fP (by simp;omega) (aT (by simp[hfc.le,gl]) (by simp)))
theorem xV{n:Nat}{sp:Int}{cs:List Int}{i:Nat}(hn:cs.length=n)(hc:InS sp cs)(hi:i < n)(hs:0 < sp):0≤rX sp cs i∧rX sp cs i < sp:=by
 unfold rX
 split
 ·split
  ·exact⟨Int.emod_nonneg _ (by omega),Int.emod_lt_of_pos _ hs⟩
  ·exact hc _ (fB (by omega))
 ·exact hc _ (fB (by omega))
theorem wC{n:Nat}{sp:Int}(h1:1≤n)(h20:n≤20)(hs:0 < sp):Rl (lw .bor n sp) n sp false true (rX sp) where
 le:=by simp
 tb:=by simp
 bo:=by simp
 a0:=by simp[ao,aS]
 a7:=by simp[ao,aS]
 a8:=by simp[ao,aS]
 s0:=hs
 n1:=h1
 n20:=h20
 due:=fun fc cs k hfc hn hc hk=>⟨by simp[aC,hfc.tb,wZ hfc hn hk hs,aF],xV hn hc hk hs⟩
 rd:=fun r=>by simp[ay]
 mv:=fun r=>by simp[av]
 tu:=fun r=>by simp[aB]
 ca:=fun r=>by simp[aq]
theorem sS{n:Nat}{ps:List (Int×Int)}(h1:1≤n)(h20:n≤20)(rg:∀x∈ps,0≤x.1∧x.1 < n∧0≤x.2∧x.2 < n∧x.1≠x.2)(hl:∀i,(nbL ps i).length≤1000):Rl (pnt .bor n ps) n n false false (rW ps) where
 le:=by simp
 tb:=by simp
 bo:=by simp
 a0:=by simp[ao,aS]
 a7:=by simp[ao,aS]
 a8:=by simp[ao,aS]
 s0:=by omega
 n1:=h1
 n20:=h20
 due:=fun fc cs k hfc hn hc hk=>⟨by simp[aC,hfc.tb,v6 rg hfc hl hn hk,aF],xU rg hk⟩
 rd:=fun r=>by simp[ay]
 mv:=fun r=>by simp[av]
 tu:=fun r=>by simp[aB]
 ca:=fun r=>by simp[aq]
theorem sT{ps:List Int}(hl:ps.length≤9):Rl (cnt .bor ps) (ps.length+1) ((ps.length:Int)+2) false false (xY (ps.length+1) ps) where
 le:=by simp
 tb:=by simp
 bo:=by simp
 a0:=by simp[ao,aS]
 a7:=by simp[ao,aS]
 a8:=by simp[ao,aS]
 s0:=by omega
 n1:=by omega
 n20:=by omega
 due:=fun fc cs k hfc hn hc hk=>by
  have sm:Sm cs:=fun c hc'=>by have:=hc c hc';omega
  refine⟨by simp[aC,hfc.tb,ya (i:=k) hfc hl sm hn,aF],?_⟩
  have nn:=mB (cs:=cs) (l:=cC k 1 ps) fun j hj=>by
   obtain⟨h1,h2,_⟩:=ir hj
   exact(hc _ (fB (far:=cs) (i:=j.toNat) (by omega))).1
  unfold xY
  omega
 rd:=fun r=>by simp[ay]
 mv:=fun r=>by simp[av]
 tu:=fun r=>by simp[aB]
 ca:=fun r=>by simp[aq]
theorem qp{n:Nat}{ps:List (Int×Int)}{os:List (Option Int)}{st tp:Int}{cs:List Int}{i:Nat}(ht:0≤tp)(ho:OkS tp os)(hn:cs.length=n)(hnb:∀x∈nbL ps i,0≤x∧x < n)(hc:∀c∈cs,0≤c):0≤j6 ps os st tp cs i∧j6 ps os st tp cs i≤tp:=by
 unfold j6
 obtain⟨m1,m2⟩:=jI (l:=lK ps st tp cs i ++(os.getD i none).toList++[tp]) (by simp)
 have h2:=m2 tp (by simp)
 generalize d8 (lK ps st tp cs i ++(os.getD i none).toList++[tp])=M at *
 refine⟨?_,h2⟩
 rcases List.mem_append.mp m1 with q | q
 ·rcases List.mem_append.mp q with q | q
  ·unfold lK at q
   obtain⟨c,hc1,rfl⟩:=List.mem_map.mp q
   obtain⟨o,ho1,rfl⟩:=List.mem_map.mp (List.mem_filter.mp hc1).1
   have:=hnb o ho1
   have:=hc _ (fB (far:=cs) (i:=o.toNat) (by omega))
   omega
  ·have e:os.getD i none=some M:=by
    cases eo:os.getD i none with
    | none=>rw[eo]at q;cases q
    | some s=>rw[eo]at q;exact congrArg some (List.mem_singleton.mp q).symm
   have hm:some M∈os:=by
    rw[List.getD_eq_getElem?_getD]at e
    cases e2:os[i]? with
    | none=>rw[e2]at e;cases e
    | some x=>rw[e2]at e;rw[← show x=some M from e];exact List.mem_of_getElem? e2
   exact(ho M hm).1
 ·have:=List.mem_singleton.mp q
  omega
theorem mR{cc n:Nat}{ps:List (Int×Int)}{os:List (Option Int)}{st tp:Int}(hcc:cc=5∨cc=6)(h1:1≤n)(h20:n≤20)(hst:0 < st)(ht:0≤tp)(ho:OkS tp os)(hol:os.length=n)(hnb:∀i:Nat,∀x∈nbL ps i,0≤x∧x < n)(hl:∀i,(nbL ps i).length≤1000):Rl (lea .bor cc n ps os st tp) n (tp+1) true false (j6 ps os st tp) where
 le:=by simp
 tb:=by simp
 bo:=by simp
 a0:=by simp[ao,aS]
 a7:=by simp[ao,aS]
 a8:=by simp[ao,aS]
 s0:=by omega
 n1:=h1
 n20:=h20
 due:=fun fc cs k hfc hn hc hk=>by
  have d:=ny (cc:=cc) (ps:=ps) (os:=os) (st:=st) (tp:=tp) (cs:=cs) (i:=k) hfc (by rcases hcc with rfl | rfl<;>rfl) (hnb k) (hl k) hst hn hol hk
  have b:=qp (st:=st) (i:=k) ht ho hn (hnb k) fun c hc'=>(hc c hc').1
  refine⟨?_,b.1,by omega⟩
  rcases hcc with rfl | rfl<;>simp[aC,hfc.tb,d,aF]
 rd:=fun r=>by rcases hcc with rfl | rfl<;>simp[ay]
 mv:=fun r=>by rcases hcc with rfl | rfl<;>simp[av]
 tu:=fun r=>by rcases hcc with rfl | rfl<;>simp[aB]
 ca:=fun r=>by rcases hcc with rfl | rfl<;>simp[aq]
theorem uG{n r:Nat}(h:1≤n):OkS n (fs n r):=fun s hs=>by
 simp only[fs,List.mem_map,List.mem_range]at hs
 obtain⟨i,_,e⟩:=hs
 split at e
 ·cases e;omega
 ·cases e
theorem xX{n r:Nat}{ps:List (Int×Int)}{cs:List Int}{i:Nat}(h1:1≤n)(hn:cs.length=n)(hi:i < n)(hnb:∀i:Nat,∀x∈nbL ps i,0≤x∧x < n)(hc:InS (((n:Int)+1) * ((n:Int)+1)) cs):0≤rY n ps r cs i∧rY n ps r cs i <((n:Int)+1) * ((n:Int)+1):=by
 have hfa:∀c∈FA n cs,0≤c:=fun c hc'=>by
  obtain⟨x,hx,rfl⟩:=List.mem_map.mp hc'
  exact Int.ediv_nonneg (hc x hx).1 (by omega)
 obtain⟨b1,b2⟩:=qp (ps:=ps) (os:=fs n r) (st:=n) (tp:=n) (cs:=FA n cs) (i:=i) (by omega) (uG h1) (show(FA n cs).length=n by simpa using hn) (hnb i) hfa
 have c1:=vZ hn i hi
 have sn:0 ≤(j3 n ps r cs i).sum:=by
  have:∀l:List Int,(∀x∈l,0≤x)→0≤l.sum:=fun l=>by
   induction l with
   | nil=>simp
   | cons a l ih =>
    intro h
    have:=ih fun x hx=>h x (List.mem_cons_of_mem _ hx)
    have:=h a List.mem_cons_self
    simp
    omega
  exact this _ fun x hx=>(nB hn hx).1
 unfold rY dcn
 generalize j6 ps (fs n r) n n (FA n cs) i=d at *
 have m1:0≤d * ((n:Int)+1):=Int.mul_nonneg b1 (by omega)
 have m2:d * ((n:Int)+1)≤ n * ((n:Int)+1):=Int.mul_le_mul_of_nonneg_right b2 (by omega)
 have m3:((n:Int)+1) * ((n:Int)+1)=n * ((n:Int)+1)+((n:Int)+1):=by rw[Int.add_mul,Int.one_mul]
 split<;>omega
theorem wD{n r:Nat}{ps:List (Int×Int)}(h1:1≤n)(h10:n≤10)(hnb:∀i:Nat,∀x∈nbL ps i,0≤x∧x < n)(hl:∀i:Nat,(nbL ps i).length≤1000):Rl (gro .bor n ps r) n (((n:Int)+1) * ((n:Int)+1)) true false (rY n ps r) where
 le:=by simp
 tb:=by simp
 bo:=by simp
 a0:=by simp[ao,aS]
 a7:=by simp[ao,aS]
 a8:=by simp[ao,aS]
 s0:=Int.mul_pos (by omega) (by omega)
 n1:=h1
 n20:=by omega
 due:=fun fc cs k hfc hn hc hk=>⟨by simp[aC,hfc.tb,xW (r:=r) hfc h1 h10 hnb hl hn hk,aF],xX h1 hn hk hnb hc⟩
 rd:=fun r=>by simp[ay]
 mv:=fun r=>by simp[av]
 tu:=fun r=>by simp[aB]
 ca:=fun r=>by simp[aq]
structure KR(O o:PV)(n:Nat)(sp:Int)(al ip:Bool)(D:List Int→Nat→Int):Prop where
 own:O.has Fl.isBor=false
 nl:O.noLnt=true
 lb:(O.mapF Fl.lend).mapF Fl.toBor=o
 bb:O.mapF Fl.borrow=o
 la0:ao 0 (O.mapF Fl.lend)=.ok (.int n)
 la8:ao 8 (O.mapF Fl.lend)=.ok (.bl al)
 r:Rl o n sp al ip D
def nmL(u:Int)(n:Nat):List Int:=(List.range n).map fun a:Nat=>(u+3 * (a:Int)) % 10
theorem zW(u:Int){n:Nat}(n10:n≤10):OkM n (nmL u n):=by
 refine⟨by simp[nmL],?_,fun x hx=>?_⟩
 ·unfold nmL
  rw[List.Nodup,List.pairwise_iff_getElem]
  intro i j hi hj hij
  have hj':j < n:=by simpa using hj
  simp
  omega
 ·obtain⟨a,_,rfl⟩:=List.mem_map.mp hx
  omega
def fZ(k:Nat):List Int→List Int
 | []=>[]
 | x::xs=>(x / 4 % ((k:Int)+1))::fZ (k+1) xs
theorem mZ:∀(l:List Int) (k:Nat),(fZ k l).length=l.length
 | [],_=>rfl
 | x::l,k=>by simp[fZ,mZ l]
theorem m4:∀(l:List Int) (k i:Nat) (h:i <(fZ k l).length),0 ≤(fZ k l)[i]∧(fZ k l)[i]≤ k+i
 | [],_,i,h=>by simp[fZ]at h
 | x::l,k,0,_=>by
  simp only[fZ,List.getElem_cons_zero]
  have:=Int.emod_nonneg (x / 4) (show(k:Int)+1≠0 by omega)
  have:=Int.emod_lt_of_pos (x / 4) (show(0:Int) <(k:Int)+1 by omega)
  omega
 | x::l,k,i+1,h=>by
  have:=m4 l (k+1) i (by simpa[fZ]using h)
  simp only[fZ,List.getElem_cons_succ]
  omega
theorem kT{env:En}{g:TgM}{me:ME}:∀(l:List Int) (k:Nat),(∀(j:Nat) (x:Int),x∈l→∃e1,g (.tup [.int j,.int x]) env=some e1∧me e1=.ok (.int (x / 4 % ((j:Int)+1))))→cz g bB me env (enP k (iL l))=.ok (iL (fZ k l))
 | [],_,_=>rfl
 | x::l,k,h=>by
  obtain⟨e1,h1,h2⟩:=h k x List.mem_cons_self
  have ih:=kT l (k+1) fun j v hv=>h j v (List.mem_cons_of_mem _ hv)
  simp only[dQ,enP,cz]
  have b:(PV.tup [.int k,.int x]).borrow=.tup [.int k,.int x]:=by simp[PV.borrow]
  rw[b,h1]
  rw[show((k+1:Nat):Int)=(k:Int)+1 by omega]at ih
  simp[h2,ih,fZ]
theorem wv{kd m:Nat}(fr cell:Int)(hk:kd < 6)(m1:1≤m)(m10:m≤10):∃O o n sp al ip D,qi [.int kd,.int m,.int fr,.int cell]=.ok O∧KR O o n sp al ip D∧n≤11∧(kd≠0→n=m)∧(kd=0→n=m+1)∧ip=decide (kd=0):=by
 obtain⟨ws,hw,Wh⟩:=v4 (n:=m) cell m1 m10
 have Gd:=Wh.good (by omega)
 have hin:=xE (fl:=.own) Gd m1 m10 (.inl rfl) fun S h0 hc=>x8 Wh (by omega) S h0 hc
 have rg:∀x∈bW (ws.map mm),0≤x.1∧x.1 < m∧0≤x.2∧x.2 < m∧x.1≠x.2:=fun x hx=>by
  obtain⟨w,hw,rfl⟩:=List.mem_map.mp ((cb _).mem_iff.mp hx)
  have:=Gd.rg w hw
  simp only[mm]
  omega
 have hl:∀i,(nbL (bW (ws.map mm)) i).length≤1000:=fun i=>by
  unfold nbL
  rw[(dS _).length_eq,List.length_append,List.length_map,List.length_map]
  have h1:=List.length_filter_le (fun x:Int×Int=>decide (x.2=(i:Int))) (bW (ws.map mm))
  have h2:=List.length_filter_le (fun x:Int×Int=>decide (x.1=(i:Int))) (bW (ws.map mm))
  have h3:(bW (ws.map mm)).length < 64:=by rw[(cb _).length_eq,List.length_map];exact Gd.sz
  omega
 generalize bW (ws.map mm)=ps at *
 have hnb:∀i:Nat,∀x∈nbL ps i,0≤x∧x < m:=fun i x hx=>by
  rcases lL.mp hx with q | q
  ·have:=rg _ q;omega
  ·have:=rg _ q;omega
 have np:(0:Int) < m:=by omega
 obtain⟨r,hr0⟩:∃r:Nat,fr % (m:Int)=r:=⟨(fr % (m:Int)).toNat,by have:=Int.emod_nonneg fr (show(m:Int)≠ 0 by omega);omega⟩
 have hr:r < m:=by have:=Int.emod_lt_of_pos fr np;omega
 have run:∀O,ja [some (.int kd),some (.int m),some (.int fr),some (.int cell)]=.ret O→qi [.int kd,.int m,.int fr,.int cell]=.ok O:=fun O h=>az h
 have:kd=0∨kd=1∨kd=2∨kd=3∨kd=4∨kd=5:=by omega
 rcases this with rfl | rfl | rfl | rfl | rfl | rfl
 ·have d3:cZ (.int fr) (.int 3)=.ok (.int (fr / 3)):=eM (by decide) (by decide)
  have p59:lE (.int 10) (.int 59)=.ok (.int 100000000000000000000000000000000000000000000000000000000000):=by rfl
  have m59:bM (.int fr) (.int 100000000000000000000000000000000000000000000000000000000000)=.ok (.int (fr % 100000000000000000000000000000000000000000000000000000000000)):=a5 (by decide)
  have b59:=Int.emod_nonneg fr (show(100000000000000000000000000000000000000000000000000000000000:Int)≠ 0 by decide)
  generalize fr % 100000000000000000000000000000000000000000000000000000000000=w at m59 b59
  obtain⟨u,hu,hu0⟩:∃u:Int,m7 (.lst .own [.int (fr % 3),.int w]) (.int (fr / 3 % 2))=.ok (.int u)∧0≤u:=by
   have:fr / 3 % 2=0∨fr / 3 % 2=1:=by omega
   rcases this with e | e
   ·exact⟨fr % 3,by rw[e];rfl,by omega⟩
   ·exact⟨w,by rw[e];rfl,b59⟩
  have pi:=tw (size:=(m:Int)+1) (span:=(m:Int)+1+u) (by omega) (by omega) (by omega)
  refine⟨lw .own ((m+1:Nat):Int) ((m:Int)+1+u),lw .bor ((m+1:Nat):Int) ((m:Int)+1+u),m+1,_,_,_,_,run _ ?_,⟨by simp[PV.has],by simp[PV.noLnt,PV.has],by simp[Fl.lend,Fl.toBor],by simp[Fl.borrow],by simp[ao,aS],by simp[ao,aS],wC (by omega) (by omega) (by omega)⟩,by omega,fun z=>absurd rfl z,fun _=>rfl,rfl⟩
  unfold ja
  exact b7 (fP (by simp) (aT (by simp[d3,p59,m59,a5,hu,pi,aF,PV.has]) (by simp[PV.noLnt,PV.has])))
 ·have pi:=qV (n:=m) (ps:=ps)
  refine⟨pnt .own m ps,pnt .bor m ps,m,_,_,_,_,run _ ?_,⟨by simp[PV.has],by simp[PV.noLnt,PV.has],by simp[Fl.lend,Fl.toBor],by simp[Fl.borrow],by simp[ao,aS],by simp[ao,aS],sS m1 (by omega) rg hl⟩,by omega,fun _=>rfl,fun z=>absurd z (by decide),rfl⟩
  unfold ja
  exact af (bu (by simp) aw) (b7 (fP (by simp) (aT (by simp[hw,hin,pi,aF,PV.has]) (by simp[PV.noLnt,PV.has]))))
 ·obtain⟨l,hl1,hl2,hl3⟩:=gS cell (m - 1) (by omega)
  have hT:Tree (fZ 0 l):=fun i h=>by have:=m4 l 0 i h;omega
  have hp:(fZ 0 l).length=m - 1:=by rw[mZ,hl2]
  have hci:=vh (f:=.own) hT (by omega) (.inl rfl)
  have rc:=sT (ps:=fZ 0 l) (by omega)
  have hc:aX [] 2 (nu (ap (aG jO) (ae (ac 3) (ae (mOp lD (ac 1) (mC (.int (1)))) am)))) (tgT 2 (bv (tgN 0) (bv (tgN 1) eO))) bB (mOp bM (mOp cZ (ac 1) (mC (.int (4)))) (mOp aK (ac 0) (mC (.int (1))))) [some (.int (2:Nat)),some (.int m),some (.int fr),some (.int cell)]=.ok (.lst .own (iL (fZ 0 l))):=by
   have cp:=kT (env:=bC [] 2 [some (.int (2:Nat)),some (.int m),some (.int fr),some (.int cell)]) (g:=tgT 2 (bv (tgN 0) (bv (tgN 1) eO))) (me:=mOp bM (mOp cZ (ac 1) (mC (.int (4)))) (mOp aK (ac 0) (mC (.int (1))))) l 0 fun j x hx=>⟨[some (.int j),some (.int x)],by simp[tgT,bv,tgN,eO,aL,bC,b6],by simp[eM (i:=x) (show(0:Int) < 4 by decide) (by decide),a5 (i:=x / 4) (show(0:Int) <(j:Int)+1 by omega)]⟩
   refine aO (xs:=enP 0 (iL l)) ?_ (by rw[ef,bf];omega) cp
   have nb:jO [.int cell,.int ((m:Int) - 1)]=.ok (.lst .own (iL l)):=by rw[show(m:Int) - 1=((m - 1:Nat):Int) by omega];exact hl1
   unfold nu
   simp[nb,aF,aQ]
  generalize fZ 0 l=qs at *
  have e1:qs.length+1=m:=by omega
  refine⟨cnt .own qs,cnt .bor qs,qs.length+1,_,_,_,_,run _ ?_,⟨by simp[PV.has],by simp[PV.noLnt,PV.has],by simp[Fl.lend,Fl.toBor],by simp[Fl.borrow],by simp[ao,aS],by simp[ao,aS],rc⟩,by omega,fun _=>e1,fun z=>absurd z (by decide),rfl⟩
  unfold ja
  refine af (bu (by simp) aw) (af (bu (by simp) aw) (b7 (fP (by simp) (aT ?_ (by simp[PV.noLnt,PV.has])))))
  simp only[u8,ck,db,hc]
  simp[hci,aF,PV.has]
 ·have pi:=nH (f:=.own) (ps:=ps) (.inr rfl) m1 m10 hr
  refine⟨lea .own 5 m ps (fs m r) m m,lea .bor 5 m ps (fs m r) m m,m,_,_,_,_,run _ ?_,⟨by simp[PV.has],by simp[PV.noLnt,PV.has],by simp[Fl.lend,Fl.toBor],by simp[Fl.borrow],by simp[ao,aS],by simp[ao,aS],mR (.inl rfl) m1 (by omega) np (by omega) (uG m1) (by simp[fs]) hnb hl⟩,by omega,fun _=>rfl,fun z=>absurd z (by decide),rfl⟩
  unfold ja
  exact af (bu (by simp) aw) (af (bu (by simp) aw) (af (bu (by simp) aw) (b7 (fP (by simp) (aT (by simp[hw,hin,a5 np,hr0,pi,aF,PV.has]) (by simp[PV.noLnt,PV.has]))))))
 ·have N:=zW fr m10
  have pi:=rE (ps:=ps) (fm:=.own) (.inr rfl) N m1 m10
  have os:OkS (10 * (m:Int)) (ls m (nmL fr m)):=fun s hs=>by
   simp only[ls,List.mem_map]at hs
   obtain⟨x,hx,e⟩:=hs
   have:=N.mr x hx
   cases e
   have h1:0 ≤(9 - x) * (m:Int):=Int.mul_nonneg (by omega) (by omega)
   have h2:(9 - x) * (m:Int)≤ 9 * m:=Int.mul_le_mul_of_nonneg_right (by omega) (by omega)
   omega
  have hc:aX [2] 1 (bH (ae (ac 1) am)) (tgN 1) bB (mOp bM (mOp aK (ac 0) (mOp dU (mC (.int (3))) (ac 1))) (mC (.int (10)))) [some (.int (4:Nat)),some (.int m),some (.int fr),some (.int cell)]=.ok (.lst .own (iL (nmL fr m))) :=
   aO (xs:=bU 0 m) (bD (n:=m) (by simp) (by omega)) (by rw [aW];omega) (kS 0 (fun a:Nat=>(fr+3 * (a:Int)) % 10) m fun k hk=>⟨[some (.int fr),some (.int (0+k))],by simp [tgN,aL,bC],by
    have m3:dU (.int 3) (.int (k:Int))=.ok (.int (3 * (k:Int))):=fu (.inl ⟨by decide,by decide⟩)
    simp[m3,a5]⟩)
  refine⟨lea .own 6 m ps (ls m (nmL fr m)) m (10 * m),lea .bor 6 m ps (ls m (nmL fr m)) m (10 * m),m,_,_,_,_,run _ ?_,⟨by simp[PV.has],by simp[PV.noLnt,PV.has],by simp[Fl.lend,Fl.toBor],by simp[Fl.borrow],by simp[ao,aS],by simp[ao,aS],mR (.inr rfl) m1 (by omega) np (by omega) os (by simp[ls,nmL]) hnb hl⟩,by omega,fun _=>rfl,fun z=>absurd z (by decide),rfl⟩
  unfold ja
  refine af (bu (by simp) aw) (af (bu (by simp) aw) (af (bu (by simp) aw) (af (bu (by simp) aw) (b7 (fP (by simp) (aT ?_ (by simp[PV.noLnt,PV.has])))))))
  simp only[u8,ck,db,hc]
  simp[hw,hin,pi,aF,PV.has]
 ·have pi:=uE (f:=.own) (ps:=ps) (.inr rfl) m1 m10 hr
  refine⟨gro .own m ps r,gro .bor m ps r,m,_,_,_,_,run _ ?_,⟨by simp[PV.has],by simp[PV.noLnt,PV.has],by simp[Fl.lend,Fl.toBor],by simp[Fl.borrow],by simp[ao,aS],by simp[ao,aS],wD m1 m10 hnb fun i=>hl i⟩,by omega,fun _=>rfl,fun z=>absurd z (by decide),rfl⟩
  unfold ja
  exact af (bu (by simp) aw) (af (bu (by simp) aw) (af (bu (by simp) aw) (af (bu (by simp) aw) (af (bu (by simp) aw) (aT (by simp[hw,hin,a5 np,hr0,pi,aF,PV.has]) (by simp[PV.noLnt,PV.has]))))))
theorem pf{o:PV}{n:Nat}{sp:Int}{al ip:Bool}{D:List Int→Nat→Int}(r:Rl o n sp al ip D)(z:Int):∃nm:List Int,qh [o,.int z]=.ok (.lst .own (iL nm))∧eB n al nm:=by
 have n1:=r.n1
 have n20:=r.n20
 have np:(0:Int) < n:=by omega
 suffices hh:je (vx [some o,some (.int z),none,none]) (fun v=>∃nm:List Int,v=.lst .own (iL nm)∧eB n al nm) by
  obtain⟨v,h1,l,rfl,h2⟩:=hh
  exact⟨l,az h1,h2⟩
 unfold vx
 have a1:=Int.emod_nonneg z (show(n:Int)≠ 0 by omega)
 have a2:=Int.emod_lt_of_pos z np
 generalize hc:z % (n:Int)=c at a1 a2
 refine cf (aE (v:=.lst .own (iL [c])) (by simp[r.le,r.a0,a5 np,hc,iL]) (by simp) rfl) ?_
 simp only[List.set_cons_zero,List.set_cons_succ]
 have fin:∀(nm:List Int) (x3:Option PV),eB n al nm→je (au (mBr (ax (mOp pEq (mOp bM (ac 1) (mC (.int (9)))) (mC (.int (8))))) (ba (eS am)) aP) (dH 2) [some o,some (.int z),some (.lst .own (iL nm)),x3]) (fun v=>∃nm:List Int,v=.lst .own (iL nm)∧eB n al nm):=fun nm x3 hg=>by
  by_cases q:z % 9=8
  ·exact sU (by simp[a5,q]) (eQ (v:=.lst .own (iL [])) (aT (by simp) (by simp)) ⟨[],rfl,⟨by simp,by simp,by simp,by simp⟩⟩)
  ·exact cf (bu (by simp[a5,q]) aw) (eQ (gN rfl) ⟨nm,rfl,hg⟩)
 have g1:eB n al [c]:=⟨by simp,fun x hx=>by simp at hx;omega,fun _=>by simp,by simp⟩
 cases al with
 | true=>exact cf (bu (by simp[r.le,r.a8]) aw) (fin _ _ g1)
 | false =>
  have d7:cZ (.int z) (.int 7)=.ok (.int (z / 7)):=eM (by decide) (by decide)
  have u1:=Int.emod_nonneg (z / 7) (show(1021:Int)≠ 0 by decide)
  have u2:=Int.emod_lt_of_pos (z / 7) (show(0:Int) < 1021 by decide)
  have mu:dU (.int (z / 7 % 1021)) (.int 271)=.ok (.int (z / 7 % 1021 * 271)):=fu (.inr ⟨by decide,by decide⟩)
  generalize hw:z / 7 % 1021 * 271 % 1021=w
  obtain⟨row,hrow⟩:∃row:List Int,row=((List.range n).filter fun k:Nat=>decide (w / 2 ^ k % 2=1∧(k:Int)≠ c)).map fun k:Nat=>(k:Int):=⟨_,rfl⟩
  have rln:row.length≤n:=by
   rw[hrow,List.length_map]
   exact Nat.le_trans (List.length_filter_le _ _) (by simp)
  have rm:∀x∈row,(0≤x∧x < n)∧x≠c:=fun x hx=>by
   rw[hrow]at hx
   obtain⟨k,hk,rfl⟩:=List.mem_map.mp hx
   have h1:=List.mem_range.mp (List.mem_filter.mp hk).1
   have h2:=(List.mem_filter.mp hk).2
   simp at h2
   exact⟨by omega,h2.2⟩
  have rnd:row.Nodup:=by
   rw[hrow]
   exact List.Pairwise.map _ (fun a b h e=>h (by omega)) (List.nodup_range.filter _)
  refine cf (e:=[some o,some (.int z),some (.lst .own (iL ([c]++ row))),some (.int w)]) (fP (by simp[r.le,r.a8]) (af (aE (v:=.int w) (by simp[d7,a5,mu,hw]) (by simp) rfl) ?_)) (fin _ _ ?_)
  ·simp only[List.set_cons_zero,List.set_cons_succ]
   refine aE (i:=2) (v:=.lst .own (iL ([c]++ row))) ?_ (by simp) rfl
   simp only[i_,eK]
   rw [aO (xs:=bU 0 n) (ys:=iL row) (bD (n:=n) (by simp [r.le,r.a0]) (by omega)) (by rw [aW];omega) (by
    rw[hrow]
    refine jR (fun k:Nat=>decide (w / 2 ^ k % 2=1∧(k:Int)≠ c)) (fun k=>(k:Int)) n fun k hk=>⟨[some (.int w),some (.lst .bor (iL [c])),some (.int (0+k))],by simp[tgN,aL,bC,PV.borrow],?_,fun _=>by simp⟩
    have ic:aN (.lst .bor [.int c]) (.int 0)=.ok (.int c):=rfl
    have sh:w5 (.int w) (.int (k:Int))=.ok (.int (w / 2 ^ k)):=by simp[w5,dD]
    by_cases q:w / 2 ^ k % 2=1<;>simp[sh,a5,ic,q])]
   simp
   rw[fY (by decide) (by decide) (by simp;omega)]
   simp
  ·refine⟨?_,fun x hx=>?_,fun z=>by simp at z,by simp;omega⟩
   ·simp
    exact⟨fun z=>(rm c z).2 rfl,rnd⟩
   ·rcases List.mem_append.mp hx with hx | hx
    ·simp at hx;omega
    ·exact(rm x hx).1
def fcR(P:List Int→Bool):List (List Int)→Option Nat
 | []=>none
 | c::l=>if P c then some 0 else(fcR P l).map (· + 1)
theorem uM{P:List Int→Bool}:∀{l:List (List Int)}{k:Nat}{c:List Int},(∀j d,j < k→l[j]?=some d→P d=false)→l[k]?=some c→P c=true→fcR P l=some k
 | [],k,c,_,h,_=>by simp at h
 | d::l,0,c,_,h,hp=>by simp at h;subst h;simp[fcR,hp]
 | d::l,k+1,c,hf,h,hp=>by
  have h0:=hf 0 d (by omega) rfl
  have:=uM (l:=l) (k:=k) (fun j e hj he=>hf (j+1) e (by omega) he) h hp
  simp[fcR,h0,this]
theorem uL{P:List Int→Bool}:∀{l:List (List Int)},(∀(j:Nat) d,l[j]?=some d→P d=false)→fcR P l=none
 | [],_=>rfl
 | d::l,hf=>by
  have h0:=hf 0 d rfl
  have:=uL (l:=l) fun j e he=>hf (j+1) e he
  simp[fcR,h0,this]
def nV:Option Nat→PV
 | none=>.non
 | some k=>.int k
section
variable{o:PV}{n:Nat}{sp:Int}{al ip:Bool}{D:List Int→Nat→Int}
theorem o4{rs:List Int}{rows:List (List Int×List Int)}{f fr:Fl}(r:Rl o n sp al ip D)(hrl:rs.length=n)(hrow:∀p∈rows,p.2.length=n∧InS sp p.2∧p.1.length≤n)(hl:rows.length≤1000) :
  uN [o,.lst f (iL rs),.lst fr (rows.map (aV .frz))]=.ok (nV (fcR (caR n ip D) (rs.map (· % sp)::rows.map (·.2)))):=by
 have key:vv [some o,some (.lst f (iL rs)),some (.lst fr (rows.map (aV .frz))),none,none,none]=.ret (nV (fcR (caR n ip D) (rs.map (· % sp)::rows.map (·.2)))):=by
  unfold vv
  have hc:aX [] 1 (b0 (ac 2)) (tgN 0) bB (mOp aN (ac 0) (mC (.int (1)))) [some o,some (.lst f (iL rs)),some (.lst fr (rows.map (aV .frz))),none,none,none]=.ok (.lst .own (llL .frz (rows.map (·.2)))):=by
   refine aO (xs:=rows.map (aV .frz)) (by simp[Fl.lend]) (by simp;omega) ?_
   rw[show llL .frz (rows.map (·.2))=rows.map fun p=>PV.lst .frz (iL p.2) by simp[llL]]
   refine aY (a:=aV .frz) (f:=fun p=>PV.lst .frz (iL p.2)) rows fun p _=>⟨[some (aV .frz p)],by simp[tgN,aL,bC,b6,PV.borrow,Fl.borrow,aV],?_,by simp[PV.has],by simp[PV.has]⟩
   have i1:aN (aV .frz p) (.int 1)=.ok (.lst .frz (iL p.2)):=ge (k:=1) rfl rfl (by simp)
   have ml:(aV .frz p).mapF Fl.lend=aV .frz p:=by simp[aV,Fl.lend]
   simp[ml,i1]
  have rd:=lx (f:=f.lend.toBor) r hrl
  have hcs:∀c∈rs.map (· % sp)::rows.map (·.2),c.length=n∧InS sp c:=fun c hc=>by
   rcases List.mem_cons.mp hc with rfl | hc
   ·exact⟨by simpa using hrl,lN r⟩
   ·obtain⟨p,hp,rfl⟩:=List.mem_map.mp hc
    exact⟨(hrow p hp).1,(hrow p hp).2.1⟩
  have hcl:(rs.map (· % sp)::rows.map (·.2)).length≤1001:=by simp;omega
  refine af (aE (v:=.lst .own (.lst .own (iL (rs.map (· % sp)))::llL .frz (rows.map (·.2)))) ?_ (by simp[PV.noLnt,PV.has,cO _ Fl.isLnt .frz rfl]) rfl) ?_
  ·simp only[i_,hc,u9,ck,db,Az,eK]
   simp only[List.getElem?_cons_zero,List.getElem?_cons_succ,ky,Res.ok_bind,r.le,r.rd]
   simp[r.tb,rd,aF,-List.map_map]
   rw[fY (by decide) (by decide) (by simp;omega)]
   simp
  simp only[List.set_cons_zero,List.set_cons_succ]
  refine af (eJ (v:=.lst .own (.lst .own (iL (rs.map (· % sp)))::llL .frz (rows.map (·.2)))) rfl) ?_
  have efz:(PV.lst .own (.lst .own (iL (rs.map (· % sp)))::llL .frz (rows.map (·.2)))).mapF Fl.freeze=.lst .frz (llL .frz (rs.map (· % sp)::rows.map (·.2))):=by simp[Fl.freeze]
  simp only[List.set_cons_zero,List.set_cons_succ,efz]
  generalize rs.map (· % sp)::rows.map (·.2)=css at *
  have it:nq (ac 3) [some o,some (.lst f (iL rs)),some (.lst fr (rows.map (aV .frz))),some (.lst .frz (llL .frz css)),none,none]=.ok (enP 0 (llL .frz css)):=by
   unfold nq
   simp[Fl.lend,dN,cO _ Fl.isOwn .frz rfl,cO _ Fl.isLnt .frz rfl]
  have lp:=iy (g:=tgT 2 (bv (tgN 4) (bv (tgN 5) eO))) (body:=mBr (cr (bV aq (ac 0) (ae (ac 5) am))) (dH 4) aP)
   (fun k e=>(∀j d,j < k→css[j]?=some d→caR n ip D d=false)∧∃a b,e=[some o,some (.lst f (iL rs)),some (.lst fr (rows.map (aV .frz))),some (.lst .frz (llL .frz css)),a,b])
   (fun out=>(∃ k,fcR (caR n ip D) css=some k∧out=.ret (.int k)) ∨ (fcR (caR n ip D) css=none∧∃ e,out=.next e)) it ⟨fun j d hj=>absurd hj (Nat.not_lt_zero j),_,_,rfl⟩ (fun k x e hx hP=>by
    obtain⟨hf,a,b,rfl⟩:=hP
    rw[fC]at hx
    obtain⟨y,hy,rfl⟩:=Option.map_eq_some_iff.mp hx
    obtain⟨c,hc1,rfl⟩:=pZ _ _ hy
    obtain⟨c1,c2⟩:=hcs c (List.mem_of_getElem? hc1)
    have ca:=l0 (f:=.frz) r (.inl (.inr rfl)) c1 c2
    refine⟨[some o,some (.lst f (iL rs)),some (.lst fr (rows.map (aV .frz))),some (.lst .frz (llL .frz css)),some (.int (0+k)),some (.lst .frz (iL c))],rfl,?_⟩
    by_cases q:caR n ip D c=true
    ·refine .inr (.inr (.inl ⟨.int k,fP (by simp[r.le,Fl.lend,ca,q]) (by simp[dH]),.inl ⟨k,uM hf hc1 q,rfl⟩⟩))
    ·have q:caR n ip D c=false:=by simpa using q
     refine .inl ⟨_,.inl (bu (by simp[r.le,Fl.lend,ca,q]) aw),fun j d hj hd=>?_,_,_,rfl⟩
     by_cases e:j=k
     ·subst e;rw[hc1]at hd;cases hd;exact q
     ·exact hf j d (by omega) hd) (fun e hP=>by
    obtain⟨hf,a,b,rfl⟩:=hP
    refine .inr ⟨uL fun j d hd=>hf j d ?_ hd,_,rfl⟩
    rw[ef,fw]
    exact(List.getElem?_eq_some_iff.mp hd).1)
  rcases lp with⟨k,e1,e2⟩ |⟨e1,e,e2⟩
  ·rw[e1];exact b7 e2
  ·rw[e1];exact af e2 (aT (by simp[nV]) (by simp[nV]))
 exact az key
theorem uJ{cs:List Int}{rows:List (List Int×List Int)}{f:Fl}(hf:Fc f∨f=.own)(r:Rl o n sp al ip D)(hcl:cs.length=n)(hci:InS sp cs)(hrow:∀p∈rows,p.2.length=n∧InS sp p.2∧p.1.length≤n)(hl:rows.length≤1000) :
  Aq [o,.lst f (iL cs),.lst .bor (rows.map (aV .bor))]=.ok (nV (fcR (caR n ip D) (cs::rows.map (·.2)))):=by
 have ca:=l0 (f:=.own) r (.inr rfl) hcl hci
 refine az ?_
 show A7 [some o,some (.lst f (iL cs)),some (.lst .bor (rows.map (aV .bor))),none]=_
 unfold A7
 by_cases q:caR n ip D cs=true
 ·rw[show fcR (caR n ip D) (cs::rows.map (·.2))=some 0 by simp[fcR,q]]
  exact b7 (fP (by simp[r.le,ca,q]) (aT (by simp[nV]) (by simp[nV])))
 have q:caR n ip D cs=false:=by simpa using q
 refine af (bu (by simp[r.le,ca,q]) aw) ?_
 rw[show fcR (caR n ip D) (cs::rows.map (·.2))=(fcR (caR n ip D) (rows.map (·.2))).map (· + 1) by simp[fcR,q]]
 have lp:=iy (env:=[some o,some (.lst f (iL cs)),some (.lst .bor (rows.map (aV .bor))),none]) (it:=bH (ae (ap (p1 cL) (ae (ac 2) am)) am)) (g:=tgN 3) (body:=mBr (cr (bV aq (ac 0) (ae (ap (p1 dw) (ae (mOp aN (mOp aN (ac 2) (ac 3)) (mC (.int (1)))) am)) am))) (ba (mOp aK (ac 3) (mC (.int (1))))) aP)
  (fun k e=>(∀j d,j < k→(rows.map (·.2))[j]?=some d→caR n ip D d=false)∧∃a,e=[some o,some (.lst f (iL cs)),some (.lst .bor (rows.map (aV .bor))),a])
  (fun out=>(∃ k,fcR (caR n ip D) (rows.map (·.2))=some k∧out=.ret (.int ((k:Int)+1))) ∨ (fcR (caR n ip D) (rows.map (·.2))=none∧∃ e,out=.next e)) (bD (n:=rows.length) (by simp) (by omega)) ⟨fun j d hj=>absurd hj (Nat.not_lt_zero j),_,rfl⟩ (fun k x e hx hP=>by
   obtain⟨hf,a,rfl⟩:=hP
   obtain⟨hk,rfl⟩:=ce hx
   have hg:(rows.map (·.2))[k]?=some rows[k].2:=by simp[hk]
   obtain⟨c1,c2,_⟩:=hrow rows[k] (List.getElem_mem hk)
   have ca:=l0 (f:=.own) r (.inr rfl) c1 c2
   have i0:aN (.lst .bor (rows.map (aV .bor))) (.int (k:Int))=.ok (aV .bor rows[k]):=ge rfl (by simp[hk]) (by simp[aV])
   have i1:aN (aV .bor rows[k]) (.int 1)=.ok (.lst .bor (iL rows[k].2)):=ge (k:=1) rfl rfl (by simp)
   refine⟨_,b5 rfl,?_⟩
   simp only[List.set_cons_zero,List.set_cons_succ,Int.zero_add]
   by_cases q:caR n ip D rows[k].2=true
   ·exact .inr (.inr (.inl ⟨.int ((k:Int)+1),fP (by simp[r.le,i0,i1,ca,q]) (aT (by simp) (by simp)),.inl ⟨k,uM hf hg q,rfl⟩⟩))
   ·have q:caR n ip D rows[k].2=false:=by simpa using q
    refine .inl ⟨_,.inl (bu (by simp[r.le,i0,i1,ca,q]) aw),fun j d hj hd=>?_,_,rfl⟩
    by_cases e:j=k
    ·subst e;rw[hg]at hd;cases hd;exact q
    ·exact hf j d (by omega) hd) (fun e hP=>by
   obtain⟨hf,a,rfl⟩:=hP
   refine .inr ⟨uL fun j d hd=>hf j d ?_ hd,_,rfl⟩
   rw[aW]
   simpa using(List.getElem?_eq_some_iff.mp hd).1)
 rcases lp with⟨k,e1,e2⟩ |⟨e1,e,e2⟩
 ·rw[e1];exact b7 (by rw[e2];simp[nV])
 ·rw[e1];exact af e2 (aT (by simp[nV]) (by simp[nV]))
theorem kP(f g:Fl):∀ps:List (List Int×List Int),dataL (ps.map (aV f))=dataL (ps.map (aV g))
 | []=>rfl
 | p::ps=>by
  rw[List.map_cons,List.map_cons]
  unfold dataL
  rw[kP f g ps]
  rfl
theorem nW(f:Fl):∀ps:List (List Int×List Int),PyData.canLayAll0 (dataL (ps.map (aV f)))=true
 | []=>rfl
 | p::ps=>by
  rw[List.map_cons]
  unfold dataL PyData.canLayAll0
  rw[nW f ps]
  simp[aV,PV.data,dataL,PyData.canLay0,PyData.canLayAll0]
theorem nO(f:Fl):∀ps:List (List Int×List Int),PyData.depthAll (dataL (ps.map (aV f)))≤ 2
 | []=>by simp[dataL,PyData.depthAll]
 | p::ps=>by
  have:=nO f ps
  rw[List.map_cons]
  unfold dataL PyData.depthAll
  simp[aV,PV.data,dataL,PyData.depth,PyData.depthAll]
  omega
theorem xm(f g f' g':Fl)(ps:List (List Int×List Int)):pNe (.lst f (ps.map (aV f'))) (.lst g (ps.map (aV g')))=.ok (.bl false):=by
 refine xl ?_ ?_
 ·unfold PV.data
  rw[kP f' g']
 ·have:=nO f' ps
  simp[shp,SeqAt.shaped,PV.data,PyData.canLay0,PyData.depth,nW]
  omega
theorem la{rs:List Int}{rows:List (List Int×List Int)}{f fr:Fl}(r:Rl o n sp al ip D)(hrl:rs.length=n)(hrow:∀p∈rows,p.2.length=n∧InS sp p.2∧p.1.length≤n)(hl:rows.length≤1000) :
  rP [o,.lst f (iL rs),.lst fr (rows.map (aV .frz))]=.ok (.bl true):=by
 have n20:=r.n20
 refine az ?_
 show A1 [some o,some (.lst f (iL rs)),some (.lst fr (rows.map (aV .frz))),none,none,none,none]=_
 unfold A1
 have ml:∀g:Fl→Fl,g .frz=.frz→∀ps:List (List Int×List Int),mapL g (ps.map (aV .frz))=ps.map (aV .frz):=fun g hg ps=>by simp[hg]
 refine af (aE (v:=.lst .own (iL rs)) (by simp) (by simp) rfl) ?_
 simp only[List.set_cons_zero,List.set_cons_succ]
 have hb:∀p:Fl→Bool,p .own=false→hasL p (rows.map (aV .own))=false:=fun p h=>jy h rows
 refine af (aE (v:=.lst .own (rows.map (aV .own))) ?_ (by simp[PV.noLnt,PV.has,hb Fl.isLnt rfl]) rfl) ?_
 ·refine aO (xs:=rows.map (aV .frz)) (by simp[Fl.lend]) (by simp;omega) (aY (a:=aV .frz) (f:=aV .own) rows fun p hp=>⟨[some (aV .frz p)],by simp[tgN,aL,bC,b6,PV.borrow,Fl.borrow,aV],?_,by simp[aV],by simp[aV]⟩)
  have i0:aN (aV .frz p) (.int 0)=.ok (.lst .frz (iL p.1)):=ge (k:=0) rfl rfl (by simp)
  have i1:aN (aV .frz p) (.int 1)=.ok (.lst .frz (iL p.2)):=ge (k:=1) rfl rfl (by simp)
  have ml:(aV .frz p).mapF Fl.lend=aV .frz p:=by simp[aV,Fl.lend]
  simp[ml,i0,i1]
  rfl
 simp only[List.set_cons_zero,List.set_cons_succ]
 have ca:=fun f fr=>o4 (f:=f) (fr:=fr) r hrl hrow hl
 generalize hX:fcR (caR n ip D) (rs.map (· % sp)::rows.map (·.2))=X at *
 have nb:(nV X).has Fl.isBor=false:=by cases X<;>rfl
 have nl:(nV X).noLnt=true:=by cases X<;>rfl
 refine af (aE (v:=nV X) (by simp[r.le,r.tb,Fl.lend,Fl.toBor,ca,aF,nb]) nl rfl) ?_
 simp only[List.set_cons_zero,List.set_cons_succ]
 have fo:=uJ (f:=.own) (rows:=rows) (.inr rfl) r (cs:=rs.map (· % sp)) (by simpa using hrl) (lN r) hrow hl
 rw[hX]at fo
 have rd:=lx (f:=.own) r hrl
 refine af (aE (v:=nV X) ?_ nl rfl) ?_
 ·simp[r.le,r.tb,r.rd,rd,aF,-List.map_map,Fl.lend,Fl.toBor]
  simp[fo,aF,nb]
 simp only[List.set_cons_zero,List.set_cons_succ]
 refine af (bu (by simp[xm,Fl.lend]) aw) ?_
 cases X with
 | none=>exact b7 (fP (by simp[nV,j0,PV.isNon]) (aT (by simp[nV,j0,PV.isNon]) (by simp)))
 | some k=>exact af (bu (by simp[nV,j0,PV.isNon]) aw) (aT (by simp[nV,sk,aF,oF]) (by simp))
end
def tg(a:Int)(tns:List (List Int)):Nat→Nat
 | 0=>0
 | k+1=>if(tns.getD k []).contains a then 0 else tg a tns k+1
theorem lf{a:Int}{tns:List (List Int)}:∀(k w:Nat),w≤tg a tns k↔w≤k∧∀j,k - w≤j→j < k→(tns.getD j []).contains a=false
 | 0,w=>by
  simp only[tg]
  exact⟨fun h=>⟨h,fun j _ hj=>absurd hj (Nat.not_lt_zero j)⟩,fun h=>h.1⟩
 | k+1,w=>by
  have ih:=lf (a:=a) (tns:=tns) k (w - 1)
  unfold tg
  by_cases h0:w=0
  ·subst h0
   exact⟨fun _=>⟨Nat.zero_le _,fun j h1 h2=>by omega⟩,fun _=>Nat.zero_le _⟩
  cases hc:(tns.getD k []).contains a with
  | true =>
   rw[if_pos rfl]
   refine⟨fun h=>by omega,fun⟨h1,h2⟩=>?_⟩
   have:=h2 k (by omega) (by omega)
   rw[hc]at this;cases this
  | false =>
   rw[if_neg (by simp)]
   refine⟨fun h=>?_,fun⟨h1,h2⟩=>?_⟩
   ·obtain⟨h1,h2⟩:=ih.mp (by omega)
    refine⟨by omega,fun j j1 j2=>?_⟩
    by_cases e:j=k
    ·subst e;exact hc
    ·exact h2 j (by omega) (by omega)
   ·have:=ih.mpr ⟨by omega,fun j j1 j2=>h2 j (by omega) (by omega)⟩
    omega
structure Lon(n:Nat)(tns:List (List Int))(L:Nat):Prop where
 up:∀a:Nat,a < n→∀k,k≤tns.length→tg a tns k≤L
 is:0 < L→∃a:Nat,a < n∧∃k,k≤tns.length∧tg a tns k=L
theorem oQ{n:Nat}{tns:List (List Int)}{ft fi:Fl}(ht:Fc ft)(hi:Fc fi)(n20:n≤20)(hl:tns.length≤1000):∃L:Nat,uT [.int n,.lst ft (llL fi tns)]=.ok (.int L)∧Lon n tns L∧L≤1000:=by
 suffices hh:je (vK [some (.int n),some (.lst ft (llL fi tns)),none,none,none,none]) (fun v=>∃L:Nat,v=.int L∧Lon n tns L) by
  obtain⟨v,h1,L,rfl,h2⟩:=hh
  refine⟨L,az h1,h2,?_⟩
  by_cases h0:0 < L
  ·obtain⟨a,_,k,hk,e⟩:=h2.is h0
   have:=(lf (a:=(a:Int)) (tns:=tns) k L).mp (by omega)
   omega
  ·omega
 unfold vK
 have h1:Fl.isOwn fi=false:=by rcases hi with rfl | rfl<;>rfl
 refine cf (aE (v:=.int 0) (by simp) (by simp) rfl) ?_
 simp only[List.set_cons_zero,List.set_cons_succ]
 refine fV (fun a e=>∃(L:Nat) (x3 x4 x5:Option PV),e=[some (.int n),some (.lst ft (llL fi tns)),some (.int L),x3,x4,x5]∧(∀a':Nat,a' < a→∀k,k≤tns.length→tg a' tns k≤L)∧(0 < L→∃a':Nat,a' < n∧∃k,k≤tns.length∧tg a' tns k=L)) (bD (n:=n) (by simp) (by omega)) ⟨0,none,none,none,rfl,fun a' h=>absurd h (Nat.not_lt_zero _),fun h=>absurd h (Nat.lt_irrefl _)⟩ (fun a x e hx hP=>?_) (fun e hP=>?_)
 ·obtain⟨L,x3,x4,x5,rfl,u1,u2⟩:=hP
  obtain⟨ha,rfl⟩:=ce hx
  refine⟨_,b5 rfl,?_⟩
  simp only[List.set_cons_zero,List.set_cons_succ,Int.zero_add]
  refine cP (aE (v:=.int 0) (by simp) (by simp) rfl) ?_
  simp only[List.set_cons_zero,List.set_cons_succ]
  refine eU (fun j e=>∃(L:Nat) (x5:Option PV),e=[some (.int n),some (.lst ft (llL fi tns)),some (.int L),some (.int a),some (.int (tg a tns j)),x5]∧(∀a':Nat,a' < a→∀k,k≤tns.length→tg a' tns k≤L)∧(∀k,k≤j→tg a tns k≤L)∧(0 < L→∃a':Nat,a' < n∧∃k,k≤tns.length∧tg a' tns k=L)) (xs:=llL fi tns) (dv (f:=ft) (by simp[ht.le,hi.le]) ht.nl (cO _ _ _ h1) (cO _ _ _ hi.nl)) ⟨L,x5,rfl,u1,fun k hk=>by rw[show k=0 by omega];exact Nat.zero_le _,u2⟩ (fun j x e hx hP=>?_) (fun e hP=>?_)
  ·clear u1 u2
   obtain⟨L,x5,rfl,u1,u3,u2⟩:=hP
   obtain⟨nm,hnm,rfl⟩:=pZ _ _ hx
   have hj:j < tns.length:=(List.getElem?_eq_some_iff.mp hnm).1
   have gd:tns.getD j []=nm:=by rw[List.getD_eq_getElem?_getD,hnm];rfl
   have tj:tg a tns (j+1)=if nm.contains (a:Int)then 0 else tg a tns j+1:=by simp[tg,hnm]
   refine⟨_,b5 rfl,?_⟩
   simp only[List.set_cons_zero,List.set_cons_succ]
   refine cP (aE (v:=.int ((tg a tns j:Int)+1)) (by simp) (by simp) rfl) ?_
   simp only[List.set_cons_zero,List.set_cons_succ]
   refine cP (e:=[some (.int n),some (.lst ft (llL fi tns)),some (.int L),some (.int a),some (.int (tg a tns (j+1))),some (.lst fi (iL nm))]) ?_ ?_
   ·by_cases q:(a:Int)∈ nm
    ·rw[tj,if_pos (by simpa using q)]
     exact fP (by simp[q]) (aE (i:=4) (v:=.int 0) (by simp) (by simp) rfl)
    ·rw[tj,if_neg (by simpa using q)]
     exact bu (by simp[q]) aw
   ·refine bJ (aE (i:=2) (v:=.int ((max L (tg a tns (j+1)):Nat))) (by simp[dC];omega) (by simp) rfl) ⟨max L (tg a tns (j+1)),_,rfl,fun a' h k hk=>?_,fun k hk=>?_,fun h=>?_⟩
    ·have:=u1 a' h k hk
     omega
    ·by_cases e:k=j+1
     ·subst e;omega
     ·have:=u3 k (by omega)
      omega
    ·by_cases q:L≤tg a tns (j+1)
     ·exact⟨a,ha,j+1,hj,by omega⟩
     ·obtain⟨a',h1,k,h2,h3⟩:=u2 (by omega)
      exact⟨a',h1,k,h2,by omega⟩
  ·obtain⟨L,x5,rfl,u1,u3,u2⟩:=hP
   rw[fw]at u3
   refine⟨L,_,_,_,rfl,fun a' h k hk=>?_,u2⟩
   by_cases e:a'=a
   ·subst e;exact u3 k hk
   ·exact u1 a' (by omega) k hk
 ·obtain⟨L,x3,x4,x5,rfl,u1,u2⟩:=hP
  rw[aW]at u1
  exact eQ (gN rfl) ⟨L,rfl,u1,u2⟩
def rk(n:Nat)(l:List (List Int)):Bool:=((List.range n).map fun a:Nat=>(l.map fun nm=>nm.contains (a:Int)).any id).all id
theorem pM{bs:List Bool}{f:Fl}:jE mq (.lst f (bs.map .bl))=.ok (.bl (bs.all id)):=by
 unfold jE
 dsimp only
 rw[kX]
 rfl
theorem w6{bs:List Bool}{f:Fl}:jE n6 (.lst f (bs.map .bl))=.ok (.bl (bs.any id)):=by
 unfold jE
 dsimp only
 rw[kX]
 rfl
theorem lM{n:Nat}{l:List (List Int)}{ft fi:Fl}(ht:Fc ft∨ft=.own)(hi:Fc fi)(n20:n≤20)(hl:l.length≤1000):uP [.int n,.lst ft (llL fi l)]=.ok (.bl (rk n l)):=by
 refine az ?_
 show vC [some (.int n),some (.lst ft (llL fi l))]=_
 unfold vC rk
 refine aT ?_ (by simp)
 have fb:=Fc.of ht
 simp only[dq,ck,db]
 rw [aO (xs:=bU 0 n) (ys:=((List.range n).map fun a:Nat=>(l.map fun nm=>nm.contains (a:Int)).any id).map .bl) (bD (n:=n) (by simp) (by omega)) (by rw [aW];omega) (by
  rw[List.map_map]
  refine aY (a:=fun k:Nat=>PV.int (0+(k:Int))) (f:=PV.bl ∘ fun a:Nat=>(l.map fun nm=>nm.contains (a:Int)).any id) (List.range n) fun a ha=>⟨[some (.lst ft.borrow (llL fi l)),some (.int (0+a))],by simp[tgN,aL,bC,PV.borrow,hi.bo],?_,by simp,by simp⟩
  simp only[dq,ck,db]
  rw [aO (xs:=llL fi l) (ys:=(l.map fun nm=>nm.contains (a:Int)).map .bl) (by simp [fb.le,hi.le]) (by rw [fw];omega) (by
   rw[List.map_map]
   exact aY (a:=fun nm=>PV.lst fi (iL nm)) (f:=PV.bl ∘ fun nm:List Int=>nm.contains (a:Int)) l fun nm _=>⟨[some (.int (0+a)),some (.lst fi (iL nm))],by simp[tgN,aL,bC,PV.borrow,hi.bo],by simp,by simp,by simp⟩)]
  simp only[Res.ok_bind,p1,w6,Function.comp])]
 simp only[Res.ok_bind,p1,pM]
theorem wy{env:En}{ms:MA}{n:Int}(h:ms env=.ok [.int n])(hn:n < 1000000):ni ms env=.ok (bU 0 n.toNat):=by
 unfold ni
 rw[h]
 simp[hn]
theorem x0(xs:List PV)(lo hi:Nat){l h:Int}(hl:l=lo)(hh:h=hi):iS xs (some l) (some h)=(xs.take hi).drop lo:=by
 subst hl hh
 unfold iS
 rw[HT.sIx_nat,HT.sIx_nat,List.drop_take]
 rcases Nat.le_total lo xs.length with h1 | h1
 ·rw[Nat.min_eq_left h1]
  rcases Nat.le_total hi xs.length with h2 | h2
  ·rw[Nat.min_eq_left h2]
  ·rw[Nat.min_eq_right h2,List.take_of_length_le (by simp),List.take_of_length_le (by simp;omega)]
 ·rw[Nat.min_eq_right h1,List.drop_eq_nil_of_le (Nat.le_refl _),List.drop_eq_nil_of_le h1]
  simp
def i8(n:Nat)(tns:List (List Int))(w:Int):Bool:=((List.range ((tns.length:Int) - w+1).toNat).map fun k=>rk n ((tns.take (k+w.toNat)).drop k)).all id
theorem qf{n:Nat}{tns:List (List Int)}{w:Int}{ft fi:Fl}(ht:Fc ft∨ft=.own)(hi:Fc fi)(hw:1≤w)(n20:n≤20)(hl:tns.length≤1000):jN [.int n,.lst ft (llL fi tns),.int w]=.ok (.bl (i8 n tns w)):=by
 refine az ?_
 show vq [some (.int n),some (.lst ft (llL fi tns)),some (.int w)]=_
 unfold vq i8
 refine aT ?_ (by simp)
 have fb:=Fc.of ht
 simp only[dq,ck,db]
 rw [aO (xs:=bU 0 ((tns.length:Int) - w+1).toNat) (ys:=((List.range ((tns.length:Int) - w+1).toNat).map fun k=>rk n ((tns.take (k+w.toNat)).drop k)).map .bl) (wy (n:=(tns.length:Int) - w+1) (by simp) (by omega)) (by rw [aW];omega) (by
  rw[List.map_map]
  refine aY (a:=fun k:Nat=>PV.int (0+(k:Int))) (f:=PV.bl ∘ fun k=>rk n ((tns.take (k+w.toNat)).drop k)) (List.range _) fun k hk=>⟨[some (.int n),some (.lst ft.borrow (llL fi tns)),some (.int w),some (.int (0+k))],by simp[tgN,aL,bC,PV.borrow,hi.bo],?_,by simp,by simp⟩
  have ec:iS (llL fi tns) (some (k:Int)) (some ((k:Int)+w))=llL fi ((tns.take (k+w.toNat)).drop k):=by
   rw[x0 _ k (k+w.toNat) rfl (by omega)]
   simp[llL]
  have na:=lM (n:=n) (l:=(tns.take (k+w.toNat)).drop k) (ft:=.own) (.inr rfl) hi n20 (by simp;omega)
  simp only[dq,ck,db,iB,eK,jh,i_]
  simp[fb.le,hi.le,hi.tb,ec,na,aF])]
 simp only[Res.ok_bind,p1,pM]
theorem oY{tns:List (List Int)}{lo hi j:Nat}(h:hi≤tns.length):(∃nm ∈(tns.take hi).drop lo,nm.contains (j:Int)=true)↔ ∃i,lo≤i∧i < hi∧(tns.getD i []).contains (j:Int)=true:=by
 constructor
 ·rintro⟨nm,hm,hc⟩
  obtain⟨i,hi',e⟩:=List.getElem_of_mem hm
  have hlt:lo+i < hi:=by simp at hi';omega
  refine⟨lo+i,by omega,hlt,?_⟩
  rw[List.getElem_drop,List.getElem_take]at e
  rw[List.getD_eq_getElem?_getD,List.getElem?_eq_getElem (by omega),e]
  exact hc
 ·rintro⟨i,h1,h2,hc⟩
  refine⟨tns[i]'(by omega),?_,?_⟩
  ·refine List.mem_iff_getElem.mpr ⟨i - lo,by simp;omega,?_⟩
   rw[List.getElem_drop,List.getElem_take]
   congr 1
   omega
  ·rw[List.getD_eq_getElem?_getD,List.getElem?_eq_getElem (by omega)]at hc
   exact hc
theorem nJ{n:Nat}{tns:List (List Int)}{w:Nat}(hw:1≤w):i8 n tns w=true↔∀a:Nat,a < n→∀k,k≤tns.length→tg a tns k < w:=by
 unfold i8 rk
 simp only[List.all_map,List.all_eq_true,List.mem_range,Function.comp,id,List.any_map,List.any_eq_true]
 have key:∀a k:Nat,k+w≤tns.length→((∃nm,nm ∈(tns.take (k+(w:Int).toNat)).drop k∧nm.contains (a:Int)=true)↔ ¬w≤tg a tns (k+w)):=fun a k hk=>by
  rw[Int.toNat_natCast]
  rw[show(∃nm,nm ∈(tns.take (k+w)).drop k∧nm.contains (a:Int)=true)↔ ∃i,k≤i∧i < k+w∧(tns.getD i []).contains (a:Int)=true from oY hk,lf]
  constructor
  ·rintro⟨i,h1,h2,h3⟩ ⟨_,h4⟩
   have:=h4 i (by omega) h2
   rw[h3]at this;cases this
  ·intro h
   apply Classical.byContradiction
   intro no
   refine h ⟨by omega,fun j h1 h2=>?_⟩
   cases e:(tns.getD j []).contains (a:Int)with
   | false=>rfl
   | true=>exact absurd ⟨j,by omega,h2,e⟩ no
 constructor
 ·intro h a ha k hk
  by_cases q:w≤k
  ·have:=(key a (k - w) (by omega)).mp (h (k - w) (by omega) a ha)
   rw[show k - w+w=k by omega]at this
   omega
  ·have:=((lf (a:=(a:Int)) (tns:=tns) k w).mp · |>.1)
   by_cases q2:w≤tg a tns k
   ·exact absurd (this q2) q
   ·omega
 ·intro h k hk a ha
  refine(key a k (by omega)).mpr ?_
  have:=h a ha (k+w) (by omega)
  omega
theorem Lon.yes{n L:Nat}{tns:List (List Int)}(h:Lon n tns L){w:Int}(hw:(L:Int) < w):i8 n tns w=true:=by
 obtain⟨v,rfl⟩:∃v:Nat,w=v:=⟨w.toNat,by omega⟩
 refine(nJ (by omega)).mpr fun a ha k hk=>?_
 have:=h.up a ha k hk
 omega
theorem Lon.no{n L:Nat}{tns:List (List Int)}(h:Lon n tns L){w:Int}(h1:1≤w)(hw:w≤L):i8 n tns w=false:=by
 obtain⟨v,rfl⟩:∃v:Nat,w=v:=⟨w.toNat,by omega⟩
 obtain⟨a,ha,k,hk,e⟩:=h.is (by omega)
 cases q:i8 n tns v with
 | false=>rfl
 | true =>
  have:=(nJ (by omega)).mp q a ha k hk
  omega
theorem nQ(f g:Fl):∀(xss:List (List Int)),dataL (llL f xss)=dataL (llL g xss)
 | []=>rfl
 | xs::xss=>by
  rw[gb,gb]
  unfold dataL
  rw[nQ f g xss]
  rfl
theorem qu(f:Fl):∀(xss:List (List Int)),PyData.canLayAll0 (dataL (llL f xss))=true
 | []=>rfl
 | xs::xss=>by
  rw[gb]
  unfold dataL PyData.canLayAll0
  rw[qu f xss]
  simp[PV.data,PyData.canLay0]
theorem qq(f:Fl):∀(xss:List (List Int)),PyData.depthAll (dataL (llL f xss))≤ 1
 | []=>by simp[llL,dataL,PyData.depthAll]
 | xs::xss=>by
  have:=qq f xss
  rw[gb]
  unfold dataL PyData.depthAll
  simp[PV.data,PyData.depth]
  omega
theorem AB(f g f' g':Fl)(xss:List (List Int)):pEq (.lst f (llL f' xss)) (.lst g (llL g' xss))=.ok (.bl true):=by
 refine xS ?_ ?_
 ·unfold PV.data
  rw[nQ f' g']
 ·have:=qq f' xss
  simp[shp,SeqAt.shaped,PV.data,PyData.canLay0,PyData.depth,qu]
  omega
theorem iA{n:Nat}{tns:List (List Int)}{z:Int}{ft fi:Fl}(ht:Fc ft∨ft=.own)(hi:Fc fi)(n20:n≤20)(hl:tns.length≤1000):xK [.int n,.lst ft (llL fi tns),.int z]=.ok (.bl true):=by
 obtain⟨L,lo,LN,L1000⟩:=oQ (n:=n) (tns:=tns) (Fc.call ht) hi n20 hl
 have fa:=fun(w:Int) (h:1≤w)=>qf (n:=n) (tns:=tns) (.inl (Fc.call ht)) hi h n20 hl
 refine az ?_
 show AV [some (.int n),some (.lst ft (llL fi tns)),some (.int z),none,none,none]=_
 unfold AV
 refine af (aE (v:=.lst .own (llL .own tns)) ?_ (by simp[PV.noLnt,PV.has,cO _ Fl.isLnt .own rfl]) rfl) ?_
 ·refine aO (xs:=llL fi tns) (by simp[hi.le]) (by rw[fw];omega) ?_
  exact aY (a:=fun nm=>PV.lst fi (iL nm)) (f:=fun nm=>PV.lst .own (iL nm)) tns fun nm _=>⟨[some (.lst fi (iL nm))],by simp[tgN,aL,bC,b6,PV.borrow,hi.bo],by simp[hi.le],by simp,by simp⟩
 simp only[List.set_cons_zero,List.set_cons_succ]
 refine af (aE (v:=.int L) (by simp[hi.le,hi.tb,lo,aF]) (by simp) rfl) ?_
 simp only[List.set_cons_zero,List.set_cons_succ]
 have p59:lE (.int 10) (.int 59)=.ok (.int 100000000000000000000000000000000000000000000000000000000000):=by rfl
 have m59:bM (.int z) (.int 100000000000000000000000000000000000000000000000000000000000)=.ok (.int (z % 100000000000000000000000000000000000000000000000000000000000)):=a5 (by decide)
 have b59:=Int.emod_nonneg z (show(100000000000000000000000000000000000000000000000000000000000:Int)≠ 0 by decide)
 generalize z % 100000000000000000000000000000000000000000000000000000000000=w at m59 b59
 have hx:∀x∈[1,2,2+z % 300,w+1],(1:Int)≤ x:=fun x hx=>by
  simp at hx
  omega
 refine lq (fun _ e=>∃x5,e=[some (.int n),some (.lst ft (llL fi tns)),some (.int z),some (.lst .own (llL .own tns)),some (.int L),x5]) (xs:=iL [1,2,2+z % 300,w+1]) (dv (f:=.own) (by simp[a5,p59,m59]) rfl (by simp) (by simp)) ⟨_,rfl⟩ (fun k x e hx' hP=>?_) (fun e hP=>?_)
 ·obtain⟨x5,rfl⟩:=hP
  obtain⟨v,hv,rfl⟩:=lV hx'
  have v1:=hx v (List.mem_of_getElem? hv)
  have y:=LN.yes (w:=(L:Int)+v) (by omega)
  refine⟨_,b5 rfl,bJ (bu ?_ aw) ⟨_,rfl⟩⟩
  simp[hi.le,hi.tb,fa ((L:Int)+v) (by omega),y,aF]
 obtain⟨x5,rfl⟩:=hP
 refine af (bu ?_ aw) ?_
 ·by_cases q:0 < L
  ·simp[hi.le,hi.tb,fa (L:Int) (by omega),LN.no (w:=(L:Int)) (by omega) (by omega),aF]
  ·simp
   exact fun h=>absurd h q
 refine af (bu ?_ aw) ?_
 ·by_cases q:0 < L
  ·have Lp:(0:Int) < L:=by omega
   have e1:=Int.emod_nonneg z (show(L:Int)≠ 0 by omega)
   have e2:=Int.emod_lt_of_pos z Lp
   simp[hi.le,hi.tb,a5 Lp,fa (1+z % (L:Int)) (by omega),LN.no (w:=1+z % (L:Int)) (by omega) (by omega),aF]
  ·simp
   exact fun h=>absurd h q
 exact aT (by simp[AB,hi.le]) (by simp)
theorem law_true(fl:Fl)(ns:List Int)(h:Scr fl)(hl:ns.length≤63):yC [.lst fl (ns.map .int)]=.ok (.bl true):=by
 rw[uy]
 have cl:∀k:Nat,gh [.lst fl (iL ns),.int k]=.ok (.int (cell ns k)):=fun k=>x_ ns k h
 have c0:gh [.lst fl (iL ns),.int 0]=.ok (.int (cell ns 0)):=cl 0
 have c1:gh [.lst fl (iL ns),.int 1]=.ok (.int (cell ns 1)):=cl 1
 have c2:gh [.lst fl (iL ns),.int 2]=.ok (.int (cell ns 2)):=cl 2
 generalize cell ns 0=z0 at c0
 generalize cell ns 1=z1 at c1
 generalize cell ns 2=z2 at c2
 have d6:cZ (.int z0) (.int 6)=.ok (.int (z0 / 6)):=eM (by decide) (by decide)
 have d36:cZ (.int z0) (.int 36)=.ok (.int (z0 / 36)):=eM (by decide) (by decide)
 have d4:cZ (.int z1) (.int 4)=.ok (.int (z1 / 4)):=eM (by decide) (by decide)
 obtain⟨kd,hkd⟩:∃kd:Nat,z0 % 6=kd:=⟨(z0 % 6).toNat,by omega⟩
 obtain⟨m,hm⟩:∃m:Nat,1+z0 / 6 % 6=m:=⟨(1+z0 / 6 % 6).toNat,by omega⟩
 obtain⟨O,o,n,sp,al,ip,D,hru,K,n11,_,_,_⟩:=wv (kd:=kd) (m:=m) (z0 / 36) z2 (by omega) (by omega) (by omega)
 have n1:=K.r.n1
 have np:(0:Int) < n:=by omega
 obtain⟨l,hl1,hl2,hl3⟩:=gS (z1 / 4) n (by omega)
 obtain⟨TF,hTF⟩:∃F:Int→List Int,∀z,qh [o,.int z]=.ok (.lst .own (iL (F z)))∧eB n al (F z):=⟨fun z=>Classical.choose (pf K.r z),fun z=>Classical.choose_spec (pf K.r z)⟩
 obtain⟨q4,hq4⟩:∃q:Nat,z1 % 4=q:=⟨(z1 % 4).toNat,by omega⟩
 refine az (v:=.bl true) ?_
 show vV [some (.lst fl (iL ns)),none,none,none,none,none,none,none,none,none]=_
 unfold vV
 refine af (aE (v:=.int z0) (by simp[h.lend,h.toBor,c0,aF]) (by simp) rfl) ?_
 simp only[List.set_cons_zero,List.set_cons_succ]
 refine af (aE (v:=O) (by simp[h.lend,h.toBor,c2,a5,d6,d36,hkd,hm,hru,aF,K.own]) K.nl rfl) ?_
 simp only[List.set_cons_zero,List.set_cons_succ]
 refine af (aE (v:=.int n) (by simp[K.la0]) (by simp) rfl) ?_
 simp only[List.set_cons_zero,List.set_cons_succ]
 refine af (aE (v:=.lst .own (iL l)) (by simp[h.lend,h.toBor,c1,d4,hl1,aF]) (by simp) rfl) ?_
 simp only[List.set_cons_zero,List.set_cons_succ]
 have hzl:((ns.take 83).drop 3).length≤63:=by simp;omega
 have ec:iS (iL ns) (some 3) (some 83)=iL ((ns.take 83).drop 3):=AF ns 3 83 rfl rfl
 generalize(ns.take 83).drop 3=zs at hzl ec
 refine af (aE (v:=.lst .own (llL .own (zs.map TF))) ?_ (by simp[PV.noLnt,PV.has,cO _ Fl.isLnt .own rfl]) rfl) ?_
 ·refine aO (xs:=iL zs) (by simp only[xP,Dc,iB,eK,jh];simp[h.lend,ec]) (by rw[bf];omega) ?_
  rw[show llL .own (zs.map TF)=zs.map fun z=>PV.lst .own (iL (TF z)) by simp[llL]]
  exact aY (a:=PV.int) (f:=fun z=>PV.lst .own (iL (TF z))) zs fun z _=>⟨[some o,some (.int z)],by simp[tgN,aL,bC,PV.borrow,K.bb],by simp[K.r.le,K.r.tb,(hTF z).1,aF],by simp,by simp⟩
 simp only[List.set_cons_zero,List.set_cons_succ]
 have hgd:∀nm∈zs.map TF,eB n al nm:=fun nm hm=>by
  obtain⟨z,_,rfl⟩:=List.mem_map.mp hm
  exact(hTF z).2
 have htl:(zs.map TF).length≤63:=by simpa using hzl
 generalize zs.map TF=tns0 at *
 refine lq (fun k e=>∃tns x6 x7,e=[some (.lst fl (iL ns)),some (.int z0),some O,some (.int n),some (.lst .own (iL l)),some (.lst .own (llL .own tns)),x6,x7,none,none]∧(∀nm∈tns,eB n al nm)∧tns.length≤63+k * 11) (bD (n:=q4) (by simp[h.lend,h.toBor,c1,a5,hq4,aF]) (by omega)) ⟨tns0,_,_,rfl,hgd,by omega⟩ (fun k x e hx hP=>?_) (fun e hP=>?_)
 ·obtain⟨tns,x6,x7,rfl,hg,htn⟩:=hP
  obtain⟨hk,rfl⟩:=ce hx
  refine⟨_,b5 rfl,?_⟩
  simp only[List.set_cons_zero,List.set_cons_succ,Int.zero_add]
  refine eU (fun j e=>∃tns x7,e=[some (.lst fl (iL ns)),some (.int z0),some O,some (.int n),some (.lst .own (iL l)),some (.lst .own (llL .own tns)),some (.int k),x7,none,none]∧(∀nm∈tns,eB n al nm)∧tns.length≤63+k * 11+j) (bD (n:=n) (by simp) (by omega)) ⟨tns,_,rfl,hg,by omega⟩ (fun j x e hx hP=>?_) (fun e hP=>?_)
  ·clear hg htn tns
   obtain⟨tns,x7,rfl,hg,htn⟩:=hP
   obtain⟨hj,rfl⟩:=ce hx
   have e1:=Int.emod_nonneg ((j:Int)+k) (show(n:Int)≠ 0 by omega)
   have e2:=Int.emod_lt_of_pos ((j:Int)+k) np
   refine⟨_,b5 rfl,bJ (dR (v:=.lst .own (iL [((j:Int)+k) % n])) (xs:=llL .own tns) (by simp[a5 np]) rfl (by simp) (by rw[fw];omega)) ⟨tns++[[((j:Int)+k) % n]],some (.int (0+j)),?_,fun nm hm=>?_,by simp;omega⟩⟩
   ·simp only[List.set_cons_zero,List.set_cons_succ]
    simp[llL]
   ·rcases List.mem_append.mp hm with hm | hm
    ·exact hg nm hm
    ·simp at hm
     subst hm
     exact⟨by simp,fun x hx=>by simp at hx;omega,fun _=>by simp,by simp⟩
  ·obtain⟨tns,x7,rfl,hg,htn⟩:=hP
   rw[aW]at htn
   exact⟨tns,_,_,rfl,hg,by omega⟩
 obtain⟨tns,x6,x7,rfl,hg,htn⟩:=hP
 rw[aW]at htn
 have htn2:tns.length≤100:=by omega
 have ru:=y2 (f:=.own) (ft:=.own) (fi:=.own) (rs:=l) K.r (.inr rfl) (.inr rfl) hl2 hg (by omega)
 have rin:=pD K.r tns (l.map (· % sp)) (by simpa using hl2) (lN K.r)
 have rlen:=mP (n:=n) (D:=D) tns (l.map (· % sp))
 generalize gD n D (l.map (· % sp)) tns=rows at *
 have rb:hasL Fl.isBor (rows.map (aV .own))=false:=jy rfl rows
 have rl:hasL Fl.isLnt (rows.map (aV .own))=false:=jy rfl rows
 refine af (aE (v:=.lst .own (rows.map (aV .own))) ?_ (by simp[PV.noLnt,PV.has,rl]) rfl) ?_
 ·simp only[dq,ck,db]
  rw[aO (xs:=llL .lnt tns) (ys:=llL .own tns) (by simp[Fl.lend]) (by rw[fw];omega) (aY (a:=fun nm=>PV.lst .lnt (iL nm)) (f:=fun nm=>PV.lst .own (iL nm)) tns fun nm _=>⟨[some (.lst .bor (iL nm))],by simp[tgN,aL,bC,b6,PV.borrow,Fl.borrow],by simp,by simp,by simp⟩)]
  simp[K.lb,ru,aF,PV.has,rb]
 simp only[List.set_cons_zero,List.set_cons_succ]
 refine af (eJ (v:=.lst .own (rows.map (aV .own))) rfl) ?_
 have efz:(PV.lst .own (rows.map (aV .own))).mapF Fl.freeze=.lst .frz (rows.map (aV .frz)):=by simp[Fl.freeze]
 simp only[List.set_cons_zero,List.set_cons_succ,efz]
 have lp:(0:Int) <(rows.length:Int)+1:=by omega
 obtain⟨q,hq⟩:∃q:Nat,z0 / 36 % ((rows.length:Int)+1)=q:=⟨(z0 / 36 % ((rows.length:Int)+1)).toNat,by have:=Int.emod_nonneg (z0 / 36) (show(rows.length:Int)+1≠0 by omega);omega⟩
 have hql:q≤rows.length:=by have:=Int.emod_lt_of_pos (z0 / 36) lp;omega
 refine af (aE (v:=.int q) (by simp[Fl.lend,d36,a5 lp,hq]) (by simp) rfl) ?_
 simp only[List.set_cons_zero,List.set_cons_succ]
 have t1:=la (f:=.bor) (fr:=.frz) (rows:=rows) K.r hl2 rin (by omega)
 have t2:=la (f:=.bor) (fr:=.own) (rows:=rows.take q) K.r hl2 (fun p hp=>rin p (List.mem_of_mem_take hp)) (by simp;omega)
 have t3:rP [o,.lst .bor (iL l),.lst .own []]=.ok (.bl true):=la (f:=.bor) (fr:=.own) (rows:=[]) K.r hl2 (fun p hp=>nomatch hp) (by simp)
 rw[List.map_take]at t2
 have cut1:iS (rows.map (aV .frz)) none (some (q:Int))=(rows.map (aV .frz)).take q:=ve _ q (by simpa using hql)
 have mt:mapL Fl.toBor (List.take q (rows.map (aV .frz)))=List.take q (rows.map (aV .frz)):=by
  rw[← List.map_take,mQ]
  rfl
 refine af (bu ?_ aw) ?_
 ·simp only[Ay,xQ,u7,dq,ck,db,iB,kM,jh,eK]
  simp only[List.getElem?_cons_zero,List.getElem?_cons_succ,ky,Res.ok_bind,PV.mapF,mQ,kD,Fl.lend,q9,tR,cut1,vi,rz,uk,K.lb,Fl.toBor]
  simp[t1,mt,t2,aF]
 have f1:=iA (n:=n) (tns:=tns) (z:=z0 / 6) (ft:=.bor) (fi:=.bor) (.inl (.inl rfl)) (.inl rfl) (by omega) (by omega)
 have f2:=iA (n:=n) (tns:=tns.take q) (z:=z2) (ft:=.own) (fi:=.bor) (.inr rfl) (.inl rfl) (by omega) (by simp;omega)
 have f3:jN [.int n,.lst .own [],.int 1]=.ok (.bl true):=by
  have:=qf (n:=n) (tns:=[]) (w:=1) (ft:=.own) (fi:=.bor) (.inr rfl) (.inl rfl) (by decide) (by omega) (by simp)
  simpa[i8]using this
 have cut2:iS (llL .lnt tns) none (some (q:Int))=llL .lnt (tns.take q):=by
  rw[ve _ q (by rw[fw];omega)]
  simp[llL]
 refine af (bu (by simp[K.lb,t3,d6,f1,aF]) aw) ?_
 refine aT (v:=.bl true) ?_ (by simp)
 simp only[xR,dq,ck,db,iB,kM,jh,eK,i_,u9,Dc]
 simp[cut2,h.lend,h.toBor,c2,f2,f3,aF,oF]
end G
namespace G
open PySem L2 PR
theorem hb:v3 pt.F:=⟨bn2,bn4,bn3,bn2,bn2,bn2,bn2,bn2,bn2,bn2,bn3,bn3,bn2,bn1,bn2,bn1,bn3,bn5,bn3,bn2,bn3,bn3,bn4,bn2,bn2,bn2,bn3,bn2,bn2,bn2,bn3,bn3,bn2,bn3,bn2,bn2,bn2,bn3,bn2,bn3,bn3,bn3,bn3,bn2,bn3,bn3,bn2,bn2,bn3,bn3,bn1,bn3,bn2,bn2,bn3,bn3,bn1,trivial⟩
theorem hs:pt.F.all scB=true:=by decide +kernel
theorem fin{l:PySem.W.OpenLaw}{w:World}{K:PySem.W.Frag}{mg:Str→Option Value}{fa:Addr}(t:Tx pt K mg)(hfa:mg "law" = some (.ref fa)) :
  ∃fd:FuncData,(∀(s:Shared) (u:Value),BindsTo s fd ⟨[u],[]⟩ [("_law_script", u)])∧∀base:Heap,K.In base→base.Ns mainGlobals mg→cq l.prog w K mg base (CXP l.prog w) 10 fa fd ["_law_script"] (pq K):=by
 have e:=hfa.symm.trans (t.gl 56 rfl)
 cases e
 refine⟨dAt K (pt.fa K 56),fun s u=>?_,fun base hB _=>z5 (T:=T K) (zU t hB) law_true⟩
 obtain⟨oc,od,kV,doc,pm,an,cdv,ct,osl,e,_⟩:=(t.fn 56).ex
 rw[e]
 exact .of_eq rfl
end G
def PySem.W.Fast.tw2102131162877358069 : Unit := ()
def PySem.W.Fast.tw18167875890015566857 : Unit := ()
def PySem.W.Fast.tw15813302176472857742 : Unit := ()
def PySem.W.Fast.tw158530331342413789 : Unit := ()
def PySem.W.Fast.tw5350459644225499218 : Unit := ()
def PySem.W.Fast.tw11234722632453920056 : Unit := ()
def PySem.W.Fast.tw12253995174621036817 : Unit := ()
def PySem.W.Fast.tw3793625693497929361 : Unit := ()
def PySem.W.Fast.tw792259627265715892 : Unit := ()
def PySem.W.Fast.tw144312366985035780 : Unit := ()
def PySem.W.Fast.tw17986863189306321021 : Unit := ()
def PySem.W.Fast.tw10287334069667651445 : Unit := ()
def PySem.W.Fast.tw4944916641258590247 : Unit := ()
def PySem.W.Fast.tw15570286848570929048 : Unit := ()
def PySem.W.Fast.tw17629704598755579850 : Unit := ()
def PySem.W.Fast.tw4639277557252949838 : Unit := ()
def PySem.W.Fast.tw12059562710606984801 : Unit := ()
def PySem.W.Fast.tw2446194324418716483 : Unit := ()
def PySem.W.Fast.tw16686267348763897944 : Unit := ()
def PySem.W.Fast.tw12946150467756660273 : Unit := ()
def PySem.W.Fast.tw12320884235939478297 : Unit := ()
def PySem.W.Fast.tw16106244611256851657 : Unit := ()
def PySem.W.Fast.tw45303655756288304 : Unit := ()
def PySem.W.Fast.tw3178463513566923785 : Unit := ()
def PySem.W.Fast.tw17227498094570785310 : Unit := ()
def PySem.W.Fast.tw6048295020564672077 : Unit := ()
def PySem.W.Fast.tw9220035352181046015 : Unit := ()
def PySem.W.Fast.tw15946161774640117040 : Unit := ()
def PySem.W.Fast.tw8048848134571915350 : Unit := ()
def PySem.W.Fast.tw7081554099214581291 : Unit := ()
def PySem.W.Fast.tw1897279166020862363 : Unit := ()
def PySem.W.Fast.tw10983951266341136276 : Unit := ()
def PySem.W.Fast.tw9782485803942713987 : Unit := ()
def PySem.W.Fast.tw8933764536301115532 : Unit := ()
def PySem.W.Fast.tw6772833891503024250 : Unit := ()
def PySem.W.Fast.tw4655257233689904783 : Unit := ()
def PySem.W.Fast.tw619790808967695323 : Unit := ()
def PySem.W.Fast.tw13310060045274561184 : Unit := ()
def PySem.W.Fast.tw676466180104920367 : Unit := ()
def PySem.W.Fast.tw16230069030989293122 : Unit := ()
def PySem.W.Fast.tw1973761973973254467 : Unit := ()
def PySem.W.Fast.tw11448308688673370954 : Unit := ()
def PySem.W.Fast.tw14892771442878492953 : Unit := ()
def PySem.W.Fast.tw9988333581447629696 : Unit := ()
def PySem.W.Fast.tw6649296895666728854 : Unit := ()
def PySem.W.Fast.tw13373381651980940668 : Unit := ()
def PySem.W.Fast.tw12974953120837866153 : Unit := ()
def PySem.W.Fast.tw12782217472635045123 : Unit := ()
def PySem.W.Fast.tw393526636549068192 : Unit := ()
def PySem.W.Fast.tw16184343472204591212 : Unit := ()
def PySem.W.Fast.tw10397090792165661903 : Unit := ()
def PySem.W.Fast.tw11923531317340649055 : Unit := ()
def PySem.W.Fast.tw15122400362999287990 : Unit := ()
def PySem.W.Fast.tw7154347769069331760 : Unit := ()
def PySem.W.Fast.tw12020099190368983933 : Unit := ()
def PySem.W.Fast.tw14676223978502198566 : Unit := ()
def PySem.W.Fast.tw13511993479967747752 : Unit := ()
def PySem.W.Fast.tw8794227014713319449 : Unit := ()
def PySem.W.Fast.tw2570264592666410073 : Unit := ()
def PySem.W.Fast.tw8125775993380473484 : Unit := ()
def PySem.W.Fast.tw8316686955869445369 : Unit := ()
def PySem.W.Fast.tw18047450997178763372 : Unit := ()
def PySem.W.Fast.tw13911646848185980527 : Unit := ()
def PySem.W.Fast.tw8393273614785544791 : Unit := ()
def PySem.W.Fast.tw12421867781486104379 : Unit := ()
def PySem.W.Fast.tw11582194957472064959 : Unit := ()
open PySem PySem.W PyProof.Rows
set_option maxRecDepth 100000 in
set_option maxHeartbeats 0 in
theorem PySem.Challenge.cw_calmring_k41_calm_at_and_fair_holds : PySem.Challenge.rw_calmring_k41_calm_at_and_fair.Holds := by
 w_on;o_law;k_head;(case hw=>w_witness2)
 k_fill
 refine PR.ur (l:=PySem.Challenge.rw_calmring_k41_calm_at_and_fair) (k:=10) (x := "_law_script") rfl rfl ⟨rfl,by decide,by decide⟩ (fun w h Y=>PySem.W.kIn_of Y) ?F
 case F =>
  intro w mg fa h KX G hmg
  refine' _root_.G.fin (_root_.PR.Tx.of KX G _root_.G.hb _root_.G.hs ?a ?b ?c ?d ?e ?f ?g) hmg
  (case a=>exact fun z=>nomatch z)
  (case b=>exact fun z=>nomatch z)
  (case c=>exact fun z=>nomatch z)
  (case d=>kernel_rfl)
  (case e=>kernel_rfl)
  (case f=>kernel_rfl)
  (case g=>kernel_rfl)
