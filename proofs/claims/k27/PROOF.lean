import PyProof.Rows.All
import Wide.All
import OpenK.AllK
import Wide.FinOn
import Lean
import PyProof.EqAt
import PyProof.EqKinds
import PyProof.TupleCall
import PySem.Challenge.RW_calmring_k27_grow_parts_and_due
set_option Elab.async false
set_option linter.all false
set_option maxRecDepth 100000
namespace L2
open PySem PySem.Spec PyProof.Rows
abbrev Key:=Sum Int Str
def keyIs:Key→Value→Bool
 | .inl k,v=>Value.isInt k v
 | .inr x,v=>Value.isStrOf x v
def keyH (w:World):Key→Int
 | .inl k=>hashInt k
 | .inr x=>hashStr w x
theorem keyIs_shape:∀ {k:Key}{v:Value},keyIs k v=true→(∃ i t,k=Sum.inl i∧v=Value.int i t) ∨ (∃ x t,k=Sum.inr x∧v=Value.str x t)
 | .inl i,v,h=>by
  obtain ⟨t,e⟩:=Value.isInt_shape (k:=i) (v:=v) h
  exact .inl ⟨i,t,rfl,e⟩
 | .inr x,v,h=>by
  obtain ⟨t,e⟩:=Value.isStrOf_shape (x:=x) (v:=v) h
  exact .inr ⟨x,t,rfl,e⟩
theorem key_ll (a b:Int):decide ((Sum.inl a:Key)=Sum.inl b)=(a == b):=by
 by_cases e:a=b
 ·subst e;simp
 ·have h:¬ (Sum.inl a:Key)=Sum.inl b:=fun q=>e (Sum.inl.inj q)
  rw [decide_eq_false h]
  exact (beq_eq_false_iff_ne.mpr e).symm
theorem key_rr (a b:Str):decide ((Sum.inr a:Key)=Sum.inr b)=decide (a=b):=by
 by_cases e:a=b
 ·subst e;simp
 ·have h:¬ (Sum.inr a:Key)=Sum.inr b:=fun q=>e (Sum.inr.inj q)
  rw [decide_eq_false h,decide_eq_false e]
theorem key_lr (a:Int) (b:Str):decide ((Sum.inl a:Key)=Sum.inr b)=false:=decide_eq_false (fun q=>nomatch q)
theorem key_rl (a:Str) (b:Int):decide ((Sum.inr a:Key)=Sum.inl b)=false:=decide_eq_false (fun q=>nomatch q)
def mixKind (prog:Program) (w:World):PySem.KeyKind prog w Key where
 is:=keyIs
 hash:=keyH w
 inj:=fun v a b ha hb=>by
  rcases keyIs_shape ha with ⟨i,t,rfl,rfl⟩ | ⟨x,t,rfl,rfl⟩
  ·rcases keyIs_shape hb with ⟨j,u,rfl,e⟩ | ⟨y,u,rfl,e⟩
   ·injection e with e1 _;rw [e1]
   ·exact nomatch e
  ·rcases keyIs_shape hb with ⟨j,u,rfl,e⟩ | ⟨y,u,rfl,e⟩
   ·exact nomatch e
   ·injection e with e1 _;rw [e1]
 byValue:=fun k v h=>by
  rcases keyIs_shape h with ⟨i,t,rfl,rfl⟩ | ⟨x,t,rfl,rfl⟩ <;> rfl
 pyHash:=fun hv h=>by
  rcases keyIs_shape hv with ⟨i,t,rfl,rfl⟩ | ⟨x,t,rfl,rfl⟩
  ·exact wpAny_pyHash_int h
  ·exact wpAny_pyHash_str h
 eqBool:=fun hu hv h=>by
  rcases keyIs_shape hu with ⟨i,t,rfl,rfl⟩ | ⟨x,t,rfl,rfl⟩
  ·rcases keyIs_shape hv with ⟨j,u,rfl,rfl⟩ | ⟨y,u,rfl,rfl⟩
   ·rw [key_ll] at h;exact wpAny_eqBool_int h
   ·rw [key_lr] at h;exact SeqAt.EqAt.int_str i t y u _ _ _ _ h
  ·rcases keyIs_shape hv with ⟨j,u,rfl,rfl⟩ | ⟨y,u,rfl,rfl⟩
   ·rw [key_rl] at h;exact SeqAt.EqAt.str_int x t j u _ _ _ _ h
   ·rw [key_rr] at h;exact wpAny_eqBool_str h
 «strs»:=fun k x t v h=>by
  rcases keyIs_shape h with ⟨i,u,rfl,e⟩ | ⟨y,u,rfl,e⟩
  ·exact nomatch e
  ·injection e with e1 _
   subst e1
   cases v <;> rfl
end L2
namespace L2
open PySem PySem.Spec PyProof.Rows
inductive V where
 | non | bl (b:Bool) | int (i:Int) | str (x:Str) | byt (b:Array UInt8) | flt (b:UInt64) | ref (a:Addr) | ty (n:String)
 deriving DecidableEq
def RelV:V→Value→Prop
 | .non,u=>u=Value.none
 | .bl b,u=>u=Value.bool b
 | .int i,u=>∃ t,u=Value.int i t
 | .str x,u=>∃ t,u=Value.str x t
 | .byt b,u=>∃ t,u=Value.bytes b t
 | .flt b,u=>∃ t,u=Value.float b t
 | .ref a,u=>u=Value.ref a
 | .ty n,u=>u=Value.type n
abbrev Vals:List V→List Value→Prop:=Paired RelV
theorem Vals.length {xs:List V}{us:List Value} (r:Vals xs us):xs.length=us.length:=Paired.length r
theorem Vals.get:∀ {xs:List V}{us:List Value}{i:Nat}{x:V},Vals xs us→xs[i]?=some x→∃ u,us[i]?=some u∧RelV x u
 | _,_,_,_,.nil,e=>by simp at e
 | _,_,0,_,.cons r _,e=>by simp at e;subst e;exact ⟨_,rfl,r⟩
 | _,_,i+1,x,.cons _ t,e=>by
  obtain ⟨u,h1,h2⟩:=Vals.get (i:=i) (x:=x) t (by simpa using e)
  exact ⟨u,by simpa using h1,h2⟩
theorem Vals.set {x:V}{u:Value} (r:RelV x u):∀ {xs:List V}{us:List Value} (i:Nat),Vals xs us→Vals (xs.set i x) (us.set i u)
 | _,_,_,.nil=>.nil
 | _,_,0,.cons _ t=>.cons r t
 | _,_,i+1,.cons q t=>.cons q (Vals.set r i t)
theorem Vals.append:∀ {xs ys:List V}{us ws:List Value},Vals xs us→Vals ys ws→Vals (xs ++ ys) (us ++ ws)
 | _,_,_,_,.nil,s=>s
 | _,_,_,_,.cons r t,s=>.cons r (Vals.append t s)
theorem Vals.take:∀ {xs:List V}{us:List Value} (n:Nat),Vals xs us→Vals (xs.take n) (us.take n)
 | _,_,0,_=>.nil
 | _,_,_+1,.nil=>.nil
 | _,_,n+1,.cons r t=>.cons r (Vals.take n t)
theorem Vals.drop:∀ {xs:List V}{us:List Value} (n:Nat),Vals xs us→Vals (xs.drop n) (us.drop n)
 | _,_,0,r=>r
 | _,_,_+1,.nil=>.nil
 | _,_,n+1,.cons _ t=>Vals.drop n t
def RelO:Option V→Option Value→Prop
 | some v,some u=>RelV v u
 | none,none=>True
 | _,_=>False
def KV {κ:Type}:List (κ × V)→List (κ × Value)→Prop:=Paired fun (p:κ × V) (q:κ × Value)=>p.1=q.1∧RelV p.2 q.2
def kV:Key→V
 | .inl i=>.int i
 | .inr x=>.str x
inductive HO where
 | lst (xs:List V)
 | tup (xs:List V)
 | dK (kvs:List (Key × V)) | dT (kvs:List (List Key × V))
 | set (S:Int→Bool) (n:Nat)
 | ins (C dx:Addr) (fs:List (Str × V))
 | own (x:Addr)
 | xd (fs:List (Str × V))
 | met (f x:Addr)
 | rng (lo hi:Int)
 | frz (o:Obj) (u:HO)
 | tbl (ps:Array Value)
 | ext (φ:Heap→Prop)
abbrev Hp:=Addr→Option HO
def upd (H:Hp) (a:Addr) (o:HO):Hp:=fun b=>if b=a then some o else H b
theorem upd_same {H:Hp}{a:Addr}{o:HO}:upd H a o a=some o:=by unfold upd;rw [if_pos rfl]
theorem upd_ne {H:Hp}{a b:Addr}{o:HO} (h:b ≠ a):upd H a o b=H b:=by unfold upd;rw [if_neg h]
theorem ne_of_none {H:Hp}{a b:Addr}{o:HO} (h:H a=some o) (h':H b=none):a ≠ b:=by
 intro e;subst e;rw [h] at h';cases h'
section
variable (P:Program) (w:World)
def ObjOk (H:Hp) (h:Heap) (a:Addr):HO→Prop
 | .lst xs=>xs.length ≤ sizeLine∧∃ (its:List Value) (n:Nat),Vals xs its∧h.get? a=some { cls:=.type "list", data:=.seq its.toArray n }
 | .tup xs=>xs.length ≤ sizeLine∧∃ its:List Value,Vals xs its∧IsTup h a its.toArray
 | .dK kvs=>kvs.length ≤ sizeLine∧(a == sysModules)=false∧∃ vs,KV kvs vs∧h.DictOf (mixKind P w) a vs
 | .dT kvs=>kvs.length ≤ sizeLine∧(a == sysModules)=false∧∃ xs:List (List Key × Addr × Value),
   Paired (fun (p:List Key × V) (q:List Key × Addr × Value)=>p.1=q.1∧H q.2.1=some (.tup (p.1.map kV))∧RelV p.2 q.2.2) kvs xs ∧
   ∃ o es ep,h.get? a=some o∧o.ExactDict∧o.data=.dict es ep∧es.toList=xs.map (entryOfKey (tupleKind (mixKind P w)))∧(xs.map (·.1)).Nodup
 | .set S n=>h.SetOf (intKind P w) a S n
 | .ins C dx fs=>H dx=some (.own a)∧fs.length ≤ 1000∧dx ≠ a∧h.get? a=some (PySem.W.instObj C dx) ∧
   ∃ mA,h.Ns1 dx mA∧(∀ f,RelO (fs.lookup f) (mA f))∧PySem.Within mA (fs.map (·.1))
 | .own _=>∃ o,h.get? a=some o
 | .xd fs=>∃ mA,h.Ns1 a mA∧∀ f,RelO (fs.lookup f) (mA f)
 | .rng lo hi=>∃ t u v,h.get? a=some { cls:=.type "range", data:=.fields #[.int lo t,.int hi u,.int 1 v] }
 | .frz o u=>h.get? a=some o∧ObjOk H h a u
 | .tbl ps=>h.get? a=some { cls:=.none,data:=.fields ps }
 | .met f x=>h.get? a=some (PySem.W.methodObj (.ref f) (.ref x))
 | .ext φ=>φ h∧(∃ o,h.get? a=some o)∧∀ h1 h2:Heap,φ h1→(∀ o,h1.get? a=some o→h2.get? a=some o)→φ h2
def HOk (H:Hp) (h:Heap):Prop:=∀ a o,H a=some o→ObjOk P w H h a o
end
section
variable {P:Program}{w:World}{H H':Hp}{h h':Heap}{a:Addr}{o:HO}
theorem ObjOk.lt (x:ObjOk P w H h a o):a < h.objs.size:=by
 cases o with
 | lst xs=>obtain ⟨_,_,_,_,e⟩:=x;exact Heap.lt_size e
 | tup xs=>obtain ⟨_,_,_,p⟩:=x;exact p.lt
 | dK kvs=>obtain ⟨_,_,_,_,o,_,_,e,_⟩:=x;exact Heap.lt_size e
 | dT kvs=>obtain ⟨_,_,_,_,o,_,_,e,_⟩:=x;exact Heap.lt_size e
 | set S n=>obtain ⟨o,_,_,_,e,_⟩:=x;exact Heap.lt_size e
 | ins C dx fs=>obtain ⟨_,_,_,e,_⟩:=x;exact Heap.lt_size e
 | own y=>obtain ⟨_,e⟩:=x;exact Heap.lt_size e
 | xd fs=>obtain ⟨_,⟨_,_,_,e,_⟩,_⟩:=x;exact Heap.lt_size e
 | rng lo hi=>obtain ⟨_,_,_,e⟩:=x;exact Heap.lt_size e
 | frz ob u=>obtain ⟨e,_⟩:=x;exact Heap.lt_size e
 | tbl ps=>exact Heap.lt_size (show h.get? a=some _ from x)
 | met f y=>exact Heap.lt_size (show h.get? a=some _ from x)
 | ext φ=>obtain ⟨_,⟨_,e⟩,_⟩:=x;exact Heap.lt_size e
theorem Paired.mapP {α β:Type}{F G:α→β→Prop}:∀ {l₁:List α}{l₂:List β},Paired F l₁ l₂→(∀ a b,F a b→G a b)→Paired G l₁ l₂
 | _,_,.nil,_=>.nil
 | _,_,.cons r t,f=>.cons (f _ _ r) (Paired.mapP t f)
theorem ObjOk.stay (x:ObjOk P w H h a o) (k:∀ b u,(b=a ∨ H b=some (.own a))→h.get? b=some u→h'.get? b=some u)
  (ho:∀ b,H b=some (.own a)→H' b=some (.own a)) (ht:∀ b xs,H b=some (.tup xs)→H' b=some (.tup xs)):ObjOk P w H' h' a o:=by
 induction o with
 | lst xs=>obtain ⟨z,its,n,r,e⟩:=x;exact ⟨z,its,n,r,k _ _ (.inl rfl) e⟩
 | tup xs=>obtain ⟨z,its,r,ob,e,c⟩:=x;exact ⟨z,its,r,ob,k _ _ (.inl rfl) e,c⟩
 | dK kvs=>obtain ⟨z,y,vs,r,ob,es,ep,e,c⟩:=x;exact ⟨z,y,vs,r,ob,es,ep,k _ _ (.inl rfl) e,c⟩
 | dT kvs =>
  obtain ⟨z,y,xs,r,ob,es,ep,e,c⟩:=x
  exact ⟨z,y,xs,Paired.mapP r fun p q z=>⟨z.1,ht _ _ z.2.1,z.2.2⟩,ob,es,ep,k _ _ (.inl rfl) e,c⟩
 | set S n=>obtain ⟨ob,es,ep,t,e,c⟩:=x;exact ⟨ob,es,ep,t,k _ _ (.inl rfl) e,c⟩
 | ins C dx fs =>
  obtain ⟨d,z,ne,e,mA,⟨od,es,ep,e2,c⟩,r⟩:=x
  exact ⟨ho _ d,z,ne,k _ _ (.inl rfl) e,mA,⟨od,es,ep,k _ _ (.inr d) e2,c⟩,r⟩
 | own y=>obtain ⟨ob,e⟩:=x;exact ⟨ob,k _ _ (.inl rfl) e⟩
 | xd fs=>obtain ⟨mA,⟨od,es,ep,e,c⟩,r⟩:=x;exact ⟨mA,⟨od,es,ep,k _ _ (.inl rfl) e,c⟩,r⟩
 | rng lo hi=>obtain ⟨t,u,v,e⟩:=x;exact ⟨t,u,v,k _ _ (.inl rfl) e⟩
 | frz ob u ih=>obtain ⟨e,q⟩:=x;exact ⟨k _ _ (.inl rfl) e,ih q⟩
 | tbl ps =>
  have e:h.get? a=some { cls:=.none,data:=.fields ps }:=x
  show h'.get? a=some { cls:=.none,data:=.fields ps }
  exact k a _ (.inl rfl) e
 | met f y =>
  have e:h.get? a=some (PySem.W.methodObj (.ref f) (.ref y)):=x
  show h'.get? a=some (PySem.W.methodObj (.ref f) (.ref y))
  exact k a _ (.inl rfl) e
 | ext φ=>obtain ⟨p,⟨o,e⟩,st⟩:=x;exact ⟨st _ _ p fun o q=>k _ _ (.inl rfl) q,⟨o,k _ _ (.inl rfl) e⟩,st⟩
theorem HOk.lt (x:HOk P w H h) (e:H a=some o):a < h.objs.size:=(x a o e).lt
theorem HOk.fresh (x:HOk P w H h) (e:h.objs.size ≤ a):H a=none:=by
 cases q:H a with
 | none=>rfl
 | some u=>exact absurd (Nat.lt_of_lt_of_le (x.lt q) e) (Nat.lt_irrefl _)
theorem HOk.kept (x:HOk P w H h) (k:∀ b u,h.get? b=some u→h'.get? b=some u):HOk P w H h':=fun a o e =>
 (x a o e).stay (fun b u _ q=>k b u q) (fun _ q=>q) fun _ _ q=>q
theorem HOk.laid (x:HOk P w H h) (k:∀ b u,h.get? b=some u→h'.get? b=some u) (hp:h.objs.size ≤ a) (new:ObjOk P w (upd H a o) h' a o):HOk P w (upd H a o) h':=fun b u e=>by
 have hn:=x.fresh hp
 by_cases hb:b=a
 ·subst hb;rw [upd_same] at e;cases e;exact new
 ·rw [upd_ne hb] at e
  exact (x b u e).stay (fun c v _ q=>k c v q) (fun c q=>by rw [upd_ne (ne_of_none q hn)];exact q) fun c xs q=>by rw [upd_ne (ne_of_none q hn)];exact q
end
def Rd (H:Hp) (a:Addr) (u:HO):Prop:=H a=some u ∨ ∃ o,H a=some (.frz o u)
theorem Rd.ok {P:Program}{w:World}{H:Hp}{h:Heap}{a:Addr}{u:HO} (r:Rd H a u) (x:HOk P w H h):ObjOk P w H h a u:=by
 rcases r with r | ⟨o,r⟩
 ·exact x a u r
 ·obtain ⟨_,q⟩:=x a _ r
  exact q
def Mut:Option HO→Prop
 | some (.lst _)=>True
 | some (.dK _)=>True
 | some (.dT _)=>True
 | some (.set _ _)=>True
 | some (.ins _ _ _)=>True
 | some (.ext _)=>True
 | _=>False
section
variable {P:Program}{w:World}{H:Hp}{h h':Heap}{x e:Addr}{o':HO}
theorem HOk.write (ok:HOk P w H h) (mu:Mut (H x)) (he:e=x ∨ H e=some (.own x)) (k:∀ b u,b ≠ e→h.get? b=some u→h'.get? b=some u) (heo:∃ u,h'.get? e=some u)
  (new:ObjOk P w (upd H x o') h' x o'):HOk P w (upd H x o') h':=fun b u q=>by
 have nown:∀ c y,H c=some (.own y)→c ≠ x:=fun c y r z=>by subst z;rw [r] at mu;exact mu
 have ntup:∀ c xs,H c=some (.tup xs)→c ≠ x:=fun c xs r z=>by subst z;rw [r] at mu;exact mu
 by_cases hb:b=x
 ·subst hb;rw [upd_same] at q;cases q;exact new
 ·rw [upd_ne hb] at q
  by_cases hbe:b=e
  ·have q':H b=some (.own x):=by
    rcases he with z | z
    ·exact absurd (hbe.trans z) hb
    ·rw [hbe];exact z
   rw [q] at q';cases q'
   obtain ⟨v,hv⟩:=heo
   exact ⟨v,by rw [hbe];exact hv⟩
  ·refine (ok b u q).stay (fun c v hc r=>k c v ?_ r) (fun c r=>by rw [upd_ne (nown c b r)];exact r) fun c xs r=>by rw [upd_ne (ntup c xs r)];exact r
   rcases hc with rfl | hc
   ·exact hbe
   ·rintro rfl
    rcases he with z | z
    ·exact nown c b hc z
    ·rw [hc] at z;cases z;exact hb rfl
end
structure Un (fs ex:List Addr) (H H':Hp) (h h':Heap):Prop where
 keep:∀ b o,h.get? b=some o→H b=none→b ∉ fs→b ∉ ex→h'.get? b=some o
 slot:∀ b o,h.get? b=some o→H b=none→b ∈ fs→b ∉ ex→∃ sl,h'.get? b=some { o with slots:=sl }
 free:∀ b o,h.get? b=some o→H b=none→b ∉ ex→H' b=none
 there:∀ b o,h.get? b=some o→b ∉ ex→∃ o',h'.get? b=some o'
 tups:∀ b xs,H b=some (.tup xs)→H' b=some (.tup xs)
 frzs:∀ b o u,H b=some (.frz o u)→H' b=some (.frz o u)
 tbls:∀ b ps,H b=some (.tbl ps)→∃ more,H' b=some (.tbl (ps ++ more))
section
variable {fs fs' ex ex':List Addr}{H H1 H2:Hp}{h h1 h2 h':Heap}{a x e:Addr}{o:HO}
theorem Un.any (u:Un fs ex H H1 h h1) {b:Addr}{ob:Obj} (q:h.get? b=some ob) (n:H b=none) (hx:b ∉ ex):∃ sl,h1.get? b=some { ob with slots:=sl }:=by
 by_cases hb:b ∈ fs
 ·exact u.slot b ob q n hb hx
 ·exact ⟨ob.slots,u.keep b ob q n hb hx⟩
theorem Un.trans (a:Un fs ex H H1 h h1) (b:Un fs ex H1 H2 h1 h2):Un fs ex H H2 h h2 where
 keep:=fun c ob q n hc hx=>b.keep c ob (a.keep c ob q n hc hx) (a.free c ob q n hx) hc hx
 slot:=fun c ob q n hc hx=>by
  obtain ⟨sl,e1⟩:=a.slot c ob q n hc hx
  obtain ⟨sl',e2⟩:=b.slot c _ e1 (a.free c ob q n hx) hc hx
  exact ⟨sl',e2⟩
 free:=fun c ob q n hx=>by
  obtain ⟨o',e1⟩:=a.there c ob q hx
  exact b.free c o' e1 (a.free c ob q n hx) hx
 there:=fun c ob q hx=>by
  obtain ⟨o',e1⟩:=a.there c ob q hx
  exact b.there c o' e1 hx
 tups:=fun c xs q=>b.tups c xs (a.tups c xs q)
 frzs:=fun c ob xs q=>b.frzs c ob xs (a.frzs c ob xs q)
 tbls:=fun c ps q=>by
  obtain ⟨m1,e1⟩:=a.tbls c ps q
  obtain ⟨m2,e2⟩:=b.tbls c _ e1
  exact ⟨m1 ++ m2,by rw [e2,Array.append_assoc]⟩
theorem Un.kept (k:∀ b u,h.get? b=some u→h'.get? b=some u):Un fs ex H H h h' :=
 ⟨fun b ob q _ _ _=>k b ob q,fun b ob q _ _ _=>⟨ob.slots,k b ob q⟩,fun _ _ _ n _=>n,fun b ob q _=>⟨ob,k b ob q⟩,fun _ _ q=>q,fun _ _ _ q=>q,fun _ ps q=>⟨#[],by rw [q];simp⟩⟩
theorem Un.refl:Un fs ex H H h h:=Un.kept fun _ _ q=>q
theorem Un.laid (k:∀ b u,h.get? b=some u→h'.get? b=some u) (hp:h.objs.size ≤ a) (hn:H a=none):Un fs ex H (upd H a o) h h' where
 keep:=fun b u q _ _ _=>k b u q
 slot:=fun b u q _ _ _=>⟨u.slots,k b u q⟩
 free:=fun b u q n _=>by rw [upd_ne (Nat.ne_of_lt (Nat.lt_of_lt_of_le (Heap.lt_size q) hp))];exact n
 there:=fun b u q _=>⟨u,k b u q⟩
 tups:=fun b xs q=>by rw [upd_ne (ne_of_none q hn)];exact q
 frzs:=fun b u xs q=>by rw [upd_ne (ne_of_none q hn)];exact q
 tbls:=fun b ps q=>⟨#[],by rw [upd_ne (ne_of_none q hn),q];simp⟩
theorem Un.write (mu:Mut (H x)) (he:e=x ∨ H e=some (.own x)) (k:∀ b u,b ≠ e→h.get? b=some u→h'.get? b=some u) (heo:∃ u,h'.get? e=some u):Un fs ex H (upd H x o) h h':=by
 have hx:∀ b,H b=none→b ≠ x:=fun b n z=>by subst z;rw [n] at mu;exact mu
 have hb:∀ b,H b=none→b ≠ e:=fun b n z=>by
  subst z
  rcases he with r | r
  ·exact hx b n r
  ·rw [n] at r;cases r
 have hm:∀ b u,H b=some u→¬ Mut (some u)→b ≠ x:=fun b u q nm z=>by subst z;rw [q] at mu;exact nm mu
 refine ⟨fun b u q n _ _=>k b u (hb b n) q,fun b u q n _ _=>⟨u.slots,k b u (hb b n) q⟩,fun b u q n _=>by rw [upd_ne (hx b n)];exact n,fun b u q _=>?_,
  fun b xs q=>by rw [upd_ne (hm b _ q fun z=>z)];exact q,fun b u xs q=>by rw [upd_ne (hm b _ q fun z=>z)];exact q,fun b ps q=>⟨#[],by rw [upd_ne (hm b _ q fun z=>z),q];simp⟩⟩
 by_cases hbe:b=e
 ·subst hbe;exact heo
 ·exact ⟨u,k b u hbe q⟩
theorem Un.mono (u:Un fs ex H H1 h h1) (hs:∀ b ∈ fs,b ∈ fs') (hx:∀ b ∈ ex,b ∈ ex'):Un fs' ex' H H1 h h1 :=
 ⟨fun b ob q n hb he=>u.keep b ob q n (fun z=>hb (hs b z)) fun z=>he (hx b z),fun _ _ q n _ he=>u.any q n fun z=>he (hx _ z),fun b ob q n he=>u.free b ob q n fun z=>he (hx b z),fun b ob q he=>u.there b ob q fun z=>he (hx b z),u.tups,u.frzs,u.tbls⟩
end
def trk (h:Heap) (H:Hp):List Addr:=(List.range h.objs.size).filter fun a=>(H a).isSome
def hidT (h:Heap) (H:Hp):Heap:=PySem.W.hideAll h (trk h H)
theorem hidT_size (h:Heap) (H:Hp):(hidT h H).objs.size=h.objs.size:=PySem.W.hideAll_size _ _
theorem hidT_get {h:Heap}{H:Hp}{b:Addr}{o:Obj} (e:h.get? b=some o) (n:H b=none):(hidT h H).get? b=some o :=
 PySem.W.hideAll_get _ e fun hm=>by
  have q:(H b).isSome=true:=(List.mem_filter.mp hm).2
  rw [n] at q;simp at q
theorem of_hidT {h:Heap}{H:Hp}{b:Addr}{o:Obj} (e:(hidT h H).get? b=some o):h.get? b=some o∧H b=none:=by
 have e':h.get? b=some o:=PySem.W.of_hideAll (trk h H) e
 refine ⟨e',?_⟩
 cases q:H b with
 | none=>rfl
 | some x =>
  have hm:b ∈ trk h H:=List.mem_filter.mpr ⟨List.mem_range.mpr (Heap.lt_size e'),by simp [q]⟩
  have z:(hidT h H).get? b=none:=PySem.W.hideAll_none (trk h H) hm
  rw [z] at e;cases e
def allNews (g h:Heap) (L:Addr):List (Addr × Obj):=(List.range h.objs.size).filterMap fun a=>if a=L ∨ (g.get? a).isSome=true then none else (h.get? a).map fun o=>(a,o)
def rest (g h:Heap) (L d:Addr):List (Addr × Obj):=(allNews g h L).filter fun p=>decide (p.1 ≠ d)
end L2
namespace L2
open PySem PySem.Spec PyProof.Rows
structure Mod (K:PySem.W.Frag) (mg:Str→Option Value) (base:Heap):Prop where
 kin:K.In base
 glob:base.Ns mainGlobals mg
 blt:∃ mb,base.Ns builtinsNs mb∧∀ x:Str,x ≠ "__name__" → mb x=bootBuiltins x
 nolimit:base.NoLimit
structure Cx where
 prog:Program
 w:World
 K:PySem.W.Frag
 mg:Str→Option Value
 base:Heap
 A:Around
 N:List Str
 s₀:Shared
 H₀:Hp
 env:Env
 outer:List Env
 stack:List Env
 ex:List Addr
 fn:Str→Bool
 calm:Bool
 pn:List (Addr × Obj)
 xe:Value→Shared→Prop
def frs (l:List Env):List Addr:=l.filterMap (·.frame)
abbrev Cx.fs (X:Cx):List Addr:=frs X.outer
def Vis (sc:Scope) (x:Str):Prop:=sc.names.lookup x=some .local ∨ sc.names.lookup x=some .cell ∨ sc.names.lookup x=some .free
def Loc (sc:Scope) (x:Str):Prop:=sc.names.lookup x=some .local ∨ sc.names.lookup x=some .cell
def Look (env:Env) (h:Heap) (m:Str→Option Value) (x:Str) (u:Value):Prop :=
 (env.kindOf x=some .local∧m x=some u) ∨ ((env.kindOf x=some .cell ∨ env.kindOf x=some .free)∧∃ c,env.cells.lookup x=some c∧h.IsCell c (some u))
structure Cx.Ok (X:Cx):Prop where
 mod:Mod X.K X.mg X.base
 kind:X.env.scope.kind=.function
 glob:X.env.globals=mainGlobals
 blt:X.env.builtins=builtinsNs
 above:X.s₀.heap.objs.size ≤ X.env.locals
 inj:∀ x y c,X.env.cells.lookup x=some c→X.env.cells.lookup y=some c→x=y
 has:∀ x,(X.env.kindOf x=some .cell ∨ X.env.kindOf x=some .free)→∃ c,X.env.cells.lookup x=some c
 cab:∀ x c,X.fn x=true→X.env.cells.lookup x=some c→X.s₀.heap.objs.size ≤ c
 hd:X.calm=true→X.A.handled=none
 frames:X.A.frames=some X.stack
 stk:X.stack=X.outer ∨ (X.stack=X.env::X.outer∧X.env.frame=some X.env.locals)
 exf:∀ b ∈ X.ex,b ≠ X.env.locals∧∀ x c,X.env.cells.lookup x=some c→c ≠ b
 bs:∀ b o,X.base.get? b=some o→X.s₀.heap.get? b=some o∧X.H₀ b=none
 bsz:X.base.objs.size ≤ X.s₀.heap.objs.size
 noex:∀ b o,X.base.get? b=some o→b ∉ X.ex
 exfs:∀ b ∈ X.ex,b ∉ X.fs
 funs:X.s₀.heap.FunFrames X.base X.outer
 frf:∀ b ∈ X.fs,X.H₀ b=none
structure Inv (X:Cx) (pins:List (Addr × Obj)) (σ:List (Option V)) (H:Hp) (s:Shared):Prop where
 ok:X.Ok
 os:s.os=X.s₀.os
 bare:AllBare s.gens
 base:Un X.fs X.ex X.H₀ H X.s₀.heap s.heap
 loc:∃ m,s.heap.Ns X.env.locals m∧∀ (i:Nat) (x:Str) (v:V),X.N[i]?=some x→σ[i]?=some (some v)→Vis X.env.scope x→∃ u,RelV v u∧Look X.env s.heap m x u
 cell:∀ x c,X.env.cells.lookup x=some c→∃ v,s.heap.IsCell c v
 free:H X.env.locals=none
 freeC:∀ x c,X.env.cells.lookup x=some c→H c=none
 pin:∀ p ∈ X.pn ++ pins,s.heap.get? p.1=some p.2∧H p.1=none∧p.1 ≠ X.env.locals∧p.1 ∉ X.fs∧∀ v,p.2.data ≠ .cell v
 hok:HOk X.prog X.w H s.heap
 len:σ.length=X.N.length
section
variable {X:Cx}{pins:List (Addr × Obj)}{σ:List (Option V)}{H H':Hp}{s:Shared}{h':Heap}
theorem Cx.Ok.nofr (ok:X.Ok) {b:Addr}{o:Obj} (e:X.base.get? b=some o):b ∉ X.fs:=fun hb=>by
 have:=(ok.funs.mem hb).1
 rw [e] at this;cases this
theorem Inv.bs (I:Inv X pins σ H s):∀ b o,X.base.get? b=some o→s.heap.get? b=some o∧H b=none:=fun b o e =>
 ⟨I.base.keep b o (I.ok.bs b o e).1 (I.ok.bs b o e).2 (I.ok.nofr e) (I.ok.noex b o e),I.base.free b o (I.ok.bs b o e).1 (I.ok.bs b o e).2 (I.ok.noex b o e)⟩
theorem Inv.bk (I:Inv X pins σ H s):∀ b o,X.base.get? b=some o→s.heap.get? b=some o:=fun b o e=>(I.bs b o e).1
theorem Inv.mod (I:Inv X pins σ H s):Mod X.K X.mg X.base:=I.ok.mod
theorem Inv.kIn (I:Inv X pins σ H s):X.K.In s.heap:=I.ok.mod.kin.keeps I.bk
theorem Inv.lt (I:Inv X pins σ H s):X.env.locals < s.heap.objs.size:=let ⟨_,hn,_⟩:=I.loc;hn.lt
theorem Inv.sz (I:Inv X pins σ H s):X.s₀.heap.objs.size ≤ s.heap.objs.size:=Nat.le_trans I.ok.above (Nat.le_of_lt I.lt)
theorem Inv.nofs (I:Inv X pins σ H s) {a:Addr} (h:s.heap.objs.size ≤ a):a ∉ X.fs:=fun hb=>by
 obtain ⟨_,o,ho,_⟩:=I.ok.funs.mem hb
 exact absurd (Nat.lt_of_lt_of_le (Heap.lt_size ho) (Nat.le_trans I.sz h)) (Nat.lt_irrefl _)
theorem Inv.cne (I:Inv X pins σ H s):∀ x c,X.env.cells.lookup x=some c→c ≠ X.env.locals:=fun x c e z=>by
 obtain ⟨v,o,ho,hd⟩:=I.cell x c e
 obtain ⟨m,⟨o',es,ep,ho',hd',_⟩,_⟩:=I.loc
 rw [z,ho'] at ho;cases ho;rw [hd'] at hd;cases hd
theorem Inv.funs (I:Inv X pins σ H s):s.heap.FunFrames X.base X.outer:=by
 have all:∀ (l:List Env),(∀ b ∈ frs l,b ∈ X.fs)→X.s₀.heap.FunFrames X.base l→s.heap.FunFrames X.base l:=by
  intro l
  induction l with
  | nil=>intro _ _;trivial
  | cons env r ih =>
   intro hs hl
   obtain ⟨hk,⟨L,o,hf,hn,ho,hd⟩,hr⟩:=hl
   have hL:L ∈ X.fs:=hs L (by unfold frs;rw [List.filterMap_cons,hf];exact List.mem_cons_self)
   obtain ⟨sl,e⟩:=I.base.slot L o ho (I.ok.frf L hL) hL fun z=>I.ok.exfs L z hL
   exact ⟨hk,⟨L,_,hf,hn,e,hd⟩,ih (fun b hb=>hs b (by unfold frs;rw [List.filterMap_cons,hf];exact List.mem_cons_of_mem _ hb)) hr⟩
 exact all X.outer (fun _ hb=>hb) I.ok.funs
theorem Inv.stack (I:Inv X pins σ H s):s.heap.FunFrames X.base X.stack:=by
 rcases I.ok.stk with e | ⟨e,hf⟩
 ·rw [e];exact I.funs
 ·rw [e]
  obtain ⟨m,hn,_⟩:=I.loc
  refine .cons (by rw [I.ok.kind];decide) hf hn ?_ I.funs
  exact Heap.get?_none_of_le (Nat.le_trans I.ok.bsz I.ok.above)
theorem Inv.stkSub (I:Inv X pins σ H s):∀ b ∈ frs X.stack,b ∈ X.env.locals::X.fs:=fun b hb=>by
 rcases I.ok.stk with e | ⟨e,hf⟩
 ·rw [e] at hb;exact List.mem_cons_of_mem _ hb
 ·rw [e] at hb
  unfold frs at hb
  rw [List.filterMap_cons,hf] at hb
  exact hb
theorem Inv.stkFree (I:Inv X pins σ H s):∀ b ∈ frs X.stack,H b=none:=fun b hb=>by
 rcases List.mem_cons.mp (I.stkSub b hb) with e | hb
 ·rw [e];exact I.free
 ·obtain ⟨_,o,ho,_⟩:=I.ok.funs.mem hb
  exact I.base.free b o ho (I.ok.frf b hb) fun z=>I.ok.exfs b z hb
theorem Inv.step {g':Array GenState}{t':Nat}{d':Drawn}{ch:List Addr} (I:Inv X pins σ H s)
  (hch:∀ b ∈ ch,(b ∈ X.ex ∨ X.s₀.heap.objs.size ≤ b)∧b ≠ X.env.locals∧(∀ x c,X.env.cells.lookup x=some c→c ≠ b)∧∀ p ∈ X.pn ++ pins,p.1 ≠ b)
  (keep:∀ b o,b ≠ X.env.locals→b ∉ X.fs→b ∉ ch→s.heap.get? b=some o→H b=none→h'.get? b=some o)
  (slot:∀ b o,b ≠ X.env.locals→b ∈ X.fs→b ∉ ch→s.heap.get? b=some o→H b=none→∃ sl,h'.get? b=some { o with slots:=sl }) (free:∀ b o,b ∉ ch→s.heap.get? b=some o→H b=none→H' b=none)
  (there:∀ b o,b ∉ ch→s.heap.get? b=some o→∃ o',h'.get? b=some o')
  (tups:∀ b xs,H b=some (.tup xs)→H' b=some (.tup xs)) (frzs:∀ b o u,H b=some (.frz o u)→H' b=some (.frz o u)) (tbls:∀ b ps,H b=some (.tbl ps)→∃ more,H' b=some (.tbl (ps ++ more)))
  (ns:∀ m,s.heap.Ns X.env.locals m→h'.Ns X.env.locals m) (hok:HOk X.prog X.w H' h') (hg:AllBare g') :
  Inv X pins σ H' { s with heap:=h',gens:=g',drawn:=d',toks:=t' }:=by
 have neL:∀ b o,X.s₀.heap.get? b=some o→b ≠ X.env.locals:=fun b o e=>Nat.ne_of_lt (Nat.lt_of_lt_of_le (Heap.lt_size e) I.ok.above)
 have neC:∀ b o,X.s₀.heap.get? b=some o→b ∉ X.ex→b ∉ ch:=fun b o e hx hb=>by
  rcases (hch b hb).1 with z | z
  ·exact hx z
  ·exact absurd (Nat.lt_of_lt_of_le (Heap.lt_size e) z) (Nat.lt_irrefl _)
 have cellK:∀ x c,X.env.cells.lookup x=some c→∀ v,s.heap.IsCell c v→h'.IsCell c v:=fun x c e v ⟨o,ho,hd⟩=>by
  have nch:c ∉ ch:=fun z=>(hch c z).2.2.1 x c e rfl
  by_cases hc:c ∈ X.fs
  ·obtain ⟨sl,q⟩:=slot c o (I.cne x c e) hc nch ho (I.freeC x c e)
   exact ⟨_,q,hd⟩
  ·exact ⟨o,keep c o (I.cne x c e) hc nch ho (I.freeC x c e),hd⟩
 refine ⟨I.ok,I.os,hg,⟨fun b o e n hb hx=>?_,fun b o e n hb hx=>?_,fun b o e n hx=>?_,fun b o e hx=>?_,fun b xs e=>tups b xs (I.base.tups b xs e),fun b o xs e=>frzs b o xs (I.base.frzs b o xs e),fun b ps e=>?_⟩,?_,fun x c e=>?_,?_,fun x c e=>?_,fun p hp=>?_,hok,I.len⟩
 ·exact keep b o (neL b o e) hb (neC b o e hx) (I.base.keep b o e n hb hx) (I.base.free b o e n hx)
 ·obtain ⟨sl,e1⟩:=I.base.slot b o e n hb hx
  obtain ⟨sl',e2⟩:=slot b _ (neL b o e) hb (neC b o e hx) e1 (I.base.free b o e n hx)
  exact ⟨sl',e2⟩
 ·obtain ⟨o',e1⟩:=I.base.there b o e hx
  exact free b o' (neC b o e hx) e1 (I.base.free b o e n hx)
 ·obtain ⟨o',e1⟩:=I.base.there b o e hx
  exact there b o' (neC b o e hx) e1
 ·obtain ⟨m1,e1⟩:=I.base.tbls b ps e
  obtain ⟨m2,e2⟩:=tbls b _ e1
  exact ⟨m1 ++ m2,by rw [e2,Array.append_assoc]⟩
 ·obtain ⟨m,hn,hl⟩:=I.loc
  refine ⟨m,ns m hn,fun i x v e1 e2 e3=>?_⟩
  obtain ⟨u,r,l⟩:=hl i x v e1 e2 e3
  refine ⟨u,r,?_⟩
  rcases l with l | ⟨k,c,e,z⟩
  ·exact .inl l
  ·exact .inr ⟨k,c,e,cellK x c e _ z⟩
 ·obtain ⟨v,z⟩:=I.cell x c e
  exact ⟨v,cellK x c e v z⟩
 ·obtain ⟨m,⟨o,_,_,ho,_⟩,_⟩:=I.loc
  exact free _ o (fun z=>(hch _ z).2.1 rfl) ho I.free
 ·obtain ⟨v,o,ho,hd⟩:=I.cell x c e
  exact free c o (fun z=>(hch c z).2.2.1 x c e rfl) ho (I.freeC x c e)
 ·obtain ⟨e,n,ne,nf,d⟩:=I.pin p hp
  have nch:p.1 ∉ ch:=fun z=>(hch p.1 z).2.2.2 p hp rfl
  exact ⟨keep p.1 p.2 ne nf nch e n,free p.1 p.2 nch e n,ne,nf,d⟩
theorem Inv.un {t':Nat} (I:Inv X pins σ H s) (u:Un X.fs [] H H' s.heap h') (hok:HOk X.prog X.w H' h'):Inv X pins σ H' { s with heap:=h',toks:=t' }:=by
 obtain ⟨m,⟨o,es,ep,ho,r⟩,_⟩:=id I.loc
 obtain ⟨sl,hL⟩:=u.any ho I.free (by simp)
 exact I.step (g':=s.gens) (d':=s.drawn) (ch:=[]) (fun _ z=>nomatch z) (fun b o _ hb _ e n=>u.keep b o e n hb (by simp)) (fun b o _ hb _ e n=>u.slot b o e n hb (by simp)) (fun b o _ e n=>u.free b o e n (by simp)) (fun b o _ e=>u.there b o e (by simp)) u.tups u.frzs u.tbls (fun m' hm=>by
  obtain ⟨o',es',ep',ho',r'⟩:=hm
  rw [ho] at ho';cases ho'
  exact ⟨_,es',ep',hL,r'⟩) hok I.bare
theorem Inv.call {g':Array GenState}{t':Nat}{d':Drawn}{ch:List Addr} (I:Inv X pins σ H s) (u:Un (frs X.stack) ch H H' s.heap h') (hok:HOk X.prog X.w H' h') (hg:AllBare g')
  (hch:∀ b ∈ ch,(b ∈ X.ex ∨ X.s₀.heap.objs.size ≤ b)∧b ≠ X.env.locals∧(∀ x c,X.env.cells.lookup x=some c→c ≠ b)∧∀ p ∈ X.pn ++ pins,p.1 ≠ b) :
  Inv X pins σ H' { s with heap:=h',gens:=g',drawn:=d',toks:=t' }:=by
 obtain ⟨m,⟨o,es,ep,ho,r⟩,_⟩:=id I.loc
 obtain ⟨sl,hL⟩:=u.any ho I.free fun z=>(hch _ z).2.1 rfl
 exact I.step (ch:=ch) hch (fun b o hL hb hc e n=>u.keep b o e n (fun z=>(List.mem_cons.mp (I.stkSub b z)).elim hL hb) hc) (fun b o _ _ hc e n=>u.any e n hc) (fun b o hc e n=>u.free b o e n hc) (fun b o hc e=>u.there b o e hc) u.tups u.frzs u.tbls (fun m' hm=>by
  obtain ⟨o',es',ep',ho',r'⟩:=hm
  rw [ho] at ho';cases ho'
  exact ⟨_,es',ep',hL,r'⟩) hok hg
theorem Inv.turned {t':Nat}{it:Addr} (I:Inv X pins σ H s) (k:∀ b o,b ≠ it→s.heap.get? b=some o→h'.get? b=some o) (hn:H it=none) (hL:it ≠ X.env.locals)
  (h1:it ∈ X.ex ∨ X.s₀.heap.objs.size ≤ it) (h2:∀ x c,X.env.cells.lookup x=some c→c ≠ it) (h3:∀ p ∈ X.pn ++ pins,p.1 ≠ it):Inv X pins σ H { s with heap:=h',toks:=t' }:=by
 have nit:∀ b u,H b=some u→b ≠ it:=fun b u e z=>by rw [z,hn] at e;cases e
 refine I.step (g':=s.gens) (d':=s.drawn) (ch:=[it]) (fun b hb=>?_) (fun b o _ _ hc e _=>k b o (fun z=>hc (by simp [z])) e) (fun b o _ _ hc e _=>⟨o.slots,k b o (fun z=>hc (by simp [z])) e⟩) (fun _ _ _ _ n=>n)
  (fun b o hc e=>⟨o,k b o (fun z=>hc (by simp [z])) e⟩) (fun _ _ e=>e) (fun _ _ _ e=>e) (fun b ps e=>⟨#[],by rw [e];simp⟩) (fun m hm=>?_) (fun b u e=>?_) I.bare
 ·have e:b=it:=by simpa using hb
  subst e
  exact ⟨h1,hL,h2,h3⟩
 ·obtain ⟨o,es,ep,ho,r⟩:=hm
  exact ⟨o,es,ep,k _ o (Ne.symm hL) ho,r⟩
 ·refine (I.hok b u e).stay (fun c v hc q=>k c v ?_ q) (fun _ q=>q) fun _ _ q=>q
  rcases hc with z | z
  ·rw [z];exact nit b u e
  ·exact nit c _ z
theorem Inv.tok (I:Inv X pins σ H s) (t:Nat):Inv X pins σ H { s with toks:=t }:=I.un (h':=s.heap) (t':=t) Un.refl I.hok
theorem Inv.kept {t':Nat} (I:Inv X pins σ H s) (k:∀ b u,s.heap.get? b=some u→h'.get? b=some u):Inv X pins σ H { s with heap:=h',toks:=t' }:=I.un (Un.kept k) (I.hok.kept k)
theorem Inv.laid {a:Addr}{o:HO}{t':Nat} (I:Inv X pins σ H s) (k:∀ b u,s.heap.get? b=some u→h'.get? b=some u) (hp:s.heap.objs.size ≤ a) (new:ObjOk X.prog X.w (upd H a o) h' a o) :
  Inv X pins σ (upd H a o) { s with heap:=h',toks:=t' }:=I.un (Un.laid k hp (I.hok.fresh hp)) (I.hok.laid k hp new)
theorem Inv.write {x e:Addr}{o:HO}{t':Nat} (I:Inv X pins σ H s) (mu:Mut (H x)) (he:e=x ∨ H e=some (.own x)) (k:∀ b u,b ≠ e→s.heap.get? b=some u→h'.get? b=some u) (heo:∃ u,h'.get? e=some u)
  (new:ObjOk X.prog X.w (upd H x o) h' x o):Inv X pins σ (upd H x o) { s with heap:=h',toks:=t' }:=I.un (Un.write mu he k heo) (I.hok.write mu he k heo new)
theorem Inv.pins_of {pins':List (Addr × Obj)} (I:Inv X pins σ H s) (h:∀ p ∈ pins',s.heap.get? p.1=some p.2∧H p.1=none∧p.1 ≠ X.env.locals∧p.1 ∉ X.fs∧∀ v,p.2.data ≠ .cell v):Inv X pins' σ H s :=
 ⟨I.ok,I.os,I.bare,I.base,I.loc,I.cell,I.free,I.freeC,fun p hp=>(List.mem_append.mp hp).elim (fun z=>I.pin p (List.mem_append_left _ z)) (h p),I.hok,I.len⟩
theorem nodup_ix {N:List Str} (hN:N.Nodup) {i j:Nat}{x:Str} (a:N[i]?=some x) (b:N[j]?=some x):i=j:=by
 obtain ⟨h1,e1⟩:=List.getElem?_eq_some_iff.mp a
 obtain ⟨h2,e2⟩:=List.getElem?_eq_some_iff.mp b
 exact (List.getElem_inj hN).mp (e1.trans e2.symm)
theorem store_ok2 {M:Model}{A:Around}{E:Value→Shared→Prop}{i:Nat}{x:Str}{v:V}{u:Value}{Q:Unit→Shared→Prop} (I:Inv X pins σ H s) (hN:X.N.Nodup) (hi:X.N[i]?=some x) (hx:Loc X.env.scope x) (r:RelV v u)
  (h:∀ s',Inv X pins (σ.set i (some v)) H s'→(∃ a,Heap.SameBut a s.heap s'.heap∧(a=X.env.locals ∨ X.env.cells.lookup x=some a))→Q () s') (hf:X.fn x=true ∨ X.env.scope.names.lookup x=some .local:=by first | exact .inl rfl | exact .inr rfl | assumption):wpAny M A (storeName X.env x u) Q E s:=by
 obtain ⟨m,hn,hl⟩:=id I.loc
 have hcls:(X.env.scope.kind == .class || (X.env.scope.kind == .module && X.env.locals != X.env.globals))=false:=by rw [I.ok.kind];rfl
 have hiσ:i < σ.length:=by rw [I.len];exact (List.getElem?_eq_some_iff.mp hi).1
 have cne:=I.cne
 have tracked:∀ {a:Addr}{h':Heap},(∃ o,s.heap.get? a=some o∧H a=none)→Heap.SameBut a s.heap h'→HOk X.prog X.w H h':=fun {a h'} ha hs b ob e=>by
  obtain ⟨_,_,hfree⟩:=ha
  refine (I.hok b ob e).stay (fun c w' hc q=>(hs.2 c ?_).trans q) (fun _ q=>q) fun _ _ q=>q
  rintro rfl
  rcases hc with rfl | hc
  ·rw [hfree] at e;cases e
  ·rw [hfree] at hc;cases hc
 rcases hx with hk | hk
 ·refine wpAny_storeName_local hk hn (fun h' hn' hs=>?_) hcls
  obtain ⟨oL,_,_,hoL,_⟩:=id hn
  refine h _ ⟨I.ok,I.os,I.bare,⟨fun b o e n hb hx=>?_,fun b o e n hb hx=>?_,I.base.free,fun b o e hx=>?_,I.base.tups,I.base.frzs,I.base.tbls⟩,⟨_,hn',fun j y v' e1 e2 e3=>?_⟩,fun y c e=>?_,I.free,I.freeC,fun p hp=>?_,tracked ⟨oL,hoL,I.free⟩ hs,by simpa using I.len⟩ ⟨_,hs,.inl rfl⟩
  ·exact (hs.2 b (Nat.ne_of_lt (Nat.lt_of_lt_of_le (Heap.lt_size e) I.ok.above))).trans (I.base.keep b o e n hb hx)
  ·obtain ⟨sl,e1⟩:=I.base.slot b o e n hb hx
   exact ⟨sl,(hs.2 b (Nat.ne_of_lt (Nat.lt_of_lt_of_le (Heap.lt_size e) I.ok.above))).trans e1⟩
  ·obtain ⟨o',e1⟩:=I.base.there b o e hx
   exact ⟨o',(hs.2 b (Nat.ne_of_lt (Nat.lt_of_lt_of_le (Heap.lt_size e) I.ok.above))).trans e1⟩
  ·by_cases hj:j=i
   ·subst hj
    rw [hi] at e1;cases e1
    rw [List.getElem?_set_self hiσ] at e2
    cases e2
    exact ⟨u,r,.inl ⟨hk,by simp⟩⟩
   ·rw [List.getElem?_set_ne (Ne.symm hj)] at e2
    obtain ⟨u',r',q⟩:=hl j y v' e1 e2 e3
    refine ⟨u',r',?_⟩
    rcases q with ⟨k,e⟩ | ⟨k,c,e,z⟩
    ·refine .inl ⟨k,?_⟩
     have:y ≠ x:=fun e=>hj (nodup_ix hN e1 (e ▸ hi))
     simp [this,e]
    ·exact .inr ⟨k,c,e,z.sameBut hs (cne y c e)⟩
  ·obtain ⟨w',z⟩:=I.cell y c e
   exact ⟨w',z.sameBut hs (cne y c e)⟩
  ·obtain ⟨e,n,ne,nf,d⟩:=I.pin p hp
   exact ⟨(hs.2 p.1 ne).trans e,n,ne,nf,d⟩
 ·have hfn:X.fn x=true:=by
   rcases hf with z | z
   ·exact z
   ·rw [z] at hk;cases hk
  obtain ⟨c,hc⟩:=I.ok.has x (.inl hk)
  obtain ⟨w',z⟩:=I.cell x c hc
  refine wpAny_storeName_cell I.ok.kind hk hc z (fun h' hc' hs=>?_)
  obtain ⟨oc,hoc,hocd⟩:=id z
  refine h { s with heap:=h' } ⟨I.ok,I.os,I.bare,⟨fun b o e n hb hx=>?_,fun b o e n hb hx=>?_,I.base.free,fun b o e hx=>?_,I.base.tups,I.base.frzs,I.base.tbls⟩,⟨m,hn.sameBut hs (Ne.symm (cne x c hc)),fun j y v' e1 e2 e3=>?_⟩,fun y c' e=>?_,I.free,I.freeC,fun p hp=>?_,tracked ⟨oc,hoc,I.freeC x c hc⟩ hs,by simpa using I.len⟩ ⟨c,hs,.inr hc⟩
  ·exact (hs.2 b (Nat.ne_of_lt (Nat.lt_of_lt_of_le (Heap.lt_size e) (I.ok.cab x c hfn hc)))).trans (I.base.keep b o e n hb hx)
  ·obtain ⟨sl,e1⟩:=I.base.slot b o e n hb hx
   exact ⟨sl,(hs.2 b (Nat.ne_of_lt (Nat.lt_of_lt_of_le (Heap.lt_size e) (I.ok.cab x c hfn hc)))).trans e1⟩
  ·obtain ⟨o',e1⟩:=I.base.there b o e hx
   exact ⟨o',(hs.2 b (Nat.ne_of_lt (Nat.lt_of_lt_of_le (Heap.lt_size e) (I.ok.cab x c hfn hc)))).trans e1⟩
  ·by_cases hj:j=i
   ·subst hj
    rw [hi] at e1;cases e1
    rw [List.getElem?_set_self hiσ] at e2
    cases e2
    exact ⟨u,r,.inr ⟨.inl hk,c,hc,hc'⟩⟩
   ·rw [List.getElem?_set_ne (Ne.symm hj)] at e2
    obtain ⟨u',r',q⟩:=hl j y v' e1 e2 e3
    refine ⟨u',r',?_⟩
    rcases q with q | ⟨k,c',e,z'⟩
    ·exact .inl q
    ·refine .inr ⟨k,c',e,z'.sameBut hs ?_⟩
     rintro rfl
     exact hj (nodup_ix hN e1 (I.ok.inj _ _ _ e hc ▸ hi))
  ·by_cases hcc:c'=c
   ·subst hcc;exact ⟨_,hc'⟩
   ·obtain ⟨w2,z2⟩:=I.cell y c' e
    exact ⟨w2,z2.sameBut hs hcc⟩
  ·obtain ⟨e,n,ne,nf,d⟩:=I.pin p hp
   refine ⟨(hs.2 p.1 ?_).trans e,n,ne,nf,d⟩
   intro q
   rw [q,hoc] at e
   have q':oc=p.2:=Option.some.inj e
   exact d w' (by rw [← q'];exact hocd)
theorem store_ok {M:Model}{A:Around}{E:Value→Shared→Prop}{i:Nat}{x:Str}{v:V}{u:Value}{Q:Unit→Shared→Prop} (I:Inv X pins σ H s) (hN:X.N.Nodup) (hi:X.N[i]?=some x) (hx:Loc X.env.scope x) (r:RelV v u)
  (h:∀ s',Inv X pins (σ.set i (some v)) H s'→Q () s') (hf:X.fn x=true ∨ X.env.scope.names.lookup x=some .local:=by first | exact .inl rfl | exact .inr rfl | assumption):wpAny M A (storeName X.env x u) Q E s :=
 store_ok2 I hN hi hx r (fun s' I' _=>h s' I') hf
theorem Inv.call' {s':Shared}{ch:List Addr} (I:Inv X pins σ H s) (ho:s'.os=s.os) (u:Un (frs X.stack) ch H H' s.heap s'.heap) (hok:HOk X.prog X.w H' s'.heap) (hg:AllBare s'.gens)
  (hch:∀ b ∈ ch,(b ∈ X.ex ∨ X.s₀.heap.objs.size ≤ b)∧b ≠ X.env.locals∧(∀ x c,X.env.cells.lookup x=some c→c ≠ b)∧∀ p ∈ X.pn ++ pins,p.1 ≠ b):Inv X pins σ H' s':=by
 obtain ⟨h',g',d',t',o'⟩:=s'
 have e:o'=s.os:=ho
 subst e
 exact I.call (g':=g') (t':=t') (d':=d') u hok hg hch
end
abbrev XK:=Value→Option Addr→Hp→Prop
abbrev St:=List (Option V)
abbrev VK:=V→Hp→Prop
abbrev TE:=St→Hp→VK→Prop
abbrev TT:=St→Hp→(Bool→Hp→Prop)→Prop
abbrev TA:=St→Hp→(List V→Hp→Prop)→Prop
structure Ends where
 nx:St→Hp→Prop
 rt:VK
 bk:St→Hp→Prop:=fun _ _=>False
 ct:St→Hp→Prop:=fun _ _=>False
abbrev TS:=Ends→St→Hp→Prop
def EP (X:Cx) (pins:List (Addr × Obj)) (σ:St) (Q:VK) (u:Value) (s':Shared):Prop:=∃ v H',Inv X pins σ H' s'∧RelV v u∧Q v H'
def TP (X:Cx) (pins:List (Addr × Obj)) (σ:St) (Q:Bool→Hp→Prop) (b:Bool) (s':Shared):Prop:=∃ H',Inv X pins σ H' s'∧Q b H'
def AP (X:Cx) (pins:List (Addr × Obj)) (σ:St) (Q:List V→Hp→Prop) (us:List Value) (s':Shared):Prop:=∃ vs H',Inv X pins σ H' s'∧Vals vs us∧Q vs H'
def SP (X:Cx) (pins:List (Addr × Obj)) (D:Ends) (f:Flow) (s':Shared):Prop :=
 match f with
 | .next=>∃ σ' H',Inv X pins σ' H' s'∧D.nx σ' H'
 | .brk=>∃ σ' H',Inv X pins σ' H' s'∧D.bk σ' H'
 | .cont=>∃ σ' H',Inv X pins σ' H' s'∧D.ct σ' H'
 | .ret u=>∃ v σ' H',Inv X pins σ' H' s'∧RelV v u∧D.rt v H'
def PE (X:Cx) (e:Expr) (t:TE):Prop :=
 ∀ (pins:List (Addr × Obj)) (s:Shared) (σ:St) (H:Hp) (Q:VK),Inv X pins σ H s→t σ H Q→wpAny (model X.prog X.w) X.A (eval e X.env) (EP X pins σ Q) X.xe s
def PT (X:Cx) (e:Expr) (t:TT):Prop :=
 ∀ (pins:List (Addr × Obj)) (s:Shared) (σ:St) (H:Hp) (Q:Bool→Hp→Prop),Inv X pins σ H s→t σ H Q→wpAny (model X.prog X.w) X.A (isTrue e X.env (eval e X.env)) (TP X pins σ Q) X.xe s
def PW (X:Cx) (e:Expr) (t:TT):Prop :=
 ∀ (whole:Sem Value) (pins:List (Addr × Obj)) (s:Shared) (σ:St) (H:Hp) (Q:Bool→Hp→Prop),Inv X pins σ H s→t σ H Q→wpAny (model X.prog X.w) X.A (isTrue e X.env whole) (TP X pins σ Q) X.xe s
theorem PW.pt {X:Cx}{e:Expr}{t:TT} (h:PW X e t):PT X e t:=h _
def PA (X:Cx) (es:List Expr) (t:TA):Prop :=
 ∀ (pos:Pos) (pins:List (Addr × Obj)) (s:Shared) (σ:St) (H:Hp) (Q:List V→Hp→Prop),Inv X pins σ H s→t σ H Q→wpAny (model X.prog X.w) X.A (spliced (backTo pos (starEach es X.env))) (AP X pins σ Q) X.xe s
def PS (X:Cx) (st:Stmt) (t:TS):Prop :=
 ∀ (pins:List (Addr × Obj)) (s:Shared) (σ:St) (H:Hp) (D:Ends),Inv X pins σ H s→t D σ H→wpAny (model X.prog X.w) X.A (exec st X.env) (SP X pins D) X.xe s
def PSs (X:Cx) (st:List Stmt) (t:TS):Prop :=
 ∀ (pins:List (Addr × Obj)) (s:Shared) (σ:St) (H:Hp) (D:Ends),Inv X pins σ H s→t D σ H→wpAny (model X.prog X.w) X.A (execs st X.env) (SP X pins D) X.xe s
theorem thn {α:Type}{t:Sem α}{Q Q':α→Shared→Prop}{M:Model}{A:Around}{E:Value→Shared→Prop}{s:Shared} (h:wpAny M A t Q E s) (hQ:∀ a s,Q a s→Q' a s):wpAny M A t Q' E s:=wpAny_mono h hQ fun _ _ x=>x
end L2
namespace L2
open PySem PySem.Spec PyProof.Rows
section
variable {X:Cx}
theorem bin {a b:Expr}{ta tb:TE} (ha:PE X a ta) (hb:PE X b tb) {pins:List (Addr × Obj)}{s:Shared}{σ:St}{H:Hp}{R:V→V→Hp→Prop} (I:Inv X pins σ H s) (h:ta σ H fun x H1=>tb σ H1 fun y H2=>R x y H2)
  {α:Type}{Q:α→Shared→Prop}{f:Value→Value→Sem α}
  (hf:∀ v u s2 x y H2,Inv X pins σ H2 s2→RelV x v→RelV y u→R x y H2→wpAny (model X.prog X.w) X.A (f v u) Q X.xe s2) :
  wpAny (model X.prog X.w) X.A (eval a X.env) (fun v s₁=>wpAny (model X.prog X.w) X.A (eval b X.env) (fun u s₂=>wpAny (model X.prog X.w) X.A (f v u) Q X.xe s₂) X.xe s₁) X.xe s:=by
 refine thn (ha pins s σ H _ I h) fun v s1 ⟨x,H1,I1,r1,q1⟩=>?_
 refine thn (hb pins s1 σ H1 _ I1 q1) fun u s2 ⟨y,H2,I2,r2,q2⟩=>?_
 exact hf v u s2 x y H2 I2 r1 r2 q2
def tVar (i:Nat):TE:=fun σ H Q=>∃ v,σ[i]?=some (some v)∧Q v H
def tC (v:V):TE:=fun _ H Q=>Q v H
theorem pe_var {i:Nat}{x:Str}{pos:Pos} (hN:X.N[i]?=some x) (hv:Vis X.env.scope x) (hd:(x == ("__debug__" : Str))=false:=by decide) (hcd:(x == ("__classdict__" : Str))=false:=by decide):PE X (.Name x pos) (tVar i):=by
 intro pins s σ H Q I h
 obtain ⟨v,e,h⟩:=h
 obtain ⟨m,hn,hl⟩:=I.loc
 obtain ⟨u,r,l⟩:=hl i x v hN e hv
 have fin:EP X pins σ Q u s:=⟨v,H,I,r,h⟩
 rcases l with ⟨hk,hm⟩ | ⟨hk,c,hc,hcell⟩
 ·exact wpAny_Name (wpAny_loadName_local I.ok.kind hk hn hm fin) hd
 ·rcases hk with hk | hk
  ·exact wpAny_Name (wpAny_loadName_cell I.ok.kind hk hc hcell fin) hd
  ·exact wpAny_Name (wpAny_loadName_free I.ok.kind hk hc hcell fin hcd) hd
theorem pe_int {i j pos}:PE X (.Constant (.int i) j pos) (tC (.int i)):=fun _ _ _ H _ I h=>wpAny_Constant_int ⟨.int i,H,I.tok _,⟨_,rfl⟩,h⟩
theorem pe_bl {b j pos}:PE X (.Constant (.bool b) j pos) (tC (.bl b)):=fun _ _ _ H _ I h=>Constant_bool ⟨.bl b,H,I,rfl,h⟩
theorem pe_non {j pos}:PE X (.Constant .none j pos) (tC .non):=fun _ _ _ H _ I h=>Constant_none ⟨.non,H,I,rfl,h⟩
theorem pe_str {x j pos}:PE X (.Constant (.str x) j pos) (tC (.str x)):=fun _ _ _ H _ I h=>Calls.Constant_str ⟨.str x,H,I.tok _,⟨_,rfl⟩,h⟩
def Gl (X:Cx) (x:Str):Prop:=X.env.kindOf x=some .globalImplicit
theorem ld_glob {E:Value→Shared→Prop}{pins:List (Addr × Obj)}{s:Shared}{σ:St}{H:Hp}{x:Str}{u:Value}{pos:Pos}{Q:Value→Shared→Prop} (I:Inv X pins σ H s) (hg:Gl X x) (hm:X.mg x=some u) (h:Q u s)
  (hd:(x == ("__debug__" : Str))=false:=by decide):wpAny (model X.prog X.w) X.A (eval (.Name x pos) X.env) Q E s :=
 Calls.Name_function_global I.ok.kind hg (Calls.loadGlobal_global (by rw [I.ok.glob];exact I.mod.glob.keeps I.bk) hm h) hd
theorem ld_blt {E:Value→Shared→Prop}{pins:List (Addr × Obj)}{s:Shared}{σ:St}{H:Hp}{x:Str}{u:Value}{pos:Pos}{Q:Value→Shared→Prop} (I:Inv X pins σ H s) (hg:Gl X x) (hm:X.mg x=none) (hv:bootBuiltins x=some u) (h:Q u s)
  (hn:x ≠ "__name__" := by decide) (hd:(x == ("__debug__" : Str))=false:=by decide):wpAny (model X.prog X.w) X.A (eval (.Name x pos) X.env) Q E s:=by
 obtain ⟨mb,h1,h2⟩:=I.mod.blt
 exact Calls.Name_function_global I.ok.kind hg (Calls.loadGlobal_builtin (by rw [I.ok.glob];exact I.mod.glob.keeps I.bk) hm (by rw [I.ok.blt];exact h1.keeps I.bk) ((h2 x hn).trans hv) h) hd
theorem pe_glob {x:Str}{v:V}{u:Value}{pos:Pos} (hg:Gl X x) (hm:X.mg x=some u) (r:RelV v u) (hd:(x == ("__debug__" : Str))=false:=by decide):PE X (.Name x pos) (tC v) :=
 fun _ _ _ H _ I h=>ld_glob I hg hm ⟨v,H,I,r,h⟩ hd
theorem pe_bltn {x:Str}{v:V}{u:Value}{pos:Pos} (hg:Gl X x) (hm:X.mg x=none) (hv:bootBuiltins x=some u) (r:RelV v u) (hn:x ≠ "__name__" := by decide) (hd:(x == ("__debug__" : Str))=false:=by decide):PE X (.Name x pos) (tC v) :=
 fun _ _ _ H _ I h=>ld_blt I hg hm hv ⟨v,H,I,r,h⟩ hn hd
variable {a b:Expr}{ta tb:TE}{pos:Pos}
variable {tA tB':TT}{rest:List Expr}
def tAnd (t u:TT):TT:=fun σ H Q=>t σ H fun c H1=>if c=true then u σ H1 Q else Q false H1
def tOr (t u:TT):TT:=fun σ H Q=>t σ H fun c H1=>if c=true then Q true H1 else u σ H1 Q
def tNot (t:TT):TT:=fun σ H Q=>t σ H fun c H1=>Q (!c) H1
theorem pw_and1 (ha:PT X a tA):PW X (.BoolOp .And [a] pos) tA:=by
 intro wh pins s σ H Q I h
 refine isTrue_and (thn (ha pins s σ H Q I h) fun c s1 e=>?_)
 cases c with
 | true=>exact isTrue_and_nil e
 | false=>exact e
theorem pw_or1 (ha:PT X a tA):PW X (.BoolOp .Or [a] pos) tA:=by
 intro wh pins s σ H Q I h
 refine isTrue_or (thn (ha pins s σ H Q I h) fun c s1 e=>?_)
 cases c with
 | false=>exact isTrue_or_nil e
 | true=>exact e
theorem pw_and (ha:PT X a tA) (hb:PW X (.BoolOp .And (b::rest) pos) tB'):PW X (.BoolOp .And (a::b::rest) pos) (tAnd tA tB'):=by
 intro wh pins s σ H Q I h
 refine isTrue_and (thn (ha pins s σ H _ I h) fun c s1 ⟨H1,I1,q1⟩=>?_)
 cases c with
 | true=>exact hb wh pins s1 σ H1 Q I1 q1
 | false=>exact ⟨H1,I1,q1⟩
theorem pw_or (ha:PT X a tA) (hb:PW X (.BoolOp .Or (b::rest) pos) tB'):PW X (.BoolOp .Or (a::b::rest) pos) (tOr tA tB'):=by
 intro wh pins s σ H Q I h
 refine isTrue_or (thn (ha pins s σ H _ I h) fun c s1 ⟨H1,I1,q1⟩=>?_)
 cases c with
 | true=>exact ⟨H1,I1,q1⟩
 | false=>exact hb wh pins s1 σ H1 Q I1 q1
theorem pt_not (ha:PT X a tA):PT X (.UnaryOp .Not a pos) (tNot tA):=by
 intro pins s σ H Q I h
 exact isTrue_not (ha pins s σ H (fun c H1=>Q (!c) H1) I h)
def tAndV (ta tb:TE):TE:=fun σ H Q=>ta σ H fun x H1=>∃ c,x=.bl c∧if c=true then tb σ H1 Q else Q (.bl false) H1
def tOrV (ta tb:TE):TE:=fun σ H Q=>ta σ H fun x H1=>∃ c,x=.bl c∧if c=true then Q (.bl true) H1 else tb σ H1 Q
def tNotV (ta:TE):TE:=fun σ H Q=>ta σ H fun x H1=>∃ c,x=.bl c∧Q (.bl (!c)) H1
theorem pe_one {op}{t:TE} (h:PE X a t):PE X (.BoolOp op [a] pos) t:=fun pins s σ H Q I hw=>BoolOp_one (h pins s σ H Q I hw)
theorem pe_and (ha:PE X a ta) (hb:PE X (.BoolOp .And (b::rest) pos) tb):PE X (.BoolOp .And (a::b::rest) pos) (tAndV ta tb):=by
 intro pins s σ H Q I h
 refine BoolOp_and (thn (ha pins s σ H _ I h) fun v s1 ⟨x,H1,I1,r1,q1⟩=>?_)
 obtain ⟨c,rfl,q1⟩:=q1
 cases r1
 refine wpAny_truthy_bool ?_
 cases c with
 | true=>exact hb pins s1 σ H1 Q I1 q1
 | false=>exact ⟨.bl false,H1,I1,rfl,q1⟩
theorem pe_or (ha:PE X a ta) (hb:PE X (.BoolOp .Or (b::rest) pos) tb):PE X (.BoolOp .Or (a::b::rest) pos) (tOrV ta tb):=by
 intro pins s σ H Q I h
 refine BoolOp_or (thn (ha pins s σ H _ I h) fun v s1 ⟨x,H1,I1,r1,q1⟩=>?_)
 obtain ⟨c,rfl,q1⟩:=q1
 cases r1
 refine wpAny_truthy_bool ?_
 cases c with
 | false=>exact hb pins s1 σ H1 Q I1 q1
 | true=>exact ⟨.bl true,H1,I1,rfl,q1⟩
theorem pe_not (ha:PE X a ta):PE X (.UnaryOp .Not a pos) (tNotV ta):=by
 intro pins s σ H Q I h
 refine UnaryOp_ (thn (ha pins s σ H _ I h) fun v s1 ⟨x,H1,I1,r1,q1⟩=>?_)
 obtain ⟨c,rfl,q1⟩:=q1
 cases r1
 exact not_of (wpAny_truthy_bool ⟨.bl (!c),H1,I1,rfl,q1⟩)
def tIf (t:TT) (ta tb:TE):TE:=fun σ H Q=>t σ H fun c H1=>if c=true then ta σ H1 Q else tb σ H1 Q
theorem pe_ifExp {c:Expr} (hc:PT X c tA) (ha:PE X a ta) (hb:PE X b tb):PE X (.IfExp c a b pos) (tIf tA ta tb):=by
 intro pins s σ H Q I h
 refine wpAny_IfExp (thn (hc pins s σ H _ I h) fun d s1 ⟨H1,I1,q1⟩=>?_)
 cases d with
 | true=>exact ha pins s1 σ H1 Q I1 q1
 | false=>exact hb pins s1 σ H1 Q I1 q1
end
end L2
namespace L2
open PySem PySem.Spec PyProof.Rows
def SqL (K:PySem.W.Frag) (H:Hp) (a:Addr) (xs:List V):Prop :=
 Rd H a (.lst xs) ∨
  ∃ (o:Obj) (its:Array Value) (n:Nat),K.lookup a=some o∧o.cls=.type "list" ∧ o.dict=none∧o.data=.seq its n∧its.size ≤ sizeLine∧Vals xs its.toList
def SqT (K:PySem.W.Frag) (H:Hp) (a:Addr) (xs:List V):Prop :=
 Rd H a (.tup xs) ∨
  ∃ (o:Obj) (its:Array Value) (n:Nat),K.lookup a=some o∧o.cls=.type "tuple" ∧ o.data=.seq its n∧its.size ≤ sizeLine∧Vals xs its.toList
def absV:Value→Option V
 | .none=>some .non
 | .bool b=>some (.bl b)
 | .int i _=>some (.int i)
 | .str x _=>some (.str x)
 | .bytes b _=>some (.byt b)
 | .float b _=>some (.flt b)
 | .ref a=>some (.ref a)
 | .type n=>some (.ty n)
 | _=>none
theorem RelV.abs {x:V}{u:Value} (r:RelV x u):absV u=some x:=by
 cases x with
 | non=>cases r;rfl
 | bl _=>cases r;rfl
 | int _=>obtain ⟨t,rfl⟩:=r;rfl
 | str _=>obtain ⟨t,rfl⟩:=r;rfl
 | byt _=>obtain ⟨t,rfl⟩:=r;rfl
 | flt _=>obtain ⟨t,rfl⟩:=r;rfl
 | ref _=>cases r;rfl
 | ty _=>cases r;rfl
theorem RelV.inj {x y:V}{u:Value} (r:RelV x u) (q:RelV y u):x=y:=Option.some.inj (r.abs.symm.trans q.abs)
theorem Vals.inj:∀ {xs ys:List V}{us:List Value},Vals xs us→Vals ys us→xs=ys
 | _,_,_,.nil,.nil=>rfl
 | _,_,_,.cons r t,.cons r' t'=>by rw [r.inj r',Vals.inj t t']
section
variable {X:Cx}{pins:List (Addr × Obj)}{σ:St}{H:Hp}{s:Shared}{a:Addr}{xs ys:List V}
theorem SqL.of {K:PySem.W.Frag} (h:H a=some (.lst xs)):SqL K H a xs:=.inl (.inl h)
theorem SqT.of {K:PySem.W.Frag} (h:H a=some (.tup xs)):SqT K H a xs:=.inl (.inl h)
theorem Inv.list (I:Inv X pins σ H s) (h:SqL X.K H a xs):∃ its:List Value,Vals xs its∧PlainL s.heap a its.toArray∧xs.length ≤ sizeLine:=by
 rcases h with h | ⟨o,its,n,hk,hc,hd,hs,hz,r⟩
 ·obtain ⟨z,its,n,r,e⟩:=h.ok I.hok
  exact ⟨its,r,⟨_,n,e,rfl,rfl,rfl⟩,z⟩
 ·refine ⟨its.toList,r,⟨o,n,I.kIn a o hk,hc,hd,by simpa using hs⟩,?_⟩
  have e:=r.length
  simp only [Array.length_toList] at e
  omega
theorem Inv.tuple (I:Inv X pins σ H s) (h:SqT X.K H a xs):∃ its:List Value,Vals xs its∧IsTup s.heap a its.toArray∧xs.length ≤ sizeLine:=by
 rcases h with h | ⟨o,its,n,hk,hc,hs,hz,r⟩
 ·obtain ⟨z,its,r,p⟩:=h.ok I.hok
  exact ⟨its,r,p,z⟩
 ·refine ⟨its.toList,r,⟨o,I.kIn a o hk,hc,n,by simpa using hs⟩,?_⟩
  have e:=r.length
  simp only [Array.length_toList] at e
  omega
theorem Inv.list_inj (I:Inv X pins σ H s) (h:SqL X.K H a xs) (h':SqL X.K H a ys):xs=ys:=by
 obtain ⟨its,r,⟨o,n,e,_,_,d⟩,_⟩:=I.list h
 obtain ⟨its',r',⟨o',n',e',_,_,d'⟩,_⟩:=I.list h'
 rw [e] at e';cases e'
 rw [d] at d'
 injection d' with d1 _
 have:its=its':=by simpa using congrArg Array.toList d1
 subst this
 exact r.inj r'
theorem Inv.tuple_inj (I:Inv X pins σ H s) (h:SqT X.K H a xs) (h':SqT X.K H a ys):xs=ys:=by
 obtain ⟨its,r,⟨o,e,_,n,d⟩,_⟩:=I.tuple h
 obtain ⟨its',r',⟨o',e',_,n',d'⟩,_⟩:=I.tuple h'
 rw [e] at e';cases e'
 rw [d] at d'
 injection d' with d1 _
 have:its=its':=by simpa using congrArg Array.toList d1
 subst this
 exact r.inj r'
end
section
variable {X:Cx}{pins:List (Addr × Obj)}{σ:St}{H:Hp}{s:Shared}{E:Value→Shared→Prop}
end
section
variable {X:Cx}{st:Stmt}{rest:List Stmt}{t u:TS}{e:Expr}{te:TE}{pos:Pos}
def tNext:TS:=fun D σ H=>D.nx σ H
def tSeq (t u:TS):TS:=fun D σ H=>t { D with nx:=u D } σ H
theorem pss_nil:PSs X [] tNext:=fun _ _ σ H _ I h=>wpAny_execs_nil ⟨σ,H,I,h⟩
theorem pss_cons (h1:PS X st t) (h2:PSs X rest u):PSs X (st::rest) (tSeq t u):=by
 intro pins s σ H D I h
 refine wpAny_execs_cons (thn (h1 pins s σ H { D with nx:=u D } I h) fun f s1 q=>?_)
 cases f with
 | next =>
  obtain ⟨σ',H',I',q⟩:=q
  exact h2 pins s1 σ' H' D I' q
 | ret v=>exact q
 | brk=>exact q
 | cont=>exact q
theorem pss_one (h1:PS X st t):PSs X [st] t:=by
 intro pins s σ H D I h
 refine wpAny_execs_cons (thn (h1 pins s σ H D I h) fun f s1 q=>?_)
 cases f with
 | next=>exact wpAny_execs_nil q
 | ret v=>exact q
 | brk=>exact q
 | cont=>exact q
theorem Inv.quiet {pins:List (Addr × Obj)}{σ:St}{H:Hp}{s:Shared} (I:Inv X pins σ H s):interactive X.env=false:=by simp [interactive,I.ok.kind]
def tDrop (te:TE):TS:=fun D σ H=>te σ H fun _ H1=>D.nx σ H1
theorem ps_expr (he:PE X e te) (hs:swapsWith e none pos.line X.env=pure false:=by rfl):PS X (.Expr e pos) (tDrop te):=by
 intro pins s σ H D I h
 exact wpAny_Expr_any (thn (he pins s σ H _ I h) fun v s1 ⟨x,H1,I1,r1,q1⟩=>⟨σ,H1,I1,q1⟩) I.quiet hs
def tRet (te:TE):TS:=fun D σ H=>te σ H D.rt
theorem ps_ret (he:PE X e te):PS X (.Return (some e) pos) (tRet te):=by
 intro pins s σ H D I h
 exact wpAny_Return_some (thn (he pins s σ H _ I h) fun v s1 ⟨x,H1,I1,r1,q1⟩=>⟨x,σ,H1,I1,r1,q1⟩)
def tRetN:TS:=fun D _ H=>D.rt .non H
theorem ps_retN:PS X (.Return none pos) tRetN:=fun _ _ σ H _ I h=>wpAny_Return_none ⟨.non,σ,H,I,rfl,h⟩
def tIfS (c:TT) (t u:TS):TS:=fun D σ H=>c σ H fun b H1=>if b=true then t D σ H1 else u D σ H1
theorem ps_if {c:Expr}{a b:List Stmt}{tc:TT} (hc:PT X c tc) (ha:PSs X a t) (hb:PSs X b u):PS X (.If c a b pos) (tIfS tc t u):=by
 intro pins s σ H D I h
 refine wpAny_If (thn (hc pins s σ H _ I h) fun d s1 ⟨H1,I1,q1⟩=>?_)
 cases d with
 | true=>exact ha pins s1 σ H1 D I1 q1
 | false=>exact hb pins s1 σ H1 D I1 q1
end
abbrev TG:=V→St→Hp→(St→Hp→Prop)→Prop
abbrev TGs:=List V→St→Hp→(St→Hp→Prop)→Prop
def PG (X:Cx) (target:Expr) (t:TG):Prop :=
 ∀ (pins:List (Addr × Obj)) (s:Shared) (σ:St) (H:Hp) (v:V) (u:Value) (Q:St→Hp→Prop),Inv X pins σ H s→RelV v u→t v σ H Q →
  wpAny (model X.prog X.w) X.A (assign target X.env u) (fun _ s'=>∃ σ' H',Inv X pins σ' H' s'∧Q σ' H') X.xe s
def PGs (X:Cx) (ts:List Expr) (t:TGs):Prop :=
 ∀ (pins:List (Addr × Obj)) (s:Shared) (σ:St) (H:Hp) (vs:List V) (us:List Value) (Q:St→Hp→Prop),Inv X pins σ H s→Vals vs us→t vs σ H Q →
  wpAny (model X.prog X.w) X.A (assignInOrder ((assignEach ts X.env).map (·.2)) us) (fun _ s'=>∃ σ' H',Inv X pins σ' H' s'∧Q σ' H') X.xe s
abbrev TSet:=V→V→V→Hp→(Hp→Prop)→Prop
def PSet (X:Cx) (t:TSet):Prop :=
 ∀ (pins:List (Addr × Obj)) (s:Shared) (σ:St) (H:Hp) (o i v:V) (ov iv u:Value) (Q:Hp→Prop),Inv X pins σ H s→RelV o ov→RelV i iv→RelV v u→t o i v H Q →
  wpAny (model X.prog X.w) X.A (setItem ov iv u) (fun _ s'=>∃ H',Inv X pins σ H' s'∧Q H') X.xe s
section
variable {X:Cx}{pos:Pos}
def gName (i:Nat):TG:=fun v σ H Q=>Q (σ.set i (some v)) H
theorem pg_name {i:Nat}{x:Str} (hN:X.N.Nodup) (hi:X.N[i]?=some x) (hx:Loc X.env.scope x) (hf:X.fn x=true ∨ X.env.scope.names.lookup x=some .local:=by first | exact .inl rfl | exact .inr rfl | assumption):PG X (.Name x pos) (gName i):=by
 intro pins s σ H v u Q I r h
 exact wpAny_assign_Name (store_ok I hN hi hx r (fun s' I'=>⟨_,H,I',h⟩) hf)
def gNil:TGs:=fun vs σ H Q=>vs=[]∧Q σ H
def gCons (t:TG) (u:TGs):TGs:=fun vs σ H Q=>∃ v r,vs=v::r∧t v σ H fun σ' H'=>u r σ' H' Q
theorem pgs_nil:PGs X [] gNil:=by
 intro pins s σ H vs us Q I r h
 obtain ⟨e,h⟩:=h
 subst e
 cases r
 exact assignInOrder_nil ⟨σ,H,I,h⟩
theorem pgs_cons {e:Expr}{es:List Expr}{t:TG}{u:TGs} (h1:PG X e t) (h2:PGs X es u)
  (hs:(assignEach (e::es) X.env).map (·.2)=assign e X.env::(assignEach es X.env).map (·.2):=by rfl):PGs X (e::es) (gCons t u):=by
 intro pins s σ H vs us Q I r h
 obtain ⟨v,vr,e1,h⟩:=h
 subst e1
 cases r with
 | cons r rr =>
  rw [hs]
  refine assignInOrder_cons (thn (h1 pins s σ H _ _ _ I r h) fun _ s1 ⟨σ1,H1,I1,q1⟩=>?_)
  exact h2 pins s1 σ1 H1 _ _ Q I1 rr q1
def gTup (K:PySem.W.Frag) (n:Nat) (t:TGs):TG:=fun v σ H Q=>∃ a xs,v=.ref a∧SqT K H a xs∧xs.length=n∧t xs σ H Q
theorem pg_tup {es:List Expr}{k:Nat}{t:TGs}{n:Nat} (hc:X.calm=true) (h:PGs X es t)
  (hn:(assignEach es X.env).length=n:=by rfl) (hst:(assignEach es X.env).findIdx? (·.1)=none:=by rfl):PG X (.Tuple es k pos) (gTup X.K n t):=by
 intro pins s σ H v u Q I r hw
 obtain ⟨a,xs,e1,hq,hl,hw⟩:=hw
 subst e1
 cases r
 obtain ⟨its,rv,ht,hz⟩:=I.tuple hq
 refine assign_Tuple_tuple (I.ok.hd hc) ht (by simp [hn,← hl,rv.length]) hst fun h' hx=>?_
 have I1:Inv X pins σ H { s with heap:=h' }:=I.kept (t':=s.toks) fun b o e=>hx b o (Nat.ne_of_lt (Heap.lt_size e)) e
 exact h pins _ σ H xs _ Q I1 (by simpa using rv) hw
def gSub (to ti:TE) (t:TSet):TG:=fun v σ H Q=>to σ H fun o H1=>ti σ H1 fun i H2=>t o i v H2 fun H3=>Q σ H3
theorem pg_sub {o i:Expr}{to ti:TE}{t:TSet} (ho:PE X o to) (hi:PE X i ti) (hs:PSet X t)
  (ha:∀ v,assign (.Subscript o i pos) X.env v=(do
   let ov ← holding [v] (eval o X.env)
   let iv ← holding [v,ov] (eval i X.env)
   standAt pos
   holding [v,ov,iv] (setItem ov iv v)
   release [v,ov,iv] []):=by intro _;rfl):PG X (.Subscript o i pos) (gSub to ti t):=by
 intro pins s σ H v u Q I r h
 rw [ha]
 refine wpAny_bind (wpAny_holding (thn (ho pins s σ H _ I h) fun ov s1 ⟨x,H1,I1,r1,q1⟩=>?_))
 refine wpAny_bind (wpAny_holding (thn (hi pins s1 σ H1 _ I1 q1) fun iv s2 ⟨y,H2,I2,r2,q2⟩=>?_))
 refine wpAny_bind (wpAny_standAt (wpAny_bind (wpAny_holding (thn (hs pins s2 σ H2 x y v ov iv u _ I2 r1 r2 r q2) fun _ s3 ⟨H3,I3,q3⟩=>?_))))
 exact wpAny_release ⟨σ,H3,I3,q3⟩
def tAsg (te:TE) (g:TG):TS:=fun D σ H=>te σ H fun x H1=>g x σ H1 D.nx
theorem ps_asg {tg e:Expr}{te:TE}{g:TG} (he:PE X e te) (hg:PG X tg g) (hs:swapsWithSole [tg] e pos.line X.env=pure false:=by rfl) (hw:swappedStores [tg] e X.env=pure none:=by rfl)
  (h1:(assignEach [tg] X.env).map (·.2)=[assign tg X.env]:=by rfl):PS X (.Assign [tg] e pos) (tAsg te g):=by
 intro pins s σ H D I h
 refine wpAny_Assign_stores (thn (he pins s σ H _ I h) fun v s1 ⟨x,H1,I1,r1,q1⟩=>?_) hs hw
 rw [h1]
 exact thn (hg pins s1 σ H1 x v _ I1 r1 q1) fun _ s2 q=>q
theorem ps_set {i:Nat}{x:Str}{e:Expr}{te:TE}{pos':Pos} (hN:X.N.Nodup) (hi:X.N[i]?=some x) (hx:Loc X.env.scope x) (he:PE X e te) (hs:swapsWith e (some (.Name x pos')) pos.line X.env=pure false:=by rfl) (hf:X.fn x=true ∨ X.env.scope.names.lookup x=some .local:=by first | exact .inl rfl | exact .inr rfl | assumption) :
  PS X (.Assign [.Name x pos'] e pos) (tAsg te (gName i)):=by
 intro pins s σ H D I h
 refine wpAny_Assign_Name (thn (he pins s σ H _ I h) fun v s1 ⟨y,H1,I1,r1,q1⟩=>?_) hs
 exact store_ok I1 hN hi hx r1 (fun s2 I2=>⟨_,H1,I2,q1⟩) hf
end
section
variable {X:Cx}{pos:Pos}
end
structure It where
 go:Nat→Hp→Prop
 yld:Nat→Hp→V→Hp→Prop
 stop:Nat→Hp→Prop
def FpOk (X:Cx) (pins:List (Addr × Obj)) (H:Hp) (b:Addr):Prop :=
 H b=none∧b ≠ X.env.locals∧b ∉ X.fs∧(b ∈ X.ex ∨ X.s₀.heap.objs.size ≤ b)∧(∀ x c,X.env.cells.lookup x=some c→c ≠ b)∧∀ p ∈ X.pn ++ pins,p.1 ≠ b
theorem Inv.fpOk {X:Cx}{pins:List (Addr × Obj)}{σ:St}{H H':Hp}{s:Shared}{b:Addr} (I:Inv X pins σ H s) (hb:s.heap.objs.size ≤ b) (hn:H' b=none):FpOk X pins H' b:=by
 refine ⟨hn,Nat.ne_of_gt (Nat.lt_of_lt_of_le I.lt hb),I.nofs hb,.inr (Nat.le_trans I.sz hb),fun x c e z=>?_,fun p hp z=>?_⟩
 ·obtain ⟨v,q⟩:=I.cell x c e
  exact absurd (Nat.lt_of_lt_of_le q.lt (by rw [z];exact hb)) (Nat.lt_irrefl _)
 ·exact absurd (Nat.lt_of_lt_of_le (Heap.lt_size (I.pin p hp).1) (by rw [z];exact hb)) (Nat.lt_irrefl _)
structure Turn (P:Program) (w:World) (K:PySem.W.Frag) (tg:Expr) (J:It) (fp:List Addr) (it:Addr) (tn:Nat→Heap→Prop):Prop where
 mem:it ∈ fp
 obj:∀ i h,tn i h→∀ b ∈ fp,∃ o,h.get? b=some o∧∀ v,o.data ≠ .cell v
 keep:∀ i h h',tn i h→(∀ b ∈ fp,∀ o,h.get? b=some o→h'.get? b=some o)→tn i h'
 item:∀ (X:Cx),X.prog=P→X.w=w→X.K=K→X.calm=true→∀ (i:Nat) (pins:List (Addr × Obj)) (s:Shared) (σ:St) (H:Hp) (E:Value→Shared→Prop),Inv X pins σ H s→(∀ b ∈ fp,FpOk X pins H b)→tn i s.heap→J.go i H →
  wpAny (model P w) X.A (pyNext (.ref it)) (fun r s1=>∃ u,r=some u ∧
   wpAny (model P w) X.A (letOwnedTupleGo tg (.ref it) u) (fun _ s2=>∃ x H',Inv X pins σ H' s2∧RelV x u∧J.yld i H x H'∧tn (i+1) s2.heap∧∀ b ∈ fp,H' b=none) E s1) E s
 done:∀ (X:Cx),X.prog=P→X.w=w→X.K=K→X.calm=true→∀ (i:Nat) (pins:List (Addr × Obj)) (s:Shared) (σ:St) (H:Hp) (E:Value→Shared→Prop),Inv X pins σ H s→(∀ b ∈ fp,FpOk X pins H b)→tn i s.heap→J.stop i H →
  wpAny (model P w) X.A (pyNext (.ref it)) (fun r s1=>r=none∧Inv X pins σ H s1) E s
 self:∀ (A:Around) (i:Nat) (s:Shared) (Q:Value→Shared→Prop) (E:Value→Shared→Prop),tn i s.heap→Q (.ref it) s→wpAny (model P w) A (pyIter (.ref it)) Q E s
abbrev TI:=St→Hp→(It→Hp→Prop)→Prop
def PIE (X:Cx) (pins:List (Addr × Obj)) (σ:St) (tg:Expr) (R:It→Hp→Prop) (itv:Value) (s2:Shared):Prop :=
 ∃ (it:Addr) (fp:List Addr) (tn:Nat→Heap→Prop) (J:It) (H':Hp),itv=.ref it∧Inv X pins σ H' s2∧Turn X.prog X.w X.K tg J fp it tn∧tn 0 s2.heap∧(∀ b ∈ fp,FpOk X pins H' b)∧R J H'
def PI (X:Cx) (tg iter:Expr) (wi:TI):Prop :=
 ∀ (pins:List (Addr × Obj)) (s:Shared) (σ:St) (H:Hp) (R:It→Hp→Prop),Inv X pins σ H s→wi σ H R →
  wpAny (model X.prog X.w) X.A (eval iter X.env) (fun v s1=>wpAny (model X.prog X.w) X.A (pyIter v) (PIE X pins σ tg R) X.xe s1) X.xe s
theorem go_of {M:Model}{A:Around}{E:Value→Shared→Prop}{s:Shared}{tg:Expr}{it:Addr}{u:Value}{o:Obj}{n:String}{vs:Array Value}{Q:Unit→Shared→Prop} (ho:s.heap.get? it=some o) (hc:o.cls=.type n) (hd:o.data=.fields vs)
    (hn:["enumerate", "zip", "dict_itemiterator", "dict_reverseitemiterator", "odict_iterator", "itertools.zip_longest", "itertools.pairwise"].contains n=false) (hQ:Q () s):wpAny M A (letOwnedTupleGo tg (.ref it) u) Q E s:=by
  unfold letOwnedTupleGo
  cases tg <;> first
    | exact wpAny_pure hQ
    | (cases u <;> first
        | exact wpAny_pure hQ
        | (refine wpAny_bind (wpAny_load ho ?_)
           rw [hc,hd]
           show wpAny M A (if (["enumerate", "zip", "dict_itemiterator", "dict_reverseitemiterator", "odict_iterator", "itertools.zip_longest", "itertools.pairwise"].contains n && vs[0]? == some (rawInt _))=true then _ else _) Q E s
           rw [if_neg (by intro h;rw [hn,Bool.false_and] at h;cases h)]
           exact wpAny_pure hQ))
def Itl (K:PySem.W.Frag) (a:Addr):It :=
 ⟨fun i H=>∃ xs x,SqL K H a xs∧xs[i]?=some x,fun i H x H'=>H'=H∧∀ xs,SqL K H a xs→xs[i]?=some x,fun i H=>∃ xs,SqL K H a xs∧xs.length ≤ i⟩
def Itt (K:PySem.W.Frag) (a:Addr):It :=
 ⟨fun i H=>∃ xs x,SqT K H a xs∧xs[i]?=some x,fun i H x H'=>H'=H∧∀ xs,SqT K H a xs→xs[i]?=some x,fun i H=>∃ xs,SqT K H a xs∧xs.length ≤ i⟩
def Itr (lo:Int) (n:Nat):It:=⟨fun i _=>i < n,fun i H x H'=>H'=H∧x=.int (lo+i),fun i _=>n ≤ i⟩
theorem turn_list {P:Program}{w:World}{K:PySem.W.Frag}{tg:Expr} (a it:Addr):Turn P w K tg (Itl K a) [it] it (fun i h=>h.IsListIter it a i) where
 mem:=by simp
 obj:=fun i h st b hb=>by
  have e:b=it:=by simpa using hb
  subst e
  obtain ⟨o,e,c,d⟩:=st
  exact ⟨o,e,fun v z=>by rw [d] at z;cases z⟩
 keep:=fun i h h' st k=>st.at fun o e=>k it (by simp) o e
 item:=by
  intro X hP hw hK hc i pins s σ H E I hf st hg
  subst hP hw hK
  obtain ⟨xs,x,hq,hx⟩:=hg
  obtain ⟨its,rv,p,hz⟩:=I.list hq
  obtain ⟨u,hu,ru⟩:=rv.get hx
  obtain ⟨f0,f1,f2,f3,f4,f5⟩:=hf it (by simp)
  refine wpAny_pyNext_list_item st p.isList (x:=u) (by simpa using hu) fun h' st' sb=>?_
  have I1:Inv X pins σ H { s with heap:=h' }:=I.turned (t':=s.toks) (fun b o hb e=>(sb.2 b hb).trans e) f0 f1 f3 f4 f5
  obtain ⟨o,e,c,d⟩:=id st'
  exact ⟨u,rfl,go_of (s:={ s with heap:=h' }) e c d (by decide) ⟨x,H,I1,ru,⟨rfl,fun ys hy=>by rw [I.list_inj hy hq];exact hx⟩,st',fun b hb=>(hf b hb).1⟩⟩
 done:=by
  intro X hP hw hK hc i pins s σ H E I hf st hg
  subst hP hw hK
  obtain ⟨xs,hq,hx⟩:=hg
  obtain ⟨its,rv,p,hz⟩:=I.list hq
  obtain ⟨f0,f1,f2,f3,f4,f5⟩:=hf it (by simp)
  have hl:=rv.length
  exact wpAny_pyNext_list_end (I.ok.hd hc) st p.isList (by simp;omega) fun h' eb=>⟨rfl,I.turned (t':=s.toks) (fun b o hb e=>eb b o hb e) f0 f1 f3 f4 f5⟩
 self:=fun _ _ _ _ _ st h=>wpAny_pyIter_listiter st h
theorem turn_tuple {P:Program}{w:World}{K:PySem.W.Frag}{tg:Expr} (a it:Addr):Turn P w K tg (Itt K a) [it] it (fun i h=>h.IsTupleIter it a i) where
 mem:=by simp
 obj:=fun i h st b hb=>by
  have e:b=it:=by simpa using hb
  subst e
  obtain ⟨o,e,c,d⟩:=st
  exact ⟨o,e,fun v z=>by rw [d] at z;cases z⟩
 keep:=fun i h h' st k=>st.at fun o e=>k it (by simp) o e
 item:=by
  intro X hP hw hK hc i pins s σ H E I hf st hg
  subst hP hw hK
  obtain ⟨xs,x,hq,hx⟩:=hg
  obtain ⟨its,rv,p,hz⟩:=I.tuple hq
  obtain ⟨u,hu,ru⟩:=rv.get hx
  obtain ⟨f0,f1,f2,f3,f4,f5⟩:=hf it (by simp)
  refine wpAny_pyNext_tuple_item st (show s.heap.IsTuple a its.toArray from p) (x:=u) (by simpa using hu) fun h' st' sb=>?_
  have I1:Inv X pins σ H { s with heap:=h' }:=I.turned (t':=s.toks) (fun b o hb e=>(sb.2 b hb).trans e) f0 f1 f3 f4 f5
  obtain ⟨o,e,c,d⟩:=id st'
  exact ⟨u,rfl,go_of (s:={ s with heap:=h' }) e c d (by decide) ⟨x,H,I1,ru,⟨rfl,fun ys hy=>by rw [I.tuple_inj hy hq];exact hx⟩,st',fun b hb=>(hf b hb).1⟩⟩
 done:=by
  intro X hP hw hK hc i pins s σ H E I hf st hg
  subst hP hw hK
  obtain ⟨xs,hq,hx⟩:=hg
  obtain ⟨its,rv,p,hz⟩:=I.tuple hq
  obtain ⟨f0,f1,f2,f3,f4,f5⟩:=hf it (by simp)
  have hl:=rv.length
  exact wpAny_pyNext_tuple_end (I.ok.hd hc) st (show s.heap.IsTuple a its.toArray from p) (by simp;omega) fun h' eb=>⟨rfl,I.turned (t':=s.toks) (fun b o hb e=>eb b o hb e) f0 f1 f3 f4 f5⟩
 self:=fun _ _ _ _ _ st h=>wpAny_pyIter_tupleiter st h
theorem turn_range {P:Program}{w:World}{K:PySem.W.Frag}{tg:Expr} (it:Addr) (lo:Int) (n:Nat):Turn P w K tg (Itr lo n) [it] it (fun i h=>IsRangeIter h it (lo+(i:Nat) * 1) ((n:Int) - (i:Nat)) 1) where
 mem:=by simp
 obj:=fun i h st b hb=>by
  have e:b=it:=by simpa using hb
  subst e
  exact ⟨_,st,fun v z=>by
   have z':Data.fields _=Data.cell v:=z
   cases z'⟩
 keep:=fun i h h' st k=>k it (by simp) _ st
 item:=by
  intro X hP hw hK hc i pins s σ H E I hf st hg
  subst hP hw hK
  obtain ⟨f0,f1,f2,f3,f4,f5⟩:=hf it (by simp)
  have W:=Walks.range (prog:=X.prog) (w:=X.w) (I.ok.hd hc) it lo 1 n
  refine W.item i s _ _ hg st fun v h' tk hv st' kk=>?_
  obtain ⟨t,rfl⟩:=hv
  have I1:Inv X pins σ H { s with heap:=h',toks:=tk }:=I.turned (fun b o hb e=>kk b o (by simpa using hb) e) f0 f1 f3 f4 f5
  refine ⟨_,rfl,go_of (s:={ s with heap:=h',toks:=tk }) (n := "range_iterator") st' rfl rfl (by decide) ⟨.int (lo+i),H,I1,⟨t,?_⟩,⟨rfl,rfl⟩,st',fun b hb=>(hf b hb).1⟩⟩
  rw [Int.mul_one]
 done:=by
  intro X hP hw hK hc i pins s σ H E I hf st hg
  subst hP hw hK
  obtain ⟨f0,f1,f2,f3,f4,f5⟩:=hf it (by simp)
  exact wpAny_pyNext_range_end (I.ok.hd hc) st (by have:n ≤ i:=hg;omega) fun h' eb=>⟨rfl,I.turned (t':=s.toks) (fun b o hb e=>eb b o hb e) f0 f1 f3 f4 f5⟩
 self:=fun _ _ _ _ _ st h=>wpAny_pyIter_rangeiter st h
end L2
namespace L2
open PySem PySem.Spec PyProof.Rows
section
variable {X:Cx}{tg:Expr}
theorem range_it {pins:List (Addr × Obj)}{σ:St}{H:Hp}{s:Shared}{R:It→Hp→Prop}{E:Value→Shared→Prop}{lo hi:Int}{t u v:Tok}{tk:Nat} (I:Inv X pins σ H s) (h1:-(2 ^ 62) ≤ lo) (h2:lo < 2 ^ 62) (h3:-(2 ^ 62) ≤ hi) (h4:hi < 2 ^ 62)
  (q:R (Itr lo (hi - lo).toNat) H):wpAny (model X.prog X.w) X.A (pyIter (.ref s.heap.objs.size)) (PIE X pins σ tg R) E { s with heap:=s.heap.push { cls:=.type "range", data:=.fields #[.int lo t,.int hi u,.int 1 v] },toks:=tk }:=by
 refine wpAny_pyIter_range (IsRange.new ..) (small_one h1 h2 h3 h4) ?_
 have I1:Inv X pins σ H { s with heap:=s.heap.push { cls:=.type "range", data:=.fields #[.int lo t,.int hi u,.int 1 v] },toks:=tk }:=I.kept fun b o e=>Heap.get?_push_of_some _ e
 refine ⟨(s.heap.push { cls:=.type "range", data:=.fields #[.int lo t,.int hi u,.int 1 v] }).objs.size,[(s.heap.push { cls:=.type "range", data:=.fields #[.int lo t,.int hi u,.int 1 v] }).objs.size],_,_,H,rfl,
  I1.kept (t':=tk) fun b o e=>Heap.get?_push_of_some _ e,turn_range _ lo (hi - lo).toNat,?_,fun b hb=>?_,q⟩
 ·have e1:lo+((0:Nat):Int) * 1=lo:=by simp
  have e2:(((hi - lo).toNat:Nat):Int) - ((0:Nat):Int)=Builtin.Range.rangeSize lo hi 1:=by rw [rangeSize_one];split <;> omega
  show IsRangeIter _ _ (lo+((0:Nat):Int) * 1) ((((hi - lo).toNat:Nat):Int) - ((0:Nat):Int)) 1
  rw [e1,e2]
  exact Heap.get?_push_size _ rfl
 ·have e:b=(s.heap.push { cls:=.type "range", data:=.fields #[.int lo t,.int hi u,.int 1 v] }).objs.size:=by simpa using hb
  subst e
  exact I1.fpOk (Nat.le_refl _) (I1.hok.fresh (Nat.le_refl _))
def iRng1 (ta:TA):TI:=fun σ H R=>ta σ H fun vs H1=>∃ j:Int,vs=[.int j]∧-(2 ^ 62) ≤ j∧j < 2 ^ 62∧R (Itr 0 j.toNat) H1
def iRng2 (ta:TA):TI:=fun σ H R=>ta σ H fun vs H1=>∃ i j:Int,vs=[.int i,.int j]∧(-(2 ^ 62) ≤ i∧i < 2 ^ 62∧-(2 ^ 62) ≤ j∧j < 2 ^ 62)∧R (Itr i (j - i).toNat) H1
theorem pi_range1 {a:Expr}{ta:TA}{p pos:Pos} (hg:Gl X "range") (hm:X.mg "range" = none) (ha:PA X [a] ta) (hs:starEach [a] X.env=[(false,eval a X.env)]:=by rfl):PI X tg (.Call (.Name "range" p) [a] [] pos) (iRng1 ta):=by
 intro pins s σ H R I h
 refine Call_ (ld_blt I hg hm boot_range (PyProof.Rows.callWith_type1 (thn (ha pos pins s σ H _ I h) fun us s1 ⟨vs,H1,I1,r1,q1⟩=>?_) hs rfl))
 obtain ⟨j,e,q1,q2,q⟩:=q1
 subst e
 cases r1 with
 | cons r rr =>
  cases rr
  obtain ⟨t,rfl⟩:=r
  exact call_range_1 (range_it I1 (by omega) (by omega) q1 q2 (by simpa using q))
theorem pi_range2 {a b:Expr}{ta:TA}{p pos:Pos} (hg:Gl X "range") (hm:X.mg "range" = none) (ha:PA X [a,b] ta) (hs:starEach [a,b] X.env=[(false,eval a X.env),(false,eval b X.env)]:=by rfl) (hs2:starEach [b] X.env=[(false,eval b X.env)]:=by rfl) :
  PI X tg (.Call (.Name "range" p) [a,b] [] pos) (iRng2 ta):=by
 intro pins s σ H R I h
 refine Call_ (ld_blt I hg hm boot_range (PyProof.Rows.callWith_type1 (thn (ha pos pins s σ H _ I h) fun us s1 ⟨vs,H1,I1,r1,q1⟩=>?_) (by rw [hs,hs2]) (by rw [hs2];rfl)))
 obtain ⟨i,j,e,⟨q1,q2,q3,q4⟩,q⟩:=q1
 subst e
 cases r1 with
 | cons r rr =>
  cases rr with
  | cons r' rr =>
   cases rr
   obtain ⟨t,rfl⟩:=r
   obtain ⟨t',rfl⟩:=r'
   exact call_range_2 (range_it I1 q1 q2 q3 q4 q)
def tFor (wi:TI) (g:TG) (tb:TS):TS:=fun D σ H=>wi σ H fun J H1=>∃ W:Nat→Nat→St→Hp→Prop,(∃ m,W 0 m σ H1)∧∀ i m σ H,W i m σ H →
 (J.stop i H∧D.nx σ H) ∨ (J.go i H∧∃ N:St→Hp→Prop,(∀ σ' H',N σ' H'→∃ m',m' < m∧W (i+1) m' σ' H')∧∀ x H',J.yld i H x H'→g x σ H' fun σ2 H2=>tb { D with nx:=N,ct:=N,bk:=D.nx } σ2 H2)
def pinsAt (fp:List Addr) (h:Heap):List (Addr × Obj):=fp.filterMap fun b=>(h.get? b).map fun o=>(b,o)
theorem mem_pinsAt {fp:List Addr}{h:Heap}{b:Addr}{o:Obj} (hb:b ∈ fp) (e:h.get? b=some o):(b,o) ∈ pinsAt fp h:=List.mem_filterMap.mpr ⟨b,hb,by rw [e];rfl⟩
theorem of_pinsAt {fp:List Addr}{h:Heap}{p:Addr × Obj} (hp:p ∈ pinsAt fp h):p.1 ∈ fp∧h.get? p.1=some p.2:=by
 obtain ⟨b,hb,e⟩:=List.mem_filterMap.mp hp
 cases q:h.get? b with
 | none=>rw [q] at e;cases e
 | some o =>
  rw [q] at e
  have e':(b,o)=p:=Option.some.inj e
  subst e'
  exact ⟨hb,q⟩
theorem Inv.pinned {pins:List (Addr × Obj)}{σ:St}{H:Hp}{s:Shared}{fp:List Addr} (I:Inv X pins σ H s) (hf:∀ b ∈ fp,FpOk X pins H b) (ho:∀ b ∈ fp,∃ o,s.heap.get? b=some o∧∀ v,o.data ≠ .cell v):Inv X (pins ++ pinsAt fp s.heap) σ H s :=
 I.pins_of fun p hp=>(List.mem_append.mp hp).elim (fun z=>I.pin p (List.mem_append_right _ z)) fun z=>by
  obtain ⟨hb,e⟩:=of_pinsAt z
  obtain ⟨f0,f1,f2,_⟩:=hf p.1 hb
  obtain ⟨o,e',d⟩:=ho p.1 hb
  rw [e] at e';cases e'
  exact ⟨e,f0,f1,f2,d⟩
theorem Inv.unpinned {pins pl:List (Addr × Obj)}{σ:St}{H:Hp}{s:Shared} (I:Inv X (pins ++ pl) σ H s):Inv X pins σ H s:=I.pins_of fun p hp=>I.pin p (List.mem_append_right _ (List.mem_append_left _ hp))
theorem ps_for {iter:Expr}{body:List Stmt}{wi:TI}{g:TG}{tb:TS}{pos:Pos} (hp:PassesOwn (model X.prog X.w) X.A X.env X.xe) (hc:X.calm=true) (hi:PI X tg iter wi) (hg:PG X tg g) (hb:PSs X body tb)
  (hs:∀ x,foldedSetIterable iter X.env x=pure x:=by intro _;rfl):PS X (.For tg iter body [] pos) (tFor wi g tb):=by
 intro pins s σ H D I h
 refine wpAny_For (thn (hi pins s σ H _ I h) fun v s1 h1=>thn h1 fun itv s2 h2=>?_) hs
 obtain ⟨it,fp,tn,J,H2,e,I2,T,st2,f2,W,⟨m0,w0⟩,turn⟩:=h2
 subst e
 have stat:∀ {H':Hp},(∀ b ∈ fp,H' b=none)→∀ b ∈ fp,FpOk X pins H' b:=fun hn b hb=>⟨hn b hb,(f2 b hb).2⟩
 refine codeAny_forLoop_any (fun n s'=>∃ i σ' H',Inv X pins σ' H' s'∧tn i s'.heap∧(∀ b ∈ fp,H' b=none)∧W i n σ' H') ?_ m0 ⟨0,σ,H2,I2,st2,fun b hb=>(f2 b hb).1,w0⟩
 rintro n s3 ⟨i,σ3,H3,I3,st3,fr3,w3⟩
 rcases turn i n σ3 H3 w3 with ⟨stop,qn⟩ | ⟨go,N,hN,step⟩
 ·refine wpAny_passesOwn hp (thn (T.done X rfl rfl rfl hc i pins s3 σ3 H3 X.xe I3 (stat fr3) st3 stop) fun r s4 ⟨hr,I4⟩=>?_)
  subst hr
  exact wpAny_execs_nil ⟨σ3,H3,I4,qn⟩
 ·refine wpAny_passesOwn hp (thn (T.item X rfl rfl rfl hc i pins s3 σ3 H3 X.xe I3 (stat fr3) st3 go) fun r s4 ⟨u,hr,h4⟩=>?_)
  subst hr
  refine wpAny_passesOwn hp (thn h4 fun _ s5 ⟨x,H5,I5,r5,y5,st5,fr5⟩=>?_)
  have I5':=I5.pinned (stat fr5) (T.obj _ _ st5)
  refine wpAny_passesOwn hp (thn (hg _ s5 σ3 H5 x u _ I5' r5 (step x H5 y5)) fun _ s6 ⟨σ6,H6,I6,q6⟩=>?_)
  refine wpAny_passesOwn hp (thn (hb _ s6 σ6 H6 _ I6 q6) fun f s7 q7=>?_)
  have again:∀ {σ7:St}{H7:Hp},Inv X (pins ++ pinsAt fp s5.heap) σ7 H7 s7→N σ7 H7→∃ m,m < n∧∃ i σ' H',Inv X pins σ' H' s7∧tn i s7.heap∧(∀ b ∈ fp,H' b=none)∧W i m σ' H':=fun {σ7 H7} I7 n7=>by
   obtain ⟨m',hm,w7⟩:=hN σ7 H7 n7
   refine ⟨m',hm,i+1,σ7,H7,I7.unpinned,T.keep _ _ _ st5 fun b hb o e=>(I7.pin (b,o) (List.mem_append_right _ (List.mem_append_right _ (mem_pinsAt hb e)))).1,fun b hb=>?_,w7⟩
   obtain ⟨o,e,d⟩:=T.obj _ _ st5 b hb
   exact (I7.pin (b,o) (List.mem_append_right _ (List.mem_append_right _ (mem_pinsAt hb e)))).2.1
  cases f with
  | next=>obtain ⟨σ7,H7,I7,n7⟩:=q7;exact again I7 n7
  | cont=>obtain ⟨σ7,H7,I7,n7⟩:=q7;exact again I7 n7
  | brk=>obtain ⟨σ7,H7,I7,q7⟩:=q7;exact ⟨σ7,H7,I7.unpinned,q7⟩
  | ret v=>obtain ⟨x7,σ7,H7,I7,r7,q7⟩:=q7;exact ⟨x7,σ7,H7,I7.unpinned,r7,q7⟩
end
end L2
namespace L2
open PySem PySem.Spec PyProof.Rows
abbrev R2:=V→V→Hp→VK→Prop
def OpR (X:Cx) (f:Value→Value→Sem Value) (r:R2):Prop :=
 ∀ (pins:List (Addr × Obj)) (s:Shared) (σ:St) (H:Hp) (x y:V) (v u:Value) (Q:VK),Inv X pins σ H s→RelV x v→RelV y u→r x y H Q →
  wpAny (model X.prog X.w) X.A (f v u) (EP X pins σ Q) X.xe s
def CallR (X:Cx) (f:Value) (r:List V→Hp→VK→Prop):Prop :=
 ∀ (pins:List (Addr × Obj)) (s:Shared) (σ:St) (H:Hp) (xs:List V) (us:List Value) (Q:VK),Inv X pins σ H s→Vals xs us→r xs H Q →
  wpAny (model X.prog X.w) X.A (call f us) (EP X pins σ Q) X.xe s
def TruR (X:Cx) (r:V→Hp→(Bool→Hp→Prop)→Prop):Prop :=
 ∀ (pins:List (Addr × Obj)) (s:Shared) (σ:St) (H:Hp) (x:V) (v:Value) (Q:Bool→Hp→Prop),Inv X pins σ H s→RelV x v→r x H Q →
  wpAny (model X.prog X.w) X.A (truthy v) (TP X pins σ Q) X.xe s
def tOp (r:R2) (ta tb:TE):TE:=fun σ H Q=>ta σ H fun x H1=>tb σ H1 fun y H2=>r x y H2 Q
def tUn (r:V→Hp→VK→Prop) (ta:TE):TE:=fun σ H Q=>ta σ H fun x H1=>r x H1 Q
def rI (C:Int→Int→Prop) (g:Int→Int→V):R2:=fun x y H Q=>∃ i j,x=.int i∧y=.int j∧C i j∧Q (g i j) H
def rI0 (g:Int→Int→V):R2:=fun x y H Q=>∃ i j,x=.int i∧y=.int j∧Q (g i j) H
section
variable {X:Cx}{a b c:Expr}{ta tb tc:TE}{pos:Pos}
theorem binT (ha:PE X a ta) (hb:PE X b tb) {pins:List (Addr × Obj)}{s:Shared}{σ:St}{H:Hp}{R:V→V→Hp→Prop} (I:Inv X pins σ H s)
  (h:ta σ H fun x H1=>tb σ H1 fun y H2=>R x y H2) {Q:Value→Shared→Prop}{f:Value→Value→Sem Value}
  (hf:∀ v u s2 x y H2,Inv X pins σ H2 s2→RelV x v→RelV y u→R x y H2→wpAny (model X.prog X.w) X.A (f v u) Q X.xe s2) :
  wpAny (model X.prog X.w) X.A (eval a X.env) (fun v s₁=>wpAny (model X.prog X.w) X.A (eval b X.env) (fun u s₂=>wpAny (model X.prog X.w) X.A (f v u) Q X.xe s₂) X.xe s₁) X.xe s:=by
 refine thn (ha pins s σ H _ I h) fun v s1 ⟨x,H1,I1,r1,q1⟩=>?_
 refine thn (hb pins s1 σ H1 _ I1 q1) fun u s2 ⟨y,H2,I2,r2,q2⟩=>?_
 exact hf v u s2 x y H2 I2 r1 r2 q2
theorem pe_op {op:Operator}{r:R2} (ho:OpR X (binaryOp op) r) (ha:PE X a ta) (hb:PE X b tb):PE X (.BinOp a op b pos) (tOp r ta tb):=by
 intro pins s σ H Q I h
 exact wpAny_BinOp (binT ha hb I h fun v u s2 x y H2 I2 rx ry q=>ho pins s2 σ H2 x y v u Q I2 rx ry q)
theorem opI {f:Value→Value→Sem Value}{C:Int→Int→Prop}{g:Int→Int→Int}
  (rule:∀ (i j:Int) (t u:Tok) (s:Shared) (Q:Value→Shared→Prop) (E:Value→Shared→Prop),C i j→Q (.int (g i j) s.toks) { s with toks:=s.toks+1 }→wpAny (model X.prog X.w) X.A (f (.int i t) (.int j u)) Q E s) :
  OpR X f (rI C fun i j=>.int (g i j)):=by
 intro pins s σ H x y v u Q I rx ry h
 obtain ⟨i,j,rfl,rfl,hc,q⟩:=h
 obtain ⟨t,rfl⟩:=rx
 obtain ⟨t',rfl⟩:=ry
 exact rule i j t t' s _ _ hc ⟨.int (g i j),H,I.tok _,⟨_,rfl⟩,q⟩
theorem opI0 {f:Value→Value→Sem Value}{g:Int→Int→Int}
  (rule:∀ (i j:Int) (t u:Tok) (s:Shared) (Q:Value→Shared→Prop) (E:Value→Shared→Prop),Q (.int (g i j) s.toks) { s with toks:=s.toks+1 }→wpAny (model X.prog X.w) X.A (f (.int i t) (.int j u)) Q E s) :
  OpR X f (rI0 fun i j=>.int (g i j)):=by
 intro pins s σ H x y v u Q I rx ry h
 obtain ⟨i,j,rfl,rfl,q⟩:=h
 obtain ⟨t,rfl⟩:=rx
 obtain ⟨t',rfl⟩:=ry
 exact rule i j t t' s _ _ ⟨.int (g i j),H,I.tok _,⟨_,rfl⟩,q⟩
theorem opB0 {f:Value→Value→Sem Value}{g:Int→Int→Bool}
  (rule:∀ (i j:Int) (t u:Tok) (s:Shared) (Q:Value→Shared→Prop) (E:Value→Shared→Prop),Q (.bool (g i j)) s→wpAny (model X.prog X.w) X.A (f (.int i t) (.int j u)) Q E s) :
  OpR X f (rI0 fun i j=>.bl (g i j)):=by
 intro pins s σ H x y v u Q I rx ry h
 obtain ⟨i,j,rfl,rfl,q⟩:=h
 obtain ⟨t,rfl⟩:=rx
 obtain ⟨t',rfl⟩:=ry
 exact rule i j t t' s _ _ ⟨.bl (g i j),H,I,rfl,q⟩
def CDiv (i j:Int):Prop:=0 < j∧j < 1073741824
def CPow (i j:Int):Prop:=0 ≤ j∧j ≤ 1000000∧i.natAbs < 2 ^ 64
def CMul (i j:Int):Prop:=(-(2 ^ 64) < i∧i < 2 ^ 64) ∨ (-(2 ^ 64) < j∧j < 2 ^ 64)
theorem CMul.ok {i j:Int} (h:CMul i j):IntMulOk i j:=by
 rcases h with ⟨h1,h2⟩ | ⟨h1,h2⟩
 ·exact .of_left (intBits_le_64 h1 h2)
 ·exact .of_right (intBits_le_64 h1 h2)
theorem op_add:OpR X (binaryOp .Add) (rI0 fun i j=>.int (i+j)):=opI0 fun _ _ _ _ _ _ _ q=>add_int q
theorem op_sub:OpR X (binaryOp .Sub) (rI0 fun i j=>.int (i - j)):=opI0 fun _ _ _ _ _ _ _ q=>sub_int q
theorem op_mul:OpR X (binaryOp .Mult) (rI CMul fun i j=>.int (i * j)):=opI fun _ _ _ _ _ _ _ hc q=>mul_int q hc.ok
theorem op_fdiv:OpR X (binaryOp .FloorDiv) (rI CDiv fun i j=>.int (i / j)):=opI fun i j _ _ _ _ _ hc q=>by
 have h1:(0:Int) < j:=hc.1
 have h2:j < 1073741824:=hc.2
 exact floordiv_int (by omega) (by rw [Int.fdiv_eq_ediv_of_nonneg i (by omega)];exact q) (.inl (PyProof.noPylong_small (by omega)))
theorem op_mod:OpR X (binaryOp .Mod) (rI (fun _ j=>0 < j) fun i j=>.int (i % j)):=opI fun i j _ _ _ _ _ hc q=>by
 have h1:(0:Int) < j:=hc
 exact mod_int' (by omega) (by rw [Int.fmod_eq_emod_of_nonneg i (by omega)];exact q)
theorem op_pow:OpR X (binaryOp .Pow) (rI CPow fun i j=>.int (i ^ j.toNat)):=opI fun _ _ _ _ _ _ _ hc q=>pow_int_small hc.1 hc.2.1 hc.2.2 q
theorem op_shl:OpR X (binaryOp .LShift) (rI CPow fun i j=>.int (i * 2 ^ j.toNat)):=opI fun _ _ _ _ _ _ _ hc q=>lshift_int_small hc.1 hc.2.1 hc.2.2 q
end
def scal:V→V→Bool
 | .non,.non=>true | .non,.int _=>true | .int _,.non=>true | .non,.bl _=>true | .bl _,.non=>true | .non,.str _=>true | .str _,.non=>true
 | .int _,.int _=>true | .bl _,.bl _=>true | .str _,.str _=>true | .byt _,.byt _=>true
 | .int _,.str _=>true | .str _,.int _=>true | .bl _,.str _=>true | .str _,.bl _=>true
 | _,_=>false
section
variable {X:Cx}{a b c:Expr}{ta tb tc:TE}{pos:Pos}
theorem fin_bl {pins:List (Addr × Obj)}{σ:St}{H:Hp}{s:Shared}{Q:VK}{k k':Bool} (I:Inv X pins σ H s) (q:Q (.bl k) H) (e:k=k'):EP X pins σ Q (.bool k') s:=by
 subst e
 exact ⟨.bl k,H,I,rfl,q⟩
theorem op_lt:OpR X (compareOp .Lt) (rI0 fun i j=>.bl (decide (i < j))):=opB0 fun _ _ _ _ _ _ _ q=>lt_int q
theorem op_gt:OpR X (compareOp .Gt) (rI0 fun i j=>.bl (decide (j < i))):=opB0 fun _ _ _ _ _ _ _ q=>gt_int q
theorem op_ge:OpR X (compareOp .GtE) (rI0 fun i j=>.bl (decide (j ≤ i))):=opB0 fun _ _ _ _ _ _ _ q=>ge_int q
theorem op_isN:OpR X (compareOp .Is) (fun x y H Q=>y=.non∧Q (.bl (decide (x=.non))) H):=by
 intro pins s σ H x y v u Q I rx ry h
 obtain ⟨rfl,q⟩:=h
 cases ry
 refine is_none_gen (fin_bl I q ?_)
 cases x <;> first
  | (cases rx;rfl)
  | (obtain ⟨t,rfl⟩:=rx;rfl)
theorem op_notN:OpR X (compareOp .IsNot) (fun x y H Q=>y=.non∧Q (.bl (!decide (x=.non))) H):=by
 intro pins s σ H x y v u Q I rx ry h
 obtain ⟨rfl,q⟩:=h
 cases ry
 refine isnot_none_gen (fin_bl I q ?_)
 cases x <;> first
  | (cases rx;rfl)
  | (obtain ⟨t,rfl⟩:=rx;rfl)
theorem OpR.or {f:Value→Value→Sem Value}{r r':R2} (h:OpR X f r) (h':OpR X f r'):OpR X f (fun x y H Q=>r x y H Q ∨ r' x y H Q):=by
 intro pins s σ H x y v u Q I rx ry q
 rcases q with q | q
 ·exact h pins s σ H x y v u Q I rx ry q
 ·exact h' pins s σ H x y v u Q I rx ry q
theorem nomark (b:Expr) {op:CmpOp} (h:op ≠ .In:=by decide) (h2:op ≠ .NotIn:=by decide):behindInMarks op b=false:=by
 have e1:(op == CmpOp.In)=false:=by cases op <;> first | rfl | exact absurd rfl h
 have e2:(op == CmpOp.NotIn)=false:=by cases op <;> first | rfl | exact absurd rfl h2
 cases b <;> simp [behindInMarks,e1,e2]
theorem pe_cmpR {op:CmpOp}{r:R2} (ho:OpR X (compareOp op) r) (ha:PE X a ta) (hb:PE X b tb) (hm:behindInMarks op b=false):PE X (.Compare a [op] [b] pos) (tOp r ta tb):=by
 intro pins s σ H Q I h
 exact wpAny_Compare1 (binT ha hb I h fun v u s2 x y H2 I2 rx ry q=>ho pins s2 σ H2 x y v u Q I2 rx ry q) hm
def tTest (t:TE):TT:=fun σ H Q=>t σ H fun x H'=>∃ k,x=.bl k∧Q k H'
theorem pt_cmpR {op:CmpOp}{r:R2} (ho:OpR X (compareOp op) r) (ha:PE X a ta) (hb:PE X b tb) (hm:behindInMarks op b=false):PT X (.Compare a [op] [b] pos) (tTest (tOp r ta tb)):=by
 intro pins s σ H Q I h
 refine wpAny_isTrue_Compare1 (thn (ha pins s σ H _ I h) fun v s1 ⟨x,H1,I1,r1,q1⟩=>thn (hb pins s1 σ H1 _ I1 q1) fun u s2 ⟨y,H2,I2,r2,q2⟩ =>
  thn (ho pins s2 σ H2 x y v u _ I2 r1 r2 q2) fun c s3 ⟨z,H3,I3,r3,k,e,q3⟩=>?_) hm
 subst e
 cases r3
 exact wpAny_truthy_bool ⟨H3,I3,q3⟩
def TruV (K:PySem.W.Frag) (x:V) (H:Hp) (k:Bool):Prop :=
 match x with
 | .non=>k=false
 | .bl b=>k=b
 | .int i=>k=(i != 0)
 | .str y=>y.length ≤ sizeLine∧k=((y.length:Int) != 0)
 | .byt y=>y.size ≤ sizeLine∧k=((y.size:Int) != 0)
 | .ref p=>(∃ xs,SqL K H p xs∧k=!xs.isEmpty) ∨ (∃ xs,SqT K H p xs∧k=!xs.isEmpty) ∨ ∃ kvs,H p=some (.dK kvs)∧k=!kvs.isEmpty
 | _=>False
theorem isEmpty_kv {κ:Type}{kvs:List (κ × V)}{vs:List (κ × Value)} (r:KV kvs vs):(!vs.isEmpty)=!kvs.isEmpty:=by
 cases r <;> rfl
theorem isEmpty_of {xs:List V}{its:List Value} (r:Vals xs its):(!its.toArray.isEmpty)=!xs.isEmpty:=by
 cases r <;> simp
theorem line63:(sizeLine:Nat) < 2 ^ 63:=by rw [sizeLine_eq];decide
theorem tru_ok:TruR X (fun x H Q=>∃ k,TruV X.K x H k∧Q k H):=by
 intro pins s σ H x v Q I rx h
 obtain ⟨k,e,q⟩:=h
 have hl:=line63
 have hs:sizeLine=16777216:=sizeLine_eq
 cases x with
 | non =>
  cases rx
  have e':k=false:=e
  subst e'
  exact truthy_none ⟨H,I,q⟩
 | bl b =>
  cases rx
  have e':k=b:=e
  subst e'
  exact wpAny_truthy_bool ⟨H,I,q⟩
 | int i =>
  obtain ⟨t,rfl⟩:=rx
  have e':k=(i != 0):=e
  subst e'
  exact PySem.P.truthy_int ⟨H,I,q⟩
 | str y =>
  obtain ⟨t,rfl⟩:=rx
  obtain ⟨hy,e'⟩:y.length ≤ sizeLine∧k=((y.length:Int) != 0):=e
  subst e'
  exact PySem.P.truthy_str (by omega) ⟨H,I.tok _,q⟩
 | byt y =>
  obtain ⟨t,rfl⟩:=rx
  obtain ⟨hy,e'⟩:y.size ≤ sizeLine∧k=((y.size:Int) != 0):=e
  subst e'
  exact PySem.W.truthy_bytes (by omega) ⟨H,I.tok _,q⟩
 | ref p =>
  cases rx
  have e':(∃ xs,SqL X.K H p xs∧k=!xs.isEmpty) ∨ (∃ xs,SqT X.K H p xs∧k=!xs.isEmpty) ∨ ∃ kvs,H p=some (.dK kvs)∧k=!kvs.isEmpty:=e
  rcases e' with ⟨xs,hx,e'⟩ | ⟨xs,hx,e'⟩ | ⟨kvs,hx,e'⟩
  ·subst e'
   obtain ⟨its,r,pl,hz⟩:=I.list hx
   have hlen:=r.length
   exact wpAny_truthy_list pl.isList (by simp only [List.size_toArray];omega) ⟨H,I.tok _,by rw [isEmpty_of r];exact q⟩
  ·subst e'
   obtain ⟨its,r,pl,hz⟩:=I.tuple hx
   have hlen:=r.length
   exact truthy_tuple pl (by simp only [List.size_toArray];omega) ⟨H,I.tok _,by rw [isEmpty_of r];exact q⟩
  ·subst e'
   obtain ⟨hz,hS,vs,r,m⟩:kvs.length ≤ sizeLine∧(p == sysModules)=false∧∃ vs,KV kvs vs∧s.heap.DictOf (mixKind X.prog X.w) p vs:=I.hok p _ hx
   have hlen:kvs.length=vs.length:=Paired.length r
   exact wpAny_truthy_dict hS m (by omega) ⟨H,I.tok _,by rw [isEmpty_kv r];exact q⟩
 | _=>exact (show False from e).elim
theorem pt_truth (ha:PE X a ta) (he:∀ whole,isTrue a X.env whole=(do let v ← whole;standAt a.pos;holding [v] (truthy v))) :
  PT X a (fun σ H Q=>ta σ H fun x H'=>∃ k,TruV X.K x H' k∧Q k H'):=by
 intro pins s σ H Q I h
 exact isTrue_plain (thn (ha pins s σ H _ I h) fun v s1 ⟨x,H1,I1,r1,q1⟩=>tru_ok pins s1 σ H1 x v Q I1 r1 q1) (he _)
theorem vals1 {x:V}{us:List Value} (r:Vals [x] us):∃ u,us=[u]∧RelV x u:=by
 cases r with
 | cons r1 r2=>cases r2;exact ⟨_,rfl,r1⟩
theorem vals2 {x y:V}{us:List Value} (r:Vals [x,y] us):∃ u w',us=[u,w']∧RelV x u∧RelV y w':=by
 cases r with
 | cons r1 r2 =>
  cases r2 with
  | cons r3 r4=>cases r4;exact ⟨_,_,rfl,r1,r3⟩
theorem call_min2 (hc:X.calm=true):CallR X (.builtin "min") (fun xs H Q=>∃ i j,xs=[.int i,.int j]∧Q (.int (if j < i then j else i)) H):=by
 intro pins s σ H xs us Q I r h
 obtain ⟨i,j,rfl,q⟩:=h
 obtain ⟨u,w',rfl,⟨t,rfl⟩,⟨t',rfl⟩⟩:=vals2 r
 refine min_two_ints (I.ok.hd hc) fun h' tk k=>⟨_,H,I.kept k,?_,q⟩
 by_cases hj:j < i
 ·rw [if_pos hj,if_pos hj];exact ⟨_,rfl⟩
 ·rw [if_neg hj,if_neg hj];exact ⟨_,rfl⟩
end
end L2
namespace L2
open PySem PySem.Spec PyProof.Rows
structure ObjM (h:Heap) (x dx C:Addr) (mA:Str→Option Value):Prop where
 obj:h.get? x=some (PySem.W.instObj C dx)
 ns:h.Ns1 dx mA
 ne:dx ≠ x
theorem lookIn_ns {h:Heap}{dx:Addr}{mA:Str→Option Value} (n:h.Ns1 dx mA):∃ od,h.get? dx=some od∧∀ name,PySem.W.lookIn name od=some (mA name):=by
 obtain ⟨o,es,ep,ho,hd,hk,_,hm⟩:=n
 refine ⟨o,ho,fun name=>?_⟩
 have e:=hm name
 unfold nsFind findBy at e
 rw [← Array.find?_toList] at e
 unfold PySem.W.lookIn
 rw [hd]
 dsimp only
 split
 ·rename_i y q
  rw [q] at e
  exact congrArg some e
 ·rename_i q
  rw [q] at e
  have a:es.toList.any (·.refKey)=false:=by
   rw [List.any_eq_false]
   intro y hy
   obtain ⟨z,t,hkey⟩:=hk y (Array.mem_toList_iff.mp hy)
   simp [DictEntry.refKey,hkey]
  have a':¬ es.toList.any (·.refKey)=true:=by rw [a];exact Bool.false_ne_true
  rw [if_neg a']
  exact congrArg some e
theorem ObjM.look {h:Heap}{x dx C:Addr}{mA:Str→Option Value} (I:ObjM h x dx C mA):∃ od,PySem.W.InstAt h x (PySem.W.instObj C dx) C (some od)∧∀ name,PySem.W.lookIn name od=some (mA name) :=
 let ⟨od,ho,hl⟩:=lookIn_ns I.ns
 ⟨od,⟨I.obj,rfl,rfl,ho⟩,hl⟩
section
variable {prog:Program}{w:World}{A:Around}{E:Value→Shared→Prop}{s:Shared}{K:PySem.W.Frag}{x dx C f:Addr}{mA:Str→Option Value}{name:Str}{v:Value}
theorem get_map {expr:Bool}{Q:Value→Shared→Prop} (X:K.In s.heap) (I:ObjM s.heap x dx C mA) (hg:PySem.W.plainGet K C name=true) (hh:PySem.W.hasDictIn K C=true)
  (ha:PySem.W.findIn K (.ref C) name=some none) (hv:mA name=some v) (hv':PySem.W.handedIn v=true) (h:Q v { s with toks:=s.toks+1 }) :
  wpAny (model prog w) A (getAttr (.ref x) name expr) Q E s:=by
 obtain ⟨od,J,hl⟩:=I.look
 exact PySem.W.get_value X J (PySem.W.plainGet_of hg).1 (PySem.W.findObj_own hh ha rfl (by rw [hl,hv])) hv' h
theorem get_meth {pl:Sem Bool}{Q:Value × List Value→Shared→Prop} (X:K.In s.heap) (I:ObjM s.heap x dx C mA) (hg:PySem.W.plainGet K C name=true)
  (hf:PySem.W.findIn K (.ref C) name=some (some (.ref f))) (ht:PySem.W.isFn K (.ref f)=true) (hv:mA name=none) (h:Q (.ref f,[.ref x]) s) :
  wpAny (model prog w) A (getMethod (.ref x) name pl) Q E s:=by
 obtain ⟨od,J,hl⟩:=I.look
 exact PySem.W.method_fn X J (PySem.W.plainGet_of hg).1 (PySem.W.plainGet_of hg).2 hf (beq_iff_eq.mp ht) (by show (PySem.W.lookIn name od).map (·.isSome)=some false;rw [hl,hv];rfl) h
theorem set_map {ns:List Str}{Q:Unit→Shared→Prop} (X:K.In s.heap) (I:ObjM s.heap x dx C mA)
  (hs:PySem.W.findIn K (.ref C) "__setattr__" = some (some (.builtin "object.__setattr__"))) (hp:PySem.W.plainOver K C=true) (ht:PySem.W.takerIn K C name=some none) (hh:PySem.W.hasDictIn K C=true)
  (hw:PySem.Within mA ns) (hsz:ns.length ≤ sizeLine)
  (h:∀ h',ObjM h' x dx C (fun y=>if y=name then some v else mA y)→Heap.SameBut dx s.heap h'→Q () { s with heap:=h',toks:=s.toks+2 }) :
  wpAny (model prog w) A (setAttr (.ref x) name v) Q E s:=by
 obtain ⟨od,J,hl⟩:=I.look
 refine PySem.W.set_plain X J hs (PySem.W.osa_open (s:={ s with toks:=s.toks+1 }) (r:=none) X J hp ht fun b=>?_)
 obtain ⟨cd,hc,hd'⟩:=PySem.W.any_some hh
 have hx:s.heap.get? x=some ⟨.ref C,some dx,.plain,#[]⟩:=I.obj
 refine wpAny_bind (wpAny_pure (wpAny_bind (wpAny_bind (wpAny_loadPart hx (wpAny_bind (PySem.W.Looks.here (s:={ s with toks:=s.toks+1 }) (PySem.W.looks_clsIn X hc) ?_))))))
 rw [hd']
 refine wpAny_pure (a:=some dx) (wpAny_bind (wpAny_pure (wpAny_bind ?_)))
 refine wpAny_nsSet1 (s:={ s with toks:=s.toks+1 }) I.ns fun h' hn2 hs2=>?_
 obtain ⟨oD,esD,epD,hoD,hdD,hcD⟩:=hn2.count (PySem.Within.cons name v hw)
 refine wpAny_bind (wpAny_lookBehind hoD (by rw [hdD];exact pastItsLine_dict (Nat.le_trans hcD (by rw [List.length_cons];omega))) ?_)
 exact wpAny_pure (h _ ⟨(hs2.2 _ (Ne.symm I.ne)).trans I.obj,hn2,I.ne⟩ hs2)
theorem make_map {R:Result→Shared→Prop}{vs:List Value}{kw:List (Str × Value)} (X:K.In s.heap) (hm:PySem.W.makesIn K C=true)
  (hi:PySem.W.findIn K (.ref C) "__init__" = some (some (.ref f))) (hf:PySem.W.typeIn K (.ref f)=some (.type "function"))
  (h:codeAny (model prog w) (A.under (.builtin "type.__call__" ⟨.ref C::vs,kw⟩)) (.call (.ref f) ⟨.ref (s.heap.objs.size+1)::vs,kw⟩) (PySem.W.InitBack (s.heap.objs.size+1) R)
   { s with heap:=(s.heap.push PySem.W.emptyDict).push (PySem.W.instObj C s.heap.objs.size) }) :
  codeAny (model prog w) A (.call (.ref C) ⟨vs,kw⟩) R s:=by
 obtain ⟨hh,g,d,t,os⟩:=s
 exact PySem.W.make_core (PySem.W.makes_of X hm) (PySem.W.looks_findIn X hi) (fun self=>PySem.W.bind_fn X self hf) (.inl rfl) h
end
def putF (f:Str) (v:V):List (Str × V)→List (Str × V)
 | []=>[(f,v)]
 | (g,x)::r=>if g=f then (g,v)::r else (g,x)::putF f v r
theorem lookup_putF (f g:Str) (v:V):∀ fs:List (Str × V),(putF f v fs).lookup g=if g=f then some v else fs.lookup g
 | []=>by
  show List.lookup g [(f,v)]=_
  by_cases h:g=f
  ·have hb:(g == f)=true:=beq_iff_eq.mpr h
   simp only [List.lookup,hb,if_pos h]
  ·have hb:(g == f)=false:=beq_eq_false_iff_ne.mpr h
   simp only [List.lookup,hb,if_neg h]
 | (k,x)::r=>by
  have ih:=lookup_putF f g v r
  rw [show putF f v ((k,x)::r)=(if k=f then (k,v)::r else (k,x)::putF f v r) from rfl]
  by_cases hk:k=f
  ·rw [if_pos hk]
   by_cases h:g=k
   ·have hb:(g == k)=true:=beq_iff_eq.mpr h
    simp only [List.lookup,hb,if_pos (h.trans hk)]
   ·have hb:(g == k)=false:=beq_eq_false_iff_ne.mpr h
    simp only [List.lookup,hb,if_neg (fun e:g=f=>h (e.trans hk.symm))]
  ·rw [if_neg hk]
   by_cases h:g=k
   ·have hb:(g == k)=true:=beq_iff_eq.mpr h
    simp only [List.lookup,hb,if_neg (fun e:g=f=>hk (h.symm.trans e))]
   ·have hb:(g == k)=false:=beq_eq_false_iff_ne.mpr h
    simp only [List.lookup,hb]
    exact ih
theorem keys_putF (f:Str) (v:V):∀ fs:List (Str × V),f ∈ (putF f v fs).map (·.1)∧∀ g,g ∈ fs.map (·.1)→g ∈ (putF f v fs).map (·.1)
 | []=>⟨by simp [putF],fun g h=>by simp at h⟩
 | (k,x)::r=>by
  obtain ⟨i1,i2⟩:=keys_putF f v r
  rw [show putF f v ((k,x)::r)=(if k=f then (k,v)::r else (k,x)::putF f v r) from rfl]
  by_cases hk:k=f
  ·rw [if_pos hk]
   subst hk
   exact ⟨by simp,fun g h=>by simpa using h⟩
  ·rw [if_neg hk]
   refine ⟨?_,fun g h=>?_⟩
   ·rw [List.map_cons]
    exact List.mem_cons_of_mem _ i1
   ·rw [List.map_cons] at h ⊢
    rcases List.mem_cons.mp h with e | e
    ·exact List.mem_cons.mpr (.inl e)
    ·exact List.mem_cons_of_mem _ (i2 g e)
theorem length_putF (f:Str) (v:V):∀ fs:List (Str × V),(putF f v fs).length ≤ fs.length+1
 | []=>by simp [putF]
 | (k,x)::r=>by
  have ih:=length_putF f v r
  rw [show putF f v ((k,x)::r)=(if k=f then (k,v)::r else (k,x)::putF f v r) from rfl]
  by_cases hk:k=f
  ·rw [if_pos hk,List.length_cons,List.length_cons];omega
  ·rw [if_neg hk,List.length_cons,List.length_cons];omega
theorem RelO.some_of {v:V}{o:Option Value} (r:RelO (some v) o):∃ u,o=some u∧RelV v u:=by
 cases o with
 | none=>exact (show False from r).elim
 | some u=>exact ⟨u,rfl,r⟩
theorem RelO.none_of {o:Option Value} (r:RelO none o):o=none:=by
 cases o with
 | none=>rfl
 | some u=>exact (show False from r).elim
theorem handed_of {v:V}{u:Value} (r:RelV v u):PySem.W.handedIn u=true:=by
 cases v with
 | non=>cases (show u=Value.none from r);rfl
 | bl b=>cases (show u=Value.bool b from r);rfl
 | int i=>obtain ⟨t,e⟩:=(show ∃ t,u=Value.int i t from r);cases e;rfl
 | str x=>obtain ⟨t,e⟩:=(show ∃ t,u=Value.str x t from r);cases e;rfl
 | byt b=>obtain ⟨t,e⟩:=(show ∃ t,u=Value.bytes b t from r);cases e;rfl
 | flt b=>obtain ⟨t,e⟩:=(show ∃ t,u=Value.float b t from r);cases e;rfl
 | ref a=>cases (show u=Value.ref a from r);rfl
 | ty n=>cases (show u=Value.type n from r);rfl
section
variable {P:Program}{w:World}{H H':Hp}{h h':Heap}{a C dx:Addr}{fs fs':List (Str × V)}
theorem ins_get (hok:HOk P w H h) (e:H a=some (.ins C dx fs)):∃ mA,ObjM h a dx C mA∧(∀ f,RelO (fs.lookup f) (mA f))∧PySem.Within mA (fs.map (·.1))∧fs.length ≤ 1000∧H dx=some (.own a):=by
 obtain ⟨d,z,ne,ob,mA,n,r,q⟩:=(show ObjOk P w H h a (.ins C dx fs) from hok a _ e)
 exact ⟨mA,⟨ob,n,ne⟩,r,q,z,d⟩
end
structure Cls (K:PySem.W.Frag) (C:Addr):Prop where
 pg:PySem.W.plainGet K C Str.empty=true
 hd:PySem.W.hasDictIn K C=true
 po:PySem.W.plainOver K C=true
 sa:PySem.W.findIn K (.ref C) "__setattr__" = some (some (.builtin "object.__setattr__"))
theorem Cls.get {K:PySem.W.Frag}{C:Addr} (c:Cls K C) (f:Str):PySem.W.plainGet K C f=true:=c.pg
def NoAttr (K:PySem.W.Frag) (C:Addr) (f:Str):Prop:=PySem.W.findIn K (.ref C) f=some none
theorem NoAttr.taker {K:PySem.W.Frag}{C:Addr}{f:Str} (n:NoAttr K C f):PySem.W.takerIn K C f=some none:=by
 unfold PySem.W.takerIn
 rw [show PySem.W.findIn K (.ref C) f=some none from n]
 rfl
structure Con (K:PySem.W.Frag) (C:Addr) (f:Str) (v:V) (u:Value):Prop where
 at_:PySem.W.findIn K (.ref C) f=some (some u)
 rel:RelV v u
 get:PySem.W.specialIn K u "__get__" = some none
 cp:PySem.W.copiedNames.contains f=false
structure Meth (K:PySem.W.Frag) (C:Addr) (m:Str) (f:Addr):Prop where
 at_:PySem.W.findIn K (.ref C) m=some (some (.ref f))
 fn:PySem.W.isFn K (.ref f)=true
 kp:PySem.W.keepIn K (.ref f)=true
section
variable {X:Cx}{pins:List (Addr × Obj)}{σ:St}{H:Hp}{s:Shared}{a C dx:Addr}{fs:List (Str × V)}{f:Str}{v:V}{A:Around}{E:Value→Shared→Prop}
theorem getattr_ok {b:Bool}{Q:Value→Shared→Prop} (I:Inv X pins σ H s) (e:H a=some (.ins C dx fs)) (c:Cls X.K C) (n:NoAttr X.K C f) (l:fs.lookup f=some v)
  (h:∀ u s',Inv X pins σ H s'→RelV v u→Q u s'):wpAny (model X.prog X.w) A (getAttr (.ref a) f b) Q E s:=by
 obtain ⟨mA,O,r,_,_,_⟩:=ins_get I.hok e
 obtain ⟨u,hu,ru⟩:=RelO.some_of (v:=v) (o:=mA f) (by rw [← l];exact r f)
 exact get_map I.kIn O (c.get f) c.hd n hu (handed_of ru) (h u _ (I.tok _) ru)
theorem getmeth_ok {m:Str}{g:Addr}{pl:Sem Bool}{Q:Value × List Value→Shared→Prop} (I:Inv X pins σ H s) (e:H a=some (.ins C dx fs)) (c:Cls X.K C) (k:Meth X.K C m g) (l:fs.lookup m=none)
  (h:Q (.ref g,[.ref a]) s):wpAny (model X.prog X.w) A (getMethod (.ref a) m pl) Q E s:=by
 obtain ⟨mA,O,r,_,_,_⟩:=ins_get I.hok e
 have hn:mA m=none:=RelO.none_of (by rw [← l];exact r m)
 exact get_meth I.kIn O (c.get m) k.at_ k.fn hn h
theorem setattr_ok {y:V}{u:Value}{Q:Unit→Shared→Prop} (I:Inv X pins σ H s) (e:H a=some (.ins C dx fs)) (c:Cls X.K C) (n:NoAttr X.K C f) (hl:fs.length < 1000) (ry:RelV y u)
  (h:∀ s',Inv X pins σ (upd H a (.ins C dx (putF f y fs))) s'→Q () s'):wpAny (model X.prog X.w) A (setAttr (.ref a) f u) Q E s:=by
 obtain ⟨mA,O,r,wi,_,ho⟩:=ins_get I.hok e
 have hz:(fs.map (·.1)).length ≤ sizeLine:=by rw [List.length_map,sizeLine_eq];omega
 refine set_map I.kIn O c.sa c.po n.taker c.hd wi hz fun h' O' sb=>h _ ?_
 have hd:∃ o,h'.get? dx=some o:=let ⟨o,_,_,e',_⟩:=O'.ns;⟨o,e'⟩
 refine I.write (x:=a) (e:=dx) (by rw [e];exact True.intro) (.inr ho) (fun b q hb z=>(sb.2 b hb).trans z) hd ?_
 refine ⟨by rw [upd_ne O.ne];exact ho,?_,O.ne,O'.obj,_,O'.ns,fun g=>?_,fun g hg=>?_⟩
 ·have:=length_putF f y fs;omega
 ·show RelO ((putF f y fs).lookup g) (if g=f then some u else mA g)
  rw [lookup_putF]
  by_cases q:g=f
  ·rw [if_pos q,if_pos q];exact ry
  ·rw [if_neg q,if_neg q];exact r g
 ·by_cases q:g=f
  ·rw [q];exact (keys_putF f y fs).1
  ·refine (keys_putF f y fs).2 g (wi g fun z=>hg ?_)
   show (if g=f then some u else mA g)=none
   rw [if_neg q];exact z
theorem Inv.made (I:Inv X pins σ H s):Inv X pins σ (upd (upd H s.heap.objs.size (.own (s.heap.objs.size+1))) (s.heap.objs.size+1) (.ins C s.heap.objs.size []))
  { s with heap:=(s.heap.push PySem.W.emptyDict).push (PySem.W.instObj C s.heap.objs.size) }:=by
 have e1:(s.heap.push PySem.W.emptyDict).get? s.heap.objs.size=some PySem.W.emptyDict:=Heap.get?_push_size s.heap rfl
 have e2:((s.heap.push PySem.W.emptyDict).push (PySem.W.instObj C s.heap.objs.size)).get? (s.heap.objs.size+1)=some (PySem.W.instObj C s.heap.objs.size):=by
  have:=Heap.get?_push_size (s.heap.push PySem.W.emptyDict) (o:=PySem.W.instObj C s.heap.objs.size) rfl
  rwa [Heap.size_push] at this
 have e3:(s.heap.push PySem.W.emptyDict).Ns s.heap.objs.size (fun _=>none):=⟨PySem.W.emptyDict,#[],_,e1,rfl,(fun e he=>absurd he (by simp)),fun _=>rfl⟩
 have I1:=I.laid (a:=s.heap.objs.size) (o:=.own (s.heap.objs.size+1)) (h':=s.heap.push PySem.W.emptyDict) (t':=s.toks) (fun b u q=>Heap.get?_push_of_some _ q) (Nat.le_refl _) ⟨_,e1⟩
 refine I1.laid (a:=s.heap.objs.size+1) (o:=.ins C s.heap.objs.size []) (t':=s.toks) (fun b u q=>Heap.get?_push_of_some _ q) (Nat.le_of_eq (Heap.size_push _ _)) ?_
 have ne:s.heap.objs.size ≠ s.heap.objs.size+1:=Nat.ne_of_lt (Nat.lt_succ_self _)
 refine ⟨by rw [upd_ne ne,upd_same],Nat.zero_le _,ne,e2,fun _=>none,(Heap.Ns1.of_empty e3).at fun o q=>Heap.get?_push_of_some _ q,fun _=>True.intro,fun y hy=>absurd rfl hy⟩
theorem attr_of {prog:Program}{w:World}{env:Env}{e:Expr}{f:Str}{pos:Pos}{s:Shared}{Q:Value→Shared→Prop} (hb:attributeBase e f env (eval e env)=eval e env)
  (h:wpAny (model prog w) A (eval e env) (fun o s₁=>wpAny (model prog w) A (getAttr o f true) Q E s₁) E s):wpAny (model prog w) A (eval (.Attribute e f pos) env) Q E s :=
 Attribute_any_ h (by rw [arm_eval_Attribute,hb])
end
def tFld (K:PySem.W.Frag) (ta:TE) (f:Str):TE:=fun σ H Q=>ta σ H fun x H1=>∃ a C dx fs v,x=.ref a∧H1 a=some (.ins C dx fs)∧Cls K C∧NoAttr K C f∧fs.lookup f=some v∧Q v H1
def sFld (K:PySem.W.Frag) (ta tv:TE) (f:Str):TS:=fun D σ H=>tv σ H fun y H1=>ta σ H1 fun x H2=>∃ a C dx fs,x=.ref a∧H2 a=some (.ins C dx fs)∧Cls K C∧NoAttr K C f∧fs.length < 1000 ∧
 D.nx σ (upd H2 a (.ins C dx (putF f y fs)))
section
variable {X:Cx}{o e value:Expr}{f:Str}{pos pos' tpos:Pos}{ta tv:TE}
theorem pe_fld (he:PE X e ta) (hb:attributeBase e f X.env (eval e X.env)=eval e X.env):PE X (.Attribute e f pos) (tFld X.K ta f):=by
 intro pins s σ H Q I h
 refine attr_of hb (thn (he pins s σ H _ I h) fun u s1 ⟨x,H1,I1,rx,a,C,dx,fs,v,ex,ea,c,n,l,q⟩=>?_)
 subst ex
 obtain rfl:u=Value.ref a:=rx
 exact getattr_ok I1 ea c n l fun u' s2 I2 ru=>⟨v,H1,I2,ru,q⟩
theorem ps_fld (ha:PE X o ta) (hv:PE X value tv) (hs:swapsWith value (some (.Attribute o f pos')) pos.line X.env=pure false):PS X (.Assign [.Attribute o f pos'] value pos) (sFld X.K ta tv f):=by
 intro pins s σ H D I h
 refine plainObj_wpAny_Assign_Attribute (thn (hv pins s σ H _ I h) fun u s1 ⟨y,H1,I1,ry,q⟩=>thn (ha pins s1 σ H1 _ I1 q) fun ov s2 ⟨x,H2,I2,rx,a,C,dx,fs,ex,ea,c,n,l,q2⟩=>?_) hs
 subst ex
 obtain rfl:ov=Value.ref a:=rx
 exact setattr_ok I2 ea c n l ry fun s3 I3=>⟨σ,_,I3,q2⟩
end
section
variable {X:Cx}{pins:List (Addr × Obj)}{σ:St}{H:Hp}{s:Shared}{A:Around}{E:Value→Shared→Prop}{Q:Value→Shared→Prop}{c:Value}{b:Bool}
inductive TyOf (K:PySem.W.Frag) (H:Hp):V→Value→Prop where
 | non:TyOf K H .non (.type "NoneType")
 | bl (x:Bool):TyOf K H (.bl x) (.type "bool")
 | int (i:Int):TyOf K H (.int i) (.type "int")
 | str (x:Str):TyOf K H (.str x) (.type "str")
 | flt (x:UInt64):TyOf K H (.flt x) (.type "float")
 | lst {a:Addr}{xs:List V} (e:H a=some (.lst xs)):TyOf K H (.ref a) (.type "list")
 | frz {a:Addr}{o:Obj}{xs:List V} (e:H a=some (.frz o (.lst xs))):TyOf K H (.ref a) (.type "list")
 | tup {a:Addr}{xs:List V} (e:H a=some (.tup xs)):TyOf K H (.ref a) (.type "tuple")
 | dK {a:Addr}{kvs:List (Key × V)} (e:H a=some (.dK kvs)):TyOf K H (.ref a) (.type "dict")
 | dT {a:Addr}{kvs:List (List Key × V)} (e:H a=some (.dT kvs)):TyOf K H (.ref a) (.type "dict")
 | ins {a C dx:Addr}{fs:List (Str × V)} (e:H a=some (.ins C dx fs)) (cl:Cls K C) (ha:PySem.W.findIn K (.ref C) "__class__" = some (some (.builtin "object.__class__")))
   (hn:PySem.W.specialIn K (.builtin "object.__class__") "__get__" = some (some (.builtin "getset_descriptor.__get__"))) (htk:PySem.W.takesIn K (.builtin "object.__class__")=some true)
   (hm:PySem.W.mroIn K C (.type "object")=some true):TyOf K H (.ref a) (.ref C)
end
end L2
namespace L2
open PySem PySem.Spec PyProof.Rows
structure Room (k:Nat) (A:Around):Prop where
 hd:A.handled=none
 dp:A.depth+3 * k+5 < recursionLimit
 un:A.units+16 * k+200 < cLine
theorem Room.mono {j k:Nat}{A:Around} (r:Room k A) (h:j ≤ k):Room j A:=⟨r.hd,by have:=r.dp;omega,by have:=r.un;omega⟩
theorem Room.deeper {k:Nat}{A:Around} (r:Room (k+1) A) (env:Env):Room k (A.deeper env) :=
 ⟨r.hd,by have:=r.dp;show A.depth+1+3 * k+5 < _;omega,by have:=r.un;show A.units+3+16 * k+200 < _;omega⟩
theorem make_depth {A:Around}{C:Addr}{us:List Value}{kw:List (Str × Value)}:(A.under (.builtin "type.__call__" ⟨.ref C::us,kw⟩)).depth=A.depth+1:=by
 first | rfl | simp [Around.under,Code.weight,Code.isCreation,Code.isGuard,Code.isCaller,Code.frames,Code.isFrame,guardIds]
theorem make_units {A:Around}{C:Addr}{us:List Value}{kw:List (Str × Value)}:(A.under (.builtin "type.__call__" ⟨.ref C::us,kw⟩)).units=A.units+1:=by
 first | rfl | simp [Around.under,Code.cUnits,Code.frames,Code.isFrame]
theorem Room.make {k:Nat}{A:Around} (r:Room (k+1) A) (C:Addr) (us:List Value) (kw:List (Str × Value)):Room k (A.under (.builtin "type.__call__" ⟨.ref C::us,kw⟩)) :=
 ⟨r.hd,by have:=r.dp;rw [make_depth];omega,by have:=r.un;rw [make_units];omega⟩
theorem Room.depth {k:Nat}{A:Around} (r:Room k A):A.depth < recursionLimit:=by have:=r.dp;omega
theorem Room.units {k:Nat}{A:Around} (r:Room k A):A.units+64 < cLine:=by have:=r.un;omega
def tNil:TA:=fun _ H Q=>Q [] H
def tCons (ta:TE) (tr:TA):TA:=fun σ H Q=>ta σ H fun x H1=>tr σ H1 fun xs H2=>Q (x::xs) H2
section
variable {X:Cx}{e:Expr}{es:List Expr}{te:TE}{t:TA}{pos:Pos}
theorem pa_nil:PA X [] tNil:=fun _ _ _ _ H Q I h=>Calls.spliced_nil ⟨[],H,I,.nil,h⟩
theorem pa_cons (ha:PE X e te) (hr:PA X es t) (hs:starEach (e::es) X.env=(false,eval e X.env)::starEach es X.env:=by rfl):PA X (e::es) (tCons te t):=by
 intro pos pins s σ H Q I h
 rw [hs]
 show wpAny _ _ (spliced ((false,eval e X.env)::backTo pos (starEach es X.env))) _ _ s
 refine Calls.spliced_cons (thn (ha pins s σ H _ I h) fun u s1 ⟨x,H1,I1,r1,q1⟩=>?_)
 exact thn (hr pos pins s1 σ H1 _ I1 q1) fun us s2 ⟨xs,H2,I2,r2,q2⟩=>⟨x::xs,H2,I2,.cons r1 r2,q2⟩
def tTup (t:TA):TE:=fun σ H Q=>t σ H fun xs H1=>xs.length ≤ sizeLine∧∀ p,H1 p=none→Q (.ref p) (upd H1 p (.tup xs))
def tLst (t:TA):TE:=fun σ H Q=>t σ H fun xs H1=>xs.length ≤ sizeLine∧∀ p,H1 p=none→Q (.ref p) (upd H1 p (.lst xs))
theorem pe_tup {x1} (h:PA X es t):PE X (.Tuple es x1 pos) (tTup t):=by
 intro pins s σ H Q I hq
 refine wpAny_Tuple_spliced (thn (h pos pins s σ H _ I hq) fun us s1 ⟨xs,H1,I1,r,z,q⟩=>⟨by rw [← r.length];exact z,?_⟩)
 have hf:H1 s1.heap.objs.size=none:=I1.hok.fresh (Nat.le_refl _)
 refine ⟨.ref s1.heap.objs.size,upd H1 s1.heap.objs.size (.tup xs),I1.laid (t':=s1.toks) (fun b u e=>Heap.get?_push_of_some _ e) (Nat.le_refl _) ?_,rfl,q _ hf⟩
 exact ⟨z,us,r,⟨_,Heap.get?_push_size _ rfl,rfl,_,rfl⟩⟩
theorem pe_lst (h:PA X es t):PE X (.List es pos) (tLst t):=by
 intro pins s σ H Q I hq
 refine wpAny_List_spliced (thn (h pos pins s σ H _ I hq) fun us s1 ⟨xs,H1,I1,r,z,q⟩=>⟨by rw [← r.length];exact z,?_⟩)
 have hf:H1 s1.heap.objs.size=none:=I1.hok.fresh (Nat.le_refl _)
 refine ⟨.ref s1.heap.objs.size,upd H1 s1.heap.objs.size (.lst xs),I1.laid (t':=s1.toks) (fun b u e=>Heap.get?_push_of_some _ e) (Nat.le_refl _) ?_,rfl,q _ hf⟩
 exact ⟨z,us,0,r,Heap.get?_push_size _ rfl⟩
end
abbrev Sp:=List V→Hp→VK→XK→Prop
abbrev CXT:=List Env→Hp→Shared→XK→Value→Shared→Prop
structure Env0 (P:Program) (w:World) (K:PySem.W.Frag) (mg:Str→Option Value) (base:Heap) (A:Around) (outer:List Env) (s:Shared) (H:Hp):Prop where
 frames:A.frames=some outer
 mod:Mod K mg base
 bs:∀ b o,base.get? b=some o→s.heap.get? b=some o∧H b=none
 bsz:base.objs.size ≤ s.heap.objs.size
 funs:s.heap.FunFrames base outer
 frf:∀ b ∈ frs outer,H b=none
 hok:HOk P w H s.heap
 bare:AllBare s.gens
def CE (outer:List Env) (P:Program) (w:World) (H:Hp) (s:Shared) (Q:VK) (u:Value) (s':Shared):Prop :=
 ∃ v H',s'.os=s.os∧AllBare s'.gens∧Un (frs outer) [] H H' s.heap s'.heap∧HOk P w H' s'.heap∧RelV v u∧Q v H'
def CR (CX:CXT) (outer:List Env) (P:Program) (w:World) (H:Hp) (s:Shared) (Q:VK) (E:XK) (r:Result) (s':Shared):Prop :=
 match r with
 | .ok (.ret u)=>CE outer P w H s Q u s'
 | .ok _=>False
 | .error e=>CX outer H s E e s'
structure FnOk (P:Program) (w:World) (K:PySem.W.Frag) (mg:Str→Option Value) (base:Heap) (CX:CXT) (k:Nat) (f:Addr) (fd:FuncData) (ps:List Str) (sp:Sp):Prop where
 len:∀ vs H Q E,sp vs H Q E→vs.length=ps.length
 run:∀ (A:Around) (outer:List Env) (s:Shared) (H:Hp) (args:Args) (us:List Value) (vs:List V) (Q:VK) (E:XK),Room k A→Env0 P w K mg base A outer s H→BindsTo s fd args (ps.zip us)→Vals vs us→sp vs H Q E →
  codeAny (model P w) A (.call (.ref f) args) (CR CX outer P w H s Q E) s
theorem FnOk.mono {P:Program}{w:World}{K:PySem.W.Frag}{mg:Str→Option Value}{base:Heap}{CX:CXT}{j k:Nat}{f:Addr}{fd:FuncData}{ps:List Str}{sp:Sp} (F:FnOk P w K mg base CX j f fd ps sp) (h:j ≤ k) :
  FnOk P w K mg base CX k f fd ps sp:=⟨F.len,fun A outer s H args us vs Q E hr=>F.run A outer s H args us vs Q E (hr.mono h)⟩
theorem FnOk.imp {P:Program}{w:World}{K:PySem.W.Frag}{mg:Str→Option Value}{base:Heap}{CX:CXT}{k:Nat}{f:Addr}{fd:FuncData}{ps:List Str}{sp sp':Sp} (F:FnOk P w K mg base CX k f fd ps sp)
  (h:∀ vs H Q E,sp' vs H Q E→sp vs H Q E):FnOk P w K mg base CX k f fd ps sp' :=
 ⟨fun vs H Q E q=>F.len vs H Q E (h _ _ _ _ q),fun A outer s H args us vs Q E hr he hb hv hs=>F.run A outer s H args us vs Q E hr he hb hv (h _ _ _ _ hs)⟩
theorem Env0.make {P:Program}{w:World}{K:PySem.W.Frag}{mg:Str→Option Value}{base:Heap}{A:Around}{outer:List Env}{s:Shared}{H:Hp} (e:Env0 P w K mg base A outer s H) (C:Addr) (us:List Value) (kw:List (Str × Value)) :
  Env0 P w K mg base (A.under (.builtin "type.__call__" ⟨.ref C::us,kw⟩)) outer s H:=⟨by first | exact e.frames | (simpa [Around.under,Code.envs,Code.isFrame,pushEnvs] using e.frames),e.mod,e.bs,e.bsz,e.funs,e.frf,e.hok,e.bare⟩
section
variable {X:Cx}{pins:List (Addr × Obj)}{σ:St}{H:Hp}{s s':Shared}
theorem Inv.env0 (I:Inv X pins σ H s):Env0 X.prog X.w X.K X.mg X.base X.A X.stack s H :=
 ⟨I.ok.frames,I.ok.mod,I.bs,Nat.le_trans I.ok.bsz I.sz,I.stack,I.stkFree,I.hok,I.bare⟩
theorem Inv.after {Q:VK}{u:Value} (I:Inv X pins σ H s) (h:CE X.stack X.prog X.w H s Q u s'):EP X pins σ Q u s':=by
 obtain ⟨v,H',os,bare,un,hok,r,q⟩:=h
 obtain ⟨hh,g,d,t,os'⟩:=s'
 obtain rfl:os'=s.os:=os
 exact ⟨v,H',I.call (h':=hh) (g':=g) (d':=d) (t':=t) (ch:=[]) un hok bare (fun b z=>absurd z (by simp)),r,q⟩
end
def Binds (K:PySem.W.Frag) (fd:FuncData) (ps:List Str) (ds:List Value):Prop :=
 ∀ (s:Shared) (us:List Value),K.In s.heap→(us ++ ds).length=ps.length→BindsTo s fd ⟨us,[]⟩ (ps.zip (us ++ ds))
theorem Binds.all {K:PySem.W.Frag}{fd:FuncData}{ps:List Str} (h:∀ us:List Value,us.length=ps.length→bindArgs fd ⟨us,[]⟩=pure (ps.zip us)):Binds K fd ps []:=fun s us _ hl=>by
 rw [List.append_nil] at hl ⊢
 exact .of_eq (h us hl)
section
variable {X:Cx}{CX:CXT}{k:Nat}{f C:Addr}{fd:FuncData}{ps:List Str}{sp:Sp}{dvs:List V}{ds:List Value}{E:XK}{x m:Str}{p pos apos:Pos}{e o:Expr}{es:List Expr}{ta:TE}{t:TA}
structure Mk (K:PySem.W.Frag) (C f:Addr):Prop where
 makes:PySem.W.makesIn K C=true
 init:PySem.W.findIn K (.ref C) "__init__" = some (some (.ref f))
 fn:PySem.W.isFn K (.ref f)=true
 kp:PySem.W.keepIn K (.ref C)=true
end
def PK (X:Cx) (kws:List Keyword) (t:TA):Prop :=
 ∀ (pos:Pos) (pins:List (Addr × Obj)) (s:Shared) (σ:St) (H:Hp) (Q:List V→Hp→Prop),Inv X pins σ H s→t σ H Q→wpAny (model X.prog X.w) X.A (evalAll ((backToKw pos (keywordEach kws X.env)).map (·.2))) (AP X pins σ Q) X.xe s
section
variable {X:Cx}{CX:CXT}{k:Nat}{f C:Addr}{fd:FuncData}{ps ks:List Str}{sp:Sp}{E:XK}{x m:Str}{p pos apos kpos:Pos}{e o:Expr}{es:List Expr}{kws:List Keyword}{te ta:TE}{t tk:TA}{nm:Option Str}
theorem pk_nil:PK X [] tNil:=fun _ _ _ _ H Q I h=>wpAny_evalAll_nil ⟨[],H,I,.nil,h⟩
theorem pk_cons (ha:PE X e te) (hr:PK X kws t):PK X (⟨nm,e,kpos⟩::kws) (tCons te t):=by
 intro pos pins s σ H Q I h
 show wpAny _ _ (evalAll ((do let v ← eval e X.env;standAt pos;pure v)::(backToKw pos (keywordEach kws X.env)).map (·.2))) _ _ s
 refine wpAny_evalAll_cons (wpAny_bind (thn (ha pins s σ H _ I h) fun u s1 ⟨x,H1,I1,r1,q1⟩=>wpAny_bind (wpAny_standAt (wpAny_pure ?_))))
 exact thn (hr pos pins s1 σ H1 _ I1 q1) fun us s2 ⟨xs,H2,I2,r2,q2⟩=>⟨x::xs,H2,I2,.cons r1 r2,q2⟩
structure KBinds (K:PySem.W.Frag) (fd:FuncData) (ps ks:List Str) (g:List Value→List Value→List Value) (gV:List V→List V→List V):Prop where
 to:∀ (s:Shared) (us ws:List Value),K.In s.heap→(g us ws).length=ps.length→BindsTo s fd ⟨us,ks.zip ws⟩ (ps.zip (g us ws))
 rel:∀ {vs:List V}{us:List Value}{zs:List V}{ws:List Value},Vals vs us→Vals zs ws→Vals (gV vs zs) (g us ws)
variable {g:List Value→List Value→List Value}{gV:List V→List V→List V}
end
structure FnScope (N P:List Str) (sc:Scope):Prop where
 kind:sc.kind=.function
 co:sc.isCoroutine=false
 gen:sc.isGenerator=false
 nd:N.Nodup
 pre:N.take P.length=P
 par:∀ x ∈ P,sc.names.lookup x=some .local ∨ sc.names.lookup x=some .cell
 nofree:∀ y ∈ sc.names,y.2 ≠ .free
theorem bindL_out {kindOf:Str→Option NameKind}{x:Str}:∀ {binds:List (Str × Value)}{m:Str→Option Value},(∀ v,(x,v) ∉ binds)→bindL kindOf binds m x=m x
 | [],_,_=>rfl
 | (n,v)::r,m,h=>by
  unfold bindL
  rw [bindL_out fun w hw=>h w (List.mem_cons_of_mem _ hw)]
  split
  ·have:x ≠ n:=by rintro rfl;exact h v List.mem_cons_self
   simp [this]
  ·rfl
theorem bindC_out {kindOf:Str→Option NameKind}{x:Str}:∀ {binds:List (Str × Value)}{m:Str→Option Value},(∀ v,(x,v) ∉ binds)→bindC kindOf binds m x=m x
 | [],_,_=>rfl
 | (n,v)::r,m,h=>by
  unfold bindC
  rw [bindC_out fun w hw=>h w (List.mem_cons_of_mem _ hw)]
  split
  ·rfl
  ·have:x ≠ n:=by rintro rfl;exact h v List.mem_cons_self
   simp [this]
theorem bindL_get {kindOf:Str→Option NameKind}{x:Str}{v:Value}:∀ {P:List Str}{vs:List Value}{i:Nat}{m:Str→Option Value},P.Nodup→P[i]?=some x→vs[i]?=some v→kindOf x=some .local →
  bindL kindOf (P.zip vs) m x=some v
 | [],_,_,_,_,h,_,_=>by simp at h
 | _::_,[],_,_,_,_,h,_=>by simp at h
 | p::P,w::vs,0,m,nd,h1,h2,hk=>by
  simp at h1 h2;subst h1;subst h2
  show bindL kindOf ((p,w)::P.zip vs) m p=_
  unfold bindL
  rw [bindL_out fun v hv=>(List.nodup_cons.mp nd).1 (List.of_mem_zip hv).1,if_pos hk]
  simp
 | p::P,w::vs,i+1,m,nd,h1,h2,hk=>by
  show bindL kindOf ((p,w)::P.zip vs) m x=_
  unfold bindL
  exact bindL_get (i:=i) (List.nodup_cons.mp nd).2 (by simpa using h1) (by simpa using h2) hk
theorem bindC_get {kindOf:Str→Option NameKind}{x:Str}{v:Value}:∀ {P:List Str}{vs:List Value}{i:Nat}{m:Str→Option Value},P.Nodup→P[i]?=some x→vs[i]?=some v→kindOf x ≠ some .local →
  bindC kindOf (P.zip vs) m x=some v
 | [],_,_,_,_,h,_,_=>by simp at h
 | _::_,[],_,_,_,_,h,_=>by simp at h
 | p::P,w::vs,0,m,nd,h1,h2,hk=>by
  simp at h1 h2;subst h1;subst h2
  show bindC kindOf ((p,w)::P.zip vs) m p=_
  unfold bindC
  rw [bindC_out fun v hv=>(List.nodup_cons.mp nd).1 (List.of_mem_zip hv).1,if_neg hk]
  simp
 | p::P,w::vs,i+1,m,nd,h1,h2,hk=>by
  show bindC kindOf ((p,w)::P.zip vs) m x=_
  unfold bindC
  exact bindC_get (i:=i) (List.nodup_cons.mp nd).2 (by simpa using h1) (by simpa using h2) hk
def start (N:List Str) (vs:List V):St:=vs.map some ++ List.replicate (N.length - vs.length) none
def cxOf (CX:CXT) (P:Program) (w:World) (K:PySem.W.Frag) (mg:Str→Option Value) (base:Heap) (N:List Str) (qual:Str) (scope:Scope) (f:Addr) (cd:Value) (A:Around) (outer:List Env) (s:Shared) (H:Hp) (E:XK):Cx where
 prog:=P
 w:=w
 K:=K
 mg:=mg
 base:=base
 A:=A.deeper (envOfC qual scope s.heap.objs.size f cd)
 N:=N
 s₀:=s
 H₀:=H
 env:=envOfC qual scope s.heap.objs.size f cd
 outer:=outer
 stack:=envOfC qual scope s.heap.objs.size f cd::outer
 ex:=[]
 calm:=true
 fn:=fun _=>true
 pn:=[]
 xe:=fun e s'=>wpAny (model P w) (A.deeper (envOfC qual scope s.heap.objs.size f cd)) (leaving (envOfC qual scope s.heap.objs.size f cd) e) (fun _ s''=>CX outer H s E e s'') (fun e' s''=>CX outer H s E e' s'') s'
theorem cell_has {sc:Scope}{n:Nat}{x:Str} (h:sc.names.lookup x=some .cell):∃ c,(cellsFrom n sc.names []).lookup x=some c:=by
 have q:=PySem.W.cellsFrom_some sc.names n [] (.inl h)
 exact Option.isSome_iff_exists.mp q
theorem inv_start {CX:CXT}{P:Program}{w:World}{K:PySem.W.Frag}{mg:Str→Option Value}{base:Heap}{N ps:List Str}{qual:Str}{scope:Scope}{f:Addr}{cd:Value}{A:Around}{outer:List Env}{s s1:Shared}{H:Hp}{E:XK}{us:List Value}{vs:List V}
  (S:FnScope N ps scope) (hd:A.handled=none) (e0:Env0 P w K mg base A outer s H) (hl:vs.length=ps.length) (r:Vals vs us)
  (x:InCallC s s.heap.objs.size (bindL (envOfC qual scope s.heap.objs.size f cd).kindOf (ps.zip us) fun _=>none) (cellsFrom (s.heap.objs.size+1) scope.names []) (bindC (envOfC qual scope s.heap.objs.size f cd).kindOf (ps.zip us) fun _=>none) s1) :
  Inv (cxOf CX P w K mg base N qual scope f cd A outer s H E) [] (start N vs) H s1:=by
 have hpl:ps.length ≤ N.length:=by have:=congrArg List.length S.pre;rw [List.length_take] at this;omega
 obtain ⟨h1,tk,rfl,hk⟩:=x.done
 have noA:∀ b:Addr,b ∉ (cxOf CX P w K mg base N qual scope f cd A outer s H E).ex:=fun b z=>absurd (show b ∈ ([]:List Addr) from z) (by simp)
 refine ⟨⟨e0.mod,S.kind,rfl,rfl,Nat.le_refl _,fun y z c h1 h2=>?_,fun y hy=>?_,fun y c _ h=>?_,fun _=>hd,Around.frames_deeper e0.frames,.inr ⟨rfl,rfl⟩,fun b z=>absurd z (noA b),e0.bs,e0.bsz,fun b _ _=>noA b,fun b z=>absurd z (noA b),e0.funs,e0.frf⟩,
  rfl,e0.bare,Un.kept hk,⟨_,x.toInCall.ns,fun i y v h1 h2 h3=>?_⟩,fun y c h=>⟨_,x.cell y c h⟩,e0.hok.fresh (Nat.le_refl _),fun y c h=>?_,fun p hp=>absurd (show p ∈ ([]:List (Addr × Obj)) from hp) (by simp),e0.hok.kept hk,?_⟩
 ·exact name_of_addr x.apart (PySem.mem_of_lookup h1) (PySem.mem_of_lookup h2)
 ·have hy:scope.names.lookup y=some .cell ∨ scope.names.lookup y=some .free:=hy
  rcases hy with hy | hy
  ·exact cell_has hy
  ·exact absurd rfl (S.nofree _ (PySem.mem_of_lookup hy))
 ·exact Nat.le_of_lt (x.above y c (PySem.mem_of_lookup h))
 ·have hi:i < vs.length:=by
   unfold start at h2
   by_cases hi:i < vs.length
   ·exact hi
   ·rw [List.getElem?_append_right (by simpa using hi)] at h2
    rw [List.getElem?_replicate] at h2
    split at h2 <;> cases h2
  have ha:vs[i]?=some v:=by
   unfold start at h2
   rw [List.getElem?_append_left (by simpa using hi),List.getElem?_map] at h2
   cases e:vs[i]? with
   | none=>rw [e] at h2;cases h2
   | some a=>rw [e] at h2;cases h2;rfl
  obtain ⟨u,hu,rv⟩:=r.get ha
  have hp:ps[i]?=some y:=by
   rw [← S.pre,List.getElem?_take_of_lt (by omega)];exact h1
  have ndP:ps.Nodup:=by rw [← S.pre];exact S.nd.sublist (List.take_sublist _ _)
  refine ⟨u,rv,?_⟩
  rcases S.par y (List.mem_of_getElem? hp) with k | k
  ·exact .inl ⟨k,bindL_get ndP hp hu k⟩
  ·obtain ⟨c,e⟩:=cell_has (n:=s.heap.objs.size+1) k
   refine .inr ⟨.inl k,c,e,?_⟩
   have q:=x.cell y c e
   rw [bindC_get ndP hp hu (by show scope.names.lookup y ≠ _;rw [k];decide)] at q
   exact q
 ·exact e0.hok.fresh (Nat.le_of_lt (x.above y c (PySem.mem_of_lookup h)))
 ·unfold start
  show _=N.length
  rw [List.length_append,List.length_map,List.length_replicate]
  omega
theorem fn_of {CX:CXT}{P:Program}{w:World}{K:PySem.W.Frag}{mg:Str→Option Value}{base:Heap}{k:Nat}{f:Addr}{name qual:Str}{params:Arguments}{body:List Stmt}{scope:Scope}{dV kV doc pm cdv ct oc:Value}{an od:Option Addr}
  {osl:Array (Option Value)}{N ps:List Str}{sp:Sp} (lk:K.lookup f=some ⟨oc,od,.func (PySem.W.fnOf name qual params body scope dV kV doc pm an cdv ct),osl⟩) (hcd:PySem.W.codeIn K cdv qual=true) (S:FnScope N ps scope)
  (len:∀ vs H Q E,sp vs H Q E→vs.length=ps.length)
  (hbody:∀ (A:Around) (outer:List Env) (s:Shared) (H:Hp) (vs:List V) (Q:VK) (E:XK),Room k (A.deeper (envOfC qual scope s.heap.objs.size f cdv))→sp vs H Q E →
   ∃ t,PSs (cxOf CX P w K mg base N qual scope f cdv A outer s H E) body t∧t { nx:=fun _ H'=>Q .non H',rt:=Q } (start N vs) H) :
  FnOk P w K mg base CX (k+1) f (PySem.W.fnOf name qual params body scope dV kV doc pm an cdv ct) ps sp:=by
 refine ⟨len,fun A outer s H args us vs Q E hr e0 hb r hsp=>?_⟩
 have hl:=len _ _ _ _ hsp
 have KX:K.In s.heap:=e0.mod.kin.keeps fun b o e=>(e0.bs b o e).1
 have lim:s.heap.NoLimit:=e0.mod.nolimit.keeps fun b o e=>(e0.bs b o e).1
 have hkind:∀ y ∈ ps.zip us,scope.names.lookup y.1=some .local ∨ (scope.names.lookup y.1=some .cell∧((cellsFrom (s.heap.objs.size+1) scope.names []).lookup y.1).isSome=true):=fun ⟨n,v⟩ hy=>by
  rcases S.par n (List.of_mem_zip hy).1 with q | q
  ·exact .inl q
  ·exact .inr ⟨q,PySem.W.cellsFrom_some _ _ _ (.inl q)⟩
 refine codeAny_call_function hr.depth (KX _ _ lk) rfl S.co S.gen rfl (PySem.W.codeRec_of KX hcd) (hb _ _ _ _ ?_)
 refine wpAny_newFunctionEnv_cells S.kind hkind fun env he s1 x=>?_
 subst he
 refine ⟨lim.keeps x.toInCall.keep,codeAny_func ?_⟩
 obtain ⟨t,ht,hq⟩:=hbody A outer s H vs Q E (hr.deeper _) hsp
 have I:Inv (cxOf CX P w K mg base N qual scope f cdv A outer s H E) [] (start N vs) H s1:=inv_start S hr.hd e0 hl r x
 refine wpAny_mono (ht [] s1 (start N vs) H _ I hq) (fun fl s' hs=>?_) fun e s' hs=>hs
 have fin:∀ {σ':St}{H':Hp}{v:V}{u:Value},Inv (cxOf CX P w K mg base N qual scope f cdv A outer s H E) [] σ' H' s'→RelV v u→Q v H'→CE outer P w H s Q u s' :=
  fun {σ' H' v u} J rv q=>⟨v,H',J.os,J.bare,J.base,J.hok,rv,q⟩
 cases fl with
 | ret u =>
  obtain ⟨v,σ',H',J,rv,q⟩:=hs
  exact fin J rv q
 | next =>
  obtain ⟨σ',H',J,q⟩:=hs
  exact fin (v:=V.non) (u:=Value.none) J rfl q
 | brk =>
  obtain ⟨_,_,_,q⟩:=hs
  exact False.elim q
 | cont =>
  obtain ⟨_,_,_,q⟩:=hs
  exact False.elim q
end L2
namespace L2
open PySem PySem.Spec PyProof.Rows
section
variable {X:Cx}{x:Str}{p pos:Pos}{e:Expr}{es:List Expr}{t:TA}{id T:String}{r:List V→Hp→VK→Prop}
def tCB (r:List V→Hp→VK→Prop) (t:TA):TE:=fun σ H Q=>t σ H fun vs H1=>r vs H1 Q
theorem pe_callB (hc:CallR X (.builtin id) r) (hg:Gl X x) (hm:X.mg x=none) (hv:bootBuiltins x=some (.builtin id)) (ha:PA X (e::es) t) (hn:x ≠ "__name__" := by decide) (hdb:(x == ("__debug__" : Str))=false:=by decide)
  (he:starEach (e::es) X.env=(false,eval e X.env)::starEach es X.env:=by rfl) (hpl:(backTo pos (starEach es X.env)).any (·.1)=false:=by rfl):PE X (.Call (.Name x p) (e::es) [] pos) (tCB r t):=by
 intro pins s σ H Q I h
 refine wpAny_Call_Name_kw (ld_blt I hg hm hv ?_ hn hdb)
 exact PyProof.Rows.callWith_builtin1 (thn (ha pos pins s σ H _ I h) fun us s1 ⟨vs,H1,I1,r1,q1⟩=>hc pins s1 σ H1 vs us Q I1 r1 q1) he hpl
theorem pe_callTy (hc:CallR X (.type T) r) (hg:Gl X x) (hm:X.mg x=none) (hv:bootBuiltins x=some (.type T)) (ha:PA X (e::es) t) (hn:x ≠ "__name__" := by decide) (hdb:(x == ("__debug__" : Str))=false:=by decide)
  (he:starEach (e::es) X.env=(false,eval e X.env)::starEach es X.env:=by rfl) (hpl:(backTo pos (starEach es X.env)).any (·.1)=false:=by rfl):PE X (.Call (.Name x p) (e::es) [] pos) (tCB r t):=by
 intro pins s σ H Q I h
 refine wpAny_Call_Name_kw (ld_blt I hg hm hv ?_ hn hdb)
 exact PyProof.Rows.callWith_type1 (thn (ha pos pins s σ H _ I h) fun us s1 ⟨vs,H1,I1,r1,q1⟩=>hc pins s1 σ H1 vs us Q I1 r1 q1) he hpl
end
end L2
namespace HT
open PySem PyProof.Rows
def lexLt:List Int→List Int→Bool
 | [],[]=>false
 | [],_::_=>true
 | _::_,[]=>false
 | x::xs,y::ys=>if x=y then lexLt xs ys else decide (x < y)
theorem lexLt_cons (x y:Int) (xs ys:List Int):lexLt (x::xs) (y::ys)=if x=y then lexLt xs ys else decide (x < y):=rfl
theorem lexLt_nil_nil:lexLt [] []=false:=rfl
theorem lexLt_nil_cons (y:Int) (ys:List Int):lexLt [] (y::ys)=true:=rfl
theorem lexLt_cons_nil (x:Int) (xs:List Int):lexLt (x::xs) []=false:=rfl
theorem eqAt_int (A:Around) (s:Shared) (a:Int) (t:Tok) (c:Int) (u:Tok):∃ e,SeqAt.EqAt A s (.int a t) (.int c u) e∧(e=true ↔ a=c) :=
 ⟨(a == c),SeqAt.EqAt.int_int a t c u,by simp⟩
theorem rcLt_int (A:Around) (s:Shared) (a:Int) (t:Tok) (c:Int) (u:Tok) (prog:Program) (w:World) (E:Value→Shared→Prop) (Q:Value→Shared→Prop) (h:Q (.bool (decide (a < c))) s) :
  wpAny (model prog w) A (richCompare .Lt (.int a t) (.int c u)) Q E s :=
 (PyProof.Rows.lt_int h:wpAny (model prog w) A (compareOp .Lt (.int a t) (.int c u)) Q E s)
section
open PySem.SeqAt
open PySem.AutoSeq1 (wpAny_loadPart')
open PySem.MeetsSeq PySem.MeetsSeq2 PySem.MeetsSeq3
theorem tuple_lt_ints (l b:Addr) (items items2:Array Value) (n n2:Nat) (dd dd2:Option Addr) (sl sl2:Array (Option Value)) (ns ms:List Int) (hi:IntsAre items.toList ns) (hj:IntsAre items2.toList ms) :
  Meets (Builtin.«tuple.__lt__» ⟨[.ref l,.ref b],[]⟩)
   (fun _ R s=>s.heap.get? l=some { cls:=.type "tuple", dict:=dd,data:=.seq items n,slots:=sl }∧s.heap.get? b=some { cls:=.type "tuple", dict:=dd2,data:=.seq items2 n2,slots:=sl2 } ∧
    R (.ok (.ret (.bool (lexLt ns ms)))) s) :=
 .of_wp fun prog w A R s h=>by
  obtain ⟨hp,g,d,tk,os⟩:=s;obtain ⟨hl,hb,h⟩:=h
  have f2:=AutoSeq1.sub_tuple_tuple
  have z1:items.size=ns.length:=by rw [← hi.length];simp
  have z2:items2.size=ms.length:=by rw [← hj.length];simp
  wp_walk using wpAny_loadPart' hl,wpAny_loadPart' hb,wpAny_forIn_list _ (fun rest b s'=>b.1=none∧s'=⟨hp,g,d,tk,os⟩∧∃ (vs ws:List Value) (ns' ms':List Int),rest=vs.zip ws ∧
   IntsAre vs ns'∧IntsAre ws ms'∧ns'.length+items2.size=ms'.length+items.size∧R (.ok (.ret (.bool (lexLt ns' ms')))) ⟨hp,g,d,tk,os⟩) _
  case turn =>
   rintro ⟨y,x⟩ rest b s' ⟨hb',rfl,vs,ws,ns',ms',hz,hvi,hwi,hlen,hR⟩
   cases hvi with
   | nil=>rw [List.zip_nil_left] at hz;cases hz
   | cons a t hvi' =>
    cases hwi with
    | nil=>rw [List.zip_nil_right] at hz;cases hz
    | cons c u hwi' =>
     rw [List.zip_cons_cons] at hz
     injection hz with hyx hrest
     injection hyx with hy hx
     subst hy hx
     rw [lexLt_cons] at hR
     simp only [List.length_cons] at hlen
     obtain ⟨e,he,hiff⟩:=eqAt_int A.in1 ⟨hp,g,d,tk,os⟩ a t c u
     refine wpAny_bind (he prog w _ _ ?_)
     cases e with
     | true =>
      rw [if_pos (hiff.mp rfl)] at hR
      wp_walk
      exact ⟨rfl,rfl,_,_,_,_,hrest,hvi',hwi',by omega,hR⟩
     | false =>
      rw [if_neg (fun q=>absurd (hiff.mpr q) Bool.false_ne_true)] at hR
      have hri:=rcLt_int A.in1 ⟨hp,g,d,tk,os⟩ a t c u prog w
      wp_walk using hri
      exact ⟨_,rfl,by simpa using hR⟩
  case fin =>
   rintro ⟨b1,b2⟩ s' ⟨hb',rfl,vs,ws,ns',ms',hz,hvi,hwi,hlen,hR⟩
   simp only at hb'
   subst hb'
   have hv:lexLt ns' ms'=decide (items.size < items2.size):=by
    cases hvi with
    | nil =>
     cases hwi with
     | nil =>
      simp only [List.length_nil] at hlen
      rw [lexLt_nil_nil]
      exact (decide_eq_false (by omega)).symm
     | cons c u hw =>
      simp only [List.length_nil,List.length_cons] at hlen
      rw [lexLt_nil_cons]
      exact (decide_eq_true (by omega)).symm
    | cons a t hv =>
     cases hwi with
     | nil =>
      simp only [List.length_nil,List.length_cons] at hlen
      rw [lexLt_cons_nil]
      exact (decide_eq_false (by omega)).symm
     | cons c u hw =>
      rw [List.zip_cons_cons] at hz
      cases hz
   rw [hv] at hR
   wp_walk
   exact ⟨_,rfl,by simpa [Builtin.Tuple.tupleCompareSizes] using hR⟩
  case h =>
   exact ⟨rfl,rfl,items.toList,items2.toList,ns,ms,rfl,hi,hj,by omega,h⟩
end
section
variable {prog:Program}{w:World}{A:Around}{E:Value→Shared→Prop}{s:Shared}
theorem lt_tupInts {l b:Addr}{items items2:Array Value}{ns ms:List Int}{Q:Value→Shared→Prop} (hl:IsTup s.heap l items) (hb:IsTup s.heap b items2) (hi:IntsAre items.toList ns) (hj:IntsAre items2.toList ms)
  (hu:A.units < cLine) (h:Q (.bool (lexLt ns ms)) s):wpAny (model prog w) A (compareOp .Lt (.ref l) (.ref b)) Q E s:=by
 obtain ⟨⟨cls,dd,data,sl⟩,ho,hc,n,hd⟩:=id hl
 obtain ⟨⟨cls2,dd2,data2,sl2⟩,ho2,hc2,n2,hd2⟩:=id hb
 simp only at hc hd hc2 hd2
 subst hc hd hc2 hd2
 exact richCompare_meets_room (op:=.Lt) ⟨_,ho,rfl⟩ ⟨_,ho2,rfl⟩ PySem.F.slot_tuple_lt PySem.F.entry_tuple_lt (PySem.F.args_tuple_lt_2 _ _) (tuple_lt_ints l b items items2 n n2 dd dd2 sl sl2 ns ms hi hj)
  ⟨ho,ho2,show Value.bool (lexLt ns ms) ≠ Value.notImplemented∧Q (.bool (lexLt ns ms)) s from ⟨(fun x=>nomatch x),h⟩⟩ hu
def sIx (n d:Nat):Option Int→Nat
 | none=>d
 | some v=>if v < 0 then (v+(n:Int)).toNat else min v.toNat n
theorem sIx_nat (n d k:Nat):sIx n d (some (k:Int))=min k n:=by
 show (if (k:Int) < 0 then ((k:Int)+(n:Int)).toNat else min (k:Int).toNat n)=min k n
 rw [if_neg (by omega),Int.toNat_natCast]
end
end HT
namespace L2
open PySem PySem.Spec PyProof.Rows
abbrev TO:=St→Hp→(Option Int→Hp→Prop)→Prop
def PO (X:Cx) (e:Option Expr) (t:TO):Prop :=
 ∀ (pins:List (Addr × Obj)) (s:Shared) (σ:St) (H:Hp) (Q:Option Int→Hp→Prop),Inv X pins σ H s→t σ H Q →
  wpAny (model X.prog X.w) X.A (evalPart e X.env) (fun u s'=>∃ o H',Inv X pins σ H' s'∧IsPart u o∧Q o H') X.xe s
def tPart (t:TE):TO:=fun σ H Q=>t σ H fun x H1=>∃ i,x=.int i∧Q (some i) H1
theorem intsAre_of {ns:List Int}:∀ {us:List Value},Vals (ns.map V.int) us→IntsAre us ns:=by
 induction ns with
 | nil=>intro us r;rw [List.map_nil] at r;cases r;exact .nil
 | cons n ns ih =>
  intro us r
  rw [List.map_cons] at r
  cases r with
  | cons r1 r2 =>
   obtain ⟨t,e⟩:=r1
   subst e
   exact .cons n t (ih r2)
section
variable {X:Cx}{e:Expr}{te:TE}{lo hi:Option Expr}{tl th:TO}{pos p2:Pos}
theorem po_some (h:PE X e te):PO X (some e) (tPart te):=by
 intro pins s σ H Q I hw
 rw [evalPart_some]
 refine thn (h pins s σ H _ I hw) fun u s1 ⟨x,H1,I1,r1,q1⟩=>?_
 obtain ⟨i,rfl,q⟩:=q1
 obtain ⟨t,rfl⟩:=r1
 exact ⟨some i,H1,I1,.int i t,q⟩
def SlR (X:Cx) (r:V→Option Int→Option Int→Hp→VK→Prop):Prop :=
 ∀ (pins:List (Addr × Obj)) (s:Shared) (σ:St) (H:Hp) (x:V) (v vl vu:Value) (lo hi:Option Int) (sl:Addr) (Q:VK),Inv X pins σ H s→RelV x v→s.heap.IsSliceOf sl vl vu .none→IsPart vl lo→IsPart vu hi→r x lo hi H Q →
  ∃ T id,typeLookup (.type T) "__getitem__" = pure (some (.builtin id))∧s.TypeIs v T∧wpAny (model X.prog X.w) X.A (getItem v (.ref sl)) (EP X pins σ Q) X.xe s
def tSl (r:V→Option Int→Option Int→Hp→VK→Prop) (te:TE) (tl th:TO):TE:=fun σ H Q=>te σ H fun x H1=>tl σ H1 fun l H2=>th σ H2 fun u H3=>r x l u H3 Q
theorem pe_slice {r:V→Option Int→Option Int→Hp→VK→Prop} (hr:SlR X r) (he:PE X e te) (hl:PO X lo tl) (hu:PO X hi th):PE X (.Subscript e (.Slice lo hi none p2) pos) (tSl r te tl th):=by
 intro pins s σ H Q I h
 refine Subscript_ (thn (he pins s σ H _ I h) fun v s1 ⟨x,H1,I1,r1,q1⟩=>?_)
 refine wpAny_Slice (thn (hl pins s1 σ H1 _ I1 q1) fun vl s2 ⟨l,H2,I2,pl,q2⟩=>thn (hu pins s2 σ H2 _ I2 q2) fun vu s3 ⟨u,H3,I3,pu,q3⟩=>?_)
 rw [evalPart_none]
 refine wpAny_pure ?_
 have I4:Inv X pins σ H3 { s3 with heap:=s3.heap.push { cls:=.type "slice", data:=.fields #[vl,vu,.none] } }:=I3.kept (t':=s3.toks) fun b ob q=>Heap.get?_push_of_some _ q
 obtain ⟨T,id,hT,ht,hg⟩:=hr pins { s3 with heap:=s3.heap.push { cls:=.type "slice", data:=.fields #[vl,vu,.none] } } σ H3 x v vl vu l u s3.heap.objs.size Q I4 r1 (Heap.IsSliceOf.new ..) pl pu q3
 show wpAny (model X.prog X.w) X.A (subscriptTail e (.Slice lo hi none p2) v (.ref s3.heap.objs.size)) (EP X pins σ Q) X.xe { s3 with heap:=s3.heap.push { cls:=.type "slice", data:=.fields #[vl,vu,.none] } }
 exact tail_any (ops:=[.ref s3.heap.objs.size,v]) ht hT hg (by with_unfolding_all rfl)
def cutV (xs:List V) (lo hi:Option Int):List V:=(xs.drop (HT.sIx xs.length 0 lo)).take (HT.sIx xs.length xs.length hi - HT.sIx xs.length 0 lo)
theorem cutV_length (xs:List V) (lo hi:Option Int):(cutV xs lo hi).length ≤ xs.length:=by
 unfold cutV
 rw [List.length_take,List.length_drop]
 omega
def rLtT (K:PySem.W.Frag):R2:=fun x y H Q=>∃ a b ns ms,x=.ref a∧y=.ref b∧SqT K H a (ns.map V.int)∧SqT K H b (ms.map V.int)∧Q (.bl (HT.lexLt ns ms)) H
theorem op_ltT (hu:X.A.units < cLine):OpR X (compareOp .Lt) (rLtT X.K):=by
 intro pins s σ H x y v u Q I rx ry h
 obtain ⟨a,b,ns,ms,rfl,rfl,ha,hb,q⟩:=h
 cases rx
 cases ry
 obtain ⟨its,r1,p1,_⟩:=I.tuple ha
 obtain ⟨its2,r2,p2,_⟩:=I.tuple hb
 have i1:IntsAre its.toArray.toList ns:=intsAre_of r1
 have i2:IntsAre its2.toArray.toList ms:=intsAre_of r2
 exact HT.lt_tupInts p1 p2 i1 i2 hu ⟨.bl (HT.lexLt ns ms),H,I,rfl,q⟩
end
end L2
namespace L2
open PySem PySem.Spec PyProof.Rows
def ixN (n:Nat) (i:Int):Option Nat:=if 0 ≤ i then (if i < n then some i.toNat else none) else if -(n:Int) ≤ i then some (i+n).toNat else none
def atI {α:Type} (xs:List α) (i:Int):Option α:=(ixN xs.length i).bind fun j=>xs[j]?
theorem ixN_seq {n:Nat}{i:Int}{j:Nat} (h:ixN n i=some j):seqIndex? i n=some j∧j < n∧-(n:Int) ≤ i∧i < n:=by
 unfold ixN at h
 by_cases h0:0 ≤ i
 ·rw [if_pos h0] at h
  by_cases h1:i < n
  ·rw [if_pos h1] at h
   have e:i.toNat=j:=Option.some.inj h
   exact ⟨by rw [seqIndex_of h0 h1,e],by omega,by omega,h1⟩
  ·rw [if_neg h1] at h;cases h
 ·rw [if_neg h0] at h
  by_cases h1:-(n:Int) ≤ i
  ·rw [if_pos h1] at h
   have e:(i+n).toNat=j:=Option.some.inj h
   exact ⟨by rw [seqIndex_neg (by omega) h1,e],by omega,h1,by omega⟩
  ·rw [if_neg h1] at h;cases h
theorem atI_get {α:Type}{xs:List α}{i:Int}{v:α} (h:atI xs i=some v):∃ j,seqIndex? i xs.length=some j∧xs[j]?=some v∧j < xs.length∧-(xs.length:Int) ≤ i∧i < xs.length:=by
 unfold atI at h
 cases e:ixN xs.length i with
 | none=>rw [e] at h;cases h
 | some j =>
  rw [e] at h
  obtain ⟨h1,h2,h3,h4⟩:=ixN_seq e
  exact ⟨j,h1,h,h2,h3,h4⟩
def PlainIx (b:Expr):Prop:=∀ o i,subscripted b false o i=operate [o,i] (getItem o i)
def IxR (X:Cx) (r:R2):Prop :=
 ∀ (value slice:Expr) (pins:List (Addr × Obj)) (s:Shared) (σ:St) (H:Hp) (x y:V) (v u:Value) (Q:VK),Inv X pins σ H s→RelV x v→RelV y u→r x y H Q →
  subscripted slice false v u=operate [v,u] (getItem v u)→wpAny (model X.prog X.w) X.A (subscriptTail value slice v u) (EP X pins σ Q) X.xe s
def MtR (X:Cx) (id:String) (r:V→List V→Hp→VK→Prop):Prop :=
 ∀ (pins:List (Addr × Obj)) (s:Shared) (σ:St) (H:Hp) (x:V) (xs:List V) (v:Value) (us:List Value) (Q:VK),Inv X pins σ H s→RelV x v→Vals xs us→r x xs H Q →
  wpAny (model X.prog X.w) X.A (call (.builtin id) (v::us)) (EP X pins σ Q) X.xe s
section
variable {X:Cx}{a b:Expr}{ta tb:TE}{pos:Pos}
theorem IxR.or {r r':R2} (h:IxR X r) (h':IxR X r'):IxR X (fun x y H Q=>r x y H Q ∨ r' x y H Q):=by
 intro value slice pins s σ H x y v u Q I rx ry q hs
 rcases q with q | q
 ·exact h value slice pins s σ H x y v u Q I rx ry q hs
 ·exact h' value slice pins s σ H x y v u Q I rx ry q hs
theorem pe_ix {r:R2} (hr:IxR X r) (ha:PE X a ta) (hb:PE X b tb) (hs:PlainIx b):PE X (.Subscript a b pos) (tOp r ta tb):=by
 intro pins s σ H Q I h
 exact Subscript_ (binT ha hb I h fun v u s2 x y H2 I2 rx ry q=>hr a b pins s2 σ H2 x y v u Q I2 rx ry q (hs _ _))
def rIxL (K:PySem.W.Frag):R2:=fun x y H Q=>∃ p xs i v,x=.ref p∧y=.int i∧SqL K H p xs∧atI xs i=some v∧Q v H
def rIxT (K:PySem.W.Frag):R2:=fun x y H Q=>∃ p xs i v,x=.ref p∧y=.int i∧SqT K H p xs∧atI xs i=some v∧Q v H
def rIxS:R2:=fun x y H Q=>∃ z i c,x=.str z∧y=.int i∧z.length ≤ sizeLine∧atI z.cps.toList i=some c∧Q (.str ⟨#[c]⟩) H
theorem ix_list:IxR X (rIxL X.K):=by
 intro value slice pins s σ H x y v u Q I rx ry h hs
 obtain ⟨p,xs,i,z,rfl,rfl,hq,he,q⟩:=h
 cases rx
 obtain ⟨t,rfl⟩:=ry
 obtain ⟨its,r,pl,hz⟩:=I.list hq
 obtain ⟨j,h1,h2,h3,h4,h5⟩:=atI_get he
 obtain ⟨w,ew,rw'⟩:=r.get h2
 have hl:=r.length
 have hn:=line63
 have fin:EP X pins σ Q w s:=⟨z,H,I,rw',q⟩
 by_cases h0:0 ≤ i
 ·have hj:i.toNat=j:=by
   rw [seqIndex_of h0 h5] at h1
   exact Option.some.inj h1
  exact item_listR pl.isList h0 (by omega) (by rw [hj];simpa using ew) fin hs
 ·have hj:(i+(its.toArray.size:Int)).toNat=j:=by
   rw [seqIndex_neg (by omega) h4] at h1
   rw [List.size_toArray,← hl]
   exact Option.some.inj h1
  exact subscriptTail_builtinR (x:=w) pl.isList.typeIs slot_list_getitem.lookup
   (wpAny_getItem_list_neg (Q:=fun r s'=>r=w∧EP X pins σ Q r s') pl.isList (by omega) (by rw [List.size_toArray] <;> omega) (by omega) (by rw [hj];simpa using ew) ⟨rfl,fin⟩) hs
theorem ix_tup:IxR X (rIxT X.K):=by
 intro value slice pins s σ H x y v u Q I rx ry h hs
 obtain ⟨p,xs,i,z,rfl,rfl,hq,he,q⟩:=h
 cases rx
 obtain ⟨t,rfl⟩:=ry
 obtain ⟨its,r,pl,hz⟩:=I.tuple hq
 obtain ⟨j,h1,h2,h3,h4,h5⟩:=atI_get he
 obtain ⟨w,ew,rw'⟩:=r.get h2
 have hl:=r.length
 have hn:=line63
 have fin:EP X pins σ Q w s:=⟨z,H,I,rw',q⟩
 exact subscriptTail_builtinR (x:=w) pl.typeIs slot_tuple_getitem.lookup
  (getItem_tuple (j:=j) (Q:=fun r s'=>r=w∧EP X pins σ Q r s') pl (by omega) (by omega) (by rw [List.size_toArray,← hl];exact h1) (by simpa using ew) ⟨rfl,fin⟩) hs
theorem ix_str:IxR X rIxS:=by
 intro value slice pins s σ H x y v u Q I rx ry h hs
 obtain ⟨z,i,c,rfl,rfl,hz,he,q⟩:=h
 obtain ⟨t,rfl⟩:=rx
 obtain ⟨t',rfl⟩:=ry
 obtain ⟨j,h1,h2,h3,h4,h5⟩:=atI_get he
 have hl:z.cps.toList.length=z.length:=by simp [Str.length]
 rw [hl] at h1 h4 h5
 have hn:=line63
 exact tail_any (typeIs_str s z t) slot_str_getitem.lookup (getItem_str (c:=c) (by
  have e1:decide (i < -(2 ^ 63:Int))=false:=decide_eq_false (by omega)
  have e2:decide (i ≥ 2 ^ 63)=false:=decide_eq_false (by omega)
  rw [e1,e2,Bool.or_false]) (by rw [h1];simpa using h2) ⟨.str ⟨#[c]⟩,H,I.tok _,⟨_,rfl⟩,q⟩) hs
def rIx (K:PySem.W.Frag):R2:=fun x y H Q=>rIxL K x y H Q ∨ rIxT K x y H Q ∨ rIxS x y H Q
theorem ix_seq:IxR X (rIx X.K):=ix_list.or (ix_tup.or ix_str)
theorem mapSeq_set (its:List Value) (n j:Nat) (u:Value):Obj.mapSeq (·.setIfInBounds j u) { cls:=.type "list", data:=.seq its.toArray n }={ cls:=.type "list", data:=.seq (its.set j u).toArray n }:=by
 simp [Obj.mapSeq]
theorem Inv.lst {pins:List (Addr × Obj)}{σ:St}{H:Hp}{s:Shared}{p:Addr}{xs:List V} (I:Inv X pins σ H s) (h:H p=some (.lst xs)) :
  ∃ (its:List Value) (n:Nat),Vals xs its∧s.heap.get? p=some { cls:=.type "list", data:=.seq its.toArray n }∧xs.length ≤ sizeLine:=by
 obtain ⟨z,its,n,r,e⟩:=I.hok p _ h
 exact ⟨its,n,r,e,z⟩
theorem Inv.lstUpd {pins:List (Addr × Obj)}{σ:St}{H:Hp}{s:Shared}{p:Addr}{xs ys:List V}{its its':List Value}{n n':Nat}{f:Obj→Obj} (I:Inv X pins σ H s) (h:H p=some (.lst xs))
  (ho:s.heap.get? p=some { cls:=.type "list", data:=.seq its.toArray n }) (hf:f { cls:=.type "list", data:=.seq its.toArray n }={ cls:=.type "list", data:=.seq its'.toArray n' }) (r:Vals ys its') (hz:ys.length ≤ sizeLine) (t:Nat) :
  Inv X pins σ (upd H p (.lst ys)) { s with heap:=s.heap.update p f,toks:=t }:=by
 have e:(s.heap.update p f).get? p=some { cls:=.type "list", data:=.seq its'.toArray n' }:=by
  rw [Heap.get?_update_self f ho (by rw [hf] <;> rfl),hf]
 refine I.write (x:=p) (e:=p) (by rw [h];trivial) (.inl rfl) (fun b u hb q=>(Heap.get?_update_other _ _ (Ne.symm hb)).trans q) ⟨_,e⟩ ?_
 exact ⟨hz,its',n',r,e⟩
def rSetL:V→V→V→Hp→(Hp→Prop)→Prop:=fun o i v H Q=>∃ p xs k j,o=.ref p∧i=.int k∧H p=some (.lst xs)∧ixN xs.length k=some j∧Q (upd H p (.lst (xs.set j v)))
theorem set_list:PSet X rSetL:=by
 intro pins s σ H o i v ov iv u Q I ro ri rv h
 obtain ⟨p,xs,k,j,rfl,rfl,hp,hj,q⟩:=h
 cases ro
 obtain ⟨t,rfl⟩:=ri
 obtain ⟨its,n,r,ho,hz⟩:=I.lst hp
 obtain ⟨h1,h2,h3,h4⟩:=ixN_seq hj
 have hl:=r.length
 have hn:=line63
 have I':Inv X pins σ (upd H p (.lst (xs.set j v))) { s with heap:=s.heap.update p (Obj.mapSeq (·.setIfInBounds j u)) } :=
  I.lstUpd hp ho (mapSeq_set its n j u) (r.set rv j) (by rw [List.length_set];exact hz) s.toks
 by_cases h0:0 ≤ k
 ·have hk:k.toNat=j:=by
   rw [seqIndex_of h0 h4] at h1
   exact Option.some.inj h1
  exact PySem.W.ki_setAt ho h0 (by omega) (by rw [List.size_toArray,← hl];exact h4) (by rw [hk];exact ⟨_,I',q⟩)
 ·have hk:(k+(its.toArray.size:Int)).toNat=j:=by
   rw [seqIndex_neg (by omega) h3] at h1
   rw [List.size_toArray,← hl]
   exact Option.some.inj h1
  exact PySem.W.ki_setBack ho (by omega) (by rw [List.size_toArray,← hl];exact h3) (by omega) (by rw [hk];exact ⟨_,I',q⟩)
theorem slice_bounds (lo hi:Option Int) (n:Nat):(sliceBounds lo hi none n).1=((HT.sIx n 0 lo:Nat):Int)∧(sliceBounds lo hi none n).2.1=((HT.sIx n n hi:Nat):Int)∧(sliceBounds lo hi none n).2.2=1:=by
 refine ⟨?_,?_,rfl⟩
 ·cases lo with
  | none=>simp [sliceBounds,HT.sIx]
  | some i =>
   simp only [sliceBounds,HT.sIx,Option.getD_none,show (1:Int) > 0 by decide,if_true]
   by_cases h:i < 0
   ·simp only [h,if_true] <;> omega
   ·simp only [h,if_false] <;> omega
 ·cases hi with
  | none=>simp [sliceBounds,HT.sIx]
  | some i =>
   simp only [sliceBounds,HT.sIx,Option.getD_none,show (1:Int) > 0 by decide,if_true]
   by_cases h:i < 0
   ·simp only [h,if_true] <;> omega
   ·simp only [h,if_false] <;> omega
theorem slicePick_cut (its:List Value) (lo hi:Option Int):slicePick its.toArray lo hi none=((its.drop (HT.sIx its.length 0 lo)).take (HT.sIx its.length its.length hi - HT.sIx its.length 0 lo)).toArray:=by
 obtain ⟨h1,h2,h3⟩:=slice_bounds lo hi its.toArray.size
 unfold slicePick
 rw [h1,h2,h3]
 simp only [sliceRange_one,pick_run,List.size_toArray] <;> rfl
def rSlL (K:PySem.W.Frag):V→Option Int→Option Int→Hp→VK→Prop:=fun x lo hi H Q=>∃ a xs,x=.ref a∧SqL K H a xs∧∀ p,H p=none→Q (.ref p) (upd H p (.lst (cutV xs lo hi)))
theorem sl_list:SlR X (rSlL X.K):=by
 intro pins s σ H x v vl vu lo hi sl Q I rx hs pl pu h
 obtain ⟨a,xs,rfl,hx,q⟩:=h
 cases rx
 obtain ⟨its,r,ht,hz⟩:=I.list hx
 have hlen:=r.length
 refine ⟨"list", _,slot_list_getitem.lookup,ht.isList.typeIs,?_⟩
 refine wpAny_getItem_list_slice ht.isList hs pl pu .none (by simp) ?_ (by rw [List.size_toArray] <;> omega)
 rw [slicePick_cut,← hlen]
 refine ⟨.ref s.heap.objs.size,_,I.laid (t':=s.toks) (o:=.lst (cutV xs lo hi)) (fun b ob q=>Heap.get?_push_of_some _ q) (Nat.le_refl _) ?_,rfl,q _ (I.hok.fresh (Nat.le_refl _))⟩
 exact ⟨Nat.le_trans (cutV_length xs lo hi) hz,_,0,(r.drop (HT.sIx xs.length 0 lo)).take (HT.sIx xs.length xs.length hi - HT.sIx xs.length 0 lo),Heap.get?_push_size _ rfl⟩
theorem call_len_seq:CallR X (.builtin "len") (fun xs H Q=>∃ p ys,xs=[.ref p]∧(SqL X.K H p ys ∨ SqT X.K H p ys)∧Q (.int ys.length) H):=by
 intro pins s σ H xs us Q I r h
 obtain ⟨p,ys,rfl,hq,q⟩:=h
 obtain ⟨u,rfl,rx⟩:=vals1 r
 cases rx
 have hn:=line63
 rcases hq with hq | hq
 ·obtain ⟨its,r',pl,hz⟩:=I.list hq
  have hlen:=r'.length
  exact Calls.call_len_list pl.isList (by simp only [List.size_toArray] <;> omega) ⟨.int ys.length,H,I.tok _,⟨s.toks+1,by rw [List.size_toArray,hlen]⟩,q⟩
 ·obtain ⟨its,r',pl,hz⟩:=I.tuple hq
  have hlen:=r'.length
  exact len_tuple pl (by simp only [List.size_toArray] <;> omega) ⟨.int ys.length,H,I.tok _,⟨s.toks+1,by rw [List.size_toArray,hlen]⟩,q⟩
theorem call_list_of:CallR X (.type "list") (fun xs H Q=>∃ p ys,xs=[.ref p]∧(SqL X.K H p ys ∨ SqT X.K H p ys)∧∀ l,H l=none→Q (.ref l) (upd H l (.lst ys))):=by
 intro pins s σ H xs us Q I r h
 obtain ⟨p,ys,rfl,hq,q⟩:=h
 obtain ⟨u,rfl,rx⟩:=vals1 r
 cases rx
 have fin:∀ (its:List Value),Vals ys its→ys.length ≤ sizeLine→∀ (h':Heap) (c':Nat),(∀ b o',s.heap.get? b=some o'→h'.get? b=some o') →
   h'.get? s.heap.objs.size=some { cls:=.type "list", dict:=none,data:=.seq its.toArray c',slots:=#[] }→EP X pins σ Q (.ref s.heap.objs.size) { s with heap:=h' }:=fun its r' hz h' c' kp e =>
  ⟨.ref s.heap.objs.size,_,I.laid (t':=s.toks) kp (Nat.le_refl _) (show ObjOk X.prog X.w _ h' _ (.lst ys) from ⟨hz,its,c',r',e⟩),rfl,q _ (I.hok.fresh (Nat.le_refl _))⟩
 rcases hq with hq | hq
 ·obtain ⟨its,r',pl,hz⟩:=I.list hq
  have hlen:=r'.length
  obtain ⟨o,ho,hc,n,hd⟩:=pl.isList
  exact call_list_seq p (.inl rfl) ho hc hd (fun h' c' kp e=>fin its r' hz h' c' kp e) (by simp only [List.size_toArray] <;> omega)
 ·obtain ⟨its,r',pl,hz⟩:=I.tuple hq
  have hlen:=r'.length
  obtain ⟨o,ho,hc,n,hd⟩:=pl
  exact call_list_seq p (.inr rfl) ho hc hd (fun h' c' kp e=>fin its r' hz h' c' kp e) (by simp only [List.size_toArray] <;> omega)
theorem call_tuple_of:CallR X (.type "tuple") (fun xs H Q=>∃ p ys,xs=[.ref p]∧((SqL X.K H p ys∧∀ l,H l=none→Q (.ref l) (upd H l (.tup ys))) ∨ (SqT X.K H p ys∧Q (.ref p) H))):=by
 intro pins s σ H xs us Q I r h
 obtain ⟨p,ys,rfl,h⟩:=h
 obtain ⟨u,rfl,rx⟩:=vals1 r
 cases rx
 rcases h with ⟨hq,q⟩ | ⟨hq,q⟩
 ·obtain ⟨its,r',pl,hz⟩:=I.list hq
  have hlen:=r'.length
  refine call_tuple_list pl.isList (fun h' kp=>?_) (by simp only [List.size_toArray] <;> omega)
  have I1:Inv X pins σ H { s with heap:=h' }:=I.kept (t':=s.toks) kp
  have I2:Inv X pins σ (upd H h'.objs.size (.tup ys)) { s with heap:=h'.push { cls:=.type "tuple", data:=.seq its.toArray } } :=
   I1.laid (t':=s.toks) (fun b o e=>Heap.get?_push_of_some _ e) (Nat.le_refl _) (show ObjOk X.prog X.w _ _ _ (.tup ys) from ⟨hz,its,r',IsTup.new _ _⟩)
  exact ⟨.ref h'.objs.size,_,I2,rfl,q _ (I1.hok.fresh (Nat.le_refl _))⟩
 ·obtain ⟨its,r',pl,hz⟩:=I.tuple hq
  exact call_tuple_same pl ⟨.ref p,H,I,rfl,q⟩
def tyV (K:PySem.W.Frag) (T:String) (x:V) (H:Hp):Prop:=match x with
 | .str _=>T = "str"
 | .int _=>T = "int"
 | .ref p=>(T = "list" ∧ ∃ xs,SqL K H p xs) ∨ (T = "tuple" ∧ ∃ o,K.lookup p=some o∧o.cls=.type "tuple" ∧ o.dict=none) ∨
   (T = "dict" ∧ ((∃ kvs,H p=some (.dK kvs)) ∨ ∃ kvs,H p=some (.dT kvs))) ∨ (T = "set" ∧ ∃ S n,H p=some (.set S n))
 | _=>False
theorem tyV_is {pins:List (Addr × Obj)}{σ:St}{H:Hp}{s:Shared}{T:String}{x:V}{v:Value} (I:Inv X pins σ H s) (r:RelV x v) (ty:tyV X.K T x H) :
  s.TypeIs v T∧∀ a,v=.ref a→∃ ob,s.heap.get? a=some ob∧ob.dict=none:=by
 cases x with
 | str z =>
  obtain ⟨t,rfl⟩:=r
  cases (show T = "str" from ty)
  exact ⟨typeIs_str s z t,fun _ e=>nomatch e⟩
 | int i =>
  obtain ⟨t,rfl⟩:=r
  cases (show T = "int" from ty)
  exact ⟨typeIs_int s i t,fun _ e=>nomatch e⟩
 | ref p =>
  cases r
  rcases ty with ⟨rfl,xs,hq⟩ | ⟨rfl,o,hk,hc,hd⟩ | ⟨rfl,hk⟩ | ⟨rfl,S,n,hk⟩
  ·obtain ⟨its,_,pl,_⟩:=I.list hq
   refine ⟨pl.isList.typeIs,fun a e=>?_⟩
   cases e
   obtain ⟨o,n,e,c,hd,_⟩:=pl
   exact ⟨o,e,hd⟩
  ·refine ⟨⟨o,I.kIn p o hk,hc⟩,fun a e=>?_⟩
   cases e
   exact ⟨o,I.kIn _ o hk,hd⟩
  ·have z:∃ o,s.heap.get? p=some o∧o.ExactDict:=by
    rcases hk with ⟨kvs,hk⟩ | ⟨kvs,hk⟩
    ·obtain ⟨_,_,_,_,o,_,_,e,ex,_⟩:=I.hok p _ hk
     exact ⟨o,e,ex⟩
    ·obtain ⟨_,_,_,_,o,_,_,e,ex,_⟩:=I.hok p _ hk
     exact ⟨o,e,ex⟩
   obtain ⟨o,e,ex⟩:=z
   refine ⟨⟨o,e,ex.1⟩,fun a e2=>?_⟩
   cases e2
   exact ⟨o,e,ex.2.1⟩
  ·obtain ⟨o,_,_,_,e,ex,_⟩:=I.hok p _ hk
   refine ⟨⟨o,e,ex.1⟩,fun a e2=>?_⟩
   cases e2
   exact ⟨o,e,ex.2.1⟩
 | _=>exact False.elim ty
def tBM0 (K:PySem.W.Frag) (T:String) (r:V→List V→Hp→VK→Prop) (to:TE):TE:=fun σ H Q=>to σ H fun x H1=>tyV K T x H1∧r x [] H1 Q
def tBM (K:PySem.W.Frag) (T:String) (r:V→List V→Hp→VK→Prop) (to:TE) (t:TA):TE:=fun σ H Q=>to σ H fun x H1=>tyV K T x H1∧t σ H1 fun xs H2=>r x xs H2 Q
variable {o e:Expr}{es:List Expr}{to:TE}{t:TA}{name:Str}{apos cpos:Pos}{T id:String}{r:V→List V→Hp→VK→Prop}
theorem pe_bm0 (pa:PlainAttrs T) (slot:Slot T name id) (hty:typeOf (.builtin id)=pure (.type "method_descriptor")) (hm:MtR X id r) (ho:PE X o to)
  (hbase:attributeBase o name X.env (eval o X.env)=eval o X.env:=by rfl) (hline:(apos.endLine == cpos.line)=true:=by rfl):PE X (.Call (.Attribute o name apos) [] [] cpos) (tBM0 X.K T r to):=by
 intro pins s σ H Q I h
 refine wpAny_Call_method0_late hbase hline (thn (ho pins s σ H _ I h) fun v s1 ⟨x,H1,I1,r1,ty,q1⟩=>?_)
 obtain ⟨h1,h2⟩:=tyV_is I1 r1 ty
 exact ⟨T,id,pa,slot,hty,h1,h2,Calls.callWith_builtin rfl (PySem.evalArgs_none (hm pins s1 σ H1 x [] v [] Q I1 r1 .nil q1))⟩
theorem pe_bm (pa:PlainAttrs T) (slot:Slot T name id) (hty:typeOf (.builtin id)=pure (.type "method_descriptor")) (hm:MtR X id r) (ho:PE X o to) (ha:PA X (e::es) t)
  (hbase:attributeBase o name X.env (eval o X.env)=eval o X.env:=by rfl)
  (hfew:((backTo cpos (starEach (e::es) X.env)).all (fun x=>!x.1) && (backToKw cpos (keywordEach [] X.env)).all (fun x=>x.1.isSome)
   && decide ((e::es).length+([]:List Keyword).length+(if ([]:List Keyword).isEmpty then 0 else 1) < 30))=true:=by rfl)
  (hline:(apos.endLine == cpos.line)=true:=by rfl) (hs:starEach (e::es) X.env=(false,eval e X.env)::starEach es X.env:=by rfl) (hplain:(backTo cpos (starEach es X.env)).any (·.1)=false:=by rfl) :
  PE X (.Call (.Attribute o name apos) (e::es) [] cpos) (tBM X.K T r to t):=by
 intro pins s σ H Q I h
 refine wpAny_Call_method_late hbase hfew hline rfl (thn (ho pins s σ H _ I h) fun v s1 ⟨x,H1,I1,r1,ty,q1⟩=>?_)
 obtain ⟨h1,h2⟩:=tyV_is I1 r1 ty
 refine ⟨T,id,pa,slot,hty,h1,h2,?_⟩
 have hA:=ha cpos pins s1 σ H1 _ I1 q1
 rw [hs] at hA ⊢
 refine Calls.callWith_builtin (by show (false || (backTo cpos (starEach es X.env)).any (·.1))=false;rw [hplain] <;> rfl) (Calls.evalArgs_plain ?_)
 exact thn hA fun us s2 ⟨vs,H2,I2,r2,q2⟩=>hm pins s2 σ H2 x vs v us Q I2 r1 r2 q2
end
end L2
namespace L2
open PySem PySem.Spec PyProof.Rows
def MtM (X:Cx) (id:String) (r:V→List V→Hp→VK→Prop):Prop :=
 ∀ (pins:List (Addr × Obj)) (s:Shared) (σ:St) (H:Hp) (x:V) (xs:List V) (v:Value) (us:List Value) (Q:VK),Inv X pins σ H s→RelV x v→Vals xs us→r x xs H Q →
  wpAny (model X.prog X.w) X.A (call (.builtin id) (v::us)) (EP X pins σ Q) X.xe s
theorem Vals.one:∀ {x:V}{us:List Value},Vals [x] us→∃ u,us=[u]∧RelV x u
 | _,_,.cons r .nil=>⟨_,rfl,r⟩
section
variable {X:Cx}{pins:List (Addr × Obj)}{σ:St}{H:Hp}{s:Shared}{l b:Addr}{xs ys zs:List V}
theorem Inv.lset {its its':List Value}{n:Nat}{f:Array Value→Array Value}{t':Nat} (I:Inv X pins σ H s) (hH:H l=some (.lst xs))
  (e:s.heap.get? l=some { cls:=.type "list", data:=.seq its.toArray n }) (hf:f its.toArray=its'.toArray) (hv:Vals ys its') (hz:ys.length ≤ sizeLine) :
  Inv X pins σ (upd H l (.lst ys)) { s with heap:=s.heap.update l (Obj.mapSeq f),toks:=t' }:=by
 have q:=PySem.IsL.update e f
 rw [hf] at q
 refine I.write (x:=l) (e:=l) (by rw [hH];exact trivial) (.inl rfl) (fun b' u hb hu=>(Heap.get?_update_other s.heap (Obj.mapSeq f) (Ne.symm hb)).trans hu) ⟨_,q⟩ ?_
 exact ⟨hz,its',_,hv,q⟩
theorem Inv.lnew {its:List Value}{t':Nat} (I:Inv X pins σ H s) (hv:Vals ys its) (hz:ys.length ≤ sizeLine) :
  Inv X pins σ (upd H s.heap.objs.size (.lst ys)) { s with heap:=s.heap.push { cls:=.type "list", data:=.seq its.toArray },toks:=t' } :=
 I.laid (fun _ _ q=>Heap.get?_push_of_some _ q) (Nat.le_refl _) ⟨hz,its,0,hv,Heap.get?_push_size _ rfl⟩
theorem Inv.fresh (I:Inv X pins σ H s):H s.heap.objs.size=none:=I.hok.fresh (Nat.le_refl _)
theorem Inv.lstM (I:Inv X pins σ H s) (hH:H l=some (.lst xs)):xs.length ≤ sizeLine∧∃ (its:List Value) (n:Nat),Vals xs its∧xs.length=its.length∧s.heap.get? l=some { cls:=.type "list", data:=.seq its.toArray n }:=by
 obtain ⟨z,its,n,r,e⟩:=I.hok l _ hH
 exact ⟨z,its,n,r,r.length,e⟩
end
section
variable {X:Cx}
def rAppend:V→List V→Hp→VK→Prop:=fun x vs H Q=>∃ l xs y,x=.ref l∧vs=[y]∧H l=some (.lst xs)∧xs.length < sizeLine∧Q .non (upd H l (.lst (xs ++ [y])))
theorem mt_append:MtM X "list.append" rAppend:=by
 intro pins s σ H x vs v us Q I rx rv h
 obtain ⟨l,xs,y,rfl,rfl,hH,hz,q⟩:=h
 cases rx
 obtain ⟨u,rfl,ru⟩:=rv.one
 obtain ⟨z,its,n,r,hl,e⟩:=I.lstM hH
 refine call_meets F.slot_list_append ⟨_,e,rfl⟩ F.entry_list_append (F.args_list_append_2 _ _) (PySem.list_append l its.toArray n u (by rw [List.size_toArray];omega)) ⟨e,?_⟩
 refine ⟨.non,_,I.lset (its':=its ++ [u]) hH e (by simp) (r.append (.cons ru .nil)) ?_,rfl,q⟩
 rw [List.length_append,List.length_singleton]
 omega
def rClear:V→List V→Hp→VK→Prop:=fun x vs H Q=>∃ l xs,x=.ref l∧vs=[]∧H l=some (.lst xs)∧Q .non (upd H l (.lst []))
theorem Vals.zero:∀ {us:List Value},Vals [] us→us=[]
 | _,.nil=>rfl
theorem mt_clear:MtM X "list.clear" rClear:=by
 intro pins s σ H x vs v us Q I rx rv h
 obtain ⟨l,xs,rfl,rfl,hH,q⟩:=h
 cases rx
 have hus:=rv.zero
 subst hus
 obtain ⟨z,its,n,r,hl,e⟩:=I.lstM hH
 refine call_meets F.slot_list_clear ⟨_,e,rfl⟩ F.entry_list_clear (F.args_list_clear_1 _) (AutoSeq1.list_clear_list_0 l its.toArray n (by rw [List.size_toArray];omega)) ⟨e,?_⟩
 exact ⟨.non,_,I.lset (its':=[]) (ys:=[]) hH e rfl .nil (Nat.zero_le _),rfl,q⟩
end
section
variable {prog:Program}{w:World}{A:Around}{E:Value→Shared→Prop}{s:Shared}
end
section
variable {X:Cx}
end
end L2
namespace Att
open PySem PySem.W PySem.Calls PyProof.Rows
theorem ints_of_wellAll {P:Params}{h:Heap}:∀ (ns:List Int) (vs:List Value),WellAll P h vs (ns.map WData.int)→IntsAre vs ns:=by
 intro ns
 induction ns with
 | nil =>
  intro vs w
  rw [List.map_nil] at w
  cases w
  exact .nil
 | cons n ns ih =>
  intro vs w
  rw [List.map_cons] at w
  cases w with
  | cons a b =>
   cases a
   exact .cons _ _ (ih _ b)
theorem script_of {l:OpenLaw}{n:Nat} (hn:l.most=some n) {P:Params}{h:Heap}{args:List WData}{vals:List Value}
  (hpre:l.row.toRowW.claim.pre args=true) (hwl:WellAll P h vals args) :
  ∃ a vs ns,vals=[Value.ref a]∧args=[WData.list (ns.map WData.int)]∧h.get? a=some { cls:=.type "list", data:=.seq vs.toArray }∧IntsAre vs ns∧ns.length ≤ n:=by
 have hsh:WShape.hasAll [] args [.list .int]=true:=(pre_splitW hpre).1
 have hc:l.pre.holds [] { args:=args }=true:=(pre_splitW hpre).2
 obtain ⟨d,r,rfl,h1,h2⟩:=hasAllW_cons hsh
 obtain rfl:=hasAllW_nil h2
 obtain ⟨xs,rfl,h3⟩:=hasW_list h1
 obtain ⟨ns,rfl⟩:=items_int h3
 have hlen:ns.length ≤ n:=by
  unfold OpenLaw.pre at hc
  have h4:(WTm.not (.lt (.lit (.int (n:Int))) (.len (.arg 0)))).holds [] { args:=[.list (ns.map .int)] }=true:=by
   have h4:=(holds_andW hc).1
   rw [hn] at h4
   exact h4
  have h5:=condW_of h4 (w_not (w_lt w_lit (w_len_list (w_arg rfl))))
  rw [List.length_map] at h5
  refine Nat.le_of_not_lt fun q=>?_
  have q':(n:Int) < ((ns.length:Nat):Int):=by omega
  first
   | (rw [decide_eq_true q'] at h5;exact absurd h5 (by decide))
   | (simp at h5;omega)
 cases hwl with
 | cons w1 w2 =>
  cases w2
  cases w1 with
  | list ho hall=>exact ⟨_,_,ns,rfl,rfl,ho,ints_of_wellAll ns _ hall,hlen⟩
theorem post_true (l:OpenLaw) (args:List WData):l.row.toRowW.claim.post args (.bool true) args=true :=
 postW_of (r:=l.row.toRowW) (X:=(true == true))
  (show WShape.has [] (.bool true) .bool=true by first | rfl | decide | simp [WShape.has,WShape.arms,WShape.armsAll])
  (show (WTm.eq .res (.lit (.bool true))).value [] { args:=args,res:=some (.bool true),after:=args }=some (.bool (true == true)) from w_eq_bool (w_res rfl) w_lit) rfl
theorem attach_call {l:OpenLaw}{n:Nat}{q:Program}{loose:List Str}{XP:(Str→Option Value)→Heap→Prop}{YP:World→Heap→Prop}{d:DefRec}
  (hn:l.most=some n) (hdf:d.params.defaults=[])
  (call:∀ (w:World) (s₀ s₁:Shared) (mg mb:Str→Option Value) (fa:Addr) (o:Obj) (pm cd doc:Value) (a:Addr) (vs:List Value) (ns:List Int),
   Ground q loose [] XP w s₀ mg mb s₁.heap→YP w s₁.heap →
   s₁.heap.get? fa=some o→o.data=.func (docDef d.name d.params d.body d.scope pm cd doc)→s₁.heap.CodeRec cd d.name→mg d.name=some (.ref fa) →
   s₁.heap.get? a=some { cls:=.type "list", data:=.seq vs.toArray }→IntsAre vs ns→ns.length ≤ n→s₁.gens=#[] →
   codeAny (model l.prog w) callerA (.call (.ref fa) ⟨[.ref a],[]⟩) (fun r s'=>r=.ok (.ret (.bool true))∧OldK s₁.heap s'.heap∧s'.os=s₁.os∧AllBare s'.gens) s₁) :
  WalkO q loose XP YP l.row.toRowW d [] (fun f vs=>PySem.call f vs):=by
 intro w s₀ s₁ mg mb G Y fa o pm cd doc dV kV ho hd hcd hD hmg hg args vals as hpre hlay hrd hwl hlo
 obtain rfl:dV=.none:=Dflts.none hD hdf
 obtain rfl:kV=.none:=Dflts.noKw hD
 obtain ⟨a,vs,ns,rfl,rfl,hobj,hints,hlen⟩:=script_of hn hpre hwl
 refine enter_call (codeAny_mono (call w s₀ s₁ mg mb fa o pm cd doc a vs ns G Y ho (fd_plain hd) hcd hmg hobj hints hlen hg) fun r s' hq=>?_)
 obtain ⟨rfl,h2,h3,h4⟩:=hq
 exact ⟨.inl ⟨.bool true,.bool true,[],rfl,fun _=>rfl,.bool true,post_true l _,fun _=>⟨List.Pairwise.nil,fun _ hm=>(nomatch hm)⟩⟩,h2,h3,h4⟩
section
variable {prog:Program}{w:World}{A:Around}{E:Value→Shared→Prop}{s:Shared}{K:Frag}
end
end Att
namespace L2
open PySem PySem.Spec PyProof.Rows
theorem vals_ints:∀ {vs:List Value}{ns:List Int},IntsAre vs ns→Vals (ns.map V.int) vs
 | _,_,.nil=>.nil
 | _,_,.cons n t h=>.cons ⟨t,rfl⟩ (vals_ints h)
def Only (H:Hp):Prop:=∀ b,H b=none ∨ ∃ o xs,H b=some (.frz o (.lst xs))
theorem law_call {P:Program}{w:World}{K:PySem.W.Frag}{mg mb:Str→Option Value}{CX:CXT}{k:Nat}{fa a:Addr}{fd:FuncData}{x:Str}{sp:Sp}{s₁:Shared}{vs:List Value}{ns:List Int}
  (KX:K.In s₁.heap) (hns:s₁.heap.Ns mainGlobals mg) (hb:s₁.heap.Ns builtinsNs mb) (hbb:∀ x:Str,x ≠ "__name__" → mb x=bootBuiltins x) (hlim:s₁.heap.NoLimit) (hg:s₁.gens=#[])
  (ha:s₁.heap.get? a=some { cls:=.type "list", data:=.seq vs.toArray }) (hi:IntsAre vs ns) (hl:ns.length ≤ sizeLine) (hr:Room k callerA)
  (F:∀ base:Heap,K.In base→base.Ns mainGlobals mg→FnOk P w K mg base CX k fa fd [x] sp) (hbind:∀ (s:Shared) (u:Value),BindsTo s fd ⟨[u],[]⟩ [(x,u)])
  (hsp:∀ H:Hp,Only H→SqL K H a (ns.map V.int)→sp [.ref a] H (fun v _=>v=.bl true) fun _ _ _=>False)
  (hCX:∀ H e s',CX [] H s₁ (fun _ _ _=>False) e s'→False) :
  codeAny (model P w) callerA (.call (.ref fa) ⟨[.ref a],[]⟩) (fun r s'=>r=.ok (.ret (.bool true))∧OldK s₁.heap s'.heap∧s'.os=s₁.os∧AllBare s'.gens) s₁:=by
 have rv:=vals_ints hi
 have lenV:=hi.length
 have core:∀ H:Hp,Only H→SqL K H a (ns.map V.int)→HOk P w H s₁.heap→(∀ b,H b ≠ none→b=a)→(H a ≠ none→K.lookup a=none) →
   codeAny (model P w) callerA (.call (.ref fa) ⟨[.ref a],[]⟩) (fun r s'=>r=.ok (.ret (.bool true))∧OldK s₁.heap s'.heap∧s'.os=s₁.os∧AllBare s'.gens) s₁:=by
  intro H hO hS hok hA hK
  have base_of:∀ {b:Addr}{o:Obj},s₁.heap.get? b=some o→H b=none→(hidT s₁.heap H).get? b=some o:=fun e n=>hidT_get e n
  have noA:∀ {b:Addr}{o:Obj}{es:Array DictEntry}{ep:Nat},s₁.heap.get? b=some o→o.data=.dict es ep→H b=none:=fun {b o es ep} e d=>by
   cases q:H b with
   | none=>rfl
   | some u =>
    have e':b=a:=hA b (by rw [q];simp)
    subst e'
    rw [ha] at e;cases e
    have d':Data.seq vs.toArray _=Data.dict es ep:=d
    cases d'
  have nsK:∀ {b:Addr}{m:Str→Option Value},s₁.heap.Ns b m→(hidT s₁.heap H).Ns b m:=fun {b m} ⟨o,es,ep,e,d,r⟩=>⟨o,es,ep,base_of e (noA e d),d,r⟩
  have hKb:K.In (hidT s₁.heap H):=fun b o e=>base_of (KX b o e) (by
   cases q:H b with
   | none=>rfl
   | some u =>
    have e':b=a:=hA b (by rw [q];simp)
    subst e'
    rw [hK (by rw [q];simp)] at e;cases e)
  have hM:Mod K mg (hidT s₁.heap H):=⟨hKb,nsK hns,⟨mb,nsK hb,hbb⟩,let ⟨mc,h1,h2⟩:=hlim;⟨mc,nsK h1,h2⟩⟩
  have e0:Env0 P w K mg (hidT s₁.heap H) callerA [] s₁ H:=⟨rfl,hM,fun b o e=>of_hidT e,Nat.le_of_eq (hidT_size _ _),trivial,fun b hb=>absurd (show b ∈ ([]:List Addr) from hb) (by simp),hok,.of_eq hg⟩
  refine codeAny_mono ((F _ hKb (nsK hns)).run callerA [] s₁ H ⟨[.ref a],[]⟩ [.ref a] [.ref a] _ _ hr e0 (hbind s₁ (.ref a)) (.cons rfl .nil) (hsp H hO hS)) fun r s' h=>?_
  cases r with
  | error e=>exact (hCX H e s' h).elim
  | ok fl =>
   cases fl with
   | next=>exact False.elim h
   | brk=>exact False.elim h
   | cont=>exact False.elim h
   | ret u =>
    obtain ⟨v,H',os,bare,un,hok',r',q⟩:=h
    have q':v=.bl true:=q
    subst q'
    obtain rfl:u=Value.bool true:=r'
    refine ⟨rfl,OldK.of_keep fun b o e=>?_,os,bare⟩
    cases q:H b with
    | none=>exact un.keep b o e q (by intro z;exact absurd (show b ∈ ([]:List Addr) from z) (by simp)) (by simp)
    | some u =>
     rcases hO b with z | ⟨ob,xs,z⟩
     ·rw [q] at z;cases z
     ·have z2:=un.frzs b ob _ z
      obtain ⟨e1,_⟩:=hok b _ z
      obtain ⟨e2,_⟩:=hok' b _ z2
      rw [e] at e1;cases e1
      exact e2
 cases hk:K.lookup a with
 | some o =>
  have e:=KX a o hk
  rw [ha] at e
  cases e
  refine core (fun _=>none) (fun _=>.inl rfl) (.inr ⟨_,vs.toArray,_,hk,rfl,rfl,rfl,by rw [List.size_toArray,lenV];exact hl,by simpa using rv⟩) (fun b u z=>by have z':(none:Option HO)=some u:=z;cases z') (fun b z=>absurd rfl z) fun z=>absurd rfl z
 | none =>
  refine core (fun b=>if b=a then some (.frz { cls:=.type "list", data:=.seq vs.toArray } (.lst (ns.map V.int))) else none) (fun b=>?_) (.inl (.inr ⟨{ cls:=.type "list", data:=.seq vs.toArray },if_pos rfl⟩)) (fun b u z=>?_) (fun b z=>?_) fun _=>hk
  ·by_cases hb:b=a
   ·exact .inr ⟨_,_,if_pos hb⟩
   ·exact .inl (if_neg hb)
  ·by_cases hb:b=a
   ·have z':=(if_pos hb).symm.trans z
    cases z'
    subst hb
    exact ⟨ha,by rw [List.length_map];exact hl,vs,_,rv,ha⟩
   ·have z':=(if_neg hb).symm.trans z
    cases z'
  ·by_cases hb:b=a
   ·exact hb
   ·exact absurd (if_neg hb) z
end L2
namespace L2
open PySem PySem.Spec PyProof.Rows
theorem walk_of {l:PySem.W.OpenLaw}{n k:Nat}{q:Program}{loose:List Str}{XP:(Str→Option Value)→Heap→Prop}{YP:World→Heap→Prop}{d:DefRec}{K:Params→PySem.W.Frag}{CX:World→CXT}{sp:World→Sp}{x:Str}
  (hn:l.most=some n) (hn2:n ≤ sizeLine) (hdf:d.params.defaults=[]) (hr:Room k callerA)
  (hY:∀ (w:World) (h:Heap),YP w h→(K w.params).In h)
  (F:∀ (w:World) (mg:Str→Option Value) (fa:Addr) (h:Heap),(K w.params).In h→h.Ns mainGlobals mg→mg d.name=some (.ref fa) →
   ∃ fd:FuncData,(∀ (s:Shared) (u:Value),BindsTo s fd ⟨[u],[]⟩ [(x,u)]) ∧
    ∀ base:Heap,(K w.params).In base→base.Ns mainGlobals mg→FnOk l.prog w (K w.params) mg base (CX w) k fa fd [x] (sp w))
  (hsp:∀ (w:World) (H:Hp) (a:Addr) (ns:List Int),ns.length ≤ n→Only H→SqL (K w.params) H a (ns.map V.int)→sp w [.ref a] H (fun v _=>v=.bl true) fun _ _ _=>False)
  (hCX:∀ (w:World) (H:Hp) (s:Shared) (e:Value) (s':Shared),CX w [] H s (fun _ _ _=>False) e s'→False) :
  PySem.W.WalkO q loose XP YP l.row.toRowW d [] (fun f vs=>PySem.call f vs):=by
 refine Att.attach_call hn hdf fun w s₀ s₁ mg mb fa o pm cd doc a vs ns G Y ho hd hcd hmg hobj hints hlen hg=>?_
 have KX:=hY w _ Y
 obtain ⟨fd,hb,hF⟩:=F w mg fa _ KX G.T.g hmg
 exact law_call KX G.T.g G.T.b G.T.builtins G.T.nolimit hg hobj hints (Nat.le_trans hlen hn2) hr hF hb (fun H hO hS=>hsp w H a ns hlen hO hS) fun H e s'=>hCX w H s₁ e s'
end L2
namespace L2
open PySem PySem.Spec PyProof.Rows
def inClass (s:Stmt) (j:Nat):Stmt:=match s with
 | .ClassDef _ _ _ body _ _ _ _ _ _ _=>body.getD j (.Pass ⟨0,0,0,0⟩)
 | _=>.Pass ⟨0,0,0,0⟩
def defArgs (s:Stmt):Arguments:=match s with
 | .FunctionDef _ a _ _ _ _ _ _ _ _=>a
 | _=>{ posonlyargs:=[],args:=[],vararg:=none,kwonlyargs:=[],kw_defaults:=[],kwarg:=none,defaults:=[] }
def defBody (s:Stmt):List Stmt:=match s with
 | .FunctionDef _ _ b _ _ _ _ _ _ _=>b
 | _=>[]
def defScope (s:Stmt):Scope:=match s with
 | .FunctionDef _ _ _ _ _ _ sc _ _ _=>sc
 | _=>{ kind:=.function,names:=[],isGenerator:=false,isCoroutine:=false }
structure Fun (K:PySem.W.Frag) (x qual:Str) (st:Stmt) (f:Addr) (fd:FuncData):Prop where
 ex:∃ (oc:Value) (od:Option Addr) (kV doc pm:Value) (an:Option Addr) (cdv ct:Value) (osl:Array (Option Value)),
  fd=PySem.W.fnOf x qual (defArgs st) (defBody st) (defScope st) .none kV doc pm an cdv ct∧K.lookup f=some ⟨oc,od,.func fd,osl⟩∧PySem.W.codeIn K cdv qual=true
 kp:PySem.W.keepIn K (.ref f)=true
section
variable {P:Program}{w:World}{K:PySem.W.Frag}{mg:Str→Option Value}{base:Heap}
theorem Fun.binds {x qual:Str}{st:Stmt}{f:Addr}{fd:FuncData}{ps:List Str} (F:Fun K x qual st f fd)
  (h:∀ (kV doc pm:Value) (an:Option Addr) (cdv ct:Value) (us:List Value),us.length=ps.length→bindArgs (PySem.W.fnOf x qual (defArgs st) (defBody st) (defScope st) .none kV doc pm an cdv ct) ⟨us,[]⟩=pure (ps.zip us)):Binds K fd ps []:=by
 obtain ⟨oc,od,kV,doc,pm,an,cdv,ct,osl,rfl,lk,hcd⟩:=F.ex
 exact .all (h kV doc pm an cdv ct)
theorem fun_mk {x qual:Str}{st:Stmt}{f:Addr}{oc:Value}{od an:Option Addr}{osl:Array (Option Value)}{kV doc pm cdv ct:Value} (l:K.lookup f=some ⟨oc,od,.func (PySem.W.fnOf x qual (defArgs st) (defBody st) (defScope st) .none kV doc pm an cdv ct),osl⟩)
  (c:PySem.W.codeIn K cdv qual=true) (k:PySem.W.keepIn K (.ref f)=true):Fun K x qual st f (PySem.W.fnOf x qual (defArgs st) (defBody st) (defScope st) .none kV doc pm an cdv ct):=⟨⟨oc,od,kV,doc,pm,an,cdv,ct,osl,rfl,l,c⟩,k⟩
end
section
variable {X:Cx}
theorem pv (i:Nat) {x:Str}{pos:Pos} (hN:X.N[i]?=some x:=by rfl) (hv:Vis X.env.scope x:=by first | exact Or.inl rfl | exact Or.inr (Or.inl rfl) | exact Or.inr (Or.inr rfl)) (hd:(x == ("__debug__" : Str))=false:=by decide)
  (hcd:(x == ("__classdict__" : Str))=false:=by decide):PE X (.Name x pos) (tVar i):=pe_var hN hv hd hcd
end
end L2
set_option maxHeartbeats 4000000
namespace PR
open PySem
inductive Fl where
 | own | frz | bor | lnt | mod
 deriving DecidableEq
inductive PV where
 | non
 | bl (b:Bool)
 | int (i:Int)
 | str (x:Str)
 | lst (f:Fl) (xs:List PV)
 | tup (xs:List PV)
 | obj (f:Fl) (c:Nat) (ks:List Nat) (vs:List PV)
 | exc (c:Nat)
mutual
def PV.mapF (g:Fl→Fl):PV→PV
 | .non=>.non
 | .bl b=>.bl b
 | .int i=>.int i
 | .str x=>.str x
 | .lst f xs=>.lst (g f) (mapL g xs)
 | .tup xs=>.tup (mapL g xs)
 | .obj f c ks vs=>.obj (g f) c ks (mapL g vs)
 | .exc c=>.exc c
def mapL (g:Fl→Fl):List PV→List PV
 | []=>[]
 | x::xs=>x.mapF g::mapL g xs
end
mutual
def PV.has (p:Fl→Bool):PV→Bool
 | .non=>false
 | .bl _=>false
 | .int _=>false
 | .str _=>false
 | .lst f xs=>p f || hasL p xs
 | .tup xs=>hasL p xs
 | .obj f _ _ vs=>p f || hasL p vs
 | .exc _=>false
def hasL (p:Fl→Bool):List PV→Bool
 | []=>false
 | x::xs=>x.has p || hasL p xs
end
def Fl.isLnt:Fl→Bool
 | .lnt=>true
 | _=>false
def Fl.isBor:Fl→Bool
 | .bor=>true
 | _=>false
def Fl.lend:Fl→Fl
 | .own=>.lnt
 | f=>f
def Fl.freeze:Fl→Fl
 | .own=>.frz
 | f=>f
def Fl.toBor:Fl→Fl
 | .lnt=>.bor
 | f=>f
inductive Res (α:Type) where
 | ok (a:α)
 | exc (c:Nat)
 | stuck
def Res.bind {α β:Type}:Res α→(α→Res β)→Res β
 | .ok a,k=>k a
 | .exc c,_=>.exc c
 | .stuck,_=>.stuck
@[simp] theorem Res.ok_bind {α β:Type} (a:α) (k:α→Res β):(Res.ok a).bind k=k a:=by simp only [Res.bind]
@[simp] theorem Res.exc_bind {α β:Type} (c:Nat) (k:α→Res β):(Res.exc c:Res α).bind k=.exc c:=rfl
@[simp] theorem Res.stuck_bind {α β:Type} (k:α→Res β):(Res.stuck:Res α).bind k=.stuck:=rfl
abbrev En:=List (Option PV)
abbrev ME:=En→Res PV
abbrev MT:=En→Res Bool
abbrev MA:=En→Res (List PV)
inductive Out where
 | next (e:En)
 | ret (v:PV)
 | brk (e:En)
 | cont (e:En)
 | exc (c:Nat) (e:En)
 | stuck
abbrev MS:=En→Out
def mC (v:PV):ME:=fun _=>.ok v
def mVar (i:Nat):ME:=fun env=>match env[i]? with
 | some (some v)=>.ok (v.mapF Fl.lend)
 | _=>.stuck
def mNil:MA:=fun _=>.ok []
def mCons (a:ME) (r:MA):MA:=fun env=>(a env).bind fun x=>(r env).bind fun xs=>.ok (x::xs)
def mUn (f:PV→Res PV) (a:ME):ME:=fun env=>(a env).bind f
def mOp (f:PV→PV→Res PV) (a b:ME):ME:=fun env=>(a env).bind fun x=>(b env).bind fun y=>f x y
def pInt2 (g:Int→Int→PV):PV→PV→Res PV
 | .int i,.int j=>.ok (g i j)
 | _,_=>.stuck
def pInt2? (C:Int→Int→Bool) (g:Int→Int→PV):PV→PV→Res PV
 | .int i,.int j=>if C i j then .ok (g i j) else .stuck
 | _,_=>.stuck
def pTruth:PV→Res Bool
 | .non=>.ok false
 | .bl b=>.ok b
 | .int i=>.ok (i != 0)
 | .lst _ xs=>.ok (!xs.isEmpty)
 | .tup xs=>.ok (!xs.isEmpty)
 | _=>.stuck
def mTest (a:ME):MT:=fun env=>(a env).bind fun
 | .bl b=>.ok b
 | _=>.stuck
def mTruth (a:ME):MT:=fun env=>(a env).bind pTruth
def mNotT (a:MT):MT:=fun env=>(a env).bind fun b=>.ok (!b)
def mAndT (a b:MT):MT:=fun env=>(a env).bind fun x=>if x then b env else .ok false
def mOrT (a b:MT):MT:=fun env=>(a env).bind fun x=>if x then .ok true else b env
def mIfE (c:MT) (a b:ME):ME:=fun env=>(c env).bind fun x=>if x then a env else b env
def mNext:MS:=.next
def mSeq (a b:MS):MS:=fun env=>match a env with
 | .next e=>b e
 | o=>o
def mBr (c:MT) (a b:MS):MS:=fun env=>match c env with
 | .ok true=>a env
 | .ok false=>b env
 | .exc k=>.exc k env
 | .stuck=>.stuck
def PV.noLnt (v:PV):Bool:=!v.has Fl.isLnt
def isObj0 (env:List (Option PV)):Bool:=match env[0]? with
 | some (some (PV.obj _ _ _ _))=>true
 | _=>false
def okSlot (i:Nat) (env:En):Bool:=if i=0 then !isObj0 env else true
def mSet (i:Nat) (e:ME):MS:=fun env=>match e env with
 | .ok v=>if v.noLnt && okSlot i env then .next (env.set i (some v)) else .stuck
 | .exc k=>.exc k env
 | .stuck=>.stuck
def mRet (e:ME):MS:=fun env=>match e env with
 | .ok v=>if v.noLnt then .ret v else .stuck
 | .exc k=>.exc k env
 | .stuck=>.stuck
def mRetV (i:Nat):MS:=fun env=>match env[i]? with
 | some (some v)=>.ret v
 | _=>.stuck
def mDrop (e:ME):MS:=fun env=>match e env with
 | .ok _=>.next env
 | .exc k=>.exc k env
 | .stuck=>.stuck
def mFrz (i:Nat):MS:=fun env=>match env[i]? with
 | some (some v)=>.next (env.set i (some (v.mapF Fl.freeze)))
 | _=>.stuck
def forL (body:PV→MS):List PV→En→Out
 | [],env=>.next env
 | x::xs,env=>match body x env with
  | .next e=>forL body xs e
  | .cont e=>forL body xs e
  | .brk e=>.next e
  | o=>o
end PR
namespace PR
open PySem PySem.Spec L2
structure Tb where
 K:PySem.W.Frag
 nc:Nat
 cls:Nat→Addr
 att:Nat→Str
 inj:∀ i j,att i=att j→i=j
 xcl:Nat→Addr
def ExcO (C a:Addr):HO:=.ext fun h=>∃ o,h.get? a=some o∧o.cls=.ref C
def KL (K:PySem.W.Frag) (a:Addr) (xs:List V):Prop:=∃ (o:Obj) (its:Array Value) (n:Nat),K.lookup a=some o∧o.cls=.type "list" ∧ o.dict=none∧o.data=.seq its n∧its.size ≤ sizeLine∧Vals xs its.toList
def FlOk:Fl→Addr→List Addr→List Addr→Prop
 | .own,a,fp',fp=>fp=a::fp'
 | _,_,fp',fp=>fp'=[]∧fp=[]
def FlAt (F B L:Addr→Prop):Fl→Addr→Prop
 | .own,_=>True
 | .frz,a=>F a
 | .bor,a=>B a
 | .lnt,a=>L a
 | .mod,_=>False
def LstAt (T:Tb) (F B L:Addr→Prop) (H:Hp):Fl→Addr→List V→Prop
 | .own,a,vs=>H a=some (.lst vs)
 | .lnt,a,vs=>L a∧H a=some (.lst vs)
 | .frz,a,vs=>F a∧Rd H a (.lst vs)
 | .bor,a,vs=>B a∧Rd H a (.lst vs)
 | .mod,a,vs=>KL T.K a vs
theorem LstAt.sq {T:Tb}{F B L:Addr→Prop}{H:Hp}{f:Fl}{a:Addr}{vs:List V} (h:LstAt T F B L H f a vs):SqL T.K H a vs:=by
 cases f with
 | own=>exact SqL.of h
 | lnt=>exact SqL.of h.2
 | frz=>exact .inl h.2
 | bor=>exact .inl h.2
 | mod=>exact .inr h
mutual
def Rel (T:Tb) (F B L:Addr→Prop) (H:Hp):PV→V→List Addr→Prop
 | .non,v,fp=>v=.non∧fp=[]
 | .bl b,v,fp=>v=.bl b∧fp=[]
 | .int i,v,fp=>v=.int i∧fp=[]
 | .str x,v,fp=>v=.str x∧fp=[]
 | .lst f xs,v,fp=>∃ a vs fp',v=.ref a∧LstAt T F B L H f a vs∧RelL T F B L H xs vs fp'∧FlOk f a fp' fp
 | .tup xs,v,fp=>∃ a vs,v=.ref a∧SqT T.K H a vs∧RelL T F B L H xs vs fp
 | .obj f c ks xs,v,fp=>∃ a dx vs fp',v=.ref a∧H a=some (.ins (T.cls c) dx ((ks.map T.att).zip vs))∧(ks.length=xs.length∧c < T.nc)∧RelL T F B L H xs vs fp'∧FlOk f a fp' fp∧FlAt F B L f a
 | .exc c,v,fp=>∃ a,v=.ref a∧H a=some (ExcO (T.xcl c) a)∧fp=[]
def RelL (T:Tb) (F B L:Addr→Prop) (H:Hp):List PV→List V→List Addr→Prop
 | [],vs,fp=>vs=[]∧fp=[]
 | x::xs,vs,fp=>∃ v ws f1 f2,vs=v::ws∧Rel T F B L H x v f1∧RelL T F B L H xs ws f2∧fp=f1 ++ f2
end
def isFix:HO→Prop
 | .tup _=>True
 | .frz _ (.tup _)=>True
 | .ext _=>True
 | _=>False
section
variable {T:Tb}{F F' B B' L L':Addr→Prop}{H H':Hp}
theorem Rd.tr {a:Addr}{u:HO} (h:∀ o,H a=some o→H' a=some o) (q:Rd H a u):Rd H' a u:=by
 rcases q with q | ⟨o,q⟩
 ·exact .inl (h _ q)
 ·exact .inr ⟨o,h _ q⟩
theorem SqT.tr {K:PySem.W.Frag}{a:Addr}{vs:List V} (h:∀ o,H a=some o→isFix o→H' a=some o) (q:SqT K H a vs):SqT K H' a vs:=by
 rcases q with (q | ⟨o,q⟩) | q
 ·exact .inl (.inl (h _ q True.intro))
 ·exact .inl (.inr ⟨o,h _ q True.intro⟩)
 ·exact .inr q
mutual
theorem Rel.tr (hF:∀ a,F a→F' a) (hB:∀ a,B a→B' a) (hL:∀ a,L a→L' a) (hx:∀ a o,H a=some o→(F a ∨ B a ∨ L a ∨ isFix o)→H' a=some o) :
  ∀ {x:PV}{v:V}{fp:List Addr},(∀ a ∈ fp,∀ o,H a=some o→H' a=some o)→Rel T F B L H x v fp→Rel T F' B' L' H' x v fp
 | .non,_,_,_,h=>by unfold Rel at h ⊢;exact h
 | .bl _,_,_,_,h=>by unfold Rel at h ⊢;exact h
 | .int _,_,_,_,h=>by unfold Rel at h ⊢;exact h
 | .str _,_,_,_,h=>by unfold Rel at h ⊢;exact h
 | .lst f xs,_,fp,hp,h=>by
  unfold Rel at h ⊢
  obtain ⟨a,vs,fp',e,hl,hr,hf⟩:=h
  cases f with
  | own =>
   obtain rfl:fp=a::fp':=hf
   exact ⟨a,vs,fp',e,hp a List.mem_cons_self _ hl,RelL.tr hF hB hL hx (fun b hb=>hp b (List.mem_cons_of_mem _ hb)) hr,rfl⟩
  | frz =>
   obtain ⟨rfl,rfl⟩:=hf
   exact ⟨a,vs,[],e,⟨hF a hl.1,Rd.tr (fun o q=>hx a o q (.inl hl.1)) hl.2⟩,RelL.tr hF hB hL hx hp hr,rfl,rfl⟩
  | bor =>
   obtain ⟨rfl,rfl⟩:=hf
   exact ⟨a,vs,[],e,⟨hB a hl.1,Rd.tr (fun o q=>hx a o q (.inr (.inl hl.1))) hl.2⟩,RelL.tr hF hB hL hx hp hr,rfl,rfl⟩
  | lnt =>
   obtain ⟨rfl,rfl⟩:=hf
   exact ⟨a,vs,[],e,⟨hL a hl.1,hx a _ hl.2 (.inr (.inr (.inl hl.1)))⟩,RelL.tr hF hB hL hx hp hr,rfl,rfl⟩
  | mod =>
   obtain ⟨rfl,rfl⟩:=hf
   exact ⟨a,vs,[],e,hl,RelL.tr hF hB hL hx hp hr,rfl,rfl⟩
 | .tup xs,_,fp,hp,h=>by
  unfold Rel at h ⊢
  obtain ⟨a,vs,e,hl,hr⟩:=h
  exact ⟨a,vs,e,SqT.tr (fun o q z=>hx a o q (.inr (.inr (.inr z)))) hl,RelL.tr hF hB hL hx hp hr⟩
 | .obj f c ks xs,_,fp,hp,h=>by
  unfold Rel at h ⊢
  obtain ⟨a,dx,vs,fp',e,hl,hk,hr,hf,ha⟩:=h
  cases f with
  | own =>
   obtain rfl:fp=a::fp':=hf
   exact ⟨a,dx,vs,fp',e,hp a List.mem_cons_self _ hl,hk,RelL.tr hF hB hL hx (fun b hb=>hp b (List.mem_cons_of_mem _ hb)) hr,rfl,True.intro⟩
  | frz =>
   obtain ⟨rfl,rfl⟩:=hf
   exact ⟨a,dx,vs,[],e,hx a _ hl (.inl ha),hk,RelL.tr hF hB hL hx hp hr,⟨rfl,rfl⟩,hF a ha⟩
  | bor =>
   obtain ⟨rfl,rfl⟩:=hf
   exact ⟨a,dx,vs,[],e,hx a _ hl (.inr (.inl ha)),hk,RelL.tr hF hB hL hx hp hr,⟨rfl,rfl⟩,hB a ha⟩
  | lnt =>
   obtain ⟨rfl,rfl⟩:=hf
   exact ⟨a,dx,vs,[],e,hx a _ hl (.inr (.inr (.inl ha))),hk,RelL.tr hF hB hL hx hp hr,⟨rfl,rfl⟩,hL a ha⟩
  | mod=>exact ha.elim
 | .exc c,_,fp,hp,h=>by
  unfold Rel at h ⊢
  obtain ⟨a,e,hl,hf⟩:=h
  exact ⟨a,e,hx a _ hl (.inr (.inr (.inr True.intro))),hf⟩
theorem RelL.tr (hF:∀ a,F a→F' a) (hB:∀ a,B a→B' a) (hL:∀ a,L a→L' a) (hx:∀ a o,H a=some o→(F a ∨ B a ∨ L a ∨ isFix o)→H' a=some o) :
  ∀ {xs:List PV}{vs:List V}{fp:List Addr},(∀ a ∈ fp,∀ o,H a=some o→H' a=some o)→RelL T F B L H xs vs fp→RelL T F' B' L' H' xs vs fp
 | [],_,_,_,h=>by unfold RelL at h ⊢;exact h
 | x::xs,_,fp,hp,h=>by
  unfold RelL at h ⊢
  obtain ⟨v,ws,f1,f2,e,h1,h2,rfl⟩:=h
  exact ⟨v,ws,f1,f2,e,Rel.tr hF hB hL hx (fun b hb=>hp b (List.mem_append_left _ hb)) h1,RelL.tr hF hB hL hx (fun b hb=>hp b (List.mem_append_right _ hb)) h2,rfl⟩
end
def Ext (H H':Hp):Prop:=∀ a o,H a=some o→H' a=some o
theorem Ext.refl {H:Hp}:Ext H H:=fun _ _ h=>h
theorem Ext.trans {H H1 H2:Hp} (a:Ext H H1) (b:Ext H1 H2):Ext H H2:=fun c o h=>b c o (a c o h)
theorem Ext.upd {H:Hp}{a:Addr}{o:HO} (h:H a=none):Ext H (L2.upd H a o):=fun b u e=>by rw [upd_ne (ne_of_none e h)];exact e
theorem Ext.free {H H':Hp} (x:Ext H H') {a:Addr} (h:H' a=none):H a=none:=by
 cases e:H a with
 | none=>rfl
 | some o=>rw [x a o e] at h;cases h
theorem Rel.ext {x:PV}{v:V}{fp:List Addr} (e:Ext H H') (hF:∀ a,F a→F' a) (h:Rel T F B L H x v fp):Rel T F' B L H' x v fp :=
 Rel.tr hF (fun _ h=>h) (fun _ h=>h) (fun a o q _=>e a o q) (fun a _ o q=>e a o q) h
theorem RelL.ext {xs:List PV}{vs:List V}{fp:List Addr} (e:Ext H H') (hF:∀ a,F a→F' a) (h:RelL T F B L H xs vs fp):RelL T F' B L H' xs vs fp :=
 RelL.tr hF (fun _ h=>h) (fun _ h=>h) (fun a o q _=>e a o q) (fun a _ o q=>e a o q) h
theorem RelL.length:∀ {xs:List PV}{vs:List V}{fp:List Addr},RelL T F B L H xs vs fp→xs.length=vs.length
 | [],_,_,h=>by unfold RelL at h;rw [h.1];rfl
 | x::xs,_,_,h=>by
  unfold RelL at h
  obtain ⟨v,ws,f1,f2,rfl,_,h2,_⟩:=h
  simp [RelL.length h2]
mutual
theorem Rel.there:∀ {x:PV}{v:V}{fp:List Addr},Rel T F B L H x v fp→∀ a ∈ fp,∃ o,H a=some o
 | .non,_,_,h=>by unfold Rel at h;rw [h.2];exact fun _ z=>nomatch z
 | .bl _,_,_,h=>by unfold Rel at h;rw [h.2];exact fun _ z=>nomatch z
 | .int _,_,_,h=>by unfold Rel at h;rw [h.2];exact fun _ z=>nomatch z
 | .str _,_,_,h=>by unfold Rel at h;rw [h.2];exact fun _ z=>nomatch z
 | .lst f xs,_,fp,h=>by
  unfold Rel at h
  obtain ⟨a,vs,fp',e,hl,hr,hf⟩:=h
  cases f with
  | own =>
   obtain rfl:fp=a::fp':=hf
   intro b hb
   rcases List.mem_cons.mp hb with rfl | hb
   ·exact ⟨_,hl⟩
   ·exact RelL.there hr b hb
  | frz=>obtain ⟨rfl,rfl⟩:=hf;exact fun _ z=>nomatch z
  | bor=>obtain ⟨rfl,rfl⟩:=hf;exact fun _ z=>nomatch z
  | lnt=>obtain ⟨rfl,rfl⟩:=hf;exact fun _ z=>nomatch z
  | mod=>obtain ⟨rfl,rfl⟩:=hf;exact fun _ z=>nomatch z
 | .tup xs,_,fp,h=>by
  unfold Rel at h
  obtain ⟨a,vs,e,hl,hr⟩:=h
  exact RelL.there hr
 | .obj f c ks xs,_,fp,h=>by
  unfold Rel at h
  obtain ⟨a,dx,vs,fp',e,hl,hk,hr,hf,ha⟩:=h
  cases f with
  | own =>
   obtain rfl:fp=a::fp':=hf
   intro b hb
   rcases List.mem_cons.mp hb with rfl | hb
   ·exact ⟨_,hl⟩
   ·exact RelL.there hr b hb
  | frz=>obtain ⟨rfl,rfl⟩:=hf;exact fun _ z=>nomatch z
  | bor=>obtain ⟨rfl,rfl⟩:=hf;exact fun _ z=>nomatch z
  | lnt=>obtain ⟨rfl,rfl⟩:=hf;exact fun _ z=>nomatch z
  | mod=>obtain ⟨rfl,rfl⟩:=hf;exact fun _ z=>nomatch z
 | .exc c,_,fp,h=>by
  unfold Rel at h
  obtain ⟨a,e,hl,rfl⟩:=h
  exact fun _ z=>nomatch z
theorem RelL.there:∀ {xs:List PV}{vs:List V}{fp:List Addr},RelL T F B L H xs vs fp→∀ a ∈ fp,∃ o,H a=some o
 | [],_,_,h=>by unfold RelL at h;rw [h.2];exact fun _ z=>nomatch z
 | x::xs,_,_,h=>by
  unfold RelL at h
  obtain ⟨v,ws,f1,f2,_,h1,h2,rfl⟩:=h
  intro b hb
  rcases List.mem_append.mp hb with hb | hb
  ·exact Rel.there h1 b hb
  ·exact RelL.there h2 b hb
end
def Chg:HO→Prop
 | .lst _=>True
 | .ins _ _ _=>True
 | _=>False
mutual
theorem Rel.chg:∀ {x:PV}{v:V}{fp:List Addr},Rel T F B L H x v fp→∀ a ∈ fp,∃ o,H a=some o∧Chg o
 | .non,_,_,h=>by unfold Rel at h;rw [h.2];exact fun _ z=>nomatch z
 | .bl _,_,_,h=>by unfold Rel at h;rw [h.2];exact fun _ z=>nomatch z
 | .int _,_,_,h=>by unfold Rel at h;rw [h.2];exact fun _ z=>nomatch z
 | .str _,_,_,h=>by unfold Rel at h;rw [h.2];exact fun _ z=>nomatch z
 | .lst f xs,_,fp,h=>by
  unfold Rel at h
  obtain ⟨a,vs,fp',e,hl,hr,hf⟩:=h
  cases f with
  | own =>
   obtain rfl:fp=a::fp':=hf
   intro b hb
   rcases List.mem_cons.mp hb with rfl | hb
   ·exact ⟨_,hl,True.intro⟩
   ·exact RelL.chg hr b hb
  | frz=>obtain ⟨rfl,rfl⟩:=hf;exact fun _ z=>nomatch z
  | bor=>obtain ⟨rfl,rfl⟩:=hf;exact fun _ z=>nomatch z
  | lnt=>obtain ⟨rfl,rfl⟩:=hf;exact fun _ z=>nomatch z
  | mod=>obtain ⟨rfl,rfl⟩:=hf;exact fun _ z=>nomatch z
 | .tup xs,_,fp,h=>by
  unfold Rel at h
  obtain ⟨a,vs,e,hl,hr⟩:=h
  exact RelL.chg hr
 | .obj f c ks xs,_,fp,h=>by
  unfold Rel at h
  obtain ⟨a,dx,vs,fp',e,hl,hk,hr,hf,ha⟩:=h
  cases f with
  | own =>
   obtain rfl:fp=a::fp':=hf
   intro b hb
   rcases List.mem_cons.mp hb with rfl | hb
   ·exact ⟨_,hl,True.intro⟩
   ·exact RelL.chg hr b hb
  | frz=>obtain ⟨rfl,rfl⟩:=hf;exact fun _ z=>nomatch z
  | bor=>obtain ⟨rfl,rfl⟩:=hf;exact fun _ z=>nomatch z
  | lnt=>obtain ⟨rfl,rfl⟩:=hf;exact fun _ z=>nomatch z
  | mod=>obtain ⟨rfl,rfl⟩:=hf;exact fun _ z=>nomatch z
 | .exc c,_,fp,h=>by
  unfold Rel at h
  obtain ⟨a,e,hl,rfl⟩:=h
  exact fun _ z=>nomatch z
theorem RelL.chg:∀ {xs:List PV}{vs:List V}{fp:List Addr},RelL T F B L H xs vs fp→∀ a ∈ fp,∃ o,H a=some o∧Chg o
 | [],_,_,h=>by unfold RelL at h;rw [h.2];exact fun _ z=>nomatch z
 | x::xs,_,_,h=>by
  unfold RelL at h
  obtain ⟨v,ws,f1,f2,_,h1,h2,rfl⟩:=h
  intro b hb
  rcases List.mem_append.mp hb with hb | hb
  ·exact Rel.chg h1 b hb
  ·exact RelL.chg h2 b hb
end
mutual
theorem Rel.lend:∀ {x:PV}{v:V}{fp:List Addr},(∀ a ∈ fp,L a)→Rel T F B L H x v fp→Rel T F B L H (x.mapF Fl.lend) v []
 | .non,_,_,_,h=>by unfold Rel at h;simp only [PV.mapF];unfold Rel;exact ⟨h.1,rfl⟩
 | .bl _,_,_,_,h=>by unfold Rel at h;simp only [PV.mapF];unfold Rel;exact ⟨h.1,rfl⟩
 | .int _,_,_,_,h=>by unfold Rel at h;simp only [PV.mapF];unfold Rel;exact ⟨h.1,rfl⟩
 | .str _,_,_,_,h=>by unfold Rel at h;simp only [PV.mapF];unfold Rel;exact ⟨h.1,rfl⟩
 | .lst f xs,_,fp,hp,h=>by
  unfold Rel at h
  obtain ⟨a,vs,fp',e,hl,hr,hf⟩:=h
  simp only [PV.mapF]
  unfold Rel
  cases f with
  | own =>
   obtain rfl:fp=a::fp':=hf
   exact ⟨a,vs,[],e,⟨hp a List.mem_cons_self,hl⟩,RelL.lend (fun b hb=>hp b (List.mem_cons_of_mem _ hb)) hr,rfl,rfl⟩
  | frz=>obtain ⟨rfl,rfl⟩:=hf;exact ⟨a,vs,[],e,hl,RelL.lend hp hr,rfl,rfl⟩
  | bor=>obtain ⟨rfl,rfl⟩:=hf;exact ⟨a,vs,[],e,hl,RelL.lend hp hr,rfl,rfl⟩
  | lnt=>obtain ⟨rfl,rfl⟩:=hf;exact ⟨a,vs,[],e,hl,RelL.lend hp hr,rfl,rfl⟩
  | mod=>obtain ⟨rfl,rfl⟩:=hf;exact ⟨a,vs,[],e,hl,RelL.lend hp hr,rfl,rfl⟩
 | .tup xs,_,fp,hp,h=>by
  unfold Rel at h
  obtain ⟨a,vs,e,hl,hr⟩:=h
  simp only [PV.mapF]
  unfold Rel
  exact ⟨a,vs,e,hl,RelL.lend hp hr⟩
 | .obj f c ks xs,_,fp,hp,h=>by
  unfold Rel at h
  obtain ⟨a,dx,vs,fp',e,hl,hk,hr,hf,ha⟩:=h
  simp only [PV.mapF]
  unfold Rel
  cases f with
  | own =>
   obtain rfl:fp=a::fp':=hf
   have r:=RelL.lend (fun b hb=>hp b (List.mem_cons_of_mem _ hb)) hr
   exact ⟨a,dx,vs,[],e,hl,⟨by rw [r.length,hk.1,hr.length],hk.2⟩,r,⟨rfl,rfl⟩,hp a List.mem_cons_self⟩
  | frz=>obtain ⟨rfl,rfl⟩:=hf;have r:=RelL.lend hp hr;exact ⟨a,dx,vs,[],e,hl,⟨by rw [r.length,hk.1,hr.length],hk.2⟩,r,⟨rfl,rfl⟩,ha⟩
  | bor=>obtain ⟨rfl,rfl⟩:=hf;have r:=RelL.lend hp hr;exact ⟨a,dx,vs,[],e,hl,⟨by rw [r.length,hk.1,hr.length],hk.2⟩,r,⟨rfl,rfl⟩,ha⟩
  | lnt=>obtain ⟨rfl,rfl⟩:=hf;have r:=RelL.lend hp hr;exact ⟨a,dx,vs,[],e,hl,⟨by rw [r.length,hk.1,hr.length],hk.2⟩,r,⟨rfl,rfl⟩,ha⟩
  | mod=>exact ha.elim
 | .exc c,_,fp,hp,h=>by
  unfold Rel at h
  obtain ⟨a,e,hl,rfl⟩:=h
  simp only [PV.mapF]
  unfold Rel
  exact ⟨a,e,hl,rfl⟩
theorem RelL.lend:∀ {xs:List PV}{vs:List V}{fp:List Addr},(∀ a ∈ fp,L a)→RelL T F B L H xs vs fp→RelL T F B L H (mapL Fl.lend xs) vs []
 | [],_,_,_,h=>by unfold RelL at h;simp only [mapL];unfold RelL;exact ⟨h.1,rfl⟩
 | x::xs,_,fp,hp,h=>by
  unfold RelL at h
  obtain ⟨v,ws,f1,f2,e,h1,h2,rfl⟩:=h
  simp only [mapL]
  unfold RelL
  exact ⟨v,ws,[],[],e,Rel.lend (fun b hb=>hp b (List.mem_append_left _ hb)) h1,RelL.lend (fun b hb=>hp b (List.mem_append_right _ hb)) h2,rfl⟩
end
end
end PR
namespace L2
open PySem PySem.Spec
theorem PE.wk {X:Cx}{e:Expr}{t t':TE} (h:PE X e t) (w:∀ σ H Q,t' σ H Q→t σ H Q):PE X e t':=fun pins s σ H Q I q=>h pins s σ H Q I (w σ H Q q)
theorem PA.wk {X:Cx}{e:List Expr}{t t':TA} (h:PA X e t) (w:∀ σ H Q,t' σ H Q→t σ H Q):PA X e t':=fun pos pins s σ H Q I q=>h pos pins s σ H Q I (w σ H Q q)
theorem PT.wk {X:Cx}{e:Expr}{t t':TT} (h:PT X e t) (w:∀ σ H Q,t' σ H Q→t σ H Q):PT X e t':=fun pins s σ H Q I q=>h pins s σ H Q I (w σ H Q q)
theorem PW.wk {X:Cx}{e:Expr}{t t':TT} (h:PW X e t) (w:∀ σ H Q,t' σ H Q→t σ H Q):PW X e t':=fun wh pins s σ H Q I q=>h wh pins s σ H Q I (w σ H Q q)
theorem PS.wk {X:Cx}{e:Stmt}{t t':TS} (h:PS X e t) (w:∀ D σ H,t' D σ H→t D σ H):PS X e t':=fun pins s σ H D I q=>h pins s σ H D I (w D σ H q)
theorem PSs.wk {X:Cx}{e:List Stmt}{t t':TS} (h:PSs X e t) (w:∀ D σ H,t' D σ H→t D σ H):PSs X e t':=fun pins s σ H D I q=>h pins s σ H D I (w D σ H q)
end L2
namespace PR
open PySem PySem.Spec L2
structure Zn where
 H0:Hp
 F0:Addr→Prop
 fp0:Addr→Prop
 B:Addr→Prop
 pin:Option V:=none
abbrev NoL:Addr→Prop:=fun _=>False
structure HpRel (T:Tb) (Z:Zn) (F:Addr→Prop) (H:Hp):Prop where
 bo:∀ a,Z.B a→(∃ o,Z.H0 a=some o)∧¬ Z.fp0 a
 keep:∀ a o,Z.H0 a=some o→¬ Z.fp0 a→H a=some o
 f0:∀ a,Z.F0 a→F a
 fn:∀ a,F a→Z.F0 a ∨ Z.H0 a=none ∨ Z.fp0 a
 ft:∀ a,F a→∃ o,H a=some o
structure StRel (T:Tb) (Z:Zn) (F:Addr→Prop) (H:Hp) (σ:St) (env:En) (fp:Nat→List Addr):Prop where
 hp:HpRel T Z F H
 len:σ.length=env.length
 rel:∀ (i:Nat) (pv:PV),env[i]?=some (some pv)→∃ v,σ[i]?=some (some v)∧Rel T F Z.B NoL H pv v (fp i)
 nd:∀ i,(fp i).Nodup
 dj:∀ i j,i ≠ j→∀ a ∈ fp i,a ∉ fp j
 dis:∀ i,∀ a ∈ fp i,¬ F a∧∃ o,H a=some o
 new:∀ i,∀ a ∈ fp i,Z.H0 a=none ∨ Z.fp0 a
 ch:∀ i,∀ a ∈ fp i,∃ o,H a=some o∧Chg o
 pn:∀ v,Z.pin=some v→σ[0]?=some (some v)∧isObj0 env=true
def Own (fp:Nat→List Addr):Addr→Prop:=fun a=>∃ i,a ∈ fp i
structure Gr (F:Addr→Prop) (H:Hp) (F':Addr→Prop) (H':Hp):Prop where
 ext:Ext H H'
 mono:∀ a,F a→F' a
 only:∀ a,F' a→F a ∨ H a=none
 dom:∀ a,F' a→∃ o,H' a=some o
theorem Gr.refl {F:Addr→Prop}{H:Hp} (h:∀ a,F a→∃ o,H a=some o):Gr F H F H:=⟨Ext.refl,fun _ h=>h,fun _ h=>.inl h,h⟩
theorem Gr.trans {F F1 F2:Addr→Prop}{H H1 H2:Hp} (a:Gr F H F1 H1) (b:Gr F1 H1 F2 H2):Gr F H F2 H2 :=
 ⟨a.ext.trans b.ext,fun c h=>b.mono c (a.mono c h),fun c h=>(b.only c h).elim (a.only c) fun z=>.inr (a.ext.free z),b.dom⟩
theorem Gr.same {F:Addr→Prop}{H H':Hp} (h:∀ a,F a→∃ o,H a=some o) (e:Ext H H'):Gr F H F H':=⟨e,fun _ h=>h,fun _ h=>.inl h,fun a q=>let ⟨o,z⟩:=h a q;⟨o,e a o z⟩⟩
section
variable {T:Tb}{Z:Zn}{F F':Addr→Prop}{H H':Hp}{σ:St}{env:En}{fp:Nat→List Addr}
theorem HpRel.grow (S:HpRel T Z F H) (g:Gr F H F' H'):HpRel T Z F' H' :=
 ⟨S.bo,fun a o h n=>g.ext a o (S.keep a o h n),fun a h=>g.mono a (S.f0 a h),fun a h=>by
  rcases g.only a h with z | z
  ·exact S.fn a z
  ·refine .inr ?_
   by_cases q:Z.fp0 a
   ·exact .inr q
   ·refine .inl ?_
    cases w:Z.H0 a with
    | none=>rfl
    | some o=>rw [S.keep a o w q] at z;exact (nomatch z),g.dom⟩
theorem StRel.grow (S:StRel T Z F H σ env fp) (g:Gr F H F' H'):StRel T Z F' H' σ env fp :=
 ⟨S.hp.grow g,S.len,fun i pv h=>let ⟨v,q1,q2⟩:=S.rel i pv h;⟨v,q1,q2.ext g.ext g.mono⟩,S.nd,S.dj,fun i a h=>by
  obtain ⟨n,o,q⟩:=S.dis i a h
  refine ⟨fun z=>?_,o,g.ext a o q⟩
  rcases g.only a z with z | z
  ·exact n z
  ·rw [q] at z;exact (nomatch z),S.new,fun i a h=>let ⟨o,q,c⟩:=S.ch i a h;⟨o,g.ext a o q,c⟩,S.pn⟩
end
def GE (T:Tb) (W:Nat→St→Hp→Prop) (B F L:Addr→Prop) (σ:St) (H:Hp) (Q:VK):Res PV→Prop
 | .ok pv=>∀ v H' F' f,Gr F H F' H'→Rel T F' B L H' pv v f→(∀ a ∈ f,¬ F' a)→f.Nodup→(∀ a ∈ f,H a=none)→Q v H'
 | .exc c=>∀ H',Ext H H'→W c σ H'
 | .stuck=>False
def GA (T:Tb) (W:Nat→St→Hp→Prop) (B F L:Addr→Prop) (σ:St) (H:Hp) (Q:List V→Hp→Prop):Res (List PV)→Prop
 | .ok pvs=>∀ vs H' F' f,Gr F H F' H'→RelL T F' B L H' pvs vs f→(∀ a ∈ f,¬ F' a)→f.Nodup→(∀ a ∈ f,H a=none)→Q vs H'
 | .exc c=>∀ H',Ext H H'→W c σ H'
 | .stuck=>False
def GT (W:Nat→St→Hp→Prop) (F:Addr→Prop) (σ:St) (H:Hp) (Q:Bool→Hp→Prop):Res Bool→Prop
 | .ok b=>∀ H' F',Gr F H F' H'→Q b H'
 | .exc c=>∀ H',Ext H H'→W c σ H'
 | .stuck=>False
def tE (T:Tb) (W:Nat→St→Hp→Prop) (m:ME):TE:=fun σ H Q=>∃ Z F env fp,StRel T Z F H σ env fp∧GE T W Z.B F (Own fp) σ H Q (m env)
def tA (T:Tb) (W:Nat→St→Hp→Prop) (m:MA):TA:=fun σ H Q=>∃ Z F env fp,StRel T Z F H σ env fp∧GA T W Z.B F (Own fp) σ H Q (m env)
def tT (T:Tb) (W:Nat→St→Hp→Prop) (m:MT):TT:=fun σ H Q=>∃ Z F env fp,StRel T Z F H σ env fp∧GT W F σ H Q (m env)
abbrev SE (X:Cx) (T:Tb) (W:Nat→St→Hp→Prop) (e:Expr) (m:ME):Prop:=PE X e (tE T W m)
abbrev SA (X:Cx) (T:Tb) (W:Nat→St→Hp→Prop) (es:List Expr) (m:MA):Prop:=PA X es (tA T W m)
abbrev ST (X:Cx) (T:Tb) (W:Nat→St→Hp→Prop) (e:Expr) (m:MT):Prop:=PT X e (tT T W m)
section
variable {X:Cx}{T:Tb}{W:Nat→St→Hp→Prop}{Z:Zn}{F F' B L:Addr→Prop}{H H':Hp}{σ:St}{env:En}{fp:Nat→List Addr}
theorem GE.scal {Q:VK}{pv:PV}{v:V} (q:GE T W B F L σ H Q (.ok pv)) (g:Gr F H F' H') (r:Rel T F' B L H' pv v []):Q v H' :=
 q v H' F' [] g r (fun _ z=>(nomatch z)) List.nodup_nil (fun _ z=>(nomatch z))
theorem se_val {e:Expr}{v:V}{pv:PV} (h:PE X e (tC v)) (r:∀ F B L H,Rel T F B L H pv v []):SE X T W e (mC pv):=PE.wk h fun σ H Q ⟨Z,F,env,fp,S,q⟩=>q.scal (Gr.refl S.hp.ft) (r _ _ _ _)
theorem se_int {i j pos}:SE X T W (.Constant (.int i) j pos) (mC (.int i)):=se_val pe_int fun _ _ _ _=>by unfold Rel;exact ⟨rfl,rfl⟩
theorem se_bl {b j pos}:SE X T W (.Constant (.bool b) j pos) (mC (.bl b)):=se_val pe_bl fun _ _ _ _=>by unfold Rel;exact ⟨rfl,rfl⟩
theorem se_non {j pos}:SE X T W (.Constant .none j pos) (mC .non):=se_val pe_non fun _ _ _ _=>by unfold Rel;exact ⟨rfl,rfl⟩
theorem se_str {x j pos}:SE X T W (.Constant (.str x) j pos) (mC (.str x)):=se_val pe_str fun _ _ _ _=>by unfold Rel;exact ⟨rfl,rfl⟩
theorem se_var {i:Nat}{x:Str}{pos:Pos} (hN:X.N[i]?=some x) (hv:Vis X.env.scope x) (hd:(x == ("__debug__" : Str))=false:=by decide) (hcd:(x == ("__classdict__" : Str))=false:=by decide):SE X T W (.Name x pos) (mVar i) :=
 PE.wk (pe_var hN hv hd hcd) fun σ H Q ⟨Z,F,env,fp,S,q⟩=>by
  unfold mVar at q
  split at q
  ·rename_i pv e
   obtain ⟨v,e1,r⟩:=S.rel i pv e
   refine ⟨v,e1,q.scal (Gr.refl S.hp.ft) ?_⟩
   exact Rel.lend (fun a h=>⟨i,h⟩) (Rel.tr (fun _ h=>h) (fun _ h=>h) (fun _ h=>h.elim) (fun a o q _=>q) (fun a _ o q=>q) r)
  ·exact q.elim
theorem tE.bind {m:ME}{Q:VK} (S:StRel T Z F H σ env fp) (hx:∀ c,m env=.exc c→∀ H',Ext H H'→W c σ H') (hs:m env ≠ .stuck)
  (k:∀ pv v H' F' f,m env=.ok pv→Gr F H F' H'→Rel T F' Z.B (Own fp) H' pv v f→(∀ a ∈ f,¬ F' a)→f.Nodup→(∀ a ∈ f,H a=none)→Q v H'):tE T W m σ H Q:=by
 refine ⟨Z,F,env,fp,S,?_⟩
 cases e:m env with
 | ok pv=>exact fun v H' F' f g r h1 h2 h3=>k pv v H' F' f e g r h1 h2 h3
 | exc c=>exact hx c e
 | stuck=>exact hs e
theorem tA.bind {m:MA}{Q:List V→Hp→Prop} (S:StRel T Z F H σ env fp) (hx:∀ c,m env=.exc c→∀ H',Ext H H'→W c σ H') (hs:m env ≠ .stuck)
  (k:∀ pvs vs H' F' f,m env=.ok pvs→Gr F H F' H'→RelL T F' Z.B (Own fp) H' pvs vs f→(∀ a ∈ f,¬ F' a)→f.Nodup→(∀ a ∈ f,H a=none)→Q vs H'):tA T W m σ H Q:=by
 refine ⟨Z,F,env,fp,S,?_⟩
 cases e:m env with
 | ok pv=>exact fun v H' F' f g r h1 h2 h3=>k pv v H' F' f e g r h1 h2 h3
 | exc c=>exact hx c e
 | stuck=>exact hs e
theorem tT.bind {m:MT}{Q:Bool→Hp→Prop} (S:StRel T Z F H σ env fp) (hx:∀ c,m env=.exc c→∀ H',Ext H H'→W c σ H') (hs:m env ≠ .stuck)
  (k:∀ b H' F',m env=.ok b→Gr F H F' H'→Q b H'):tT T W m σ H Q:=by
 refine ⟨Z,F,env,fp,S,?_⟩
 cases e:m env with
 | ok pv=>exact fun H' F' g=>k pv H' F' e g
 | exc c=>exact hx c e
 | stuck=>exact hs e
theorem sa_nil:SA X T W [] mNil:=PA.wk pa_nil fun σ H Q ⟨Z,F,env,fp,S,q⟩=>q [] H F [] (Gr.refl S.hp.ft) (by unfold RelL;exact ⟨rfl,rfl⟩) (fun _ z=>(nomatch z)) List.nodup_nil (fun _ z=>(nomatch z))
theorem sa_cons {e:Expr}{es:List Expr}{m:ME}{ms:MA} (ha:SE X T W e m) (hr:SA X T W es ms) (hs:starEach (e::es) X.env=(false,eval e X.env)::starEach es X.env:=by rfl):SA X T W (e::es) (mCons m ms) :=
 PA.wk (pa_cons ha hr hs) fun σ H Q ⟨Z,F,env,fp,S,q⟩=>by
  unfold mCons at q
  refine tE.bind S (fun c e=>by rw [e] at q;exact q) (fun e=>by rw [e] at q;exact q) fun x v H1 F1 f1 e1 g1 r1 n1 d1 w1=>?_
  rw [e1] at q
  simp only [Res.ok_bind] at q
  refine tA.bind (S.grow g1) (fun c e=>by rw [e] at q;exact fun H' x=>q H' (g1.ext.trans x)) (fun e=>by rw [e] at q;exact q) fun xs vs H2 F2 f2 e2 g2 r2 n2 d2 w2=>?_
  rw [e2] at q
  simp only [Res.ok_bind] at q
  have new1:∀ a ∈ f1,¬ F2 a:=fun a ha z=>by
   rcases g2.only a z with z | z
   ·exact n1 a ha z
   ·obtain ⟨o,ho⟩:=r1.there a ha
    rw [ho] at z;cases z
  refine q (v::vs) H2 F2 (f1 ++ f2) (g1.trans g2) (by unfold RelL;exact ⟨v,vs,f1,f2,rfl,r1.ext g2.ext g2.mono,r2,rfl⟩) (fun a ha=>?_) ?_ (fun a ha=>?_)
  ·rcases List.mem_append.mp ha with ha | ha
   ·exact new1 a ha
   ·exact n2 a ha
  ·refine List.nodup_append.mpr ⟨d1,d2,fun a ha b hb z=>?_⟩
   subst z
   obtain ⟨o,ho⟩:=r1.there a ha
   rw [w2 a hb] at ho;cases ho
  ·rcases List.mem_append.mp ha with ha | ha
   ·exact w1 a ha
   ·exact g1.ext.free (w2 a ha)
def mCall (f:List PV→Res PV) (ms:MA):ME:=fun env=>(ms env).bind f
def Mir (T:Tb) (W:Nat→St→Hp→Prop) (f:List PV→Res PV) (r:List V→Hp→VK→Prop):Prop :=
 ∀ (B F L:Addr→Prop) (σ:St) (H:Hp) (Q:VK) (F':Addr→Prop) (H':Hp) (xs:List PV) (vs:List V) (fx:List Addr),Gr F H F' H'→RelL T F' B L H' xs vs fx→(∀ a ∈ fx,¬ F' a)→fx.Nodup→(∀ a ∈ fx,H a=none) →
  GE T W B F L σ H Q (f xs)→r vs H' Q
theorem tA.mir {f:List PV→Res PV}{r:List V→Hp→VK→Prop}{ms:MA}{Q:VK} (hm:Mir T W f r) (h:tE T W (mCall f ms) σ H Q):tA T W ms σ H fun vs H1=>r vs H1 Q:=by
 obtain ⟨Z,F,env,fp,S,q⟩:=h
 unfold mCall at q
 refine tA.bind S (fun c e=>by rw [e] at q;exact q) (fun e=>by rw [e] at q;exact q) fun xs vs H1 F1 f1 e1 g1 r1 n1 d1 w1=>?_
 rw [e1] at q
 exact hm Z.B F (Own fp) σ H Q F1 H1 xs vs f1 g1 r1 n1 d1 w1 q
theorem se_callB {id:String}{x:Str}{p pos:Pos}{e:Expr}{es:List Expr}{f:List PV→Res PV}{r:List V→Hp→VK→Prop}{ms:MA} (hc:CallR X (.builtin id) r) (hmir:Mir T W f r) (hg:Gl X x) (hm:X.mg x=none) (hv:bootBuiltins x=some (.builtin id)) (ha:SA X T W (e::es) ms)
  (hn:x ≠ "__name__" := by decide) (hdb:(x == ("__debug__" : Str))=false:=by decide)
  (he:starEach (e::es) X.env=(false,eval e X.env)::starEach es X.env:=by rfl) (hpl:(backTo pos (starEach es X.env)).any (·.1)=false:=by rfl):SE X T W (.Call (.Name x p) (e::es) [] pos) (mCall f ms) :=
 PE.wk (pe_callB hc hg hm hv ha hn hdb he hpl) fun σ H Q h=>tA.mir hmir h
theorem se_callTy {id:String}{x:Str}{p pos:Pos}{e:Expr}{es:List Expr}{f:List PV→Res PV}{r:List V→Hp→VK→Prop}{ms:MA} (hc:CallR X (.type id) r) (hmir:Mir T W f r) (hg:Gl X x) (hm:X.mg x=none) (hv:bootBuiltins x=some (.type id)) (ha:SA X T W (e::es) ms)
  (hn:x ≠ "__name__" := by decide) (hdb:(x == ("__debug__" : Str))=false:=by decide)
  (he:starEach (e::es) X.env=(false,eval e X.env)::starEach es X.env:=by rfl) (hpl:(backTo pos (starEach es X.env)).any (·.1)=false:=by rfl):SE X T W (.Call (.Name x p) (e::es) [] pos) (mCall f ms) :=
 PE.wk (pe_callTy hc hg hm hv ha hn hdb he hpl) fun σ H Q h=>tA.mir hmir h
def Mir2 (T:Tb) (W:Nat→St→Hp→Prop) (f:PV→PV→Res PV) (r:R2):Prop :=
 ∀ (B F L:Addr→Prop) (σ:St) (H:Hp) (Q:VK) (F':Addr→Prop) (H':Hp) (x y:PV) (v u:V) (fx fy:List Addr),Gr F H F' H'→Rel T F' B L H' x v fx→Rel T F' B L H' y u fy→(∀ a ∈ fx ++ fy,¬ F' a)→(fx ++ fy).Nodup→(∀ a ∈ fx ++ fy,H a=none) →
  GE T W B F L σ H Q (f x y)→r v u H' Q
theorem tE.mir2 {f:PV→PV→Res PV}{r:R2}{ma mb:ME}{Q:VK} (hm:Mir2 T W f r) (h:tE T W (mOp f ma mb) σ H Q):tOp r (tE T W ma) (tE T W mb) σ H Q:=by
 obtain ⟨Z,F,env,fp,S,q⟩:=h
 unfold mOp at q
 refine tE.bind S (fun c e=>by rw [e] at q;exact q) (fun e=>by rw [e] at q;exact q) fun x v H1 F1 f1 e1 g1 r1 n1 d1 w1=>?_
 rw [e1] at q
 simp only [Res.ok_bind] at q
 refine tE.bind (S.grow g1) (fun c e=>by rw [e] at q;exact fun H' x=>q H' (g1.ext.trans x)) (fun e=>by rw [e] at q;exact q) fun y u H2 F2 f2 e2 g2 r2 n2 d2 w2=>?_
 rw [e2] at q
 simp only [Res.ok_bind] at q
 have new1:∀ a ∈ f1,¬ F2 a:=fun a ha z=>by
  rcases g2.only a z with z | z
  ·exact n1 a ha z
  ·obtain ⟨o,ho⟩:=r1.there a ha
   rw [ho] at z;cases z
 refine hm Z.B F (Own fp) σ H Q F2 H2 x y v u f1 f2 (g1.trans g2) (r1.ext g2.ext g2.mono) r2 (fun a ha=>?_) ?_ (fun a ha=>?_) q
 ·rcases List.mem_append.mp ha with ha | ha
  ·exact new1 a ha
  ·exact n2 a ha
 ·refine List.nodup_append.mpr ⟨d1,d2,fun a ha b hb z=>?_⟩
  subst z
  obtain ⟨o,ho⟩:=r1.there a ha
  rw [w2 a hb] at ho;cases ho
 ·rcases List.mem_append.mp ha with ha | ha
  ·exact w1 a ha
  ·exact g1.ext.free (w2 a ha)
theorem se_op {a b:Expr}{ma mb:ME}{op:Operator}{r:R2}{f:PV→PV→Res PV}{pos:Pos} (ho:OpR X (binaryOp op) r) (hm:Mir2 T W f r) (ha:SE X T W a ma) (hb:SE X T W b mb):SE X T W (.BinOp a op b pos) (mOp f ma mb) :=
 PE.wk (pe_op (pos:=pos) ho ha hb) fun σ H Q h=>tE.mir2 hm h
theorem se_cmp {a b:Expr}{ma mb:ME}{op:CmpOp}{r:R2}{f:PV→PV→Res PV}{pos:Pos} (ho:OpR X (compareOp op) r) (hm:Mir2 T W f r) (ha:SE X T W a ma) (hb:SE X T W b mb) (hk:behindInMarks op b=false):SE X T W (.Compare a [op] [b] pos) (mOp f ma mb) :=
 PE.wk (pe_cmpR (pos:=pos) ho ha hb hk) fun σ H Q h=>tE.mir2 hm h
theorem se_ix {a b:Expr}{ma mb:ME}{r:R2}{f:PV→PV→Res PV}{pos:Pos} (hr:IxR X r) (hm:Mir2 T W f r) (ha:SE X T W a ma) (hb:SE X T W b mb) (hs:PlainIx b):SE X T W (.Subscript a b pos) (mOp f ma mb) :=
 PE.wk (pe_ix (pos:=pos) hr ha hb hs) fun σ H Q h=>tE.mir2 hm h
theorem mir_I0 {g:Int→Int→V}{g':Int→Int→PV} (hg:∀ i j F B L H,Rel T F B L H (g' i j) (g i j) []):Mir2 T W (pInt2 g') (rI0 g):=by
  intro B F L σ H Q F' H' x y v u fx fy gr rx ry _ _ _ q
  cases x <;> cases y <;> first
    | exact q.elim
    | (unfold Rel at rx ry
       exact ⟨_,_,rx.1,ry.1,q.scal gr (hg _ _ _ _ _ _)⟩)
theorem mir_I {C:Int→Int→Prop}{C':Int→Int→Bool}{g:Int→Int→V}{g':Int→Int→PV} (hc:∀ i j,C' i j=true→C i j) (hg:∀ i j F B L H,Rel T F B L H (g' i j) (g i j) []):Mir2 T W (pInt2? C' g') (rI C g):=by
  intro B F L σ H Q F' H' x y v u fx fy gr rx ry _ _ _ q
  cases x <;> cases y <;> first
    | exact q.elim
    | (unfold Rel at rx ry
       simp only [pInt2?] at q
       split at q
       · rename_i hh
         exact ⟨_,_,rx.1,ry.1,hc _ _ hh,q.scal gr (hg _ _ _ _ _ _)⟩
       · exact q.elim)
theorem relI {i:Int}:Rel T F B L H (.int i) (.int i) []:=by unfold Rel;exact ⟨rfl,rfl⟩
theorem relB {i:Bool}:Rel T F B L H (.bl i) (.bl i) []:=by unfold Rel;exact ⟨rfl,rfl⟩
theorem relN:Rel T F B L H .non .non []:=by unfold Rel;exact ⟨rfl,rfl⟩
def pSub:PV→PV→Res PV:=pInt2 fun i j=>.int (i - j)
def pMul:PV→PV→Res PV:=pInt2? (fun i j=>decide ((-(2 ^ 64) < i∧i < 2 ^ 64) ∨ (-(2 ^ 64) < j∧j < 2 ^ 64))) fun i j=>.int (i * j)
def pMod:PV→PV→Res PV:=pInt2? (fun _ j=>decide (0 < j)) fun i j=>.int (i % j)
def pDiv:PV→PV→Res PV:=pInt2? (fun _ j=>decide (0 < j∧j < 1073741824)) fun i j=>.int (i / j)
def pPow:PV→PV→Res PV:=pInt2? (fun i j=>decide (0 ≤ j∧j ≤ 1000000∧i.natAbs < 2 ^ 64)) fun i j=>.int (i ^ j.toNat)
def pLt:PV→PV→Res PV:=pInt2 fun i j=>.bl (decide (i < j))
def pLe:PV→PV→Res PV:=pInt2 fun i j=>.bl (decide (i ≤ j))
def pGt:PV→PV→Res PV:=pInt2 fun i j=>.bl (decide (j < i))
def pGe:PV→PV→Res PV:=pInt2 fun i j=>.bl (decide (j ≤ i))
variable {a b:Expr}{ma mb:ME}{pos:Pos}
theorem se_sub (ha:SE X T W a ma) (hb:SE X T W b mb):SE X T W (.BinOp a .Sub b pos) (mOp pSub ma mb):=se_op op_sub (mir_I0 fun _ _ _ _ _ _=>relI) ha hb
theorem se_mul (ha:SE X T W a ma) (hb:SE X T W b mb):SE X T W (.BinOp a .Mult b pos) (mOp pMul ma mb):=se_op op_mul (mir_I (fun i j h=>(by simpa using h:(-(2 ^ 64) < i∧i < 2 ^ 64) ∨ (-(2 ^ 64) < j∧j < 2 ^ 64))) fun _ _ _ _ _ _=>relI) ha hb
theorem se_mod (ha:SE X T W a ma) (hb:SE X T W b mb):SE X T W (.BinOp a .Mod b pos) (mOp pMod ma mb):=se_op op_mod (mir_I (fun _ _ h=>of_decide_eq_true h) fun _ _ _ _ _ _=>relI) ha hb
theorem se_div (ha:SE X T W a ma) (hb:SE X T W b mb):SE X T W (.BinOp a .FloorDiv b pos) (mOp pDiv ma mb):=se_op op_fdiv (mir_I (fun i j h=>(by simpa using h:0 < j∧j < 1073741824)) fun _ _ _ _ _ _=>relI) ha hb
theorem se_pow (ha:SE X T W a ma) (hb:SE X T W b mb):SE X T W (.BinOp a .Pow b pos) (mOp pPow ma mb):=se_op op_pow (mir_I (fun i j h=>(by simpa using h:0 ≤ j∧j ≤ 1000000∧i.natAbs < 2 ^ 64)) fun _ _ _ _ _ _=>relI) ha hb
end
end PR
namespace PR
open PySem PySem.Spec L2
def GS (T:Tb) (W:Nat→St→Hp→Prop) (Z:Zn) (D:Ends):Out→Prop
 | .next e=>∀ F H σ fp,StRel T Z F H σ e fp→D.nx σ H
 | .ret pv=>∀ F H v f,HpRel T Z F H→Rel T F Z.B NoL H pv v f→f.Nodup→(∀ a ∈ f,¬ F a)→(∀ a ∈ f,Z.H0 a=none ∨ Z.fp0 a)→D.rt v H
 | .brk e=>∀ F H σ fp,StRel T Z F H σ e fp→D.bk σ H
 | .cont e=>∀ F H σ fp,StRel T Z F H σ e fp→D.ct σ H
 | .exc c e=>∀ F H σ fp,StRel T Z F H σ e fp→W c σ H
 | .stuck=>False
def tS (T:Tb) (W:Nat→St→Hp→Prop) (m:MS):TS:=fun D σ H=>∃ Z F env fp,StRel T Z F H σ env fp∧GS T W Z D (m env)
abbrev SS (X:Cx) (T:Tb) (W:Nat→St→Hp→Prop) (st:Stmt) (m:MS):Prop:=PS X st (tS T W m)
abbrev SSs (X:Cx) (T:Tb) (W:Nat→St→Hp→Prop) (sts:List Stmt) (m:MS):Prop:=PSs X sts (tS T W m)
mutual
theorem Rel.noL {T:Tb}{F B L L':Addr→Prop}{H:Hp}:∀ {x:PV}{v:V}{fp:List Addr},x.has Fl.isLnt=false→Rel T F B L H x v fp→Rel T F B L' H x v fp
 | .non,_,_,_,h=>by unfold Rel at h ⊢;exact h
 | .bl _,_,_,_,h=>by unfold Rel at h ⊢;exact h
 | .int _,_,_,_,h=>by unfold Rel at h ⊢;exact h
 | .str _,_,_,_,h=>by unfold Rel at h ⊢;exact h
 | .lst f xs,_,fp,hp,h=>by
  unfold Rel at h ⊢
  simp only [PV.has,Bool.or_eq_false_iff] at hp
  obtain ⟨a,vs,fp',e,hl,hr,hf⟩:=h
  refine ⟨a,vs,fp',e,?_,RelL.noL hp.2 hr,hf⟩
  cases f with
  | lnt=>exact absurd hp.1 (by decide)
  | own=>exact hl
  | frz=>exact hl
  | bor=>exact hl
  | mod=>exact hl
 | .tup xs,_,fp,hp,h=>by
  unfold Rel at h ⊢
  simp only [PV.has] at hp
  obtain ⟨a,vs,e,hl,hr⟩:=h
  exact ⟨a,vs,e,hl,RelL.noL hp hr⟩
 | .obj f c ks xs,_,fp,hp,h=>by
  unfold Rel at h ⊢
  simp only [PV.has,Bool.or_eq_false_iff] at hp
  obtain ⟨a,dx,vs,fp',e,hl,hk,hr,hf,ha⟩:=h
  refine ⟨a,dx,vs,fp',e,hl,hk,RelL.noL hp.2 hr,hf,?_⟩
  cases f with
  | lnt=>exact absurd hp.1 (by decide)
  | own=>exact ha
  | frz=>exact ha
  | bor=>exact ha
  | mod=>exact ha
 | .exc c,_,fp,hp,h=>by
  unfold Rel at h ⊢
  exact h
theorem RelL.noL {T:Tb}{F B L L':Addr→Prop}{H:Hp}:∀ {xs:List PV}{vs:List V}{fp:List Addr},hasL Fl.isLnt xs=false→RelL T F B L H xs vs fp→RelL T F B L' H xs vs fp
 | [],_,_,_,h=>by unfold RelL at h ⊢;exact h
 | x::xs,_,fp,hp,h=>by
  unfold RelL at h ⊢
  simp only [hasL,Bool.or_eq_false_iff] at hp
  obtain ⟨v,ws,f1,f2,e,h1,h2,rfl⟩:=h
  exact ⟨v,ws,f1,f2,e,Rel.noL hp.1 h1,RelL.noL hp.2 h2,rfl⟩
end
section
variable {X:Cx}{T:Tb}{W:Nat→St→Hp→Prop}{Z:Zn}{F F' B L:Addr→Prop}{H H':Hp}{σ:St}{env:En}{fp:Nat→List Addr}{D:Ends}
def fput (fp:Nat→List Addr) (i:Nat) (f:List Addr):Nat→List Addr:=fun j=>if j=i then f else fp j
theorem StRel.put (S:StRel T Z F H σ env fp) {i:Nat}{pv:PV}{v:V}{f:List Addr} (r:Rel T F Z.B NoL H pv v f) (nd:f.Nodup) (nf:∀ a ∈ f,¬ F a) (new:∀ a ∈ f,Z.H0 a=none ∨ Z.fp0 a) (dj:∀ a ∈ f,∀ j,j ≠ i→a ∉ fp j) (ho:okSlot i env=true) :
  StRel T Z F H (σ.set i (some v)) (env.set i (some pv)) (fput fp i f):=by
 refine ⟨S.hp,by rw [List.length_set,List.length_set,S.len],fun j pv' e=>?_,fun j=>?_,fun j k hjk a ha=>?_,fun j a ha=>?_,fun j a ha=>?_,fun j a ha=>?_,fun w hw=>?_⟩
 ·by_cases hj:j=i
  ·subst hj
   have hl:j < env.length:=by
    have:=(List.getElem?_eq_some_iff.mp e).1
    simpa using this
   rw [List.getElem?_set_self hl] at e
   cases e
   refine ⟨v,List.getElem?_set_self (by rw [S.len];exact hl),?_⟩
   unfold fput
   rw [if_pos rfl]
   exact r
  ·rw [List.getElem?_set_ne (Ne.symm hj)] at e
   obtain ⟨w,h1,h2⟩:=S.rel j pv' e
   refine ⟨w,by rw [List.getElem?_set_ne (Ne.symm hj)];exact h1,?_⟩
   unfold fput
   rw [if_neg hj]
   exact h2
 ·unfold fput;split
  ·exact nd
  ·exact S.nd j
 ·unfold fput at ha ⊢
  by_cases h1:j=i
  ·subst h1
   rw [if_pos rfl] at ha
   rw [if_neg (Ne.symm hjk)]
   exact dj a ha k (Ne.symm hjk)
  ·rw [if_neg h1] at ha
   by_cases h2:k=i
   ·subst h2
    rw [if_pos rfl]
    exact fun z=>dj a z j h1 ha
   ·rw [if_neg h2]
    exact S.dj j k hjk a ha
 ·unfold fput at ha
  by_cases h1:j=i
  ·rw [if_pos h1] at ha;exact ⟨nf a ha,r.there a ha⟩
  ·rw [if_neg h1] at ha;exact S.dis j a ha
 ·unfold fput at ha
  by_cases h1:j=i
  ·rw [if_pos h1] at ha;exact new a ha
  ·rw [if_neg h1] at ha;exact S.new j a ha
 ·unfold fput at ha
  by_cases h1:j=i
  ·rw [if_pos h1] at ha;exact r.chg a ha
  ·rw [if_neg h1] at ha;exact S.ch j a ha
 ·obtain ⟨h1,h2⟩:=S.pn w hw
  have hi:i ≠ 0:=fun z=>by
   rw [z] at ho
   simp [okSlot,h2] at ho
  refine ⟨by rw [List.getElem?_set_ne hi];exact h1,?_⟩
  unfold isObj0 at h2 ⊢
  rw [List.getElem?_set_ne hi]
  exact h2
theorem StRel.putN (S:StRel T Z F H σ env fp) (g:Gr F H F' H') {i:Nat}{pv:PV}{v:V}{f:List Addr} (ho:okSlot i env=true) (r:Rel T F' Z.B L H' pv v f) (hl:pv.noLnt=true) (nf:∀ a ∈ f,¬ F' a) (nd:f.Nodup) (w:∀ a ∈ f,H a=none) :
  StRel T Z F' H' (σ.set i (some v)) (env.set i (some pv)) (fput fp i f):=by
 refine (S.grow g).put (Rel.noL (by simpa [PV.noLnt] using hl) r) nd nf (fun a ha=>?_) (fun a ha j _ hj=>?_) ho
 ·by_cases q:Z.fp0 a
  ·exact .inr q
  ·refine .inl ?_
   cases e:Z.H0 a with
   | none=>rfl
   | some o =>
    have:=S.hp.keep a o e q
    rw [w a ha] at this;cases this
 ·obtain ⟨_,o,ho⟩:=S.dis j a hj
  rw [w a ha] at ho;cases ho
theorem ss_nil:SSs X T W [] mNext:=PSs.wk pss_nil fun D σ H ⟨Z,F,env,fp,S,q⟩=>q F H σ fp S
theorem ss_cons {st:Stmt}{rest:List Stmt}{a b:MS} (h1:SS X T W st a) (h2:SSs X T W rest b):SSs X T W (st::rest) (mSeq a b) :=
 PSs.wk (pss_cons h1 h2) fun D σ H ⟨Z,F,env,fp,S,q⟩=>by
  refine ⟨Z,F,env,fp,S,?_⟩
  unfold mSeq at q
  cases e:a env with
  | next e'=>rw [e] at q;exact fun F' H' σ' fp' S'=>⟨Z,F',e',fp',S',q⟩
  | ret v=>rw [e] at q;exact q
  | brk e'=>rw [e] at q;exact q
  | cont e'=>rw [e] at q;exact q
  | exc c e'=>rw [e] at q;exact q
  | stuck=>rw [e] at q;exact q
theorem ss_one {st:Stmt}{a:MS} (h1:SS X T W st a):SSs X T W [st] a:=pss_one h1
theorem ss_if {c:Expr}{a b:List Stmt}{mc:MT}{ma mb:MS}{pos:Pos} (hc:ST X T W c mc) (ha:SSs X T W a ma) (hb:SSs X T W b mb):SS X T W (.If c a b pos) (mBr mc ma mb) :=
 PS.wk (ps_if (pos:=pos) hc ha hb) fun D σ H ⟨Z,F,env,fp,S,q⟩=>by
  unfold mBr at q
  refine tT.bind S (fun c e H' x=>?_) (fun e=>by rw [e] at q;exact q) fun b H' F' e g=>?_
  ·rw [e] at q
   exact q F H' σ fp (S.grow (Gr.same S.hp.ft x))
  ·cases b with
   | true=>rw [e] at q;exact (if_pos rfl).mpr ⟨Z,F',env,fp,S.grow g,q⟩
   | false=>rw [e] at q;exact (if_neg (by decide)).mpr ⟨Z,F',env,fp,S.grow g,q⟩
theorem ss_set {i:Nat}{x:Str}{e:Expr}{m:ME}{pos pos':Pos} (hN:X.N.Nodup) (hi:X.N[i]?=some x) (hx:Loc X.env.scope x) (he:SE X T W e m) (hs:swapsWith e (some (.Name x pos')) pos.line X.env=pure false:=by rfl)
  (hf:X.fn x=true ∨ X.env.scope.names.lookup x=some .local:=by first | exact .inl rfl | exact .inr rfl | assumption):SS X T W (.Assign [.Name x pos'] e pos) (mSet i m) :=
 PS.wk (ps_set (pos:=pos) hN hi hx he hs hf) fun D σ H ⟨Z,F,env,fp,S,q⟩=>by
  unfold mSet at q
  refine tE.bind S (fun c e H' x=>?_) (fun e=>by rw [e] at q;exact q) fun pv v H1 F1 f e g r h1 h2 h3=>?_
  ·rw [e] at q
   exact q F H' σ fp (S.grow (Gr.same S.hp.ft x))
  ·rw [e] at q
   simp only at q
   split at q
   ·rename_i hl
    rw [Bool.and_eq_true] at hl
    exact q F1 H1 _ _ (S.putN g hl.2 r hl.1 h1 h2 h3)
   ·exact q.elim
theorem HpRel.newE (S:HpRel T Z F H) {f:List Addr} (w:∀ a ∈ f,H a=none):∀ a ∈ f,Z.H0 a=none ∨ Z.fp0 a:=fun a ha=>by
 by_cases q:Z.fp0 a
 ·exact .inr q
 ·refine .inl ?_
  cases e:Z.H0 a with
  | none=>rfl
  | some o =>
   have:=S.keep a o e q
   rw [w a ha] at this;cases this
theorem ss_ret {e:Expr}{m:ME}{pos:Pos} (he:SE X T W e m):SS X T W (.Return (some e) pos) (mRet m) :=
 PS.wk (ps_ret (pos:=pos) he) fun D σ H ⟨Z,F,env,fp,S,q⟩=>by
  unfold mRet at q
  refine tE.bind S (fun c e H' x=>?_) (fun e=>by rw [e] at q;exact q) fun pv v H1 F1 f e g r h1 h2 h3=>?_
  ·rw [e] at q
   exact q F H' σ fp (S.grow (Gr.same S.hp.ft x))
  ·rw [e] at q
   simp only at q
   split at q
   ·rename_i hl
    exact q F1 H1 v f (S.hp.grow g) (Rel.noL (by simpa [PV.noLnt] using hl) r) h2 h1 (S.hp.newE h3)
   ·exact q.elim
theorem ss_retV {i:Nat}{x:Str}{pos pos':Pos} (hN:X.N[i]?=some x) (hv:Vis X.env.scope x) (hd:(x == ("__debug__" : Str))=false:=by decide) (hcd:(x == ("__classdict__" : Str))=false:=by decide):SS X T W (.Return (some (.Name x pos')) pos) (mRetV i) :=
 PS.wk (ps_ret (pos:=pos) (pe_var hN hv hd hcd)) fun D σ H ⟨Z,F,env,fp,S,q⟩=>by
  unfold mRetV at q
  split at q
  ·rename_i pv e
   obtain ⟨v,e1,r⟩:=S.rel i pv e
   exact ⟨v,e1,q F H v (fp i) S.hp r (S.nd i) (fun a ha=>(S.dis i a ha).1) (S.new i)⟩
  ·exact q.elim
theorem ss_retN {pos:Pos}:SS X T W (.Return none pos) (mRet (mC .non)) :=
 PS.wk (ps_retN (pos:=pos)) fun D σ H ⟨Z,F,env,fp,S,q⟩=>q F H .non [] S.hp relN List.nodup_nil (fun _ z=>(nomatch z)) (fun _ z=>(nomatch z))
theorem ss_expr {e:Expr}{m:ME}{pos:Pos} (he:SE X T W e m) (hs:swapsWith e none pos.line X.env=pure false:=by rfl):SS X T W (.Expr e pos) (mDrop m) :=
 PS.wk (ps_expr (pos:=pos) he hs) fun D σ H ⟨Z,F,env,fp,S,q⟩=>by
  unfold mDrop at q
  refine tE.bind S (fun c e H' x=>?_) (fun e=>by rw [e] at q;exact q) fun pv v H1 F1 f e g r h1 h2 h3=>?_
  ·rw [e] at q
   exact q F H' σ fp (S.grow (Gr.same S.hp.ft x))
  ·rw [e] at q
   exact q F1 H1 σ fp (S.grow g)
mutual
theorem Rel.freeze (hF:∀ a,F a→F' a):∀ {x:PV}{v:V}{fp:List Addr},(∀ a ∈ fp,F' a)→Rel T F B L H x v fp→Rel T F' B L H (x.mapF Fl.freeze) v []
 | .non,_,_,_,h=>by unfold Rel at h;simp only [PV.mapF];unfold Rel;exact ⟨h.1,rfl⟩
 | .bl _,_,_,_,h=>by unfold Rel at h;simp only [PV.mapF];unfold Rel;exact ⟨h.1,rfl⟩
 | .int _,_,_,_,h=>by unfold Rel at h;simp only [PV.mapF];unfold Rel;exact ⟨h.1,rfl⟩
 | .str _,_,_,_,h=>by unfold Rel at h;simp only [PV.mapF];unfold Rel;exact ⟨h.1,rfl⟩
 | .lst f xs,_,fp,hp,h=>by
  unfold Rel at h
  obtain ⟨a,vs,fp',e,hl,hr,hf⟩:=h
  simp only [PV.mapF]
  unfold Rel
  cases f with
  | own =>
   obtain rfl:fp=a::fp':=hf
   exact ⟨a,vs,[],e,⟨hp a List.mem_cons_self,.inl hl⟩,RelL.freeze hF (fun b hb=>hp b (List.mem_cons_of_mem _ hb)) hr,rfl,rfl⟩
  | frz=>obtain ⟨rfl,rfl⟩:=hf;exact ⟨a,vs,[],e,⟨hF a hl.1,hl.2⟩,RelL.freeze hF hp hr,rfl,rfl⟩
  | bor=>obtain ⟨rfl,rfl⟩:=hf;exact ⟨a,vs,[],e,hl,RelL.freeze hF hp hr,rfl,rfl⟩
  | lnt=>obtain ⟨rfl,rfl⟩:=hf;exact ⟨a,vs,[],e,hl,RelL.freeze hF hp hr,rfl,rfl⟩
  | mod=>obtain ⟨rfl,rfl⟩:=hf;exact ⟨a,vs,[],e,hl,RelL.freeze hF hp hr,rfl,rfl⟩
 | .tup xs,_,fp,hp,h=>by
  unfold Rel at h
  obtain ⟨a,vs,e,hl,hr⟩:=h
  simp only [PV.mapF]
  unfold Rel
  exact ⟨a,vs,e,hl,RelL.freeze hF hp hr⟩
 | .obj f c ks xs,_,fp,hp,h=>by
  unfold Rel at h
  obtain ⟨a,dx,vs,fp',e,hl,hk,hr,hf,ha⟩:=h
  simp only [PV.mapF]
  unfold Rel
  cases f with
  | own =>
   obtain rfl:fp=a::fp':=hf
   have r:=RelL.freeze hF (fun b hb=>hp b (List.mem_cons_of_mem _ hb)) hr
   exact ⟨a,dx,vs,[],e,hl,⟨by rw [r.length,hk.1,hr.length],hk.2⟩,r,⟨rfl,rfl⟩,hp a List.mem_cons_self⟩
  | frz=>obtain ⟨rfl,rfl⟩:=hf;have r:=RelL.freeze hF hp hr;exact ⟨a,dx,vs,[],e,hl,⟨by rw [r.length,hk.1,hr.length],hk.2⟩,r,⟨rfl,rfl⟩,hF a ha⟩
  | bor=>obtain ⟨rfl,rfl⟩:=hf;have r:=RelL.freeze hF hp hr;exact ⟨a,dx,vs,[],e,hl,⟨by rw [r.length,hk.1,hr.length],hk.2⟩,r,⟨rfl,rfl⟩,ha⟩
  | lnt=>obtain ⟨rfl,rfl⟩:=hf;have r:=RelL.freeze hF hp hr;exact ⟨a,dx,vs,[],e,hl,⟨by rw [r.length,hk.1,hr.length],hk.2⟩,r,⟨rfl,rfl⟩,ha⟩
  | mod=>exact ha.elim
 | .exc c,_,fp,hp,h=>by
  unfold Rel at h
  obtain ⟨a,e,hl,rfl⟩:=h
  simp only [PV.mapF]
  unfold Rel
  exact ⟨a,e,hl,rfl⟩
theorem RelL.freeze (hF:∀ a,F a→F' a):∀ {xs:List PV}{vs:List V}{fp:List Addr},(∀ a ∈ fp,F' a)→RelL T F B L H xs vs fp→RelL T F' B L H (mapL Fl.freeze xs) vs []
 | [],_,_,_,h=>by unfold RelL at h;simp only [mapL];unfold RelL;exact ⟨h.1,rfl⟩
 | x::xs,_,fp,hp,h=>by
  unfold RelL at h
  obtain ⟨v,ws,f1,f2,e,h1,h2,rfl⟩:=h
  simp only [mapL]
  unfold RelL
  exact ⟨v,ws,[],[],e,Rel.freeze hF (fun b hb=>hp b (List.mem_append_left _ hb)) h1,RelL.freeze hF (fun b hb=>hp b (List.mem_append_right _ hb)) h2,rfl⟩
end
theorem StRel.frz (S:StRel T Z F H σ env fp) {i:Nat}{pv:PV} (e:env[i]?=some (some pv)):StRel T Z (fun a=>F a ∨ a ∈ fp i) H σ (env.set i (some (pv.mapF Fl.freeze))) (fput fp i []):=by
 have hi:i < env.length:=(List.getElem?_eq_some_iff.mp e).1
 refine ⟨⟨S.hp.bo,S.hp.keep,fun a h=>.inl (S.hp.f0 a h),fun a h=>h.elim (S.hp.fn a) fun z=>.inr (S.new i a z),fun a h=>h.elim (S.hp.ft a) fun z=>(S.dis i a z).2⟩,by rw [List.length_set,S.len],fun j pv' e'=>?_,fun j=>?_,fun j k hjk a ha=>?_,fun j a ha=>?_,fun j a ha=>?_,fun j a ha=>?_,fun w hw=>?_⟩
 ·by_cases hj:j=i
  ·subst hj
   rw [List.getElem?_set_self hi] at e'
   cases e'
   obtain ⟨v,h1,h2⟩:=S.rel j pv e
   refine ⟨v,h1,?_⟩
   unfold fput
   rw [if_pos rfl]
   exact Rel.freeze (fun _ h=>.inl h) (fun a h=>.inr h) h2
  ·rw [List.getElem?_set_ne (Ne.symm hj)] at e'
   obtain ⟨w,h1,h2⟩:=S.rel j pv' e'
   refine ⟨w,h1,?_⟩
   unfold fput
   rw [if_neg hj]
   exact h2.ext Ext.refl fun _ h=>.inl h
 ·unfold fput;split
  ·exact List.nodup_nil
  ·exact S.nd j
 ·unfold fput at ha ⊢
  by_cases h1:j=i
  ·rw [if_pos h1] at ha;cases ha
  ·rw [if_neg h1] at ha
   by_cases h2:k=i
   ·rw [if_pos h2];exact fun z=>nomatch z
   ·rw [if_neg h2];exact S.dj j k hjk a ha
 ·unfold fput at ha
  by_cases h1:j=i
  ·rw [if_pos h1] at ha;cases ha
  ·rw [if_neg h1] at ha
   exact ⟨fun z=>z.elim (S.dis j a ha).1 fun z=>S.dj j i h1 a ha z,(S.dis j a ha).2⟩
 ·unfold fput at ha
  by_cases h1:j=i
  ·rw [if_pos h1] at ha;cases ha
  ·rw [if_neg h1] at ha;exact S.new j a ha
 ·unfold fput at ha
  by_cases h1:j=i
  ·rw [if_pos h1] at ha;cases ha
  ·rw [if_neg h1] at ha;exact S.ch j a ha
 ·obtain ⟨h1,h2⟩:=S.pn w hw
  refine ⟨h1,?_⟩
  unfold isObj0 at h2 ⊢
  by_cases hi0:i=0
  ·subst hi0
   rw [e] at h2
   rw [List.getElem?_set_self hi]
   cases pv <;> first | exact h2 | (cases h2;done) | rfl
  ·rw [List.getElem?_set_ne hi0]
   exact h2
theorem ss_frz {i:Nat}{sts:List Stmt}{m:MS} (h:SSs X T W sts m):SSs X T W sts (mSeq (mFrz i) m):=PSs.wk h fun D σ H ⟨Z,F,env,fp,S,q⟩=>by
 cases e:env[i]? with
 | none=>simp [mSeq,mFrz,e] at q;exact q.elim
 | some w =>
  cases w with
  | none=>simp [mSeq,mFrz,e] at q;exact q.elim
  | some pv =>
   simp only [mSeq,mFrz,e] at q
   exact ⟨Z,_,_,_,S.frz e,q⟩
def Zn.re (Z:Zn) (F:Addr→Prop) (H:Hp) (fp:Nat→List Addr):Zn:=⟨H,F,Own fp,Z.B,Z.pin⟩
theorem StRel.enter (S:StRel T Z F H σ env fp):StRel T (Z.re F H fp) F H σ env fp :=
 ⟨⟨fun a h=>by
   obtain ⟨⟨o,h1⟩,h2⟩:=S.hp.bo a h
   refine ⟨⟨o,S.hp.keep a o h1 h2⟩,fun ⟨i,hi⟩=>?_⟩
   rcases S.new i a hi with z | z
   ·rw [h1] at z;cases z
   ·exact h2 z,fun _ _ h _=>h,fun _ h=>h,fun _ h=>.inl h,S.hp.ft⟩,S.len,S.rel,S.nd,S.dj,S.dis,fun i a ha=>.inr ⟨i,ha⟩,S.ch,S.pn⟩
theorem HpRel.leave (S:StRel T Z F H σ env fp) (S':HpRel T (Z.re F H fp) F' H'):HpRel T Z F' H' :=
 ⟨S.hp.bo,fun a o h n=>S'.keep a o (S.hp.keep a o h n) fun ⟨i,hi⟩=>by
   rcases S.new i a hi with z | z
   ·rw [h] at z;cases z
   ·exact n z,fun a h=>S'.f0 a (S.hp.f0 a h),fun a h=>by
  rcases S'.fn a h with z | z | ⟨i,hi⟩
  ·exact S.hp.fn a z
  ·refine .inr ?_
   by_cases q:Z.fp0 a
   ·exact .inr q
   ·refine .inl ?_
    cases w:Z.H0 a with
    | none=>rfl
    | some o =>
     have z':H a=none:=z
     rw [S.hp.keep a o w q] at z';cases z'
  ·exact .inr (S.new i a hi),S'.ft⟩
theorem StRel.newL (S:StRel T Z F H σ env fp) {a:Addr} (h:(Z.re F H fp).H0 a=none ∨ (Z.re F H fp).fp0 a):Z.H0 a=none ∨ Z.fp0 a:=by
 rcases h with z | ⟨i,hi⟩
 ·by_cases q:Z.fp0 a
  ·exact .inr q
  ·refine .inl ?_
   cases w:Z.H0 a with
   | none=>rfl
   | some o =>
    have z':H a=none:=z
    rw [S.hp.keep a o w q] at z';cases z'
 ·exact S.new i a hi
theorem StRel.leave {σ':St}{env':En}{fp':Nat→List Addr} (S:StRel T Z F H σ env fp) (S':StRel T (Z.re F H fp) F' H' σ' env' fp'):StRel T Z F' H' σ' env' fp' :=
 ⟨HpRel.leave S S'.hp,S'.len,S'.rel,S'.nd,S'.dj,S'.dis,fun i a ha=>S.newL (S'.new i a ha),S'.ch,S'.pn⟩
end
end PR
namespace PR
open PySem PySem.Spec L2
section
variable {X:Cx}{T:Tb}{W:Nat→St→Hp→Prop}{Z:Zn}{F F' B L:Addr→Prop}{H H':Hp}{σ:St}{env:En}{fp:Nat→List Addr}{D:Ends}
abbrev SW (X:Cx) (T:Tb) (W:Nat→St→Hp→Prop) (e:Expr) (m:MT):Prop:=PW X e (tT T W m)
theorem tT.test {m:ME}{Q:Bool→Hp→Prop} (h:tT T W (mTest m) σ H Q):tE T W m σ H fun x H'=>∃ k,x=.bl k∧Q k H':=by
 obtain ⟨Z,F,env,fp,S,q⟩:=h
 unfold mTest at q
 refine tE.bind S (fun c e=>by rw [e] at q;exact q) (fun e=>by rw [e] at q;exact q) fun x v H1 F1 f1 e1 g1 r1 n1 d1 w1=>?_
 rw [e1] at q
 cases x with
 | bl b =>
  unfold Rel at r1
  exact ⟨b,r1.1,q H1 F1 g1⟩
 | _=>exact q.elim
theorem st_cmp {a b:Expr}{ma mb:ME}{op:CmpOp}{r:R2}{f:PV→PV→Res PV}{pos:Pos} (ho:OpR X (compareOp op) r) (hm:Mir2 T W f r) (ha:SE X T W a ma) (hb:SE X T W b mb) (hk:behindInMarks op b=false):ST X T W (.Compare a [op] [b] pos) (mTest (mOp f ma mb)) :=
 PT.wk (pt_cmpR (pos:=pos) ho ha hb hk) fun σ H Q h=>by
  obtain ⟨Z,F,env,fp,S,q⟩:=tT.test h
  exact tE.mir2 hm ⟨Z,F,env,fp,S,q⟩
theorem st_not {a:Expr}{m:MT}{pos:Pos} (h:ST X T W a m):ST X T W (.UnaryOp .Not a pos) (mNotT m):=PT.wk (pt_not (pos:=pos) h) fun σ H Q ⟨Z,F,env,fp,S,q⟩=>by
 unfold mNotT at q
 refine tT.bind S (fun c e=>by rw [e] at q;exact q) (fun e=>by rw [e] at q;exact q) fun b H1 F1 e1 g1=>?_
 rw [e1] at q
 exact q H1 F1 g1
theorem sw_and1 {a:Expr}{m:MT}{pos:Pos} (h:ST X T W a m):SW X T W (.BoolOp .And [a] pos) m:=pw_and1 h
theorem sw_or1 {a:Expr}{m:MT}{pos:Pos} (h:ST X T W a m):SW X T W (.BoolOp .Or [a] pos) m:=pw_or1 h
theorem sw_and {a b:Expr}{rest:List Expr}{m n:MT}{pos:Pos} (h:ST X T W a m) (h2:SW X T W (.BoolOp .And (b::rest) pos) n):SW X T W (.BoolOp .And (a::b::rest) pos) (mAndT m n):=PW.wk (pw_and h h2) fun σ H Q ⟨Z,F,env,fp,S,q⟩=>by
 unfold mAndT at q
 refine tT.bind S (fun c e=>by rw [e] at q;exact q) (fun e=>by rw [e] at q;exact q) fun b H1 F1 e1 g1=>?_
 rw [e1] at q
 cases b with
 | true =>
  refine (if_pos rfl).mpr ⟨Z,F1,env,fp,S.grow g1,?_⟩
  simp only [Res.ok_bind,if_true] at q
  cases e2:n env with
  | ok b=>rw [e2] at q;exact fun H2 F2 g2=>q H2 F2 (g1.trans g2)
  | exc c=>rw [e2] at q;exact fun H' x=>q H' (g1.ext.trans x)
  | stuck=>rw [e2] at q;exact q
 | false=>exact (if_neg (by decide)).mpr (q H1 F1 g1)
theorem sw_or {a b:Expr}{rest:List Expr}{m n:MT}{pos:Pos} (h:ST X T W a m) (h2:SW X T W (.BoolOp .Or (b::rest) pos) n):SW X T W (.BoolOp .Or (a::b::rest) pos) (mOrT m n):=PW.wk (pw_or h h2) fun σ H Q ⟨Z,F,env,fp,S,q⟩=>by
 unfold mOrT at q
 refine tT.bind S (fun c e=>by rw [e] at q;exact q) (fun e=>by rw [e] at q;exact q) fun b H1 F1 e1 g1=>?_
 rw [e1] at q
 cases b with
 | false =>
  refine (if_neg (by decide)).mpr ⟨Z,F1,env,fp,S.grow g1,?_⟩
  simp only [Res.ok_bind,Bool.false_eq_true,if_false] at q
  cases e2:n env with
  | ok b=>rw [e2] at q;exact fun H2 F2 g2=>q H2 F2 (g1.trans g2)
  | exc c=>rw [e2] at q;exact fun H' x=>q H' (g1.ext.trans x)
  | stuck=>rw [e2] at q;exact q
 | true=>exact (if_pos rfl).mpr (q H1 F1 g1)
theorem SW.st {e:Expr}{m:MT} (h:SW X T W e m):ST X T W e m:=PW.pt h
theorem st_truth {a:Expr}{m:ME} (hK:X.K=T.K) (h:SE X T W a m) (he:∀ whole,isTrue a X.env whole=(do let v ← whole;standAt a.pos;holding [v] (truthy v)):=by intro _;rfl):ST X T W a (mTruth m):=PT.wk (pt_truth h he) fun σ H Q ⟨Z,F,env,fp,S,q⟩=>by
 unfold mTruth at q
 refine tE.bind S (fun c e=>by rw [e] at q;exact q) (fun e=>by rw [e] at q;exact q) fun x v H1 F1 f1 e1 g1 r1 n1 d1 w1=>?_
 rw [e1] at q
 rw [hK]
 cases x with
 | non=>unfold Rel at r1;rw [r1.1];exact ⟨false,rfl,q H1 F1 g1⟩
 | bl b=>unfold Rel at r1;rw [r1.1];exact ⟨b,rfl,q H1 F1 g1⟩
 | int i=>unfold Rel at r1;rw [r1.1];exact ⟨_,rfl,q H1 F1 g1⟩
 | str i=>exact q.elim
 | lst f xs =>
  unfold Rel at r1
  obtain ⟨a,vs,fp',rfl,hl,hr,_⟩:=r1
  have hl':SqL T.K H1 a vs:=hl.sq
  have e:(!xs.isEmpty)=!vs.isEmpty:=by
   have:=hr.length
   cases xs <;> cases vs <;> simp_all
  exact ⟨_,.inl ⟨vs,hl',rfl⟩,by rw [← e];exact q H1 F1 g1⟩
 | tup xs =>
  unfold Rel at r1
  obtain ⟨a,vs,rfl,hl,hr⟩:=r1
  have e:(!xs.isEmpty)=!vs.isEmpty:=by
   have:=hr.length
   cases xs <;> cases vs <;> simp_all
  exact ⟨_,.inr (.inl ⟨vs,hl,rfl⟩),by rw [← e];exact q H1 F1 g1⟩
 | obj f c ks xs=>exact q.elim
 | exc c=>exact q.elim
theorem se_ifExp {c a b:Expr}{mc:MT}{ma mb:ME}{pos:Pos} (hc:ST X T W c mc) (ha:SE X T W a ma) (hb:SE X T W b mb):SE X T W (.IfExp c a b pos) (mIfE mc ma mb):=PE.wk (pe_ifExp (pos:=pos) hc ha hb) fun σ H Q ⟨Z,F,env,fp,S,q⟩=>by
 unfold mIfE at q
 refine tT.bind S (fun c e=>by rw [e] at q;exact q) (fun e=>by rw [e] at q;exact q) fun b H1 F1 e1 g1=>?_
 rw [e1] at q
 have lift:∀ m:ME,GE T W Z.B F (Own fp) σ H Q (m env)→tE T W m σ H1 Q:=fun m q=>by
  refine ⟨Z,F1,env,fp,S.grow g1,?_⟩
  cases e2:m env with
  | ok b=>rw [e2] at q;exact fun v H2 F2 f g2 r n d w=>q v H2 F2 f (g1.trans g2) r n d fun a ha=>g1.ext.free (w a ha)
  | exc c=>rw [e2] at q;exact fun H' x=>q H' (g1.ext.trans x)
  | stuck=>rw [e2] at q;exact q
 cases b with
 | true=>exact (if_pos rfl).mpr (lift ma q)
 | false=>exact (if_neg (by decide)).mpr (lift mb q)
def mNotE (a:ME):ME:=fun env=>(a env).bind fun
 | .bl b=>.ok (.bl (!b))
 | _=>.stuck
def mAndE (a b:ME):ME:=fun env=>(a env).bind fun
 | .bl true=>b env
 | .bl false=>.ok (.bl false)
 | _=>.stuck
def mOrE (a b:ME):ME:=fun env=>(a env).bind fun
 | .bl false=>b env
 | .bl true=>.ok (.bl true)
 | _=>.stuck
theorem se_not {a:Expr}{ma:ME}{pos:Pos} (ha:SE X T W a ma):SE X T W (.UnaryOp .Not a pos) (mNotE ma):=PE.wk (pe_not (pos:=pos) ha) fun σ H Q ⟨Z,F,env,fp,S,q⟩=>by
 unfold mNotE at q
 refine tE.bind S (fun c e=>by rw [e] at q;exact q) (fun e=>by rw [e] at q;exact q) fun x v H1 F1 f1 e1 g1 r1 n1 d1 w1=>?_
 rw [e1] at q
 cases x with
 | bl b=>unfold Rel at r1;exact ⟨b,r1.1,q.scal g1 relB⟩
 | _=>exact q.elim
theorem se_one {a:Expr}{ma:ME}{op:BoolOp}{pos:Pos} (ha:SE X T W a ma):SE X T W (.BoolOp op [a] pos) ma:=pe_one ha
theorem tE.later {m:ME}{Q:VK} (S:StRel T Z F H σ env fp) (g1:Gr F H F' H') (q:GE T W Z.B F (Own fp) σ H Q (m env)):tE T W m σ H' Q:=by
 refine ⟨Z,F',env,fp,S.grow g1,?_⟩
 cases e2:m env with
 | ok b=>rw [e2] at q;exact fun v H2 F2 f g2 r n d w=>q v H2 F2 f (g1.trans g2) r n d fun a ha=>g1.ext.free (w a ha)
 | exc c=>rw [e2] at q;exact fun H' x=>q H' (g1.ext.trans x)
 | stuck=>rw [e2] at q;exact q
theorem se_and {a b:Expr}{rest:List Expr}{ma mb:ME}{pos:Pos} (ha:SE X T W a ma) (hb:SE X T W (.BoolOp .And (b::rest) pos) mb):SE X T W (.BoolOp .And (a::b::rest) pos) (mAndE ma mb):=PE.wk (pe_and ha hb) fun σ H Q ⟨Z,F,env,fp,S,q⟩=>by
 unfold mAndE at q
 refine tE.bind S (fun c e=>by rw [e] at q;exact q) (fun e=>by rw [e] at q;exact q) fun x v H1 F1 f1 e1 g1 r1 n1 d1 w1=>?_
 rw [e1] at q
 cases x with
 | bl b =>
  unfold Rel at r1
  refine ⟨b,r1.1,?_⟩
  cases b with
  | true=>exact (if_pos rfl).mpr (tE.later S g1 q)
  | false=>exact (if_neg (by decide)).mpr (q.scal g1 relB)
 | _=>exact q.elim
theorem se_or {a b:Expr}{rest:List Expr}{ma mb:ME}{pos:Pos} (ha:SE X T W a ma) (hb:SE X T W (.BoolOp .Or (b::rest) pos) mb):SE X T W (.BoolOp .Or (a::b::rest) pos) (mOrE ma mb):=PE.wk (pe_or ha hb) fun σ H Q ⟨Z,F,env,fp,S,q⟩=>by
 unfold mOrE at q
 refine tE.bind S (fun c e=>by rw [e] at q;exact q) (fun e=>by rw [e] at q;exact q) fun x v H1 F1 f1 e1 g1 r1 n1 d1 w1=>?_
 rw [e1] at q
 cases x with
 | bl b =>
  unfold Rel at r1
  refine ⟨b,r1.1,?_⟩
  cases b with
  | false=>exact (if_neg (by decide)).mpr (tE.later S g1 q)
  | true=>exact (if_pos rfl).mpr (q.scal g1 relB)
 | _=>exact q.elim
def Mir1 (T:Tb) (W:Nat→St→Hp→Prop) (f:PV→Res PV) (r:V→Hp→VK→Prop):Prop :=
 ∀ (B F L:Addr→Prop) (σ:St) (H:Hp) (Q:VK) (F':Addr→Prop) (H':Hp) (x:PV) (v:V) (fx:List Addr),Gr F H F' H'→Rel T F' B L H' x v fx→(∀ a ∈ fx,¬ F' a)→fx.Nodup→(∀ a ∈ fx,H a=none)→GE T W B F L σ H Q (f x)→r v H' Q
theorem tE.mir1 {f:PV→Res PV}{r:V→Hp→VK→Prop}{m:ME}{Q:VK} (hm:Mir1 T W f r) (h:tE T W (mUn f m) σ H Q):tUn r (tE T W m) σ H Q:=by
 obtain ⟨Z,F,env,fp,S,q⟩:=h
 unfold mUn at q
 refine tE.bind S (fun c e=>by rw [e] at q;exact q) (fun e=>by rw [e] at q;exact q) fun x v H1 F1 f1 e1 g1 r1 n1 d1 w1=>?_
 rw [e1] at q
 exact hm Z.B F (Own fp) σ H Q F1 H1 x v f1 g1 r1 n1 d1 w1 q
def pNeg:PV→Res PV
 | .int i=>.ok (.int (-i))
 | _=>.stuck
def getF (k:Nat):List Nat→List PV→Option PV
 | j::ks,v::vs=>if j=k then some v else getF k ks vs
 | _,_=>none
def Fl.isOwn:Fl→Bool
 | .own=>true
 | _=>false
def pAttr (k:Nat):PV→Res PV
 | .obj f _ ks vs=>match getF k ks vs with
  | some v=>if f.isOwn && v.has Fl.isOwn then .stuck else .ok v
  | none=>.stuck
 | _=>.stuck
mutual
theorem Rel.noOwn:∀ {x:PV}{v:V}{fp:List Addr},x.has Fl.isOwn=false→Rel T F B L H x v fp→fp=[]
 | .non,_,_,_,h=>by unfold Rel at h;exact h.2
 | .bl _,_,_,_,h=>by unfold Rel at h;exact h.2
 | .int _,_,_,_,h=>by unfold Rel at h;exact h.2
 | .str _,_,_,_,h=>by unfold Rel at h;exact h.2
 | .lst f xs,_,fp,hp,h=>by
  unfold Rel at h
  simp only [PV.has,Bool.or_eq_false_iff] at hp
  obtain ⟨a,vs,fp',e,hl,hr,hf⟩:=h
  cases f with
  | own=>exact absurd hp.1 (by decide)
  | frz=>exact hf.2
  | bor=>exact hf.2
  | lnt=>exact hf.2
  | mod=>exact hf.2
 | .tup xs,_,fp,hp,h=>by
  unfold Rel at h
  simp only [PV.has] at hp
  obtain ⟨a,vs,e,hl,hr⟩:=h
  exact RelL.noOwn hp hr
 | .obj f c ks xs,_,fp,hp,h=>by
  unfold Rel at h
  simp only [PV.has,Bool.or_eq_false_iff] at hp
  obtain ⟨a,dx,vs,fp',e,hl,hk,hr,hf,ha⟩:=h
  cases f with
  | own=>exact absurd hp.1 (by decide)
  | frz=>exact hf.2
  | bor=>exact hf.2
  | lnt=>exact hf.2
  | mod=>exact hf.2
 | .exc c,_,fp,hp,h=>by
  unfold Rel at h
  obtain ⟨a,_,_,e⟩:=h
  exact e
theorem RelL.noOwn:∀ {xs:List PV}{vs:List V}{fp:List Addr},hasL Fl.isOwn xs=false→RelL T F B L H xs vs fp→fp=[]
 | [],_,_,_,h=>by unfold RelL at h;exact h.2
 | x::xs,_,fp,hp,h=>by
  unfold RelL at h
  simp only [hasL,Bool.or_eq_false_iff] at hp
  obtain ⟨v,ws,f1,f2,e,h1,h2,rfl⟩:=h
  rw [Rel.noOwn hp.1 h1,RelL.noOwn hp.2 h2]
  rfl
end
theorem RelL.get:∀ {xs:List PV}{vs:List V}{fp:List Addr}{i:Nat}{x:PV},RelL T F B L H xs vs fp→xs[i]?=some x→∃ v f,vs[i]?=some v∧Rel T F B L H x v f∧f.Sublist fp
 | [],_,_,_,_,_,e=>by simp at e
 | y::xs,_,fp,0,x,h,e=>by
  unfold RelL at h
  obtain ⟨v,ws,f1,f2,rfl,h1,h2,rfl⟩:=h
  simp at e
  subst e
  exact ⟨v,f1,by simp,h1,List.sublist_append_left _ _⟩
 | y::xs,_,fp,i+1,x,h,e=>by
  unfold RelL at h
  obtain ⟨v,ws,f1,f2,rfl,h1,h2,rfl⟩:=h
  obtain ⟨w,f,e1,r,s⟩:=RelL.get (i:=i) h2 (by simpa using e)
  exact ⟨w,f,by simpa using e1,r,s.trans (List.sublist_append_right _ _)⟩
theorem getF_rel {k:Nat}:∀ {ks:List Nat}{xs:List PV}{vs:List V}{fp:List Addr}{x:PV},RelL T F B L H xs vs fp→getF k ks xs=some x→∃ v f,((ks.map T.att).zip vs).lookup (T.att k)=some v∧Rel T F B L H x v f∧f.Sublist fp
 | [],_,_,_,_,_,e=>by simp [getF] at e
 | j::ks,[],_,_,_,_,e=>by simp [getF] at e
 | j::ks,y::xs,_,fp,x,h,e=>by
  unfold RelL at h
  obtain ⟨v,ws,f1,f2,rfl,h1,h2,rfl⟩:=h
  unfold getF at e
  by_cases hj:j=k
  ·rw [if_pos hj] at e
   cases e
   subst hj
   exact ⟨v,f1,by simp,h1,List.sublist_append_left _ _⟩
  ·rw [if_neg hj] at e
   obtain ⟨w,f,e1,r,s⟩:=getF_rel (ks:=ks) h2 e
   refine ⟨w,f,?_,r,s.trans (List.sublist_append_right _ _)⟩
   have:(T.att k == T.att j)=false:=by
    rw [beq_eq_false_iff_ne]
    exact fun z=>hj (T.inj _ _ z).symm
   rw [List.map_cons,List.zip_cons_cons,List.lookup_cons,this]
   exact e1
theorem tFld_of {m:ME}{k:Nat}{f:Str} (hK:X.K=T.K) (hf:T.att k=f) (hc:∀ c < T.nc,Cls T.K (T.cls c)) (hn:∀ c < T.nc,NoAttr T.K (T.cls c) f) {Q:VK} (h:tE T W (mUn (pAttr k) m) σ H Q):tFld X.K (tE T W m) f σ H Q:=by
 obtain ⟨Z,F,env,fp,S,q⟩:=h
 unfold mUn at q
 refine tE.bind S (fun c e=>by rw [e] at q;exact q) (fun e=>by rw [e] at q;exact q) fun x v H1 F1 f1 e1 g1 r1 n1 d1 w1=>?_
 rw [e1] at q
 cases x with
 | obj fl c ks xs =>
  simp only [Res.ok_bind,pAttr] at q
  cases e2:getF k ks xs with
  | none=>rw [e2] at q;exact q.elim
  | some y =>
   rw [e2] at q
   dsimp only at q
   unfold Rel at r1
   obtain ⟨a,dx,vs,fp',rfl,hl,hk,hr,hfl,_⟩:=r1
   obtain ⟨w,f',l1,l2,l3⟩:=getF_rel hr e2
   have e0:f'=[]:=by
    cases fl with
    | own =>
     simp only [Fl.isOwn,Bool.true_and] at q
     by_cases ho:y.has Fl.isOwn=true
     ·rw [if_pos ho] at q;exact q.elim
     ·exact Rel.noOwn (by simpa using ho) l2
    | frz=>obtain ⟨rfl,_⟩:=hfl;exact List.sublist_nil.mp l3
    | bor=>obtain ⟨rfl,_⟩:=hfl;exact List.sublist_nil.mp l3
    | lnt=>obtain ⟨rfl,_⟩:=hfl;exact List.sublist_nil.mp l3
    | mod=>obtain ⟨rfl,_⟩:=hfl;exact List.sublist_nil.mp l3
   subst e0
   by_cases hb:(fl.isOwn && y.has Fl.isOwn)=true
   ·rw [if_pos hb] at q;exact q.elim
   ·rw [if_neg hb] at q
    rw [hK]
    exact ⟨a,_,dx,_,w,rfl,hl,hc c hk.2,hn c hk.2,by rw [← hf];exact l1,q.scal g1 l2⟩
 | _=>exact q.elim
theorem se_attr {e:Expr}{m:ME}{k:Nat}{f:Str}{pos:Pos} (hK:X.K=T.K) (hf:T.att k=f) (hc:∀ c < T.nc,Cls T.K (T.cls c)) (hn:∀ c < T.nc,NoAttr T.K (T.cls c) f) (he:SE X T W e m) (hb:attributeBase e f X.env (eval e X.env)=eval e X.env:=by rfl) :
  SE X T W (.Attribute e f pos) (mUn (pAttr k) m):=PE.wk (pe_fld (pos:=pos) he hb) fun σ H Q h=>tFld_of hK hf hc hn h
end
end PR
namespace L2
open PySem PySem.Spec
theorem ObjOk.there {P:Program}{w:World}{H:Hp}{h:Heap}{a:Addr}{o:HO} (x:ObjOk P w H h a o):∃ u,h.get? a=some u:=by
 cases o with
 | lst xs=>obtain ⟨_,_,_,_,e⟩:=x;exact ⟨_,e⟩
 | tup xs=>obtain ⟨_,_,_,o,e,_⟩:=x;exact ⟨_,e⟩
 | dK kvs=>obtain ⟨_,_,_,_,o,_,_,e,_⟩:=x;exact ⟨_,e⟩
 | dT kvs=>obtain ⟨_,_,_,_,o,_,_,e,_⟩:=x;exact ⟨_,e⟩
 | set S n=>obtain ⟨o,_,_,_,e,_⟩:=x;exact ⟨_,e⟩
 | ins C dx fs=>obtain ⟨_,_,_,e,_⟩:=x;exact ⟨_,e⟩
 | own y=>exact x
 | xd fs=>obtain ⟨_,⟨_,_,_,e,_⟩,_⟩:=x;exact ⟨_,e⟩
 | rng lo hi=>obtain ⟨_,_,_,e⟩:=x;exact ⟨_,e⟩
 | frz ob u=>obtain ⟨e,_⟩:=x;exact ⟨_,e⟩
 | tbl ps=>exact ⟨_,(show h.get? a=some _ from x)⟩
 | met f y=>exact ⟨_,(show h.get? a=some _ from x)⟩
 | ext φ=>obtain ⟨_,q,_⟩:=x;exact q
end L2
namespace PR
open PySem PySem.Spec L2
structure Fly (P:Program) (w:World) (outer:List Env) (H:Hp) (s:Shared) (cls:Value) (H':Hp) (e:Value) (s':Shared):Prop where
 os:s'.os=s.os
 bare:PyProof.Rows.AllBare s'.gens
 un:Un (frs outer) [] H H' s.heap s'.heap
 hok:HOk P w H' s'.heap
 fly:∃ x a0 Bh,e=.ref x∧Heap.FlyingW Bh outer x cls a0 s'.heap∧(∀ b o u,H' b=some u→s'.heap.get? b=some o→Bh.get? b=some o) ∧
  (∀ b o o',s'.heap.get? b=some o→s.heap.get? b=some o'→b ∉ frs outer→Bh.get? b=some o)
def CXP (P:Program) (w:World):CXT:=fun outer H s E e s'=>∃ cls H',Fly P w outer H s cls H' e s'∧E cls none H'
def XF (X:Cx) (T:Tb) (W:Nat→St→Hp→Prop):Prop:=∀ (pins:List (Addr × Obj)) (σ:St) (H:Hp) (s:Shared) (c:Nat) (H':Hp) (e:Value) (s':Shared),L2.Inv X pins σ H s→Fly X.prog X.w X.stack H s (.ref (T.xcl c)) H' e s'→W c σ H'→X.xe e s'
def XM (X:Cx) (T:Tb) (W:Nat→St→Hp→Prop):Prop:=∀ (pins:List (Addr × Obj)) (σ:St) (H:Hp) (s:Shared) (c:Nat) (h':Heap) (e:Addr) (vs:List Value),L2.Inv X pins σ H s→Heap.MadeExcOf s.heap h' e (.ref (T.xcl c)) vs→W c σ H→X.xe (.ref e) { s with heap:=h' }
section
variable {P:Program}{w:World}{K:PySem.W.Frag}{mg:Str→Option Value}{base:Heap}{N:List Str}{qual:Str}{scope:Scope}{f:Addr}{cd:Value}{A:Around}{outer:List Env}{s:Shared}{H:Hp}{E:XK}
theorem fly_hok {H:Hp}{h h' Bh:Heap} (ok:HOk P w H h) (k:∀ b o u,H b=some u→h.get? b=some o→Bh.get? b=some o) (st:Bh.StaysIn h'):HOk P w H h':=fun a o e =>
 (ok a o e).stay (fun b u hb q=>by
  rcases hb with rfl | hb
  ·exact st _ _ (k b u _ e q)
  ·exact st _ _ (k b u _ hb q)) (fun _ q=>q) fun _ _ q=>q
theorem fly_leave {X:Cx}{pins:List (Addr × Obj)}{σ:St}{H1:Hp}{s1:Shared} (I:L2.Inv X pins σ H1 s1) (hst:X.stack=X.env::X.outer) (hex:X.ex=[]) (hfrm:X.env.frame=some X.env.locals) {H2:Hp}{h2 h' Bh:Heap}{g2:Array GenState}{d2:Drawn}{t2:Nat}{os2:OsState}{cls a0:Value}{x:Addr}
  (hos:os2=s1.os) (hb:PyProof.Rows.AllBare g2) (u2:Un (frs X.stack) [] H1 H2 s1.heap h2) (ok:HOk X.prog X.w H2 h2) (tr:∀ b o u,H2 b=some u→h2.get? b=some o→Bh.get? b=some o)
  (ol:∀ b o o',h2.get? b=some o→s1.heap.get? b=some o'→b ∉ frs X.stack→Bh.get? b=some o) (fl:Heap.FlyingW Bh X.outer x cls a0 h') (up:h2.UpToSlots h') :
  Fly X.prog X.w X.outer X.H₀ X.s₀ cls H2 (.ref x) ⟨h',g2,d2,t2,os2⟩:=by
 have u1:=I.base
 rw [hex] at u1
 have hfs:frs X.stack=X.env.locals::frs X.outer:=by
  rw [hst]
  show List.filterMap _ _=_
  rw [List.filterMap_cons,hfrm]
  rfl
 have u:Un (frs X.stack) [] X.H₀ H2 X.s₀.heap h2:=(u1.mono (fun b hb=>by rw [hfs];exact List.mem_cons_of_mem _ hb) fun _ z=>z).trans u2
 have neL:∀ b o,X.s₀.heap.get? b=some o→b ≠ X.env.locals:=fun b o e=>Nat.ne_of_lt (Nat.lt_of_lt_of_le (Heap.lt_size e) I.ok.above)
 have nst:∀ b o,X.s₀.heap.get? b=some o→b ∉ frs X.outer→b ∉ frs X.stack:=fun b o e hn hb=>by
  rw [hfs] at hb
  rcases List.mem_cons.mp hb with z | z
  ·exact neL b o e z
  ·exact hn z
 have data:∀ b o,X.s₀.heap.get? b=some o→b ∈ frs X.outer→∀ vs,o.data ≠ .fields vs:=fun b o e hb vs z=>by
  obtain ⟨_,o',ho',hd'⟩:=I.ok.funs.mem hb
  rw [e] at ho'
  cases ho'
  exact hd' vs z
 refine ⟨hos.trans I.os,hb,⟨fun b o e n hf _=>?_,fun b o e n hf _=>?_,u.free,fun b o e _=>?_,u.tups,u.frzs,u.tbls⟩,fly_hok ok tr fl.1,⟨x,a0,Bh,rfl,fl,fun b o v e q=>?_,fun b o o' e q hf=>?_⟩⟩
 ·have q:=u.keep b o e n (nst b o e hf) (by simp)
  obtain ⟨o1,e1⟩:=u1.there b o e (by simp)
  exact fl.1 b o (ol b o o1 q e1 (nst b o e hf))
 ·obtain ⟨sl,q⟩:=u.slot b o e n (by rw [hfs];exact List.mem_cons_of_mem _ hf) (by simp)
  obtain ⟨sl',q'⟩:=up b _ q (data b o e hf)
  exact ⟨sl',q'⟩
 ·by_cases hf:b ∈ frs X.outer
  ·obtain ⟨_,o2,ho2,_⟩:=fl.2.2.1.mem hf
   exact ⟨o2,ho2⟩
  ·obtain ⟨o1,e1⟩:=u1.there b o e (by simp)
   obtain ⟨o2,e2⟩:=u2.there b o1 e1 (by simp)
   exact ⟨o2,fl.1 b o2 (ol b o2 o1 e2 e1 (nst b o e hf))⟩
 ·have hlt:=ok.lt e
  obtain ⟨o2,e2⟩:∃ o2,h2.get? b=some o2:=by
   have x:=ok b v e
   exact ObjOk.there x
  have:=fl.1 b o2 (tr b o2 v e e2)
  rw [q] at this
  cases this
  exact tr b o v e e2
 ·obtain ⟨o1,e1⟩:=u1.there b o' q (by simp)
  obtain ⟨o2,e2⟩:=u2.there b o1 e1 (by simp)
  have hB:=ol b o2 o1 e2 e1 (nst b o' q hf)
  have:=fl.1 b o2 hB
  rw [e] at this
  cases this
  exact hB
end
end PR
namespace PR
open PySem PySem.Spec L2
section
variable {P:Program}{w:World}{K:PySem.W.Frag}{mg:Str→Option Value}{base:Heap}{N:List Str}{qual:Str}{scope:Scope}{f:Addr}{cd:Value}{A:Around}{outer:List Env}{s:Shared}{H:Hp}{E:XK}{T:Tb}
abbrev WD (T:Tb) (E:XK):Nat→St→Hp→Prop:=fun c _ H=>E (.ref (T.xcl c)) none H
theorem xf_def:XF (cxOf (CXP P w) P w K mg base N qual scope f cd A outer s H E) T (WD T E):=by
 intro pins σ H1 s1 c H2 e s2 I fl hW
 obtain ⟨x,a0,Bh,rfl,fly,tr,ol⟩:=fl.fly
 refine wpAny_leaves_onW (L:=s.heap.objs.size) I.ok.frames rfl fly fun h' fly' up=>?_
 obtain ⟨h2,g2,d2,t2,os2⟩:=s2
 exact ⟨_,H2,fly_leave I rfl rfl rfl fl.os fl.bare fl.un fl.hok tr ol fly' up,hW⟩
theorem xm_def:XM (cxOf (CXP P w) P w K mg base N qual scope f cd A outer s H E) T (WD T E):=by
 intro pins σ H1 s1 c h2 e vs I mx hW
 have hin:∀ env ∈ (cxOf (CXP P w) P w K mg base N qual scope f cd A outer s H E).stack,∀ b,env.frame=some b→b ∈ frs (cxOf (CXP P w) P w K mg base N qual scope f cd A outer s H E).stack:=fun env he b hb=>List.mem_filterMap.mpr ⟨env,he,hb⟩
 refine wpAny_leaves_madeW (base:=PySem.W.hideAll s1.heap (frs (cxOf (CXP P w) P w K mg base N qual scope f cd A outer s H E).stack)) (h:=s1.heap) (L:=s.heap.objs.size) I.ok.frames rfl (fun b o q=>PySem.W.of_hideAll _ q) (PySem.W.funFrames_hide I.stack hin) mx fun h' t fly' _ _ up=>?_
 obtain ⟨h1,g1,d1,t1,os1⟩:=s1
 have fresh:∀ b o,h1.get? b=some o→h2.get? b=some o:=mx.keeps
 have nfr:∀ b u,H1 b=some u→b ∉ frs (cxOf (CXP P w) P w K mg base N qual scope f cd A outer s H E).stack:=fun b u e hb=>by
  rw [I.stkFree b hb] at e;cases e
 refine ⟨_,H1,fly_leave I rfl rfl rfl rfl I.bare (h2:=h2) (Bh:=PySem.W.hideAll h1 (frs (cxOf (CXP P w) P w K mg base N qual scope f cd A outer s H E).stack)) (Un.kept fresh) (I.hok.kept fresh) (fun b o u e q=>?_) (fun b o o' e q hb=>?_) fly' up,hW⟩
 ·obtain ⟨o1,e1⟩:=ObjOk.there (I.hok b u e)
  have:=fresh b o1 e1
  rw [q] at this;cases this
  exact PySem.W.hideAll_get _ e1 (nfr b u e)
 ·have:=fresh b o' q
  rw [e] at this;cases this
  exact PySem.W.hideAll_get _ q hb
end
structure OwnX (X:Cx) (x:Str) (C:Addr):Prop where
 bm:X.mg x=some (.ref C)
 obj:∃ bm N nm q bs hdct sn sub ab col dd k0 k1 k2 k3 k5 mN,X.base.get? C=some (excClassObj nm q C N bs bm hdct sn sub ab col dd k0 k1 k2 k3 k5 "ValueError.__new__")∧X.base.Ns N mN∧mN "__init__" = none ∧
  OwnTail X.base [.type "ValueError", .type "Exception", .type "BaseException", .type "object"] bm
section
variable {X:Cx}{T:Tb}{W:Nat→St→Hp→Prop}
theorem ss_raise {c:Nat}{x:Str}{e:Expr}{es:List Expr}{ms:MA}{np cpos pos:Pos} (O:OwnX X x (T.xcl c)) (hx:XM X T W) (hc:X.calm=true) (hg:Gl X x) (ha:SA X T W (e::es) ms) (hne:∀ env pvs,ms env=.ok pvs→pvs.length ≤ 100) (hd:(x == ("__debug__" : Str))=false:=by decide)
  (he:starEach (e::es) X.env=(false,eval e X.env)::starEach es X.env:=by rfl) (hpl:(backTo cpos (starEach es X.env)).any (·.1)=false:=by rfl) :
  SS X T W (.Raise (some (.Call (.Name x np) (e::es) [] cpos)) none pos) (fun env=>match ms env with
   | .ok _=>.exc c env
   | .exc k=>.exc k env
   | .stuck=>.stuck):=by
 intro pins s σ H D I h
 obtain ⟨Z,F,env,fp,S,q⟩:=h
 dsimp only at q
 obtain ⟨tl,N,nm,qn,bs,hdct,sn,sub,ab,col,dd,k0,k1,k2,k3,k5,mN,hC,hN,hni,TL⟩:=O.obj
 refine wpAny_Raise_call_subT (C:=T.xcl c) (nm:=nm) (q:=qn) (N:=N) (bs:=bs) (bm:=tl) (hdct:=hdct) (sn:=sn) (sub:=sub) (ab:=ab) (col:=col) (dd:=dd) (k0:=k0) (k1:=k1) (k2:=k2) (k3:=k3) (k5:=k5)
  PySem.F.excBase_ValueError (mN:=mN) (TL.hasType PySem.F.excBase_ValueError.hasBase) (I.ok.hd hc) (by rw [he];show (false || (backTo cpos (starEach es X.env)).any (·.1))=false;rw [hpl];rfl) hni (ld_glob I hg O.bm ⟨rfl,?_⟩ hd)
 have h2:=ha cpos pins s σ H (fun vs H'=>vs.length ≤ 100∧W c σ H') I (tA.bind S (fun k e H' x=>by rw [e] at q;exact q F H' σ fp (S.grow (Gr.same S.hp.ft x))) (fun e=>by rw [e] at q;exact q) fun pvs vs H' F' f e g r _ _ _=>by
  rw [e] at q
  exact ⟨by rw [← r.length];exact hne env pvs e,q F' H' σ fp (S.grow g)⟩)
 rw [he] at h2 ⊢
 refine Calls.evalArgs_plain (wpAny_mono h2 (fun vs s₂ h₂=>?_) fun _ _ y=>y)
 obtain ⟨vs',H',I2,rv,hl,hw⟩:=h₂
 refine ⟨rfl,?_,I2.bk _ _ hC,hN.keeps I2.bk,TL.keeps I2.bk,fun h' e' mx=>hx pins σ H' s₂ c h' e' vs I2 mx hw⟩
 rw [← rv.length,sizeLine_eq]
 omega
end
end PR
namespace PR
open PySem PySem.Spec L2
def callR (m:List PV→Res PV) (xs:List PV):Res PV:=match m (mapL Fl.toBor xs) with
 | .ok v=>if v.has Fl.isBor then .stuck else .ok v
 | .exc c=>.exc c
 | .stuck=>.stuck
def runB (n:Nat) (m:MS) (args:List PV):Res PV:=match m (args.map some ++ List.replicate (n - args.length) none) with
 | .next _=>.ok .non
 | .ret v=>.ok v
 | .exc c _=>.exc c
 | _=>.stuck
def GF (T:Tb) (Z:Zn) (Q:VK) (E:XK):Res PV→Prop
 | .ok pv=>∀ F H v f,HpRel T Z F H→Rel T F Z.B NoL H pv v f→f.Nodup→(∀ a ∈ f,¬ F a)→(∀ a ∈ f,Z.H0 a=none ∨ Z.fp0 a)→Q v H
 | .exc c=>∀ H,(∀ a o,Z.H0 a=some o→¬ Z.fp0 a→H a=some o)→E (.ref (T.xcl c)) none H
 | .stuck=>False
structure ArgR (T:Tb) (F B:Addr→Prop) (H:Hp) (pvs:List PV) (vs:List V) (f:List Addr):Prop where
 rel:RelL T F B NoL H pvs vs f
 nd:f.Nodup
 nf:∀ a ∈ f,¬ F a
 bo:∀ a,B a→(∃ o,H a=some o)∧a ∉ f
 ft:∀ a,F a→∃ o,H a=some o
def spM (T:Tb) (n:Nat) (m:List PV→Res PV):Sp:=fun vs H Q E=>vs.length=n∧∃ pvs F B f,ArgR T F B H pvs vs f∧GF T ⟨H,F,(· ∈ f),B,none⟩ Q E (m pvs)
theorem RelL.split {T:Tb}{F B L:Addr→Prop}{H:Hp}:∀ {xs:List PV}{vs:List V}{f:List Addr},RelL T F B L H xs vs f→f.Nodup →
  ∃ g:Nat→List Addr,(∀ (i:Nat) x v,xs[i]?=some x→vs[i]?=some v→Rel T F B L H x v (g i))∧(∀ i,(g i).Nodup)∧(∀ i j,i ≠ j→∀ a ∈ g i,a ∉ g j)∧∀ i a,a ∈ g i→a ∈ f
 | [],_,_,_,_=>⟨fun _=>[],fun i x v e=>by simp at e,fun _=>List.nodup_nil,fun _ _ _ _ z=>(nomatch z),fun _ _ z=>(nomatch z)⟩
 | x::xs,_,_,h,nd=>by
  unfold RelL at h
  obtain ⟨v,ws,f1,f2,rfl,h1,h2,rfl⟩:=h
  obtain ⟨n1,n2,n3⟩:=List.nodup_append.mp nd
  obtain ⟨g,g1,g2,g3,g4⟩:=RelL.split h2 n2
  refine ⟨fun i=>match i with | 0=>f1 | j+1=>g j,fun i y u e1 e2=>?_,fun i=>?_,fun i j hij a ha=>?_,fun i a ha=>?_⟩
  ·cases i with
   | zero=>simp at e1 e2;subst e1 e2;exact h1
   | succ i=>exact g1 i y u (by simpa using e1) (by simpa using e2)
  ·cases i with
   | zero=>exact n1
   | succ i=>exact g2 i
  ·cases i with
   | zero =>
    cases j with
    | zero=>exact absurd rfl hij
    | succ j=>exact fun z=>n3 a ha a (g4 j a z) rfl
   | succ i =>
    cases j with
    | zero=>exact fun z=>n3 a z a (g4 i a ha) rfl
    | succ j=>exact g3 i j (fun z=>hij (by rw [z])) a ha
  ·cases i with
   | zero=>exact List.mem_append_left _ ha
   | succ i=>exact List.mem_append_right _ (g4 i a ha)
section
variable {P:Program}{w:World}{K:PySem.W.Frag}{mg:Str→Option Value}{base:Heap}{T:Tb}
theorem arg_start {F B:Addr→Prop}{H:Hp}{pvs:List PV}{vs:List V}{f:List Addr} (N:List Str) (R:ArgR T F B H pvs vs f) (pin:Option V) (hpin:∀ v,pin=some v→vs[0]?=some v∧∃ fl c ks xs,pvs[0]?=some (.obj fl c ks xs)) :
  ∃ fp,StRel T ⟨H,F,(· ∈ f),B,pin⟩ F H (L2.start N vs) (pvs.map some ++ List.replicate (N.length - pvs.length) none) fp:=by
 obtain ⟨g,g1,g2,g3,g4⟩:=R.rel.split R.nd
 have hl:=R.rel.length
 refine ⟨g,⟨R.bo,fun _ _ h _=>h,fun _ h=>h,fun _ h=>.inl h,R.ft⟩,?_,fun i pv e=>?_,g2,g3,fun i a ha=>⟨R.nf a (g4 i a ha),R.rel.there a (g4 i a ha)⟩,fun i a ha=>.inr (g4 i a ha),fun i a ha=>R.rel.chg a (g4 i a ha),fun v hv=>?_⟩
 ·unfold L2.start
  simp [hl]
 ·by_cases hi:i < pvs.length
  ·rw [List.getElem?_append_left (by simpa using hi),List.getElem?_map] at e
   obtain ⟨x,e1,e2⟩:=Option.map_eq_some_iff.mp e
   cases e2
   obtain ⟨v,_,ev,_⟩:=R.rel.get e1
   refine ⟨v,?_,g1 i pv v e1 ev⟩
   unfold L2.start
   rw [List.getElem?_append_left (by simpa [← hl] using hi),List.getElem?_map,ev]
   rfl
  ·rw [List.getElem?_append_right (by simpa using hi),List.getElem?_replicate] at e
   split at e <;> cases e
 ·obtain ⟨h1,fl,c,ks,xs,h2⟩:=hpin v hv
  have hl0:0 < vs.length:=(List.getElem?_eq_some_iff.mp h1).1
  have hp0:0 < pvs.length:=(List.getElem?_eq_some_iff.mp h2).1
  unfold L2.start isObj0
  rw [List.getElem?_append_left (by simpa using hl0),List.getElem?_append_left (by simpa using hp0),List.getElem?_map,List.getElem?_map,h1,h2]
  exact ⟨rfl,rfl⟩
theorem fn_ok {x qual:Str}{st:Stmt}{f:Addr}{fd:FuncData}{N ps:List Str}{k:Nat}{m:MS} (F:Fun K x qual st f fd) (S:FnScope N ps (defScope st))
  (body:∀ (cdv:Value) (A:Around) (outer:List Env) (s:Shared) (H:Hp) (E:XK),Room k (A.deeper (PyProof.Rows.envOfC qual (defScope st) s.heap.objs.size f cdv)) →
   SSs (cxOf (CXP P w) P w K mg base N qual (defScope st) f cdv A outer s H E) T (WD T E) (defBody st) m):FnOk P w K mg base (CXP P w) (k+1) f fd ps (spM T ps.length (runB N.length m)):=by
 obtain ⟨oc,od,kV,doc,pm,an,cdv,ct,osl,rfl,lk,hcd⟩:=F.ex
 refine fn_of lk hcd S (fun vs H Q E h=>h.1) fun A outer s H vs Q E hr hsp=>⟨_,body cdv A outer s H E hr,?_⟩
 obtain ⟨_,pvs,F,B,fl,R,q⟩:=hsp
 obtain ⟨fp,S0⟩:=arg_start N R none (fun _ h=>nomatch h)
 refine ⟨_,F,_,fp,S0,?_⟩
 unfold runB at q
 cases e:m (pvs.map some ++ List.replicate (N.length - pvs.length) none) with
 | next e'=>rw [e] at q;exact fun F' H' σ' fp' S'=>q F' H' .non [] S'.hp relN List.nodup_nil (fun _ z=>(nomatch z)) (fun _ z=>(nomatch z))
 | ret v=>rw [e] at q;exact q
 | brk e'=>rw [e] at q;exact q.elim
 | cont e'=>rw [e] at q;exact q.elim
 | exc c e'=>rw [e] at q;exact fun F' H' σ' fp' S'=>q H' S'.hp.keep
 | stuck=>rw [e] at q;exact q.elim
end
mutual
theorem Rel.toBor {T:Tb}{F B B' L L':Addr→Prop}{H:Hp} (hB:∀ a,B a→B' a) (hL:∀ a,L a→B' a):∀ {x:PV}{v:V}{fp:List Addr},Rel T F B L H x v fp→Rel T F B' L' H (x.mapF Fl.toBor) v fp
 | .non,_,_,h=>by unfold Rel at h;simp only [PV.mapF];unfold Rel;exact h
 | .bl _,_,_,h=>by unfold Rel at h;simp only [PV.mapF];unfold Rel;exact h
 | .int _,_,_,h=>by unfold Rel at h;simp only [PV.mapF];unfold Rel;exact h
 | .str _,_,_,h=>by unfold Rel at h;simp only [PV.mapF];unfold Rel;exact h
 | .lst f xs,_,fp,h=>by
  unfold Rel at h
  obtain ⟨a,vs,fp',e,hl,hr,hf⟩:=h
  simp only [PV.mapF]
  unfold Rel
  cases f with
  | own=>exact ⟨a,vs,fp',e,hl,RelL.toBor hB hL hr,hf⟩
  | frz=>exact ⟨a,vs,fp',e,hl,RelL.toBor hB hL hr,hf⟩
  | bor=>exact ⟨a,vs,fp',e,⟨hB a hl.1,hl.2⟩,RelL.toBor hB hL hr,hf⟩
  | lnt=>exact ⟨a,vs,fp',e,⟨hL a hl.1,.inl hl.2⟩,RelL.toBor hB hL hr,hf⟩
  | mod=>exact ⟨a,vs,fp',e,hl,RelL.toBor hB hL hr,hf⟩
 | .tup xs,_,fp,h=>by
  unfold Rel at h
  obtain ⟨a,vs,e,hl,hr⟩:=h
  simp only [PV.mapF]
  unfold Rel
  exact ⟨a,vs,e,hl,RelL.toBor hB hL hr⟩
 | .obj f c ks xs,_,fp,h=>by
  unfold Rel at h
  obtain ⟨a,dx,vs,fp',e,hl,hk,hr,hf,ha⟩:=h
  simp only [PV.mapF]
  unfold Rel
  have r:=RelL.toBor hB hL (L':=L') hr
  have hk':ks.length=(mapL Fl.toBor xs).length∧c < T.nc:=⟨by rw [r.length,hk.1,hr.length],hk.2⟩
  cases f with
  | own=>exact ⟨a,dx,vs,fp',e,hl,hk',r,hf,ha⟩
  | frz=>exact ⟨a,dx,vs,fp',e,hl,hk',r,hf,ha⟩
  | bor=>exact ⟨a,dx,vs,fp',e,hl,hk',r,hf,hB a ha⟩
  | lnt=>exact ⟨a,dx,vs,fp',e,hl,hk',r,hf,hL a ha⟩
  | mod=>exact ha.elim
 | .exc c,_,fp,h=>by unfold Rel at h;simp only [PV.mapF];unfold Rel;exact h
theorem RelL.toBor {T:Tb}{F B B' L L':Addr→Prop}{H:Hp} (hB:∀ a,B a→B' a) (hL:∀ a,L a→B' a):∀ {xs:List PV}{vs:List V}{fp:List Addr},RelL T F B L H xs vs fp→RelL T F B' L' H (mapL Fl.toBor xs) vs fp
 | [],_,_,h=>by unfold RelL at h;simp only [mapL];unfold RelL;exact h
 | x::xs,_,fp,h=>by
  unfold RelL at h
  obtain ⟨v,ws,f1,f2,e,h1,h2,rfl⟩:=h
  simp only [mapL]
  unfold RelL
  exact ⟨v,ws,f1,f2,e,Rel.toBor hB hL h1,RelL.toBor hB hL h2,rfl⟩
end
mutual
theorem Rel.noB {T:Tb}{F B B' L:Addr→Prop}{H:Hp}:∀ {x:PV}{v:V}{fp:List Addr},x.has Fl.isBor=false→Rel T F B L H x v fp→Rel T F B' L H x v fp
 | .non,_,_,_,h=>by unfold Rel at h ⊢;exact h
 | .bl _,_,_,_,h=>by unfold Rel at h ⊢;exact h
 | .int _,_,_,_,h=>by unfold Rel at h ⊢;exact h
 | .str _,_,_,_,h=>by unfold Rel at h ⊢;exact h
 | .lst f xs,_,fp,hp,h=>by
  unfold Rel at h ⊢
  simp only [PV.has,Bool.or_eq_false_iff] at hp
  obtain ⟨a,vs,fp',e,hl,hr,hf⟩:=h
  refine ⟨a,vs,fp',e,?_,RelL.noB hp.2 hr,hf⟩
  cases f with
  | bor=>exact absurd hp.1 (by decide)
  | own=>exact hl
  | frz=>exact hl
  | lnt=>exact hl
  | mod=>exact hl
 | .tup xs,_,fp,hp,h=>by
  unfold Rel at h ⊢
  simp only [PV.has] at hp
  obtain ⟨a,vs,e,hl,hr⟩:=h
  exact ⟨a,vs,e,hl,RelL.noB hp hr⟩
 | .obj f c ks xs,_,fp,hp,h=>by
  unfold Rel at h ⊢
  simp only [PV.has,Bool.or_eq_false_iff] at hp
  obtain ⟨a,dx,vs,fp',e,hl,hk,hr,hf,ha⟩:=h
  refine ⟨a,dx,vs,fp',e,hl,hk,RelL.noB hp.2 hr,hf,?_⟩
  cases f with
  | bor=>exact absurd hp.1 (by decide)
  | own=>exact ha
  | frz=>exact ha
  | lnt=>exact ha
  | mod=>exact ha
 | .exc c,_,fp,hp,h=>by
  unfold Rel at h ⊢
  exact h
theorem RelL.noB {T:Tb}{F B B' L:Addr→Prop}{H:Hp}:∀ {xs:List PV}{vs:List V}{fp:List Addr},hasL Fl.isBor xs=false→RelL T F B L H xs vs fp→RelL T F B' L H xs vs fp
 | [],_,_,_,h=>by unfold RelL at h ⊢;exact h
 | x::xs,_,fp,hp,h=>by
  unfold RelL at h ⊢
  simp only [hasL,Bool.or_eq_false_iff] at hp
  obtain ⟨v,ws,f1,f2,e,h1,h2,rfl⟩:=h
  exact ⟨v,ws,f1,f2,e,Rel.noB hp.1 h1,RelL.noB hp.2 h2,rfl⟩
end
theorem RelL.append {T:Tb}{F B L:Addr→Prop}{H:Hp}:∀ {xs ys:List PV}{vs us:List V}{f g:List Addr},RelL T F B L H xs vs f→RelL T F B L H ys us g→RelL T F B L H (xs ++ ys) (vs ++ us) (f ++ g)
 | [],_,_,_,_,_,h,r=>by unfold RelL at h;obtain ⟨rfl,rfl⟩:=h;exact r
 | x::xs,_,_,_,_,_,h,r=>by
  unfold RelL at h
  obtain ⟨v,ws,f1,f2,rfl,h1,h2,rfl⟩:=h
  show RelL T F B L H (x::(xs ++ _)) (v::(ws ++ _)) _
  unfold RelL
  exact ⟨v,_,f1,_,rfl,h1,RelL.append h2 r,by rw [List.append_assoc]⟩
section
variable {X:Cx}{T:Tb}{W:Nat→St→Hp→Prop}{Z:Zn}{F F1:Addr→Prop}{H H1:Hp}{σ:St}{env:En}{fp:Nat→List Addr}
theorem run_m {k:Nat}{f:Addr}{fd:FuncData}{ps:List Str}{m:List PV→Res PV}{xs:List PV}{vs:List V}{us ds:List Value}{fx:List Addr}{Q:VK}{pins:List (Addr × Obj)}{s1:Shared}{dvs:List V}{dps:List PV}
  (G:FnOk X.prog X.w X.K X.mg X.base (CXP X.prog X.w) k f fd ps (spM T ps.length m)) (hr:Room k X.A) (hb:Binds X.K fd ps ds) (hd:Vals dvs ds) (hdp:∀ F B L H,RelL T F B L H dps dvs []) (hx:XF X T W)
  (S:StRel T Z F H σ env fp) (g:Gr F H F1 H1) (r:RelL T F1 Z.B (Own fp) H1 xs vs fx) (nf:∀ a ∈ fx,¬ F1 a) (nd:fx.Nodup) (new:∀ a ∈ fx,H a=none) (q:GE T W Z.B F (Own fp) σ H Q (callR m (xs ++ dps)))
  (I1:L2.Inv X pins σ H1 s1) (rv:Vals vs us) (hlen:vs.length+dvs.length=ps.length):wpAny (model X.prog X.w) X.A (call (.ref f) us) (EP X pins σ Q) X.xe s1:=by
 have r2:Vals (vs ++ dvs) (us ++ ds):=rv.append hd
 have hl:(us ++ ds).length=ps.length:=by rw [← r2.length,List.length_append];exact hlen
 have rr:RelL T F1 Z.B (Own fp) H1 (xs ++ dps) (vs ++ dvs) fx:=by
  have:=RelL.append r (hdp F1 Z.B (Own fp) H1)
  rwa [List.append_nil] at this
 have hBo:∀ a,Z.B a→(∃ o,H1 a=some o)∧a ∉ fx:=fun a h=>by
  obtain ⟨⟨o,h1⟩,h2⟩:=S.hp.bo a h
  have h3:=S.hp.keep a o h1 h2
  exact ⟨⟨o,g.ext a o h3⟩,fun z=>by rw [new a z] at h3;cases h3⟩
 have hOw:∀ a,Own fp a→(∃ o,H1 a=some o)∧a ∉ fx:=fun a ⟨i,hi⟩=>by
  obtain ⟨_,o,ho⟩:=S.dis i a hi
  exact ⟨⟨o,g.ext a o ho⟩,fun z=>by rw [new a z] at ho;cases ho⟩
 have R:ArgR T F1 (fun a=>(∃ o,H1 a=some o)∧a ∉ fx) H1 (mapL Fl.toBor (xs ++ dps)) (vs ++ dvs) fx:=⟨RelL.toBor hBo hOw rr,nd,nf,fun a h=>h,g.dom⟩
 refine wpAny_call (codeAny_mono (G.run X.A X.stack s1 H1 ⟨us,[]⟩ (us ++ ds) (vs ++ dvs) Q (fun cls _ H'=>∃ c,cls=.ref (T.xcl c)∧W c σ H') hr I1.env0 (hb s1 us I1.kIn hl) r2
  ⟨by rw [r2.length,hl],_,F1,_,fx,R,?_⟩) fun rs s' hq=>?_)
 ·unfold callR at q
  cases e:m (mapL Fl.toBor (xs ++ dps)) with
  | ok v =>
   rw [e] at q
   dsimp only at q
   intro F2 H2 u f2 hp2 r3 nd2 nf2 new2
   by_cases hbr:v.has Fl.isBor=true
   ·rw [if_pos hbr] at q;exact q.elim
   ·rw [if_neg hbr] at q
    have hbr':v.has Fl.isBor=false:=by simpa using hbr
    refine q u H2 F2 f2 ⟨fun a o h=>hp2.keep a o (g.ext a o h) fun z=>(by rw [new a z] at h;cases h),fun a h=>hp2.f0 a (g.mono a h),fun a h=>?_,hp2.ft⟩ ?_ nf2 nd2 fun a ha=>?_
    ·rcases hp2.fn a h with z | z | z
     ·exact g.only a z
     ·exact .inr (g.ext.free z)
     ·exact .inr (new a z)
    ·exact Rel.tr (fun _ h=>h) (fun _ h=>h) (fun _ h=>h.elim) (fun _ _ h _=>h) (fun _ _ _ h=>h) (Rel.noB (B':=Z.B) hbr' r3)
    ·rcases new2 a ha with z | z
     ·exact g.ext.free z
     ·exact new a z
  | exc c =>
   rw [e] at q
   exact fun H' h=>⟨c,rfl,q H' fun a o z=>h a o (g.ext a o z) fun z'=>by rw [new a z'] at z;cases z⟩
  | stuck=>rw [e] at q;exact q.elim
 ·cases rs with
  | error e =>
   obtain ⟨cls,H',fl,c,rfl,hw⟩:=hq
   exact hx pins σ H1 s1 c H' e s' I1 fl hw
  | ok fl =>
   cases fl with
   | ret u=>exact I1.after hq
   | next=>exact False.elim hq
   | brk=>exact False.elim hq
   | cont=>exact False.elim hq
theorem se_call {k:Nat}{f:Addr}{fd:FuncData}{ps:List Str}{m:List PV→Res PV}{x:Str}{p pos:Pos}{e:Expr}{es:List Expr}{ms:MA}{ds:List Value}{dvs:List V}{dps:List PV}
  (G:FnOk X.prog X.w X.K X.mg X.base (CXP X.prog X.w) k f fd ps (spM T ps.length m)) (hr:Room k X.A) (hg:Gl X x) (hm:X.mg x=some (.ref f)) (hk:PySem.W.keepIn X.K (.ref f)=true) (hb:Binds X.K fd ps ds) (hd:Vals dvs ds) (hdp:∀ F B L H,RelL T F B L H dps dvs []) (hx:XF X T W)
  (hn:∀ env xs,ms env=.ok xs→xs.length+dvs.length=ps.length) (ha:SA X T W (e::es) ms)
  (hdb:(x == ("__debug__" : Str))=false:=by decide) (he:starEach (e::es) X.env=(false,eval e X.env)::starEach es X.env:=by rfl) (hpl:(backTo pos (starEach es X.env)).any (·.1)=false:=by rfl) :
  SE X T W (.Call (.Name x p) (e::es) [] pos) (mCall (fun xs=>callR m (xs ++ dps)) ms):=by
 intro pins s σ H Q I h
 obtain ⟨Z,F,env,fp,S,q⟩:=h
 unfold mCall at q
 refine wpAny_Call_Name_kw (ld_glob I hg hm ?_ hdb)
 refine PySem.W.callWith_K (h₀:=X.base) I.ok.mod.kin hk (thn (ha pos pins s σ H (fun vs H1=>∀ us s1,L2.Inv X pins σ H1 s1→Vals vs us→wpAny (model X.prog X.w) X.A (call (.ref f) us) (EP X pins σ Q) X.xe s1) I
  (tA.bind S (fun c e=>by rw [e] at q;exact q) (fun e=>by rw [e] at q;exact q) fun xs vs H1 F1 f1 e1 g1 r1 n1 d1 w1 us s1 I1 rv=>?_)) fun us s1 ⟨vs,H1,I1,r,q1⟩=>⟨I1.kIn,q1 us s1 I1 r⟩) he hpl
 rw [e1] at q
 exact run_m G hr hb hd hdp hx S g1 r1 n1 d1 w1 q I1 rv (by rw [← r1.length];exact hn env xs e1)
def Disp (X:Cx) (T:Tb) (k:Nat) (mn:Str) (ps:List Str) (ds:List Value) (disp:Nat→Option (List PV→Res PV)):Prop :=
 ∀ c m,c < T.nc→disp c=some m→∃ f fd,Meth X.K (T.cls c) mn f∧Binds X.K fd ps ds∧FnOk X.prog X.w X.K X.mg X.base (CXP X.prog X.w) k f fd ps (spM T ps.length m)
def mMeth (disp:Nat→Option (List PV→Res PV)) (dps:List PV) (o:ME) (ms:MA):ME:=fun env=>(o env).bind fun ov=>match ov with
 | .obj _ c _ _=>match disp c with
  | some m=>(ms env).bind fun xs=>callR m ((ov::xs) ++ dps)
  | none=>.stuck
 | _=>.stuck
theorem lookup_none {mn:Str} (hm:∀ k,T.att k ≠ mn):∀ (ks:List Nat) (vs:List V),((ks.map T.att).zip vs).lookup mn=none
 | [],_=>rfl
 | j::ks,[]=>rfl
 | j::ks,v::vs=>by
  rw [List.map_cons,List.zip_cons_cons,List.lookup_cons,show (mn == T.att j)=false by rw [beq_eq_false_iff_ne];exact (hm j).symm]
  exact lookup_none hm ks vs
theorem meth_at {pins:List (Addr × Obj)}{k:Nat}{mn:Str}{ps:List Str}{ds:List Value}{disp:Nat→Option (List PV→Res PV)}{fl:Fl}{c:Nat}{ks:List Nat}{xs:List PV}{v:V}{f1:List Addr}{s1:Shared}{pl:Sem Bool}{Q:Value × List Value→Shared→Prop}{m:List PV→Res PV}{u:Value}{B L:Addr→Prop}
  (hK:X.K=T.K) (hc:∀ c < T.nc,Cls T.K (T.cls c)) (hm:∀ k,T.att k ≠ mn) (D:Disp X T k mn ps ds disp) (e:disp c=some m) (r:Rel T F1 B L H1 (.obj fl c ks xs) v f1) (I1:L2.Inv X pins σ H1 s1) (ru:RelV v u)
  (h:∀ a f fd,u=.ref a→PySem.W.keepIn X.K (.ref f)=true→Binds X.K fd ps ds→FnOk X.prog X.w X.K X.mg X.base (CXP X.prog X.w) k f fd ps (spM T ps.length m)→Q (.ref f,[.ref a]) s1) :
  wpAny (model X.prog X.w) X.A (getMethod u mn pl) Q X.xe s1:=by
 unfold Rel at r
 obtain ⟨a,dx,vs,fp',rfl,hl,hk,hr,_,_⟩:=r
 obtain ⟨f,fd,M,hb,G⟩:=D c m hk.2 e
 obtain rfl:u=Value.ref a:=ru
 refine getmeth_ok I1 hl (by rw [hK];exact hc c hk.2) M (lookup_none hm _ _) (h a f fd rfl M.kp hb G)
theorem se_meth {k:Nat}{mn:Str}{ps:List Str}{ds:List Value}{disp:Nat→Option (List PV→Res PV)}{o e:Expr}{es:List Expr}{mo:ME}{ms:MA}{apos pos:Pos}{dvs:List V}{dps:List PV}{pl:Sem Bool}
  (hK:X.K=T.K) (hc:∀ c < T.nc,Cls T.K (T.cls c)) (hm:∀ k,T.att k ≠ mn) (D:Disp X T k mn ps ds disp) (hr:Room k X.A) (hd:Vals dvs ds) (hdp:∀ F B L H,RelL T F B L H dps dvs []) (hx:XF X T W)
  (hn:∀ env xs,ms env=.ok xs→xs.length+1+dvs.length=ps.length) (ho:SE X T W o mo) (ha:SA X T W (e::es) ms)
  (hst:starEach (e::es) X.env=(false,eval e X.env)::starEach es X.env:=by rfl) (hpl:(backTo pos (starEach es X.env)).any (·.1)=false:=by rfl)
  (ht:eval (.Call (.Attribute o mn apos) (e::es) [] pos) X.env=(do
   let ov ← eval o X.env
   standAt apos.atName
   let (f,first) ← holding [ov] (getMethod ov mn pl)
   callWith pos f first (backTo pos (starEach (e::es) X.env)) (backToKw pos (keywordEach [] X.env))):=by rfl) :
  SE X T W (.Call (.Attribute o mn apos) (e::es) [] pos) (mMeth disp dps mo ms):=by
 intro pins s σ H Q I h
 obtain ⟨Z,F,env,fp,S,q⟩:=h
 unfold mMeth at q
 refine PySem.W.methodCall_KW (pl:=pl) (thn (ho pins s σ H (fun v H1=>∃ ov F1 f1,mo env=.ok ov∧Gr F H F1 H1∧Rel T F1 Z.B (Own fp) H1 ov v f1∧(∀ a ∈ f1,¬ F1 a)∧f1.Nodup∧∀ a ∈ f1,H a=none) I
  (tE.bind S (fun c e=>by rw [e] at q;exact q) (fun e=>by rw [e] at q;exact q) fun ov v H1 F1 f1 e1 g1 r1 n1 d1 w1=>⟨ov,F1,f1,e1,g1,r1,n1,d1,w1⟩)) fun u s1 ⟨v,H1,I1,ru,ov,F1,f1,e1,g1,r1,n1,d1,w1⟩=>?_) ht
 rw [e1] at q
 simp only [Res.ok_bind] at q
 by_cases hobj:∃ fl c ks xs m,ov=.obj fl c ks xs∧disp c=some m
 ·obtain ⟨fl,c,ks,ys,m,rfl,em⟩:=hobj
  dsimp only at q
  rw [em] at q
  dsimp only at q
  refine meth_at hK hc hm D em r1 I1 ru fun a f fd eu hkp hb G=>?_
  subst eu
  refine PySem.W.callWith_K (first:=[.ref a]) (h₀:=X.base) I.ok.mod.kin hkp (thn (ha pos pins s1 σ H1 (fun vs H2=>∀ us s2,L2.Inv X pins σ H2 s2→Vals vs us→wpAny (model X.prog X.w) X.A (call (.ref f) (.ref a::us)) (EP X pins σ Q) X.xe s2) I1
   (tA.bind (S.grow g1) (fun c e=>by rw [e] at q;exact fun H' x=>q H' (g1.ext.trans x)) (fun e=>by rw [e] at q;exact q) fun xs vs H2 F2 f2 e2 g2 r2 n2 d2 w2 us s2 I2 rv=>?_)) fun us s2 ⟨vs,H2,I2,r,q2⟩=>⟨I2.kIn,q2 us s2 I2 r⟩) hst hpl
  rw [e2] at q
  simp only [Res.ok_bind] at q
  have nn:∀ b ∈ f1,¬ F2 b:=fun b hb z=>by
   rcases g2.only b z with z | z
   ·exact n1 b hb z
   ·obtain ⟨oo,hoo⟩:=r1.there b hb
    rw [hoo] at z;cases z
  refine run_m (xs:=.obj fl c ks ys::xs) (vs:=v::vs) (us:=.ref a::us) (fx:=f1 ++ f2) G hr hb hd hdp hx S (g1.trans g2) (by unfold RelL;exact ⟨v,vs,f1,f2,rfl,r1.ext g2.ext g2.mono,r2,rfl⟩) (fun b hb=>?_) ?_ (fun b hb=>?_) q I2 (.cons ru rv) ?_
  ·rcases List.mem_append.mp hb with hb | hb
   ·exact nn b hb
   ·exact n2 b hb
  ·refine List.nodup_append.mpr ⟨d1,d2,fun b hb c hc z=>?_⟩
   subst z
   obtain ⟨oo,hoo⟩:=r1.there b hb
   rw [w2 b hc] at hoo;cases hoo
  ·rcases List.mem_append.mp hb with hb | hb
   ·exact w1 b hb
   ·exact g1.ext.free (w2 b hb)
  ·have:=hn env xs e2
   rw [List.length_cons,← r2.length]
   exact this
 ·exfalso
  cases ov with
  | obj fl c ks ys =>
   cases em:disp c with
   | none=>simp only [em] at q;exact q
   | some m=>exact hobj ⟨fl,c,ks,ys,m,rfl,em⟩
  | _=>exact q
end
end PR
namespace PR
open PySem PySem.Spec L2
def LenA (ms:MA) (n:Nat):Prop:=∀ env xs,ms env=.ok xs→xs.length=n
theorem lenA_nil:LenA mNil 0:=fun _ _ h=>by cases h;rfl
theorem lenA_cons {m:ME}{ms:MA}{n:Nat} (h:LenA ms n):LenA (mCons m ms) (n+1):=fun env xs e=>by
 unfold mCons at e
 cases e1:m env with
 | ok x =>
  rw [e1] at e
  simp only [Res.ok_bind] at e
  cases e2:ms env with
  | ok ys =>
   rw [e2] at e
   simp only [Res.ok_bind] at e
   cases e
   rw [List.length_cons,h env ys e2]
  | exc c=>rw [e2] at e;cases e
  | stuck=>rw [e2] at e;cases e
 | exc c=>rw [e1] at e;cases e
 | stuck=>rw [e1] at e;cases e
def seqOf:PV→Option (List PV)
 | .lst _ xs=>some xs
 | .tup xs=>some xs
 | _=>none
section
variable {X:Cx}{T:Tb}{W:Nat→St→Hp→Prop}{Z:Zn}{F F1 B L:Addr→Prop}{H H1:Hp}{σ:St}{env:En}{fp:Nat→List Addr}{D:Ends}
theorem Rel.seq {x:PV}{v:V}{fx:List Addr}{xs:List PV} (r:Rel T F B L H x v fx) (e:seqOf x=some xs):∃ a vs fx',v=.ref a∧(SqL T.K H a vs ∨ SqT T.K H a vs)∧RelL T F B L H xs vs fx'∧fx'.Sublist fx:=by
 cases x with
 | lst f ys =>
  cases e
  unfold Rel at r
  obtain ⟨a,vs,fp',rfl,hl,hr,hf⟩:=r
  refine ⟨a,vs,fp',rfl,.inl hl.sq,hr,?_⟩
  cases f with
  | own=>obtain rfl:fx=a::fp':=hf;exact List.sublist_cons_self _ _
  | frz=>obtain ⟨rfl,rfl⟩:=hf;exact List.Sublist.refl _
  | bor=>obtain ⟨rfl,rfl⟩:=hf;exact List.Sublist.refl _
  | lnt=>obtain ⟨rfl,rfl⟩:=hf;exact List.Sublist.refl _
  | mod=>obtain ⟨rfl,rfl⟩:=hf;exact List.Sublist.refl _
 | tup ys =>
  cases e
  unfold Rel at r
  obtain ⟨a,vs,rfl,hl,hr⟩:=r
  exact ⟨a,vs,fx,rfl,.inr hl,hr,List.Sublist.refl _⟩
 | _=>cases e
theorem GE.newL {Q:VK}{ys:List PV}{vs:List V}{fx:List Addr} (q:GE T W B F L σ H Q (.ok (.lst .own ys))) (g:Gr F H F1 H1) (r:RelL T F1 B L H1 ys vs fx) (nf:∀ a ∈ fx,¬ F1 a) (nd:fx.Nodup) (new:∀ a ∈ fx,H a=none) :
  ∀ p,H1 p=none→Q (.ref p) (upd H1 p (.lst vs)):=fun p hp=>by
 refine q (.ref p) (upd H1 p (.lst vs)) F1 (p::fx) (g.trans (Gr.same g.dom (Ext.upd hp))) ?_ (fun a ha=>?_) ?_ (fun a ha=>?_)
 ·unfold Rel
  exact ⟨p,vs,fx,rfl,upd_same,r.ext (Ext.upd hp) fun _ h=>h,rfl⟩
 ·rcases List.mem_cons.mp ha with rfl | ha
  ·intro z
   obtain ⟨o,ho⟩:=g.dom _ z
   rw [hp] at ho;cases ho
  ·exact nf a ha
 ·refine List.nodup_cons.mpr ⟨fun z=>?_,nd⟩
  obtain ⟨o,ho⟩:=r.there p z
  rw [hp] at ho;cases ho
 ·rcases List.mem_cons.mp ha with rfl | ha
  ·exact g.ext.free hp
  ·exact new a ha
theorem GE.newT {Q:VK}{ys:List PV}{vs:List V}{fx:List Addr} (q:GE T W B F L σ H Q (.ok (.tup ys))) (g:Gr F H F1 H1) (r:RelL T F1 B L H1 ys vs fx) (nf:∀ a ∈ fx,¬ F1 a) (nd:fx.Nodup) (new:∀ a ∈ fx,H a=none) :
  ∀ p,H1 p=none→Q (.ref p) (upd H1 p (.tup vs)):=fun p hp=>by
 refine q (.ref p) (upd H1 p (.tup vs)) F1 fx (g.trans (Gr.same g.dom (Ext.upd hp))) ?_ nf nd new
 unfold Rel
 exact ⟨p,vs,rfl,SqT.of upd_same,r.ext (Ext.upd hp) fun _ h=>h⟩
theorem small {n:Nat} (h:n ≤ 1000):n ≤ sizeLine:=by rw [sizeLine_eq];omega
def mLst (ms:MA):ME:=fun env=>(ms env).bind fun xs=>.ok (.lst .own xs)
def mTup (ms:MA):ME:=fun env=>(ms env).bind fun xs=>.ok (.tup xs)
theorem se_lst {es:List Expr}{ms:MA}{n:Nat}{pos:Pos} (ha:SA X T W es ms) (hn:LenA ms n) (hs:n ≤ 1000:=by decide):SE X T W (.List es pos) (mLst ms):=PE.wk (pe_lst (pos:=pos) ha) fun σ H Q ⟨Z,F,env,fp,S,q⟩=>by
 unfold mLst at q
 refine tA.bind S (fun c e=>by rw [e] at q;exact q) (fun e=>by rw [e] at q;exact q) fun xs vs H1 F1 f1 e1 g1 r1 n1 d1 w1=>?_
 rw [e1] at q
 exact ⟨small (by rw [← r1.length,hn env xs e1];exact hs),GE.newL q g1 r1 n1 d1 w1⟩
theorem se_tup {es:List Expr}{ms:MA}{n:Nat}{x1}{pos:Pos} (ha:SA X T W es ms) (hn:LenA ms n) (hs:n ≤ 1000:=by decide):SE X T W (.Tuple es x1 pos) (mTup ms):=PE.wk (pe_tup (pos:=pos) ha) fun σ H Q ⟨Z,F,env,fp,S,q⟩=>by
 unfold mTup at q
 refine tA.bind S (fun c e=>by rw [e] at q;exact q) (fun e=>by rw [e] at q;exact q) fun xs vs H1 F1 f1 e1 g1 r1 n1 d1 w1=>?_
 rw [e1] at q
 exact ⟨small (by rw [← r1.length,hn env xs e1];exact hs),GE.newT q g1 r1 n1 d1 w1⟩
def p1 (f:PV→Res PV):List PV→Res PV
 | [x]=>f x
 | _=>.stuck
theorem RelL.one {x:PV}{vs:List V}{f:List Addr} (r:RelL T F B L H [x] vs f):∃ v,vs=[v]∧Rel T F B L H x v f:=by
 unfold RelL at r
 obtain ⟨v,ws,f1,f2,rfl,h1,h2,rfl⟩:=r
 unfold RelL at h2
 obtain ⟨rfl,rfl⟩:=h2
 exact ⟨v,rfl,by rwa [List.append_nil]⟩
def pLen:PV→Res PV:=fun x=>match seqOf x with
 | some xs=>.ok (.int xs.length)
 | none=>.stuck
theorem mir_len (hK:X.K=T.K):Mir T W (p1 pLen) (fun xs H Q=>∃ p ys,xs=[.ref p]∧(SqL X.K H p ys ∨ SqT X.K H p ys)∧Q (.int ys.length) H):=by
 intro B F L σ H Q F' H' xs vs fx g r _ _ _ q
 match xs,r,q with
 | [x],r,q =>
  obtain ⟨v,rfl,r1⟩:=r.one
  simp only [p1,pLen] at q
  cases e:seqOf x with
  | none=>rw [e] at q;exact q.elim
  | some ys =>
   rw [e] at q
   obtain ⟨a,ws,fx',rfl,hs,hr,_⟩:=r1.seq e
   exact ⟨a,ws,rfl,by rw [hK];exact hs,q.scal g (by rw [← hr.length];exact relI)⟩
 | [],_,q=>exact q.elim
 | _::_::_,_,q=>exact q.elim
theorem se_len {p pos:Pos}{e:Expr}{m:ME} (hK:X.K=T.K) (hg:Gl X "len") (hm:X.mg "len" = none) (ha:SE X T W e m) (he:starEach [e] X.env=[(false,eval e X.env)]:=by rfl):SE X T W (.Call (.Name "len" p) [e] [] pos) (mCall (p1 pLen) (mCons m mNil)) :=
 se_callB call_len_seq (mir_len hK) hg hm PySem.boot_len (sa_cons ha sa_nil he) (he:=he)
def pList:PV→Res PV:=fun x=>match seqOf x with
 | some xs=>.ok (.lst .own xs)
 | none=>.stuck
theorem mir_list (hK:X.K=T.K):Mir T W (p1 pList) (fun xs H Q=>∃ p ys,xs=[.ref p]∧(SqL X.K H p ys ∨ SqT X.K H p ys)∧∀ l,H l=none→Q (.ref l) (upd H l (.lst ys))):=by
 intro B F L σ H Q F' H' xs vs fx g r nf nd new q
 match xs,r,q with
 | [x],r,q =>
  obtain ⟨v,rfl,r1⟩:=r.one
  simp only [p1,pList] at q
  cases e:seqOf x with
  | none=>rw [e] at q;exact q.elim
  | some ys =>
   rw [e] at q
   obtain ⟨a,ws,fx',rfl,hs,hr,sl⟩:=r1.seq e
   exact ⟨a,ws,rfl,by rw [hK];exact hs,GE.newL q g hr (fun b hb=>nf b (sl.subset hb)) (nd.sublist sl) (fun b hb=>new b (sl.subset hb))⟩
 | [],_,q=>exact q.elim
 | _::_::_,_,q=>exact q.elim
theorem se_list {p pos:Pos}{e:Expr}{m:ME} (hK:X.K=T.K) (hg:Gl X "list") (hm:X.mg "list" = none) (hv:bootBuiltins "list" = some (.type "list")) (ha:SE X T W e m) (he:starEach [e] X.env=[(false,eval e X.env)]:=by rfl):SE X T W (.Call (.Name "list" p) [e] [] pos) (mCall (p1 pList) (mCons m mNil)) :=
 se_callTy call_list_of (mir_list hK) hg hm hv (sa_cons ha sa_nil he) (he:=he)
def pTuple:PV→Res PV:=fun x=>match seqOf x with
 | some xs=>.ok (.tup xs)
 | none=>.stuck
theorem mir_tuple (hK:X.K=T.K):Mir T W (p1 pTuple) (fun xs H Q=>∃ p ys,xs=[.ref p]∧((SqL X.K H p ys∧∀ l,H l=none→Q (.ref l) (upd H l (.tup ys))) ∨ (SqT X.K H p ys∧Q (.ref p) H))):=by
 intro B F L σ H Q F' H' xs vs fx g r nf nd new q
 match xs,r,q with
 | [x],r,q =>
  obtain ⟨v,rfl,r1⟩:=r.one
  simp only [p1,pTuple] at q
  cases x with
  | lst f ys =>
   simp only [seqOf] at q
   unfold Rel at r1
   obtain ⟨a,ws,fp',rfl,hl,hr,hf⟩:=r1
   have sl:fp'.Sublist fx:=by
    cases f with
    | own=>obtain rfl:fx=a::fp':=hf;exact List.sublist_cons_self _ _
    | frz=>obtain ⟨rfl,rfl⟩:=hf;exact List.Sublist.refl _
    | bor=>obtain ⟨rfl,rfl⟩:=hf;exact List.Sublist.refl _
    | lnt=>obtain ⟨rfl,rfl⟩:=hf;exact List.Sublist.refl _
    | mod=>obtain ⟨rfl,rfl⟩:=hf;exact List.Sublist.refl _
   exact ⟨a,ws,rfl,.inl ⟨by rw [hK];exact hl.sq,GE.newT q g hr (fun b hb=>nf b (sl.subset hb)) (nd.sublist sl) (fun b hb=>new b (sl.subset hb))⟩⟩
  | tup ys =>
   simp only [seqOf] at q
   have r2:=r1
   unfold Rel at r2
   obtain ⟨a,ws,rfl,hs,hr⟩:=r2
   exact ⟨a,ws,rfl,.inr ⟨by rw [hK];exact hs,q _ _ _ fx g r1 nf nd new⟩⟩
  | _=>exact q.elim
 | [],_,q=>exact q.elim
 | _::_::_,_,q=>exact q.elim
theorem se_tuple {p pos:Pos}{e:Expr}{m:ME} (hK:X.K=T.K) (hg:Gl X "tuple") (hm:X.mg "tuple" = none) (hv:bootBuiltins "tuple" = some (.type "tuple")) (ha:SE X T W e m) (he:starEach [e] X.env=[(false,eval e X.env)]:=by rfl):SE X T W (.Call (.Name "tuple" p) [e] [] pos) (mCall (p1 pTuple) (mCons m mNil)) :=
 se_callTy call_tuple_of (mir_tuple hK) hg hm hv (sa_cons ha sa_nil he) (he:=he)
def pIdx:PV→PV→Res PV
 | x,.int i=>match seqOf x with
  | some xs=>match atI xs i with
   | some y=>if x.has Fl.isOwn && y.has Fl.isOwn then .stuck else .ok y
   | none=>.stuck
  | none=>.stuck
 | _,_=>.stuck
theorem atI_rel {xs:List PV}{vs:List V}{f:List Addr}{i:Int}{y:PV} (r:RelL T F B L H xs vs f) (e:atI xs i=some y):∃ v f',atI vs i=some v∧Rel T F B L H y v f'∧f'.Sublist f:=by
 unfold atI at e ⊢
 rw [← r.length]
 cases e1:ixN xs.length i with
 | none=>rw [e1] at e;cases e
 | some j =>
  rw [e1] at e
  exact r.get e
theorem mir_idx (hK:X.K=T.K):Mir2 T W pIdx (fun x y H Q=>rIxL X.K x y H Q ∨ (rIxT X.K x y H Q ∨ rIxS x y H Q)):=by
 intro B F L σ H Q F' H' x y v u fx fy g rx ry nf nd new q
 cases y with
 | int i =>
  unfold Rel at ry
  obtain ⟨rfl,rfl⟩:=ry
  simp only [pIdx] at q
  cases e:seqOf x with
  | none=>rw [e] at q;exact q.elim
  | some xs =>
   rw [e] at q
   dsimp only at q
   obtain ⟨a,ws,fx',rfl,hs,hr,sl⟩:=rx.seq e
   cases e2:atI xs i with
   | none=>rw [e2] at q;exact q.elim
   | some z =>
    rw [e2] at q
    dsimp only at q
    obtain ⟨w,f',h1,h2,h3⟩:=atI_rel hr e2
    have e0:f'=[]:=by
     by_cases ho:x.has Fl.isOwn=true
     ·by_cases hz:z.has Fl.isOwn=true
      ·rw [ho,hz] at q;exact q.elim
      ·exact Rel.noOwn (by simpa using hz) h2
     ·have:=Rel.noOwn (by simpa using ho) rx
      subst this
      exact List.sublist_nil.mp (h3.trans sl)
    subst e0
    by_cases hb:(x.has Fl.isOwn && z.has Fl.isOwn)=true
    ·rw [if_pos hb] at q;exact q.elim
    ·rw [if_neg hb] at q
     rcases hs with hs | hs
     ·exact .inl ⟨a,ws,i,w,rfl,rfl,by rw [hK];exact hs,h1,q.scal g h2⟩
     ·exact .inr (.inl ⟨a,ws,i,w,rfl,rfl,by rw [hK];exact hs,h1,q.scal g h2⟩)
 | _=>exact q.elim
theorem se_idx {a b:Expr}{ma mb:ME}{pos:Pos} (hK:X.K=T.K) (ha:SE X T W a ma) (hb:SE X T W b mb) (hs:PlainIx b):SE X T W (.Subscript a b pos) (mOp pIdx ma mb) :=
 se_ix ix_seq (mir_idx hK) ha hb hs
abbrev MO:=En→Res (Option Int)
def mNoPart:MO:=fun _=>.ok none
def mPart (m:ME):MO:=fun env=>(m env).bind fun
 | .int i=>.ok (some i)
 | _=>.stuck
def cutP (xs:List PV) (lo hi:Option Int):List PV:=(xs.drop (HT.sIx xs.length 0 lo)).take (HT.sIx xs.length xs.length hi - HT.sIx xs.length 0 lo)
def mSlice (o:ME) (lo hi:MO):ME:=fun env=>(o env).bind fun x=>(lo env).bind fun l=>(hi env).bind fun h=>match x with
 | .lst _ xs=>.ok (.lst .own (cutP xs l h))
 | _=>.stuck
theorem RelL.drop:∀ {xs:List PV}{vs:List V}{f:List Addr} (n:Nat),RelL T F B L H xs vs f→∃ f',RelL T F B L H (xs.drop n) (vs.drop n) f'∧f'.Sublist f
 | xs,vs,f,0,h=>⟨f,h,List.Sublist.refl _⟩
 | [],vs,f,n+1,h=>by unfold RelL at h;obtain ⟨rfl,rfl⟩:=h;exact ⟨[],by simp [RelL],List.Sublist.refl _⟩
 | x::xs,_,_,n+1,h=>by
  unfold RelL at h
  obtain ⟨v,ws,f1,f2,rfl,h1,h2,rfl⟩:=h
  obtain ⟨f',r,s⟩:=RelL.drop n h2
  exact ⟨f',by simpa using r,s.trans (List.sublist_append_right _ _)⟩
theorem RelL.take:∀ {xs:List PV}{vs:List V}{f:List Addr} (n:Nat),RelL T F B L H xs vs f→∃ f',RelL T F B L H (xs.take n) (vs.take n) f'∧f'.Sublist f
 | xs,vs,f,0,h=>⟨[],by simp [RelL],List.nil_sublist _⟩
 | [],vs,f,n+1,h=>by unfold RelL at h;obtain ⟨rfl,rfl⟩:=h;exact ⟨[],by simp [RelL],List.Sublist.refl _⟩
 | x::xs,_,_,n+1,h=>by
  unfold RelL at h
  obtain ⟨v,ws,f1,f2,rfl,h1,h2,rfl⟩:=h
  obtain ⟨f',r,s⟩:=RelL.take n h2
  refine ⟨f1 ++ f',?_,List.Sublist.append (List.Sublist.refl _) s⟩
  rw [List.take_succ_cons,List.take_succ_cons]
  unfold RelL
  exact ⟨v,_,f1,f',rfl,h1,r,rfl⟩
def tO (T:Tb) (W:Nat→St→Hp→Prop) (m:MO):TO:=fun σ H Q=>∃ Z F env fp,StRel T Z F H σ env fp∧match m env with
 | .ok o=>∀ H' F',Gr F H F' H'→Q o H'
 | .exc c=>∀ H',Ext H H'→W c σ H'
 | .stuck=>False
abbrev SO (X:Cx) (T:Tb) (W:Nat→St→Hp→Prop) (e:Option Expr) (m:MO):Prop:=PO X e (tO T W m)
theorem so_some {e:Expr}{m:ME} (h:SE X T W e m):SO X T W (some e) (mPart m):=fun pins s σ H Q I ⟨Z,F,env,fp,S,q⟩=>po_some h pins s σ H Q I (by
 unfold mPart at q
 refine tE.bind S (fun c e=>by rw [e] at q;exact q) (fun e=>by rw [e] at q;exact q) fun x v H1 F1 f1 e1 g1 r1 n1 d1 w1=>?_
 rw [e1] at q
 cases x with
 | int i=>unfold Rel at r1;exact ⟨i,r1.1,q H1 F1 g1⟩
 | _=>exact q.elim)
theorem se_slice {e:Expr}{lo hi:Option Expr}{m:ME}{ml mh:MO}{pos p2:Pos} (hK:X.K=T.K) (he:SE X T W e m) (hl:SO X T W lo ml) (hu:SO X T W hi mh):SE X T W (.Subscript e (.Slice lo hi none p2) pos) (mSlice m ml mh) :=
 PE.wk (pe_slice (pos:=pos) (p2:=p2) sl_list he hl hu) fun σ H Q ⟨Z,F,env,fp,S,q⟩=>by
  unfold mSlice at q
  refine tE.bind S (fun c e=>by rw [e] at q;exact q) (fun e=>by rw [e] at q;exact q) fun x v H1 F1 f1 e1 g1 r1 n1 d1 w1=>?_
  rw [e1] at q
  simp only [Res.ok_bind] at q
  refine ⟨Z,F1,env,fp,S.grow g1,?_⟩
  cases e2:ml env with
  | exc c=>rw [e2] at q;exact fun H' x=>q H' (g1.ext.trans x)
  | stuck=>rw [e2] at q;exact q
  | ok l =>
   rw [e2] at q
   intro H2 F2 g2
   refine ⟨Z,F2,env,fp,(S.grow g1).grow g2,?_⟩
   simp only [Res.ok_bind] at q
   cases e3:mh env with
   | exc c=>rw [e3] at q;exact fun H' x=>q H' ((g1.ext.trans g2.ext).trans x)
   | stuck=>rw [e3] at q;exact q
   | ok h =>
    rw [e3] at q
    intro H3 F3 g3
    simp only [Res.ok_bind] at q
    cases x with
    | lst f xs =>
     have g:=(g1.trans g2).trans g3
     have r3:=(r1.ext (g2.trans g3).ext (g2.trans g3).mono)
     have nf3:∀ a ∈ f1,¬ F3 a:=fun a ha z=>by
      rcases (g2.trans g3).only a z with z | z
      ·exact n1 a ha z
      ·obtain ⟨o,ho⟩:=r1.there a ha
       rw [ho] at z;cases z
     unfold Rel at r3
     obtain ⟨a,ws,fp',rfl,hll,hr,hf⟩:=r3
     have sl:fp'.Sublist f1:=by
      cases f with
      | own=>obtain rfl:f1=a::fp':=hf;exact List.sublist_cons_self _ _
      | frz=>obtain ⟨rfl,rfl⟩:=hf;exact List.Sublist.refl _
      | bor=>obtain ⟨rfl,rfl⟩:=hf;exact List.Sublist.refl _
      | lnt=>obtain ⟨rfl,rfl⟩:=hf;exact List.Sublist.refl _
      | mod=>obtain ⟨rfl,rfl⟩:=hf;exact List.Sublist.refl _
     obtain ⟨f4,h4,s4⟩:=RelL.drop (HT.sIx xs.length 0 l) hr
     obtain ⟨f5,h5,s5⟩:=RelL.take (HT.sIx xs.length xs.length h - HT.sIx xs.length 0 l) h4
     have sl2:=(s5.trans s4).trans sl
     refine ⟨a,ws,rfl,by rw [hK];exact hll.sq,?_⟩
     unfold cutV
     rw [← hr.length]
     exact GE.newL q g h5 (fun b hb=>nf3 b (sl2.subset hb)) (d1.sublist sl2) (fun b hb=>w1 b (sl2.subset hb))
    | _=>exact q.elim
def rCatR (K:PySem.W.Frag):R2:=fun x y H Q=>∃ l b xs zs,x=.ref l∧y=.ref b∧Rd H l (.lst xs)∧Rd H b (.lst zs)∧xs.length+zs.length ≤ sizeLine∧∀ p,H p=none→Q (.ref p) (upd H p (.lst (xs ++ zs)))
theorem op_catR {K:PySem.W.Frag}:OpR X (binaryOp .Add) (rCatR K):=by
 intro pins s σ H x y v u Q I rx ry h
 obtain ⟨l,b,xs,zs,rfl,rfl,hH,hB,hz,q⟩:=h
 cases rx
 cases ry
 obtain ⟨z,its,n,r,e⟩:=hH.ok I.hok
 obtain ⟨z2,its2,n2,r2,e2⟩:=hB.ok I.hok
 have hl:=r.length
 have hl2:=r2.length
 refine PySem.P.add_list e e2 ?_ (by rw [List.size_toArray,List.size_toArray];omega)
 have ea:its.toArray ++ its2.toArray=(its ++ its2).toArray:=by simp
 rw [ea]
 exact ⟨.ref _,_,I.lnew (t':=s.toks) (r.append r2) (by rw [List.length_append];omega),rfl,q _ I.fresh⟩
def pPlus:PV→PV→Res PV
 | .int i,.int j=>.ok (.int (i+j))
 | .lst f xs,.lst g ys=>if f=.mod ∨ g=.mod ∨ ¬ xs.length+ys.length ≤ 10000000 then .stuck else .ok (.lst .own (xs ++ ys))
 | _,_=>.stuck
theorem LstAt.rd {f:Fl}{a:Addr}{vs:List V} (h:LstAt T F B L H f a vs) (n:f ≠ .mod):Rd H a (.lst vs):=by
 cases f with
 | own=>exact .inl h
 | lnt=>exact .inl h.2
 | frz=>exact h.2
 | bor=>exact h.2
 | mod=>exact absurd rfl n
theorem FlOk.sub {f:Fl}{a:Addr}{fp' fx:List Addr} (hf:FlOk f a fp' fx):fp'.Sublist fx:=by
 cases f with
 | own=>obtain rfl:fx=a::fp':=hf;exact List.sublist_cons_self _ _
 | frz=>obtain ⟨rfl,rfl⟩:=hf;exact List.Sublist.refl _
 | bor=>obtain ⟨rfl,rfl⟩:=hf;exact List.Sublist.refl _
 | lnt=>obtain ⟨rfl,rfl⟩:=hf;exact List.Sublist.refl _
 | mod=>obtain ⟨rfl,rfl⟩:=hf;exact List.Sublist.refl _
theorem mir_plus:Mir2 T W pPlus (fun x y H Q=>(rI0 fun i j=>.int (i+j)) x y H Q ∨ rCatR T.K x y H Q):=by
 intro B F L σ H Q F' H' x y v u fx fy g rx ry nf nd new q
 cases x with
 | int i =>
  cases y with
  | int j=>unfold Rel at rx ry;exact .inl ⟨i,j,rx.1,ry.1,q.scal g relI⟩
  | _=>exact q.elim
 | lst f xs =>
  cases y with
  | lst f' ys =>
   simp only [pPlus] at q
   by_cases hc:f=.mod ∨ f'=.mod ∨ ¬ xs.length+ys.length ≤ 10000000
   ·rw [if_pos hc] at q;exact q.elim
   ·rw [if_neg hc] at q
    unfold Rel at rx ry
    obtain ⟨a,vs,fp1,rfl,hl1,hr1,hf1⟩:=rx
    obtain ⟨b,us,fp2,rfl,hl2,hr2,hf2⟩:=ry
    have sl:=List.Sublist.append hf1.sub hf2.sub
    have h3:xs.length+ys.length ≤ 10000000:=by
     rcases Nat.lt_or_ge 10000000 (xs.length+ys.length) with z | z
     ·exact absurd (.inr (.inr (by omega))) hc
     ·exact z
    refine .inr ⟨a,b,vs,us,rfl,rfl,hl1.rd fun z=>hc (.inl z),hl2.rd fun z=>hc (.inr (.inl z)),by rw [← hr1.length,← hr2.length,sizeLine_eq];omega,?_⟩
    exact GE.newL q g (RelL.append hr1 hr2) (fun b hb=>nf b (sl.subset hb)) (nd.sublist sl) (fun b hb=>new b (sl.subset hb))
  | _=>exact q.elim
 | _=>exact q.elim
theorem OpR.or {f:Value→Value→Sem Value}{r r':R2} (h:OpR X f r) (h':OpR X f r'):OpR X f (fun x y H Q=>r x y H Q ∨ r' x y H Q):=by
 intro pins s σ H x y v u Q I rx ry q
 rcases q with q | q
 ·exact h pins s σ H x y v u Q I rx ry q
 ·exact h' pins s σ H x y v u Q I rx ry q
theorem se_add {a b:Expr}{ma mb:ME}{pos:Pos} (ha:SE X T W a ma) (hb:SE X T W b mb):SE X T W (.BinOp a .Add b pos) (mOp pPlus ma mb):=se_op (OpR.or op_add op_catR) mir_plus ha hb
end
end PR
namespace PR
open PySem PySem.Spec L2
mutual
def PV.data:PV→PyData
 | .non=>.none
 | .bl b=>.bool b
 | .int i=>.int i
 | .str x=>.str x
 | .lst _ xs=>.list (dataL xs)
 | .tup xs=>.tuple (dataL xs)
 | .obj _ _ _ _=>.dict []
 | .exc _=>.dict []
def dataL:List PV→List PyData
 | []=>[]
 | x::xs=>x.data::dataL xs
end
def shp (x:PV):Bool:=SeqAt.shaped x.data
section
variable {X:Cx}{T:Tb}{W:Nat→St→Hp→Prop}{Z:Zn}{F F1 B L:Addr→Prop}{H H1:Hp}{σ:St}{env:En}{fp:Nat→List Addr}{D:Ends}{pins:List (Addr × Obj)}{s:Shared}
mutual
theorem Rel.reads (hK:X.K=T.K) (I:L2.Inv X pins σ H s):∀ {x:PV}{v:V}{f:List Addr}{u:Value},Rel T F B L H x v f→RelV v u→x.data.canLay0=true→∃ as,Reads s.heap u x.data as
 | .non,_,_,_,r,ru,_=>by unfold Rel at r;obtain ⟨rfl,_⟩:=r;cases ru;exact ⟨[],.none⟩
 | .bl b,_,_,_,r,ru,_=>by unfold Rel at r;obtain ⟨rfl,_⟩:=r;cases ru;exact ⟨[],.bool b⟩
 | .int i,_,_,_,r,ru,_=>by unfold Rel at r;obtain ⟨rfl,_⟩:=r;obtain ⟨t,rfl⟩:=ru;exact ⟨[],.int i t⟩
 | .str x,_,_,_,r,ru,_=>by unfold Rel at r;obtain ⟨rfl,_⟩:=r;obtain ⟨t,rfl⟩:=ru;exact ⟨[],.str x t⟩
 | .lst f xs,_,_,_,r,ru,hc=>by
  unfold Rel at r
  obtain ⟨a,vs,fp',rfl,hl,hr,_⟩:=r
  cases ru
  obtain ⟨its,rv,⟨o,n,ho,hcl,_,hd⟩,_⟩:=I.list (by rw [hK];exact hl.sq)
  obtain ⟨as,ra⟩:=RelL.reads hK I hr rv (by simpa [PV.data,PyData.canLay0] using hc)
  exact ⟨_,.list ho hcl hd (by simpa using ra)⟩
 | .tup xs,_,_,_,r,ru,hc=>by
  unfold Rel at r
  obtain ⟨a,vs,rfl,hl,hr⟩:=r
  cases ru
  obtain ⟨its,rv,⟨o,ho,hcl,n,hd⟩,_⟩:=I.tuple (by rw [hK];exact hl)
  obtain ⟨as,ra⟩:=RelL.reads hK I hr rv (by simpa [PV.data,PyData.canLay0] using hc)
  exact ⟨_,.tuple ho hcl hd (by simpa using ra)⟩
 | .obj _ _ _ _,_,_,_,_,_,hc=>by simp [PV.data,PyData.canLay0] at hc
 | .exc _,_,_,_,_,_,hc=>by simp [PV.data,PyData.canLay0] at hc
theorem RelL.reads (hK:X.K=T.K) (I:L2.Inv X pins σ H s):∀ {xs:List PV}{vs:List V}{f:List Addr}{us:List Value},RelL T F B L H xs vs f→Vals vs us→PyData.canLayAll0 (dataL xs)=true→∃ as,ReadsAll s.heap us (dataL xs) as
 | [],_,_,_,r,ru,_=>by unfold RelL at r;obtain ⟨rfl,_⟩:=r;cases ru;exact ⟨[],.nil⟩
 | x::xs,_,_,_,r,ru,hc=>by
  unfold RelL at r
  obtain ⟨v,ws,f1,f2,rfl,h1,h2,_⟩:=r
  cases ru with
  | cons r1 r2 =>
   simp only [dataL,PyData.canLayAll0,Bool.and_eq_true] at hc
   obtain ⟨as,ra⟩:=Rel.reads hK I h1 r1 hc.1
   obtain ⟨bs,rb⟩:=RelL.reads hK I h2 r2 hc.2
   exact ⟨_,.cons ra rb⟩
end
def pEq:PV→PV→Res PV:=fun x y=>if shp x && shp y then .ok (.bl (PyData.eqv x.data y.data)) else .stuck
def pNe:PV→PV→Res PV:=fun x y=>if shp x && shp y then .ok (.bl (!PyData.eqv x.data y.data)) else .stuck
def rData (X:Cx) (T:Tb) (g:PyData→PyData→Bool):R2:=fun v u H Q=>∃ x y F B L fx fy,Rel T F B L H x v fx∧Rel T F B L H y u fy∧shp x=true∧shp y=true∧Q (.bl (g x.data y.data)) H
theorem op_eqD (hK:X.K=T.K) (hu:X.A.units+64 < cLine):OpR X (compareOp .Eq) (rData X T fun a b=>PyData.eqv a b):=by
 intro pins s σ H v u v' u' Q I rv ru h
 obtain ⟨x,y,F,B,L,fx,fy,rx,ry,hx,hy,q⟩:=h
 obtain ⟨as,ra⟩:=rx.reads hK I rv (SeqAt.canLay_of_shaped hx)
 obtain ⟨bs,rb⟩:=ry.reads hK I ru (SeqAt.canLay_of_shaped hy)
 exact PyProof.Rows.eq_dataH ra rb hx hy hu ⟨.bl _,H,I,rfl,q⟩
theorem op_neD (hK:X.K=T.K) (hu:X.A.units+64 < cLine):OpR X (compareOp .NotEq) (rData X T fun a b=>!PyData.eqv a b):=by
 intro pins s σ H v u v' u' Q I rv ru h
 obtain ⟨x,y,F,B,L,fx,fy,rx,ry,hx,hy,q⟩:=h
 obtain ⟨as,ra⟩:=rx.reads hK I rv (SeqAt.canLay_of_shaped hx)
 obtain ⟨bs,rb⟩:=ry.reads hK I ru (SeqAt.canLay_of_shaped hy)
 exact PyProof.Rows.ne_dataH ra rb hx hy hu ⟨.bl _,H,I,rfl,q⟩
theorem mir_data {g:PyData→PyData→Bool}:Mir2 T W (fun x y=>if shp x && shp y then .ok (.bl (g x.data y.data)) else .stuck) (rData X T g):=by
 intro B F L σ H Q F' H' x y v u fx fy gr rx ry nf nd new q
 dsimp only at q
 by_cases hc:(shp x && shp y)=true
 ·rw [if_pos hc] at q
  rw [Bool.and_eq_true] at hc
  exact ⟨x,y,F',B,L,fx,fy,rx,ry,hc.1,hc.2,q.scal gr relB⟩
 ·rw [if_neg hc] at q;exact q.elim
variable {a b:Expr}{ma mb:ME}{pos:Pos}
theorem se_eq (hK:X.K=T.K) (hu:X.A.units+64 < cLine) (ha:SE X T W a ma) (hb:SE X T W b mb):SE X T W (.Compare a [.Eq] [b] pos) (mOp pEq ma mb):=se_cmp (op_eqD hK hu) mir_data ha hb (nomark _)
theorem se_ne (hK:X.K=T.K) (hu:X.A.units+64 < cLine) (ha:SE X T W a ma) (hb:SE X T W b mb):SE X T W (.Compare a [.NotEq] [b] pos) (mOp pNe ma mb):=se_cmp (op_neD hK hu) (mir_data (g:=fun a b=>!PyData.eqv a b)) ha hb (nomark _)
theorem st_eq (hK:X.K=T.K) (hu:X.A.units+64 < cLine) (ha:SE X T W a ma) (hb:SE X T W b mb):ST X T W (.Compare a [.Eq] [b] pos) (mTest (mOp pEq ma mb)):=st_cmp (op_eqD hK hu) mir_data ha hb (nomark _)
theorem st_ne (hK:X.K=T.K) (hu:X.A.units+64 < cLine) (ha:SE X T W a ma) (hb:SE X T W b mb):ST X T W (.Compare a [.NotEq] [b] pos) (mTest (mOp pNe ma mb)):=st_cmp (op_neD hK hu) (mir_data (g:=fun a b=>!PyData.eqv a b)) ha hb (nomark _)
theorem st_lt (ha:SE X T W a ma) (hb:SE X T W b mb):ST X T W (.Compare a [.Lt] [b] pos) (mTest (mOp pLt ma mb)):=st_cmp op_lt (mir_I0 fun _ _ _ _ _ _=>relB) ha hb (nomark _)
theorem st_gt (ha:SE X T W a ma) (hb:SE X T W b mb):ST X T W (.Compare a [.Gt] [b] pos) (mTest (mOp pGt ma mb)):=st_cmp op_gt (mir_I0 fun _ _ _ _ _ _=>relB) ha hb (nomark _)
theorem st_ge (ha:SE X T W a ma) (hb:SE X T W b mb):ST X T W (.Compare a [.GtE] [b] pos) (mTest (mOp pGe ma mb)):=st_cmp op_ge (mir_I0 fun _ _ _ _ _ _=>relB) ha hb (nomark _)
def inL (x:PV) (ys:List PV):Bool:=ys.any fun y=>PyData.eqv y.data x.data
def pIn:PV→PV→Res PV:=fun x y=>match seqOf y with
 | some ys=>if shp x && ys.all shp then .ok (.bl (inL x ys)) else .stuck
 | none=>.stuck
def pNotIn:PV→PV→Res PV:=fun x y=>match seqOf y with
 | some ys=>if shp x && ys.all shp then .ok (.bl (!inL x ys)) else .stuck
 | none=>.stuck
theorem eqAt_rel (hK:X.K=T.K) (I:L2.Inv X pins σ H s) {A:Around}{x y:PV}{v u:V}{fx fy:List Addr}{v' u':Value} (hu:A.units+64 < cLine) (rx:Rel T F B L H x v fx) (ry:Rel T F B L H y u fy) (rv:RelV v v') (ru:RelV u u') (hx:shp x=true) (hy:shp y=true) :
  SeqAt.EqAt A s v' u' (PyData.eqv x.data y.data):=by
 obtain ⟨as,ra⟩:=rx.reads hK I rv (SeqAt.canLay_of_shaped hx)
 obtain ⟨bs,rb⟩:=ry.reads hK I ru (SeqAt.canLay_of_shaped hy)
 exact SeqAt.eqAt_reads _ _ A s v' u' as bs ra rb (SeqAt.canLay_of_shaped hx) (SeqAt.canLay_of_shaped hy) (SeqAt.room_of_shaped hx hu)
theorem in_items (hK:X.K=T.K) (I:L2.Inv X pins σ H s) {A:Around} (hu:A.units+64 < cLine) {x:PV}{v:V}{fx:List Addr}{v':Value} (rx:Rel T F B L H x v fx) (rv:RelV v v') (hx:shp x=true) :
  ∀ {ys:List PV}{us:List V}{fy:List Addr}{us':List Value},RelL T F B L H ys us fy→Vals us us'→ys.all shp=true→∃ e:Value→Bool,(∀ w ∈ us',SeqAt.EqAt A s w v' (e w))∧us'.any e=inL x ys:=by
 intro ys us fy us' r rv' hs
 have one:∀ (ys:List PV) (us:List V) (fy:List Addr) (us':List Value),RelL T F B L H ys us fy→Vals us us'→ys.all shp=true→∀ w ∈ us',∃ b,SeqAt.EqAt A s w v' b∧(b=true→inL x ys=true):=by
  intro ys
  induction ys with
  | nil =>
   intro us fy us' r rv' _ w hw
   unfold RelL at r
   obtain ⟨rfl,_⟩:=r
   cases rv'
   cases hw
  | cons y ys ih =>
   intro us fy us' r rv' hs w hw
   unfold RelL at r
   obtain ⟨u,ws,f1,f2,rfl,h1,h2,_⟩:=r
   cases rv' with
   | cons r1 r2 =>
    rw [List.all_cons,Bool.and_eq_true] at hs
    rcases List.mem_cons.mp hw with rfl | hw
    ·exact ⟨_,eqAt_rel hK I hu h1 rx r1 rv hs.1 hx,fun z=>by simp [inL,z]⟩
    ·obtain ⟨b,h3,h4⟩:=ih ws f2 _ h2 r2 hs.2 w hw
     exact ⟨b,h3,fun z=>by have:=h4 z;unfold inL at this ⊢;simp [this]⟩
 have some_:∀ (ys:List PV) (us:List V) (fy:List Addr) (us':List Value),RelL T F B L H ys us fy→Vals us us'→ys.all shp=true→inL x ys=true→∃ w ∈ us',SeqAt.EqAt A s w v' true:=by
  intro ys
  induction ys with
  | nil=>intro us fy us' r rv' _ h;simp [inL] at h
  | cons y ys ih =>
   intro us fy us' r rv' hs h
   unfold RelL at r
   obtain ⟨u,ws,f1,f2,rfl,h1,h2,_⟩:=r
   cases rv' with
   | cons r1 r2 =>
    rw [List.all_cons,Bool.and_eq_true] at hs
    by_cases hy:PyData.eqv y.data x.data=true
    ·refine ⟨_,List.mem_cons_self,?_⟩
     have:=eqAt_rel hK I hu h1 rx r1 rv hs.1 hx
     rwa [hy] at this
    ·have h':inL x ys=true:=by
      unfold inL at h ⊢
      rw [List.any_cons] at h
      simpa [hy] using h
     obtain ⟨w,hw,q⟩:=ih ws f2 _ h2 r2 hs.2 h'
     exact ⟨w,List.mem_cons_of_mem _ hw,q⟩
 by_cases hin:inL x ys=true
 ·obtain ⟨w0,hw0,q0⟩:=some_ ys us fy us' r rv' hs hin
  refine ⟨fun w=>@decide (SeqAt.EqAt A s w v' true) (Classical.propDecidable _),fun w hw=>?_,?_⟩
  ·obtain ⟨b,h1,_⟩:=one ys us fy us' r rv' hs w hw
   by_cases ht:SeqAt.EqAt A s w v' true
   ·simp only [ht,decide_true]
   ·simp only [ht,decide_false]
    cases b with
    | true=>exact absurd h1 ht
    | false=>exact h1
  ·rw [hin,List.any_eq_true]
   exact ⟨w0,hw0,by simp [q0]⟩
 ·have hin':inL x ys=false:=by simpa using hin
  refine ⟨fun _=>false,fun w hw=>?_,by rw [hin'];simp⟩
  obtain ⟨b,h1,h2⟩:=one ys us fy us' r rv' hs w hw
  cases b with
  | true=>exact absurd (h2 rfl) hin
  | false=>exact h1
def rInD (X:Cx) (T:Tb) (neg:Bool):R2:=fun v u H Q=>∃ x ys a vs F B L fx fy,u=.ref a∧(SqL T.K H a vs ∨ SqT T.K H a vs)∧Rel T F B L H x v fx∧RelL T F B L H ys vs fy∧shp x=true∧ys.all shp=true∧Q (.bl (if neg then !inL x ys else inL x ys)) H
theorem op_inD (hK:X.K=T.K) (hu:X.A.units+66 < cLine):OpR X (compareOp .In) (rInD X T false):=by
 intro pins s σ H v u v' u' Q I rv ru h
 obtain ⟨x,ys,a,vs,F,B,L,fx,fy,rfl,hs,rx,ry,hx,hy,q⟩:=h
 cases ru
 have hu1:X.A.in1.units+64 < cLine:=by show X.A.units+1+64 < cLine;omega
 rcases hs with hs | hs
 ·obtain ⟨its,r,pl,_⟩:=I.list (by rw [hK];exact hs)
  obtain ⟨e,h1,h2⟩:=in_items hK I hu1 rx rv hx ry r hy
  refine SeqAt.in_listAt e pl.isList (fun w hw=>h1 w (by simpa using hw)) ⟨.bl _,H,I,rfl,?_⟩
  rw [show its.toArray.any e=its.any e by simp,h2]
  exact q
 ·obtain ⟨its,r,pl,_⟩:=I.tuple (by rw [hK];exact hs)
  obtain ⟨e,h1,h2⟩:=in_items hK I hu1 rx rv hx ry r hy
  refine SeqAt.in_tupleAt e pl (fun w hw=>h1 w (by simpa using hw)) ⟨.bl _,H,I,rfl,?_⟩
  rw [show its.toArray.any e=its.any e by simp,h2]
  exact q
theorem op_notInD (hK:X.K=T.K) (hu:X.A.units+66 < cLine):OpR X (compareOp .NotIn) (rInD X T true):=by
 intro pins s σ H v u v' u' Q I rv ru h
 obtain ⟨x,ys,a,vs,F,B,L,fx,fy,rfl,hs,rx,ry,hx,hy,q⟩:=h
 cases ru
 have hu1:X.A.in1.units+64 < cLine:=by show X.A.units+1+64 < cLine;omega
 rcases hs with hs | hs
 ·obtain ⟨its,r,pl,_⟩:=I.list (by rw [hK];exact hs)
  obtain ⟨e,h1,h2⟩:=in_items hK I hu1 rx rv hx ry r hy
  refine SeqAt.notIn_listAt e pl.isList (fun w hw=>h1 w (by simpa using hw)) ⟨.bl _,H,I,rfl,?_⟩
  rw [show its.toArray.any e=its.any e by simp,h2]
  exact q
 ·obtain ⟨its,r,pl,_⟩:=I.tuple (by rw [hK];exact hs)
  obtain ⟨e,h1,h2⟩:=in_items hK I hu1 rx rv hx ry r hy
  refine SeqAt.notIn_tupleAt e pl (fun w hw=>h1 w (by simpa using hw)) ⟨.bl _,H,I,rfl,?_⟩
  rw [show its.toArray.any e=its.any e by simp,h2]
  exact q
theorem mir_in {neg:Bool}:Mir2 T W (fun x y=>match seqOf y with
 | some ys=>if shp x && ys.all shp then .ok (.bl (if neg then !inL x ys else inL x ys)) else .stuck
 | none=>.stuck) (rInD X T neg):=by
 intro B F L σ H Q F' H' x y v u fx fy gr rx ry nf nd new q
 dsimp only at q
 cases e:seqOf y with
 | none=>rw [e] at q;exact q.elim
 | some ys =>
  rw [e] at q
  dsimp only at q
  by_cases hc:(shp x && ys.all shp)=true
  ·rw [if_pos hc] at q
   rw [Bool.and_eq_true] at hc
   obtain ⟨a,ws,f',rfl,hs,hr,_⟩:=ry.seq e
   exact ⟨x,ys,a,ws,F',B,L,fx,f',rfl,hs,rx,hr,hc.1,hc.2,q.scal gr relB⟩
  ·rw [if_neg hc] at q;exact q.elim
theorem st_in (hK:X.K=T.K) (hu:X.A.units+66 < cLine) (ha:SE X T W a ma) (hb:SE X T W b mb) (hk:behindInMarks .In b=false:=by with_unfolding_all rfl):ST X T W (.Compare a [.In] [b] pos) (mTest (mOp pIn ma mb)):=st_cmp (op_inD hK hu) (mir_in (neg:=false)) ha hb hk
theorem st_notIn (hK:X.K=T.K) (hu:X.A.units+66 < cLine) (ha:SE X T W a ma) (hb:SE X T W b mb) (hk:behindInMarks .NotIn b=false:=by with_unfolding_all rfl):ST X T W (.Compare a [.NotIn] [b] pos) (mTest (mOp pNotIn ma mb)):=st_cmp (op_notInD hK hu) (mir_in (neg:=true)) ha hb hk
def PV.isNon:PV→Bool
 | .non=>true
 | _=>false
def pIsN:PV→PV→Res PV
 | x,.non=>.ok (.bl x.isNon)
 | _,_=>.stuck
def pNotN:PV→PV→Res PV
 | x,.non=>.ok (.bl (!x.isNon))
 | _,_=>.stuck
theorem Rel.isNon {x:PV}{v:V}{f:List Addr} (r:Rel T F B L H x v f):decide (v=.non)=x.isNon:=by
 cases x with
 | non=>unfold Rel at r;rw [r.1];rfl
 | bl b=>unfold Rel at r;rw [r.1];rfl
 | int i=>unfold Rel at r;rw [r.1];rfl
 | str i=>unfold Rel at r;rw [r.1];rfl
 | lst f xs=>unfold Rel at r;obtain ⟨a,_,_,rfl,_⟩:=r;rfl
 | tup xs=>unfold Rel at r;obtain ⟨a,_,rfl,_⟩:=r;rfl
 | obj f c ks xs=>unfold Rel at r;obtain ⟨a,_,_,_,rfl,_⟩:=r;rfl
 | exc c=>unfold Rel at r;obtain ⟨a,rfl,_⟩:=r;rfl
theorem mir_isN:Mir2 T W pIsN (fun x y H Q=>y=.non∧Q (.bl (decide (x=.non))) H):=by
 intro B F L σ H Q F' H' x y v u fx fy gr rx ry nf nd new q
 cases y with
 | non=>unfold Rel at ry;refine ⟨ry.1,?_⟩;rw [rx.isNon];exact GE.scal (pv:=.bl x.isNon) (by simpa [pIsN] using q) gr relB
 | _=>simp only [pIsN] at q;exact q.elim
theorem mir_notN:Mir2 T W pNotN (fun x y H Q=>y=.non∧Q (.bl (!decide (x=.non))) H):=by
 intro B F L σ H Q F' H' x y v u fx fy gr rx ry nf nd new q
 cases y with
 | non=>unfold Rel at ry;refine ⟨ry.1,?_⟩;rw [rx.isNon];exact GE.scal (pv:=.bl (!x.isNon)) (by simpa [pNotN] using q) gr relB
 | _=>simp only [pNotN] at q;exact q.elim
theorem st_isN (ha:SE X T W a ma) (hb:SE X T W b mb):ST X T W (.Compare a [.Is] [b] pos) (mTest (mOp pIsN ma mb)):=st_cmp op_isN mir_isN ha hb (nomark _)
theorem st_notN (ha:SE X T W a ma) (hb:SE X T W b mb):ST X T W (.Compare a [.IsNot] [b] pos) (mTest (mOp pNotN ma mb)):=st_cmp op_notN mir_notN ha hb (nomark _)
end
end PR
namespace PR
open PySem PySem.Spec L2
abbrev TgM:=PV→En→Option En
abbrev TgMs:=List PV→En→Option En
def tgN (i:Nat):TgM:=fun v env=>if okSlot i env then some (env.set i (some v)) else none
def tgNil:TgMs:=fun vs env=>match vs with
 | []=>some env
 | _=>none
def tgCons (t:TgM) (u:TgMs):TgMs:=fun vs env=>match vs with
 | v::r=>match t v env with
  | some e=>u r e
  | none=>none
 | []=>none
def tgT (n:Nat) (u:TgMs):TgM:=fun v env=>match v with
 | .tup xs=>if xs.length=n then u xs env else none
 | _=>none
structure Free (Z:Zn) (F:Addr→Prop) (fp:Nat→List Addr) (f:List Addr):Prop where
 nd:f.Nodup
 nf:∀ a ∈ f,¬ F a
 new:∀ a ∈ f,Z.H0 a=none ∨ Z.fp0 a
 dj:∀ a ∈ f,∀ j,a ∉ fp j
theorem Free.nil {Z:Zn}{F:Addr→Prop}{fp:Nat→List Addr}:Free Z F fp []:=⟨List.nodup_nil,fun _ z=>(nomatch z),fun _ z=>(nomatch z),fun _ z=>(nomatch z)⟩
def GG (T:Tb) (Z:Zn) (F:Addr→Prop) (H:Hp) (Q:St→Hp→Prop):Option En→Prop
 | some e=>∀ σ fp,StRel T Z F H σ e fp→Q σ H
 | none=>False
def tG (T:Tb) (m:TgM):TG:=fun v σ H Q=>∃ Z F env fp pv f,StRel T Z F H σ env fp∧Rel T F Z.B NoL H pv v f∧Free Z F fp f∧GG T Z F H Q (m pv env)
def tGs (T:Tb) (m:TgMs):TGs:=fun vs σ H Q=>∃ Z F env fp pvs f,StRel T Z F H σ env fp∧RelL T F Z.B NoL H pvs vs f∧Free Z F fp f∧GG T Z F H Q (m pvs env)
abbrev SG (X:Cx) (T:Tb) (tg:Expr) (m:TgM):Prop:=PG X tg (tG T m)
abbrev SGs (X:Cx) (T:Tb) (ts:List Expr) (m:TgMs):Prop:=PGs X ts (tGs T m)
section
variable {X:Cx}{T:Tb}{W:Nat→St→Hp→Prop}{Z:Zn}{F F1 B L:Addr→Prop}{H H1:Hp}{σ:St}{env:En}{fp:Nat→List Addr}{D:Ends}
theorem PG.wk {tg:Expr}{t t':TG} (h:PG X tg t) (w:∀ v σ H Q,t' v σ H Q→t v σ H Q):PG X tg t':=fun pins s σ H v u Q I r q=>h pins s σ H v u Q I r (w v σ H Q q)
theorem PGs.wk {ts:List Expr}{t t':TGs} (h:PGs X ts t) (w:∀ v σ H Q,t' v σ H Q→t v σ H Q):PGs X ts t':=fun pins s σ H v u Q I r q=>h pins s σ H v u Q I r (w v σ H Q q)
theorem sg_name {i:Nat}{x:Str}{pos:Pos} (hN:X.N.Nodup) (hi:X.N[i]?=some x) (hx:Loc X.env.scope x) (hf:X.fn x=true ∨ X.env.scope.names.lookup x=some .local:=by first | exact .inl rfl | exact .inr rfl | assumption):SG X T (.Name x pos) (tgN i) :=
 PG.wk (pg_name (pos:=pos) hN hi hx hf) fun v σ H Q ⟨Z,F,env,fp,pv,f,S,r,fr,q⟩=>by
  unfold tgN at q
  by_cases ho:okSlot i env=true
  ·rw [if_pos ho] at q
   exact q _ _ (S.put r fr.nd fr.nf fr.new (fun a ha j _=>fr.dj a ha j) ho)
  ·rw [if_neg ho] at q;exact q.elim
theorem sgs_nil:SGs X T [] tgNil:=PGs.wk pgs_nil fun vs σ H Q ⟨Z,F,env,fp,pvs,f,S,r,fr,q⟩=>by
 cases pvs with
 | nil=>unfold RelL at r;exact ⟨r.1,q σ fp S⟩
 | cons x xs=>exact q.elim
theorem sgs_cons {i:Nat}{x:Str}{pos:Pos}{es:List Expr}{u:TgMs} (hN:X.N.Nodup) (hi:X.N[i]?=some x) (hx:Loc X.env.scope x) (h2:SGs X T es u)
  (hs:(assignEach (.Name x pos::es) X.env).map (·.2)=assign (.Name x pos) X.env::(assignEach es X.env).map (·.2):=by rfl)
  (hf:X.fn x=true ∨ X.env.scope.names.lookup x=some .local:=by first | exact .inl rfl | exact .inr rfl | assumption):SGs X T (.Name x pos::es) (tgCons (tgN i) u) :=
 PGs.wk (pgs_cons (pg_name (pos:=pos) hN hi hx hf) h2 hs) fun vs σ H Q ⟨Z,F,env,fp,pvs,f,S,r,fr,q⟩=>by
  cases pvs with
  | nil=>exact q.elim
  | cons y ys =>
   unfold RelL at r
   obtain ⟨v,ws,f1,f2,rfl,r1,r2,rfl⟩:=r
   obtain ⟨n1,n2,n3⟩:=List.nodup_append.mp fr.nd
   by_cases ho:okSlot i env=true
   case neg=>simp only [tgCons,tgN,if_neg ho] at q;exact q.elim
   simp only [tgCons,tgN,if_pos ho] at q
   refine ⟨v,ws,rfl,Z,F,env.set i (some y),fput fp i f1,ys,f2,S.put r1 n1 (fun a ha=>fr.nf a (List.mem_append_left _ ha)) (fun a ha=>fr.new a (List.mem_append_left _ ha)) (fun a ha j _=>fr.dj a (List.mem_append_left _ ha) j) ho,r2,⟨n2,fun a ha=>fr.nf a (List.mem_append_right _ ha),fun a ha=>fr.new a (List.mem_append_right _ ha),fun a ha j=>?_⟩,q⟩
   unfold fput
   split
   ·exact fun z=>n3 a z a ha rfl
   ·exact fr.dj a (List.mem_append_right _ ha) j
theorem sg_tup {es:List Expr}{k n:Nat}{u:TgMs}{pos:Pos} (hK:X.K=T.K) (hc:X.calm=true) (h:SGs X T es u) (hn:(assignEach es X.env).length=n:=by rfl) (hst:(assignEach es X.env).findIdx? (·.1)=none:=by rfl):SG X T (.Tuple es k pos) (tgT n u) :=
 PG.wk (pg_tup (pos:=pos) (k:=k) hc h hn hst) fun v σ H Q ⟨Z,F,env,fp,pv,f,S,r,fr,q⟩=>by
  cases pv with
  | tup xs =>
   unfold Rel at r
   obtain ⟨a,vs,rfl,hl,hr⟩:=r
   simp only [tgT] at q
   by_cases hx:xs.length=n
   ·rw [if_pos hx] at q
    exact ⟨a,vs,rfl,by rw [hK];exact hl,by rw [← hr.length];exact hx,Z,F,env,fp,xs,f,S,hr,fr,q⟩
   ·rw [if_neg hx] at q;exact q.elim
  | _=>exact q.elim
abbrev MI:=En→Res (List PV)
def ItR (T:Tb) (F B:Addr→Prop) (Ow:Addr→Prop) (H1:Hp) (J:It) (xs:List PV):Prop :=
 ∀ H2,(∀ a o,H1 a=some o→¬ Ow a→H2 a=some o)→(∀ (i:Nat) x,xs[i]?=some x→J.go i H2∧∀ v H3,J.yld i H2 v H3→Ext H2 H3∧Rel T F B NoL H3 x v [])∧J.stop xs.length H2
theorem ItR.of0 {T:Tb}{F B:Addr→Prop}{Ow:Addr→Prop}{H1:Hp}{J:It}{xs:List PV} (h:∀ H2,(∀ a o,H1 a=some o→¬ Ow a→H2 a=some o)→(∀ (i:Nat) x,xs[i]?=some x→J.go i H2∧∀ v H3,J.yld i H2 v H3→H3=H2∧Rel T F B NoL H2 x v [])∧J.stop xs.length H2):ItR T F B Ow H1 J xs:=fun H2 hk=>by
 obtain ⟨a,b⟩:=h H2 hk
 refine ⟨fun i x e=>⟨(a i x e).1,fun v H3 hy=>?_⟩,b⟩
 obtain ⟨rfl,r⟩:=(a i x e).2 v H3 hy
 exact ⟨Ext.refl,r⟩
def GI (T:Tb) (W:Nat→St→Hp→Prop) (B F Ow:Addr→Prop) (σ:St) (H:Hp) (R:It→Hp→Prop):Res (List PV)→Prop
 | .ok xs=>∀ J H1 F1,Gr F H F1 H1→ItR T F1 B Ow H1 J xs→R J H1
 | .exc c=>∀ H',Ext H H'→W c σ H'
 | .stuck=>False
def tI (T:Tb) (W:Nat→St→Hp→Prop) (m:MI):TI:=fun σ H R=>∃ Z F env fp,StRel T Z F H σ env fp∧GI T W Z.B F (Own fp) σ H R (m env)
abbrev SI (X:Cx) (T:Tb) (W:Nat→St→Hp→Prop) (tg iter:Expr) (m:MI):Prop:=PI X tg iter (tI T W m)
theorem pi_seq {tg l:Expr}{tl:TE} (hl:PE X l tl):PI X tg l (fun σ H R=>tl σ H fun x H1=>∃ a,x=.ref a∧((∃ xs,SqL X.K H1 a xs∧R (Itl X.K a) H1) ∨ ∃ xs,SqT X.K H1 a xs∧R (Itt X.K a) H1)):=by
 intro pins s σ H R I h
 refine thn (hl pins s σ H _ I h) fun v s1 ⟨x,H1,I1,r1,q1⟩=>?_
 obtain ⟨a,e,q⟩:=q1
 subst e
 cases r1
 rcases q with ⟨xs,hq,q⟩ | ⟨xs,hq,q⟩
 ·obtain ⟨its,rv,p,hz⟩:=I1.list hq
  refine wpAny_pyIter_list p.isList ?_
  refine ⟨s1.heap.objs.size,[s1.heap.objs.size],_,_,H1,rfl,I1.kept (t':=s1.toks) fun b o e=>Heap.get?_push_of_some _ e,turn_list a _,⟨_,Heap.get?_push_size _ rfl,rfl,rfl⟩,fun b hb=>?_,q⟩
  have e:b=s1.heap.objs.size:=by simpa using hb
  subst e
  exact I1.fpOk (Nat.le_refl _) (I1.hok.fresh (Nat.le_refl _))
 ·obtain ⟨its,rv,p,hz⟩:=I1.tuple hq
  refine wpAny_pyIter_tuple (show s1.heap.IsTuple a its.toArray from p) ?_
  refine ⟨s1.heap.objs.size,[s1.heap.objs.size],_,_,H1,rfl,I1.kept (t':=s1.toks) fun b o e=>Heap.get?_push_of_some _ e,turn_tuple a _,⟨_,Heap.get?_push_size _ rfl,rfl,rfl⟩,fun b hb=>?_,q⟩
  have e:b=s1.heap.objs.size:=by simpa using hb
  subst e
  exact I1.fpOk (Nat.le_refl _) (I1.hok.fresh (Nat.le_refl _))
def noOL (xs:List PV):Bool:=!hasL Fl.isOwn xs && !hasL Fl.isLnt xs
def mSeqI (m:ME):MI:=fun env=>(m env).bind fun x=>match x with
 | .lst f xs=>if !f.isLnt && noOL xs then .ok xs else .stuck
 | .tup xs=>if noOL xs then .ok xs else .stuck
 | _=>.stuck
theorem items_stay {H2:Hp}{Ow:Addr→Prop} (hF:∀ a,F1 a→¬ Ow a) (hB:∀ a,B a→¬ Ow a) (hO:∀ a o,Ow a→H1 a=some o→Chg o) (hk:∀ a o,H1 a=some o→¬ Ow a→H2 a=some o) {xs:List PV}{vs:List V} (r:RelL T F1 B NoL H1 xs vs []) {i:Nat}{x:PV}{v:V} (e:xs[i]?=some x) (ev:vs[i]?=some v):Rel T F1 B NoL H2 x v []:=by
 obtain ⟨w,f,e1,r1,sl⟩:=r.get e
 rw [ev] at e1
 cases e1
 obtain rfl:=List.sublist_nil.mp sl
 refine Rel.tr (fun _ h=>h) (fun _ h=>h) (fun _ h=>h) (fun a o q h=>hk a o q ?_) (fun _ z=>(nomatch z)) r1
 rcases h with h | h | h | h
 ·exact hF a h
 ·exact hB a h
 ·exact h.elim
 ·intro z
  have:=hO a o z q
  cases o with
  | lst _=>exact h
  | ins _ _ _=>exact h
  | _=>exact this
theorem StRel.bow (S:StRel T Z F H σ env fp):∀ a,Z.B a→¬ Own fp a:=fun a h ⟨i,hi⟩=>by
 obtain ⟨⟨o,h1⟩,h2⟩:=S.hp.bo a h
 rcases S.new i a hi with z | z
 ·rw [h1] at z;cases z
 ·exact h2 z
theorem StRel.fow (S:StRel T Z F H σ env fp):∀ a,F a→¬ Own fp a:=fun a h ⟨i,hi⟩=>(S.dis i a hi).1 h
theorem StRel.oow (S:StRel T Z F H σ env fp):∀ a o,Own fp a→H a=some o→Chg o:=fun a o ⟨i,hi⟩ e=>by
 obtain ⟨o',h1,h2⟩:=S.ch i a hi
 rw [e] at h1;cases h1;exact h2
theorem noOL_rel {xs:List PV}{vs:List V}{f:List Addr} (h:noOL xs=true) (r:RelL T F B L H xs vs f):f=[]∧RelL T F B NoL H xs vs f:=by
 simp only [noOL,Bool.and_eq_true,Bool.not_eq_true'] at h
 exact ⟨RelL.noOwn h.1 r,RelL.noL h.2 r⟩
theorem si_seq {tg e:Expr}{m:ME} (hK:X.K=T.K) (he:SE X T W e m):SI X T W tg e (mSeqI m):=fun pins s σ H R I h=>pi_seq he pins s σ H R I (by
 obtain ⟨Z,F,env,fp,S,q⟩:=h
 unfold mSeqI at q
 refine tE.bind S (fun c e=>by rw [e] at q;exact q) (fun e=>by rw [e] at q;exact q) fun x v H1 F1 f1 e1 g1 r1 n1 d1 w1=>?_
 rw [e1] at q
 simp only [Res.ok_bind] at q
 have S1:=S.grow g1
 rw [hK]
 cases x with
 | lst f xs =>
  dsimp only at q
  by_cases hc:(!f.isLnt && noOL xs)=true
  ·rw [if_pos hc] at q
   rw [Bool.and_eq_true] at hc
   unfold Rel at r1
   obtain ⟨a,vs,fp',rfl,hl,hr,hf⟩:=r1
   obtain ⟨rfl,hr'⟩:=noOL_rel hc.2 hr
   refine ⟨a,rfl,.inl ⟨vs,hl.sq,q _ H1 F1 g1 (ItR.of0 fun H2 hk=>?_)⟩⟩
   have na:f ≠ .mod→∀ o,H1 a=some o→H2 a=some o:=fun hn o ho=>by
    refine hk a o ho ?_
    cases f with
    | own =>
     rintro ⟨i,hi⟩
     obtain ⟨_,o',ho'⟩:=S.dis i a hi
     obtain rfl:f1=[a]:=hf
     rw [w1 a List.mem_cons_self] at ho';cases ho'
    | frz=>exact S1.fow a hl.1
    | bor=>exact S1.bow a hl.1
    | lnt=>exact absurd hc.1 (by decide)
    | mod=>exact absurd rfl hn
   have hl2:SqL T.K H2 a vs:=by
    by_cases hn:f=.mod
    ·subst hn;exact .inr hl
    ·exact .inl (Rd.tr (na hn) (hl.rd hn))
   refine ⟨fun i x ex=>?_,⟨vs,hl2,by rw [hr.length];exact Nat.le_refl _⟩⟩
   obtain ⟨v,_,ev,_,_⟩:=hr.get ex
   refine ⟨⟨vs,v,hl2,ev⟩,fun w H3 hy=>⟨hy.1,?_⟩⟩
   have e3:=hy.2 vs hl2
   exact items_stay S1.fow S1.bow S1.oow hk hr' ex e3
  ·rw [if_neg hc] at q;exact q.elim
 | tup xs =>
  dsimp only at q
  by_cases hc:noOL xs=true
  ·rw [if_pos hc] at q
   unfold Rel at r1
   obtain ⟨a,vs,rfl,hl,hr⟩:=r1
   obtain ⟨rfl,hr'⟩:=noOL_rel hc hr
   refine ⟨a,rfl,.inr ⟨vs,hl,q _ H1 F1 g1 (ItR.of0 fun H2 hk=>?_)⟩⟩
   have hl2:SqT T.K H2 a vs:=SqT.tr (fun o ho hfx=>hk a o ho fun z=>by
    have:=S1.oow a o z ho
    cases o with
    | lst _=>exact hfx
    | ins _ _ _=>exact hfx
    | _=>exact this) hl
   refine ⟨fun i x ex=>?_,⟨vs,hl2,by rw [hr.length];exact Nat.le_refl _⟩⟩
   obtain ⟨v,_,ev,_,_⟩:=hr.get ex
   refine ⟨⟨vs,v,hl2,ev⟩,fun w H3 hy=>⟨hy.1,?_⟩⟩
   exact items_stay S1.fow S1.bow S1.oow hk hr' ex (hy.2 vs hl2)
  ·rw [if_neg hc] at q;exact q.elim
 | _=>exact q.elim)
def rngP (lo:Int) (n:Nat):List PV:=(List.range n).map fun k=>.int (lo+(k:Nat))
def inR (i:Int):Bool:=decide (-(2 ^ 62) ≤ i∧i < 2 ^ 62)
def mRng1 (ms:MA):MI:=fun env=>(ms env).bind fun xs=>match xs with
 | [.int n]=>if inR n then .ok (rngP 0 n.toNat) else .stuck
 | _=>.stuck
def mRng2 (ms:MA):MI:=fun env=>(ms env).bind fun xs=>match xs with
 | [.int i,.int j]=>if inR i && inR j then .ok (rngP i (j - i).toNat) else .stuck
 | _=>.stuck
theorem itr_rel {lo:Int}{n:Nat}{Ow:Addr→Prop}:ItR T F1 B Ow H1 (Itr lo n) (rngP lo n):=by
 apply ItR.of0
 intro H2 _
 refine ⟨fun i x ex=>?_,by simp [rngP,Itr]⟩
 have hi:i < n:=by
  have:=(List.getElem?_eq_some_iff.mp ex).1
  simpa [rngP] using this
 refine ⟨hi,fun v H3 hy=>⟨hy.1,?_⟩⟩
 obtain ⟨_,rfl⟩:=hy
 have:x=.int (lo+(i:Nat)):=by
  simp [rngP,hi] at ex
  exact ex.symm
 subst this
 exact relI
theorem si_range1 {tg a:Expr}{ms:MA}{p pos:Pos} (hg:Gl X "range") (hm:X.mg "range" = none) (ha:SA X T W [a] ms) (hs:starEach [a] X.env=[(false,eval a X.env)]:=by rfl):SI X T W tg (.Call (.Name "range" p) [a] [] pos) (mRng1 ms):=fun pins s σ H R I h=>pi_range1 hg hm ha hs pins s σ H R I (by
 obtain ⟨Z,F,env,fp,S,q⟩:=h
 unfold mRng1 at q
 refine tA.bind S (fun c e=>by rw [e] at q;exact q) (fun e=>by rw [e] at q;exact q) fun xs vs H1 F1 f1 e1 g1 r1 n1 d1 w1=>?_
 rw [e1] at q
 simp only [Res.ok_bind] at q
 split at q
 ·rename_i n
  split at q
  ·rename_i hc
   obtain ⟨v,rfl,r2⟩:=r1.one
   unfold Rel at r2
   obtain ⟨rfl,_⟩:=r2
   have hc':-(2 ^ 62) ≤ n∧n < 2 ^ 62:=by simpa [inR] using hc
   exact ⟨n,rfl,hc'.1,hc'.2,q _ H1 F1 g1 itr_rel⟩
  ·exact q.elim
 ·exact q.elim)
theorem si_range2 {tg a b:Expr}{ms:MA}{p pos:Pos} (hg:Gl X "range") (hm:X.mg "range" = none) (ha:SA X T W [a,b] ms) (hs:starEach [a,b] X.env=[(false,eval a X.env),(false,eval b X.env)]:=by rfl) (hs2:starEach [b] X.env=[(false,eval b X.env)]:=by rfl) :
  SI X T W tg (.Call (.Name "range" p) [a,b] [] pos) (mRng2 ms):=fun pins s σ H R I h=>pi_range2 hg hm ha hs hs2 pins s σ H R I (by
 obtain ⟨Z,F,env,fp,S,q⟩:=h
 unfold mRng2 at q
 refine tA.bind S (fun c e=>by rw [e] at q;exact q) (fun e=>by rw [e] at q;exact q) fun xs vs H1 F1 f1 e1 g1 r1 n1 d1 w1=>?_
 rw [e1] at q
 simp only [Res.ok_bind] at q
 split at q
 ·rename_i i j
  split at q
  ·rename_i hc
   unfold RelL at r1
   obtain ⟨v,ws,f1,f2,rfl,h1,h2,_⟩:=r1
   obtain ⟨v2,rfl,h3⟩:=h2.one
   unfold Rel at h1 h3
   obtain ⟨rfl,_⟩:=h1
   obtain ⟨rfl,_⟩:=h3
   have hc':(-(2 ^ 62) ≤ i∧i < 2 ^ 62)∧(-(2 ^ 62) ≤ j∧j < 2 ^ 62):=by simpa [inR] using hc
   exact ⟨i,j,rfl,⟨hc'.1.1,hc'.1.2,hc'.2.1,hc'.2.2⟩,q _ H1 F1 g1 itr_rel⟩
  ·exact q.elim
 ·exact q.elim)
def mFor (it:MI) (tg:TgM) (body:MS):MS:=fun env=>match it env with
 | .ok xs=>forL (fun x e=>match tg x e with
  | some e'=>body e'
  | none=>.stuck) xs env
 | .exc c=>.exc c env
 | .stuck=>.stuck
theorem ss_for {tg iter:Expr}{body:List Stmt}{mi:MI}{g:TgM}{mb:MS}{pos:Pos} (hp:PassesOwn (model X.prog X.w) X.A X.env X.xe) (hc:X.calm=true) (hi:SI X T W tg iter mi) (hg:SG X T tg g) (hb:SSs X T W body mb)
  (hs:∀ x,foldedSetIterable iter X.env x=pure x:=by intro _;rfl):SS X T W (.For tg iter body [] pos) (mFor mi g mb):=PS.wk (ps_for (pos:=pos) hp hc hi hg hb hs) fun D σ H ⟨Z,F,env,fp,S,q⟩=>by
 unfold mFor at q
 refine ⟨Z,F,env,fp,S,?_⟩
 cases em:mi env with
 | exc c=>rw [em] at q;exact fun H' x=>q F H' σ fp (S.grow (Gr.same S.hp.ft x))
 | stuck=>rw [em] at q;exact q
 | ok xs =>
  rw [em] at q
  dsimp only at q
  intro J H1 F1 g1 it
  have S1:=S.grow g1
  generalize hbd:(fun (x:PV) (e:En)=>match g x e with
   | some e'=>mb e'
   | none=>Out.stuck)=bd at q
  refine ⟨fun i m σ2 H2=>m=xs.length - i∧i ≤ xs.length∧∃ F2 env2 fp2,StRel T (Z.re F1 H1 fp) F2 H2 σ2 env2 fp2∧GS T W Z D (forL bd (xs.drop i) env2),⟨xs.length,by simp,Nat.zero_le _,F1,env,fp,S1.enter,q⟩,?_⟩
  rintro i m σ2 H2 ⟨rfl,hi,F2,env2,fp2,S2,q2⟩
  obtain ⟨go,stop⟩:=it H2 S2.hp.keep
  by_cases hlt:i < xs.length
  ·have hx:xs[i]?=some xs[i]:=by simp [hlt]
   obtain ⟨g1',yl⟩:=go i _ hx
   refine .inr ⟨g1',fun σ3 H3=>∃ F3 env3 fp3,StRel T (Z.re F1 H1 fp) F3 H3 σ3 env3 fp3∧GS T W Z D (forL bd (xs.drop (i+1)) env3),fun σ3 H3 h3=>⟨xs.length - (i+1),by omega,rfl,hlt,h3⟩,fun v H3 hy=>?_⟩
   obtain ⟨ex3,r⟩:=yl v H3 hy
   rw [List.drop_eq_getElem_cons hlt] at q2
   unfold forL at q2
   rw [← hbd] at q2
   dsimp only at q2
   refine ⟨Z.re F1 H1 fp,F2,env2,fp2,xs[i],[],S2.grow (Gr.same S2.hp.ft ex3),r.ext Ext.refl S2.hp.f0,Free.nil,?_⟩
   cases eg:g xs[i] env2 with
   | none=>rw [eg] at q2;exact q2
   | some e' =>
    rw [eg] at q2
    dsimp only at q2
    intro σ' fp' S'
    refine ⟨Z.re F1 H1 fp,F2,e',fp',S',?_⟩
    cases eb:mb e' with
    | next e2=>rw [eb] at q2;exact fun F3 H3 σ3 fp3 S3=>⟨F3,e2,fp3,S3,by rw [← hbd];exact q2⟩
    | cont e2=>rw [eb] at q2;exact fun F3 H3 σ3 fp3 S3=>⟨F3,e2,fp3,S3,by rw [← hbd];exact q2⟩
    | brk e2=>rw [eb] at q2;exact fun F3 H3 σ3 fp3 S3=>q2 F3 H3 σ3 fp3 (S1.leave S3)
    | ret v=>rw [eb] at q2;exact fun F3 H3 v f hp r nd nf new=>q2 F3 H3 v f (HpRel.leave S1 hp) r nd nf fun a ha=>S1.newL (new a ha)
    | exc c e2=>rw [eb] at q2;exact fun F3 H3 σ3 fp3 S3=>q2 F3 H3 σ3 fp3 (S1.leave S3)
    | stuck=>rw [eb] at q2;exact q2
  ·have e:i=xs.length:=by omega
   subst e
   rw [List.drop_length] at q2
   exact .inl ⟨stop,q2 F2 H2 σ2 fp2 (S1.leave S2)⟩
end
end PR
namespace L2
open PySem PySem.Spec
def clOf (cells:List (Str × Addr)):List (Str × NameKind)→List (Str × Addr)→List (Str × Addr)
 | [],acc=>acc
 | (n,k)::r,acc=>if (k == .free)=true then (match cells.lookup n with
  | some c=>clOf cells r ((n,c)::acc)
  | none=>clOf cells r acc) else clOf cells r acc
theorem closure_go {env:Env}:∀ (names:List (Str × NameKind)) (acc:List (Str × Addr)),(∀ y ∈ names,y.2=.free→∃ c,env.cells.lookup y.1=some c) →
  (forIn names acc fun (x:Str × NameKind) (cs:List (Str × Addr))=>match x with
   | (name,kind)=>if (kind == .free)=true then do let c ← cellOf env name;pure (ForInStep.yield ((name,c)::cs)) else pure (ForInStep.yield cs):Sem (List (Str × Addr)))=pure (clOf env.cells names acc)
 | [],acc,_=>by simp [clOf]
 | (n,k)::r,acc,h=>by
  rw [List.forIn_cons]
  by_cases hk:(k == NameKind.free)=true
  ·obtain ⟨c,hc⟩:=h (n,k) List.mem_cons_self (by simpa using hk)
   dsimp only at hc
   simp only [hk,if_true,cellOf,hc,pure_bind]
   rw [clOf,if_pos hk,hc]
   exact closure_go r _ fun y hy=>h y (List.mem_cons_of_mem _ hy)
  ·simp only [hk,Bool.false_eq_true,if_false,pure_bind]
   rw [clOf,if_neg hk]
   exact closure_go r _ fun y hy=>h y (List.mem_cons_of_mem _ hy)
theorem closureFor_eq {scope:Scope}{env:Env} (h:∀ y ∈ scope.names,y.2=.free→∃ c,env.cells.lookup y.1=some c):closureFor scope env=pure (clOf env.cells scope.names []):=by
 unfold closureFor
 simp only []
 rw [← closure_go scope.names [] h]
 simp
theorem clOf_all {cells:List (Str × Addr)}:∀ {names:List (Str × NameKind)}{acc:List (Str × Addr)},(∀ p ∈ acc,cells.lookup p.1=some p.2)→∀ p ∈ clOf cells names acc,cells.lookup p.1=some p.2
 | [],_,h=>h
 | (n,k)::r,acc,h=>by
  unfold clOf
  split
  ·split
   ·rename_i c hc
    exact clOf_all fun p hp=>by
     rcases List.mem_cons.mp hp with rfl | hp
     ·exact hc
     ·exact h p hp
   ·exact clOf_all h
  ·exact clOf_all h
theorem clOf_acc {cells:List (Str × Addr)}:∀ {names:List (Str × NameKind)}{acc:List (Str × Addr)}{p:Str × Addr},p ∈ acc→p ∈ clOf cells names acc
 | [],_,_,h=>h
 | (n,k)::r,acc,p,h=>by
  unfold clOf
  split
  ·split
   ·exact clOf_acc (List.mem_cons_of_mem _ h)
   ·exact clOf_acc h
  ·exact clOf_acc h
theorem clOf_mem {cells:List (Str × Addr)}{x:Str}{c:Addr} (hc:cells.lookup x=some c):∀ {names:List (Str × NameKind)}{acc:List (Str × Addr)},(x,NameKind.free) ∈ names→(x,c) ∈ clOf cells names acc
 | [],_,h=>nomatch h
 | (n,k)::r,acc,h=>by
  unfold clOf
  rcases List.mem_cons.mp h with e | h
  ·cases e
   rw [if_pos (by rfl),hc]
   exact clOf_acc List.mem_cons_self
  ·split
   ·split
    ·exact clOf_mem hc h
    ·exact clOf_mem hc h
   ·exact clOf_mem hc h
theorem lookup_of_all {cells l:List (Str × Addr)} (h:∀ p ∈ l,cells.lookup p.1=some p.2) {x:Str}{c:Addr} (m:(x,c) ∈ l):l.lookup x=some c:=by
 induction l with
 | nil=>cases m
 | cons p r ih =>
  obtain ⟨n,d⟩:=p
  rw [List.lookup_cons]
  by_cases e:x=n
  ·subst e
   simp only [beq_self_eq_true]
   have h1:=h (x,d) List.mem_cons_self
   have h2:=h (x,c) m
   dsimp only at h1 h2
   rw [h1] at h2
   exact h2
  ·rw [show (x == n)=false by simpa using e]
   refine ih (fun p hp=>h p (List.mem_cons_of_mem _ hp)) ?_
   rcases List.mem_cons.mp m with z | z
   ·cases z;exact absurd rfl e
   ·exact z
theorem clOf_sub {cells:List (Str × Addr)}{names:List (Str × NameKind)}{x:Str}{c:Addr} (h:(clOf cells names []).lookup x=some c):cells.lookup x=some c :=
 clOf_all (names:=names) (acc:=[]) (fun _ z=>nomatch z) (x,c) (PySem.mem_of_lookup h)
def cxC (X:Cx) (scope:Scope) (C:Addr) (N:List Str) (s:Shared) (H:Hp) (ex:List Addr):Cx :=
 { X with env:=compEnvC scope (clOf X.env.cells scope.names []) C X.env,N:=N,s₀:=s,H₀:=H,outer:=X.stack,stack:=X.stack,ex:=ex,fn:=fun _=>false,pn:=[],xe:=fun _ _=>False }
structure CompScope (X:Cx) (scope:Scope) (caps:List Nat) (N tn:List Str):Prop where
 kind:scope.kind=.function
 ncell:∀ y ∈ scope.names,y.2 ≠ .cell
 names:∀ y ∈ scope.names,y.2=.local→scope.names.lookup y.1=some .local
 free:∀ y ∈ scope.names,y.2=.free→X.env.kindOf y.1=some .cell ∨ X.env.kindOf y.1=some .free
 eN:N=caps.map (fun i=>X.N.getD i "") ++ tn
 capN:∀ i ∈ caps,i < X.N.length
 capF:∀ i ∈ caps,∀ x,X.N[i]?=some x→(x,NameKind.free) ∈ scope.names∧scope.names.lookup x=some .free
 tnL:∀ x ∈ tn,scope.names.lookup x=some .local
 nd:N.Nodup
theorem relabel_kind {scope:Scope}{env:Env}{x:Str}{k:NameKind} (h:(relabel scope env).names.lookup x=some k) (hc:k=.cell ∨ k=.free) (ncell:∀ y ∈ scope.names,y.2 ≠ .cell):(x,NameKind.free) ∈ scope.names:=by
 have m:=PySem.mem_of_lookup h
 obtain ⟨⟨n,k0⟩,hm,e⟩:=List.mem_map.mp m
 dsimp only at e
 split at e
 ·rename_i hh
  cases e
  have:k0=.free:=by
   simp only [Bool.and_eq_true,beq_iff_eq] at hh
   exact hh.1.1
  subst this
  exact hm
 ·cases e
  rcases hc with rfl | rfl
  ·exact absurd rfl (ncell _ hm)
  ·exact hm
theorem relabel_free {scope:Scope}{env:Env}{x:Str}:∀ {names:List (Str × NameKind)},names.lookup x=some .free →
  (names.map fun (n,k)=>if (k == NameKind.free && env.scope.kind == .function && env.kindOf n == some .cell) then (n,NameKind.cell) else (n,k)).lookup x=some .cell ∨
  (names.map fun (n,k)=>if (k == NameKind.free && env.scope.kind == .function && env.kindOf n == some .cell) then (n,NameKind.cell) else (n,k)).lookup x=some .free
 | [],h=>by simp at h
 | (n,k)::r,h=>by
  show List.lookup x ((if (k == NameKind.free && env.scope.kind == .function && env.kindOf n == some .cell)=true then (n,NameKind.cell) else (n,k))::_)=_ ∨ List.lookup x ((if (k == NameKind.free && env.scope.kind == .function && env.kindOf n == some .cell)=true then (n,NameKind.cell) else (n,k))::_)=_
  have ih:=@relabel_free scope env x r
  cases hx:x == n with
  | true =>
   simp only [List.lookup_cons,hx] at h
   cases h
   split
   ·exact .inl (by simp [List.lookup_cons,hx])
   ·exact .inr (by simp [List.lookup_cons,hx])
  | false =>
   simp only [List.lookup_cons,hx] at h
   split
   ·simpa only [List.lookup_cons,hx] using ih h
   ·simpa only [List.lookup_cons,hx] using ih h
section
variable {X:Cx}{scope:Scope}{caps:List Nat}{N tn:List Str}{pins:List (Addr × Obj)}{σ:St}{H:Hp}{s:Shared}{fp:List Addr}{C:Addr}
theorem cxC_ok (cs:CompScope X scope caps N tn) (I:Inv X pins σ H s) (hf:∀ b ∈ fp,FpOk X pins H b) (hlt:∀ b ∈ fp,b < s.heap.objs.size) (hC:s.heap.objs.size ≤ C):(cxC X scope C N s H fp).Ok where
 mod:=I.ok.mod
 kind:=by show (relabel scope X.env).kind=_;exact cs.kind
 glob:=I.ok.glob
 blt:=I.ok.blt
 above:=hC
 inj:=fun x y c h1 h2=>I.ok.inj x y c (clOf_sub h1) (clOf_sub h2)
 has:=fun x hx=>by
  have hx:(relabel scope X.env).names.lookup x=some .cell ∨ (relabel scope X.env).names.lookup x=some .free:=hx
  have m:(x,NameKind.free) ∈ scope.names:=by
   rcases hx with h | h
   ·exact relabel_kind h (.inl rfl) cs.ncell
   ·exact relabel_kind h (.inr rfl) cs.ncell
  obtain ⟨c,hc⟩:=I.ok.has x (cs.free _ m rfl)
  exact ⟨c,lookup_of_all (clOf_all (acc:=[]) fun _ z=>nomatch z) (clOf_mem hc m)⟩
 cab:=fun x c h=>by cases h
 hd:=I.ok.hd
 frames:=I.ok.frames
 stk:=.inl rfl
 exf:=fun b hb=>⟨Nat.ne_of_lt (Nat.lt_of_lt_of_le (hlt b hb) hC),fun x c h=>(hf b hb).2.2.2.2.1 x c (clOf_sub h)⟩
 bs:=I.bs
 bsz:=Nat.le_trans I.ok.bsz I.sz
 noex:=fun b o e hb=>by
  rcases (hf b hb).2.2.2.1 with z | z
  ·exact I.ok.noex b o e z
  ·exact absurd (Nat.lt_of_lt_of_le (Heap.lt_size e) (Nat.le_trans I.ok.bsz z)) (Nat.lt_irrefl _)
 exfs:=fun b hb hs=>by
  rcases List.mem_cons.mp (I.stkSub b hs) with z | z
  ·exact (hf b hb).2.1 z
  ·exact (hf b hb).2.2.1 z
 funs:=I.stack
 frf:=I.stkFree
def capS (caps:List Nat) (k:Nat) (σ:St):St:=caps.map (fun i=>(σ[i]?).join) ++ List.replicate k none
theorem inv_comp (cs:CompScope X scope caps N tn) (I:Inv X pins σ H s) (hf:∀ b ∈ fp,FpOk X pins H b) (hlt:∀ b ∈ fp,b < s.heap.objs.size) {h₁:Heap}{t:Nat}
  (hns:h₁.Ns (s.heap.objs.size+1) fun _=>none) (hD:h₁.get? s.heap.objs.size=some { cls:=.type "list", data:=.seq ([]:List Value).toArray }) (old:∀ b o,s.heap.get? b=some o→h₁.get? b=some o) :
  Inv (cxC X scope (s.heap.objs.size+1) N s H fp) [] (capS caps tn.length σ) (upd H s.heap.objs.size (.lst [])) { s with heap:=h₁,toks:=t }:=by
 have fresh:∀ b,s.heap.objs.size ≤ b→H b=none:=fun b hb=>I.hok.fresh hb
 have neD:s.heap.objs.size+1 ≠ s.heap.objs.size:=Nat.succ_ne_self _
 have ltc:∀ x c,(clOf X.env.cells scope.names []).lookup x=some c→∃ v,s.heap.IsCell c v:=fun x c h=>I.cell x c (clOf_sub h)
 refine ⟨cxC_ok cs I hf hlt (Nat.le_succ _),rfl,I.bare,Un.laid old (Nat.le_refl _) (fresh _ (Nat.le_refl _)),⟨_,hns,fun i y v h1 h2 h3=>?_⟩,fun x c h=>?_,?_,fun x c h=>?_,fun p hp=>absurd (show p ∈ ([]:List (Addr × Obj)) from hp) (by simp),?_,?_⟩
 ·have hi:i < caps.length:=by
   unfold capS at h2
   by_cases hi:i < caps.length
   ·exact hi
   ·rw [List.getElem?_append_right (by simpa using hi),List.getElem?_replicate] at h2
    split at h2 <;> cases h2
  unfold capS at h2
  rw [List.getElem?_append_left (by simpa using hi),List.getElem?_map] at h2
  obtain ⟨j,hj,e2⟩:=Option.map_eq_some_iff.mp h2
  have hjc:j ∈ caps:=List.mem_of_getElem? hj
  have hjN:=cs.capN j hjc
  have hy:X.N[j]?=some y:=by
   have h1':N[i]?=some y:=h1
   rw [cs.eN,List.getElem?_append_left (by simpa using hi),List.getElem?_map,hj] at h1'
   have:X.N.getD j "" = y:=by simpa using h1'
   rw [← this]
   simp [hjN]
  have hσ:σ[j]?=some (some v):=by
   cases e:σ[j]? with
   | none=>rw [e] at e2;cases e2
   | some w=>rw [e] at e2;simp only [Option.join_some] at e2;rw [e2]
  obtain ⟨m0,hn0,hl⟩:=I.loc
  obtain ⟨hm,hlk⟩:=cs.capF j hjc y hy
  have hk:=cs.free _ hm rfl
  dsimp only at hk
  have hvis:Vis X.env.scope y:=by
   rcases hk with z | z
   ·exact .inr (.inl z)
   ·exact .inr (.inr z)
  obtain ⟨u,ru,lk⟩:=hl j y v hy hσ hvis
  refine ⟨u,ru,.inr ?_⟩
  rcases lk with ⟨z,_⟩ | ⟨_,c,hc,hcell⟩
  ·rcases hk with w | w
   ·rw [z] at w;cases w
   ·rw [z] at w;cases w
  ·refine ⟨relabel_free (scope:=scope) hlk,c,lookup_of_all (clOf_all (acc:=[]) fun _ z=>nomatch z) (clOf_mem hc hm),hcell.keeps old⟩
 ·obtain ⟨v,hv⟩:=ltc x c h
  exact ⟨v,hv.keeps old⟩
 ·show upd H _ _ (s.heap.objs.size+1)=none
  rw [upd_ne neD]
  exact fresh _ (Nat.le_succ _)
 ·obtain ⟨v,hv⟩:=ltc x c h
  rw [upd_ne (Nat.ne_of_lt hv.lt)]
  exact I.freeC x c (clOf_sub h)
 ·exact I.hok.laid old (Nat.le_refl _) ⟨Nat.zero_le _,[],_,.nil,hD⟩
 ·show (capS caps tn.length σ).length=N.length
  rw [cs.eN]
  simp [capS]
end
end L2
namespace PR
open PySem PySem.Spec L2
def Fl.borrow:Fl→Fl
 | .own=>.bor
 | .lnt=>.bor
 | f=>f
def PV.borrow (x:PV):PV:=x.mapF Fl.borrow
mutual
theorem Rel.borrow {T:Tb}{F B B' L L':Addr→Prop}{H:Hp} (hB:∀ a,B a→B' a) (hL:∀ a,L a→B' a):∀ {x:PV}{v:V}{fp:List Addr},(∀ a ∈ fp,B' a)→Rel T F B L H x v fp→Rel T F B' L' H (x.mapF Fl.borrow) v []
 | .non,_,_,_,h=>by unfold Rel at h;simp only [PV.mapF];unfold Rel;exact ⟨h.1,rfl⟩
 | .bl _,_,_,_,h=>by unfold Rel at h;simp only [PV.mapF];unfold Rel;exact ⟨h.1,rfl⟩
 | .int _,_,_,_,h=>by unfold Rel at h;simp only [PV.mapF];unfold Rel;exact ⟨h.1,rfl⟩
 | .str _,_,_,_,h=>by unfold Rel at h;simp only [PV.mapF];unfold Rel;exact ⟨h.1,rfl⟩
 | .lst f xs,_,fp,hp,h=>by
  unfold Rel at h
  obtain ⟨a,vs,fp',e,hl,hr,hf⟩:=h
  simp only [PV.mapF]
  unfold Rel
  cases f with
  | own =>
   obtain rfl:fp=a::fp':=hf
   exact ⟨a,vs,[],e,⟨hp a List.mem_cons_self,.inl hl⟩,RelL.borrow hB hL (fun b hb=>hp b (List.mem_cons_of_mem _ hb)) hr,rfl,rfl⟩
  | frz=>obtain ⟨rfl,rfl⟩:=hf;exact ⟨a,vs,[],e,hl,RelL.borrow hB hL hp hr,rfl,rfl⟩
  | bor=>obtain ⟨rfl,rfl⟩:=hf;exact ⟨a,vs,[],e,⟨hB a hl.1,hl.2⟩,RelL.borrow hB hL hp hr,rfl,rfl⟩
  | lnt=>obtain ⟨rfl,rfl⟩:=hf;exact ⟨a,vs,[],e,⟨hL a hl.1,.inl hl.2⟩,RelL.borrow hB hL hp hr,rfl,rfl⟩
  | mod=>obtain ⟨rfl,rfl⟩:=hf;exact ⟨a,vs,[],e,hl,RelL.borrow hB hL hp hr,rfl,rfl⟩
 | .tup xs,_,fp,hp,h=>by
  unfold Rel at h
  obtain ⟨a,vs,e,hl,hr⟩:=h
  simp only [PV.mapF]
  unfold Rel
  exact ⟨a,vs,e,hl,RelL.borrow hB hL hp hr⟩
 | .obj f c ks xs,_,fp,hp,h=>by
  unfold Rel at h
  obtain ⟨a,dx,vs,fp',e,hl,hk,hr,hf,ha⟩:=h
  simp only [PV.mapF]
  unfold Rel
  cases f with
  | own =>
   obtain rfl:fp=a::fp':=hf
   have r:=RelL.borrow hB hL (L':=L') (fun b hb=>hp b (List.mem_cons_of_mem _ hb)) hr
   exact ⟨a,dx,vs,[],e,hl,⟨by rw [r.length,hk.1,hr.length],hk.2⟩,r,⟨rfl,rfl⟩,hp a List.mem_cons_self⟩
  | frz=>obtain ⟨rfl,rfl⟩:=hf;have r:=RelL.borrow hB hL (L':=L') hp hr;exact ⟨a,dx,vs,[],e,hl,⟨by rw [r.length,hk.1,hr.length],hk.2⟩,r,⟨rfl,rfl⟩,ha⟩
  | bor=>obtain ⟨rfl,rfl⟩:=hf;have r:=RelL.borrow hB hL (L':=L') hp hr;exact ⟨a,dx,vs,[],e,hl,⟨by rw [r.length,hk.1,hr.length],hk.2⟩,r,⟨rfl,rfl⟩,hB a ha⟩
  | lnt=>obtain ⟨rfl,rfl⟩:=hf;have r:=RelL.borrow hB hL (L':=L') hp hr;exact ⟨a,dx,vs,[],e,hl,⟨by rw [r.length,hk.1,hr.length],hk.2⟩,r,⟨rfl,rfl⟩,hL a ha⟩
  | mod=>exact ha.elim
 | .exc c,_,fp,hp,h=>by
  unfold Rel at h
  obtain ⟨a,e,hl,rfl⟩:=h
  simp only [PV.mapF]
  unfold Rel
  exact ⟨a,e,hl,rfl⟩
theorem RelL.borrow {T:Tb}{F B B' L L':Addr→Prop}{H:Hp} (hB:∀ a,B a→B' a) (hL:∀ a,L a→B' a):∀ {xs:List PV}{vs:List V}{fp:List Addr},(∀ a ∈ fp,B' a)→RelL T F B L H xs vs fp→RelL T F B' L' H (mapL Fl.borrow xs) vs []
 | [],_,_,_,h=>by unfold RelL at h;simp only [mapL];unfold RelL;exact ⟨h.1,rfl⟩
 | x::xs,_,fp,hp,h=>by
  unfold RelL at h
  obtain ⟨v,ws,f1,f2,e,h1,h2,rfl⟩:=h
  simp only [mapL]
  unfold RelL
  exact ⟨v,ws,[],[],e,Rel.borrow hB hL (fun b hb=>hp b (List.mem_append_left _ hb)) h1,RelL.borrow hB hL (fun b hb=>hp b (List.mem_append_right _ hb)) h2,rfl⟩
end
mutual
theorem borrow_own:∀ x:PV,(x.mapF Fl.borrow).has Fl.isOwn=false
 | .non=>rfl
 | .bl _=>rfl
 | .int _=>rfl
 | .str _=>rfl
 | .lst f xs=>by simp only [PV.mapF,PV.has,borrow_ownL xs,Bool.or_false];cases f <;> rfl
 | .tup xs=>by simp only [PV.mapF,PV.has,borrow_ownL xs]
 | .obj f c ks xs=>by simp only [PV.mapF,PV.has,borrow_ownL xs,Bool.or_false];cases f <;> rfl
 | .exc _=>rfl
theorem borrow_ownL:∀ xs:List PV,hasL Fl.isOwn (mapL Fl.borrow xs)=false
 | []=>rfl
 | x::xs=>by simp only [mapL,hasL,borrow_own x,borrow_ownL xs,Bool.or_false]
end
def ItC (T:Tb) (F B L:Addr→Prop) (H1:Hp) (J:It) (xs:List PV):Prop :=
 ∀ H2,Ext H1 H2→(∀ (i:Nat) x,xs[i]?=some x→J.go i H2∧∀ v H3,J.yld i H2 v H3→Ext H2 H3∧∃ f,(∀ a ∈ f,∃ o,H1 a=some o)∧Rel T F B L H3 x v f)∧J.stop xs.length H2
theorem ItC.of0 {T:Tb}{F B L:Addr→Prop}{H1:Hp}{J:It}{xs:List PV} (h:∀ H2,Ext H1 H2→(∀ (i:Nat) x,xs[i]?=some x→J.go i H2∧∀ v H3,J.yld i H2 v H3→H3=H2∧∃ f,Rel T F B L H1 x v f)∧J.stop xs.length H2):ItC T F B L H1 J xs:=fun H2 hk=>by
 obtain ⟨a,b⟩:=h H2 hk
 refine ⟨fun i x e=>⟨(a i x e).1,fun v H3 hy=>?_⟩,b⟩
 obtain ⟨rfl,f,r⟩:=(a i x e).2 v H3 hy
 exact ⟨Ext.refl,f,fun a ha=>r.there a ha,r.ext hk fun _ h=>h⟩
def GIc (T:Tb) (W:Nat→St→Hp→Prop) (B F L:Addr→Prop) (σ:St) (H:Hp) (R:It→Hp→Prop):Res (List PV)→Prop
 | .ok xs=>∀ J H1 F1,Gr F H F1 H1→ItC T F1 B L H1 J xs→R J H1
 | .exc c=>∀ H',Ext H H'→W c σ H'
 | .stuck=>False
def tIc (T:Tb) (W:Nat→St→Hp→Prop) (m:MI):TI:=fun σ H R=>∃ Z F env fp,StRel T Z F H σ env fp∧GIc T W Z.B F (Own fp) σ H R (m env)
abbrev SIc (X:Cx) (T:Tb) (W:Nat→St→Hp→Prop) (tg iter:Expr) (m:MI):Prop:=PI X tg iter (tIc T W m)
def mSeqC (m:ME):MI:=fun env=>(m env).bind fun x=>match seqOf x with
 | some xs=>.ok xs
 | none=>.stuck
section
variable {X:Cx}{T:Tb}{W:Nat→St→Hp→Prop}{Z:Zn}{F F1 B L:Addr→Prop}{H H1:Hp}{σ:St}{env:En}{fp:Nat→List Addr}{D:Ends}
theorem sic_seq {tg e:Expr}{m:ME} (hK:X.K=T.K) (he:SE X T W e m):SIc X T W tg e (mSeqC m):=fun pins s σ H R I h=>pi_seq he pins s σ H R I (by
 obtain ⟨Z,F,env,fp,S,q⟩:=h
 unfold mSeqC at q
 refine tE.bind S (fun c e=>by rw [e] at q;exact q) (fun e=>by rw [e] at q;exact q) fun x v H1 F1 f1 e1 g1 r1 n1 d1 w1=>?_
 rw [e1] at q
 simp only [Res.ok_bind] at q
 cases es:seqOf x with
 | none=>rw [es] at q;exact q.elim
 | some xs =>
  rw [es] at q
  obtain ⟨a,vs,f',rfl,hs,hr,_⟩:=r1.seq es
  refine ⟨a,rfl,?_⟩
  rw [hK]
  rcases hs with hs | hs
  ·refine .inl ⟨vs,hs,q _ H1 F1 g1 (ItC.of0 fun H2 hx=>?_)⟩
   have h2:SqL T.K H2 a vs:=by
    rcases hs with z | z
    ·exact .inl (Rd.tr (fun o q=>hx a o q) z)
    ·exact .inr z
   refine ⟨fun i x ex=>?_,⟨vs,h2,by rw [hr.length];exact Nat.le_refl _⟩⟩
   obtain ⟨v,f,ev,rv,_⟩:=hr.get ex
   refine ⟨⟨vs,v,h2,ev⟩,fun w H3 hy=>⟨hy.1,f,?_⟩⟩
   have:=hy.2 vs h2
   rw [ev] at this
   cases this
   exact rv
  ·refine .inr ⟨vs,hs,q _ H1 F1 g1 (ItC.of0 fun H2 hx=>?_)⟩
   have h2:SqT T.K H2 a vs:=SqT.tr (fun o q _=>hx a o q) hs
   refine ⟨fun i x ex=>?_,⟨vs,h2,by rw [hr.length];exact Nat.le_refl _⟩⟩
   obtain ⟨v,f,ev,rv,_⟩:=hr.get ex
   refine ⟨⟨vs,v,h2,ev⟩,fun w H3 hy=>⟨hy.1,f,?_⟩⟩
   have:=hy.2 vs h2
   rw [ev] at this
   cases this
   exact rv)
theorem itc_rel {lo:Int}{n:Nat}:ItC T F1 B L H1 (Itr lo n) (rngP lo n):=by
 apply ItC.of0
 intro H2 _
 refine ⟨fun i x ex=>?_,by simp [rngP,Itr]⟩
 have hi:i < n:=by
  have:=(List.getElem?_eq_some_iff.mp ex).1
  simpa [rngP] using this
 refine ⟨hi,fun v H3 hy=>⟨hy.1,[],?_⟩⟩
 obtain ⟨_,rfl⟩:=hy
 have:x=.int (lo+(i:Nat)):=by
  simp [rngP,hi] at ex
  exact ex.symm
 subst this
 exact relI
theorem sic_range1 {tg a:Expr}{ms:MA}{p pos:Pos} (hg:Gl X "range") (hm:X.mg "range" = none) (ha:SA X T W [a] ms) (hs:starEach [a] X.env=[(false,eval a X.env)]:=by rfl):SIc X T W tg (.Call (.Name "range" p) [a] [] pos) (mRng1 ms):=fun pins s σ H R I h=>pi_range1 hg hm ha hs pins s σ H R I (by
 obtain ⟨Z,F,env,fp,S,q⟩:=h
 unfold mRng1 at q
 refine tA.bind S (fun c e=>by rw [e] at q;exact q) (fun e=>by rw [e] at q;exact q) fun xs vs H1 F1 f1 e1 g1 r1 n1 d1 w1=>?_
 rw [e1] at q
 simp only [Res.ok_bind] at q
 split at q
 ·rename_i n
  split at q
  ·rename_i hc
   obtain ⟨v,rfl,r2⟩:=r1.one
   unfold Rel at r2
   obtain ⟨rfl,_⟩:=r2
   have hc':-(2 ^ 62) ≤ n∧n < 2 ^ 62:=by simpa [inR] using hc
   exact ⟨n,rfl,hc'.1,hc'.2,q _ H1 F1 g1 itc_rel⟩
  ·exact q.elim
 ·exact q.elim)
abbrev WF:Nat→St→Hp→Prop:=fun _ _ _=>False
def STs (X:Cx) (T:Tb) (W:Nat→St→Hp→Prop) (ifs:List Expr) (m:MT):Prop :=
 ∀ (pins:List (Addr × Obj)) (s:Shared) (σ:St) (H:Hp) (Q:Bool→Hp→Prop),L2.Inv X pins σ H s→tT T W m σ H Q →
  wpAny (model X.prog X.w) X.A (forIn ifs true fun c r=>if r=true then do let ok ← isTrue c X.env (eval c X.env);pure (ForInStep.yield ok) else pure (ForInStep.yield r)) (TP X pins σ Q) X.xe s
def mTrue:MT:=fun _=>.ok true
theorem sts_nil:STs X T W [] mTrue:=fun pins s σ H Q I ⟨Z,F,env,fp,S,q⟩=>wpAny_tests_nil ⟨H,I,q H F (Gr.refl S.hp.ft)⟩
theorem sts_one {c:Expr}{m:MT} (h:ST X T W c m):STs X T W [c] m:=fun pins s σ H Q I q=>wpAny_tests_one (h pins s σ H Q I q)
structure TgKeep (g:TgM) (k:Nat):Prop where
 keep:∀ x env e',g x env=some e'→e'.length=env.length∧∀ j < k,e'[j]?=env[j]?
 own:∀ x env e',g x env=some e'→x.has Fl.isOwn=false→∀ (j:Nat) pv,e'[j]?=some (some pv)→env[j]?=some (some pv) ∨ pv.has Fl.isOwn=false
structure TgKeeps (g:TgMs) (k:Nat):Prop where
 keep:∀ x env e',g x env=some e'→e'.length=env.length∧∀ j < k,e'[j]?=env[j]?
 own:∀ x env e',g x env=some e'→hasL Fl.isOwn x=false→∀ (j:Nat) pv,e'[j]?=some (some pv)→env[j]?=some (some pv) ∨ pv.has Fl.isOwn=false
theorem tgk_name {i k:Nat} (h:k ≤ i):TgKeep (tgN i) k:=by
 refine ⟨fun x env e' e=>?_,fun x env e' e hx j pv hj=>?_⟩
 ·unfold tgN at e
  split at e
  ·cases e
   exact ⟨by simp,fun j hj=>List.getElem?_set_ne (by omega)⟩
  ·cases e
 ·unfold tgN at e
  split at e
  ·cases e
   by_cases hij:i=j
   ·subst hij
    have hl:i < env.length:=by
     have:=(List.getElem?_eq_some_iff.mp hj).1
     simpa using this
    rw [List.getElem?_set_self hl] at hj
    cases hj
    exact .inr hx
   ·rw [List.getElem?_set_ne hij] at hj
    exact .inl hj
  ·cases e
theorem tgks_nil {k:Nat}:TgKeeps tgNil k:=by
 refine ⟨fun x env e' e=>?_,fun x env e' e _ j pv hj=>?_⟩
 ·cases x with
  | nil=>cases e;exact ⟨rfl,fun _ _=>rfl⟩
  | cons _ _=>cases e
 ·cases x with
  | nil=>cases e;exact .inl hj
  | cons _ _=>cases e
theorem tgks_cons {g:TgM}{u:TgMs}{k:Nat} (h1:TgKeep g k) (h2:TgKeeps u k):TgKeeps (tgCons g u) k:=by
 refine ⟨fun x env e' e=>?_,fun x env e' e hx j pv hj=>?_⟩
 ·cases x with
  | nil=>cases e
  | cons y ys =>
   simp only [tgCons] at e
   cases e1:g y env with
   | none=>rw [e1] at e;cases e
   | some e2 =>
    rw [e1] at e
    obtain ⟨l1,k1⟩:=h1.keep y env e2 e1
    obtain ⟨l2,k2⟩:=h2.keep ys e2 e' e
    exact ⟨l2.trans l1,fun j hj=>(k2 j hj).trans (k1 j hj)⟩
 ·cases x with
  | nil=>cases e
  | cons y ys =>
   simp only [hasL,Bool.or_eq_false_iff] at hx
   simp only [tgCons] at e
   cases e1:g y env with
   | none=>rw [e1] at e;cases e
   | some e2 =>
    rw [e1] at e
    rcases h2.own ys e2 e' e hx.2 j pv hj with z | z
    ·exact h1.own y env e2 e1 hx.1 j pv z
    ·exact .inr z
theorem tgk_tup {u:TgMs}{n k:Nat} (h:TgKeeps u k):TgKeep (tgT n u) k:=by
 refine ⟨fun x env e' e=>?_,fun x env e' e hx j pv hj=>?_⟩
 ·cases x with
  | tup xs =>
   simp only [tgT] at e
   split at e
   ·exact h.keep xs env e' e
   ·cases e
  | _=>cases e
 ·cases x with
  | tup xs =>
   simp only [tgT] at e
   simp only [PV.has] at hx
   split at e
   ·exact h.own xs env e' e hx j pv hj
   ·cases e
  | _=>cases e
def capE (caps:List Nat) (k:Nat) (env:En):En:=caps.map (fun i=>((env[i]?).join).map PV.borrow) ++ List.replicate k none
def compL (g:TgM) (mc:MT) (me:ME) (env:En):List PV→Res (List PV)
 | []=>.ok []
 | x::xs=>match g x.borrow env with
  | none=>.stuck
  | some e=>(mc e).bind fun b=>if b then (me e).bind fun y=>if y.has Fl.isBor || y.has Fl.isLnt then .stuck else (compL g mc me env xs).bind fun ys=>.ok (y::ys) else compL g mc me env xs
def mComp (caps:List Nat) (k:Nat) (mi:MI) (g:TgM) (mc:MT) (me:ME):ME:=fun env=>(mi env).bind fun xs=>if xs.length ≤ 10000000 then (match compL g mc me (capE caps k env) xs with
 | .ok ys=>.ok (.lst .own ys)
 | _=>.stuck) else .stuck
end
section
variable {prog:Program}{w:World}{A:Around}{R:Result→Shared→Prop}{s:Shared}
theorem compLoop_any {elt target iter:Expr}{ifs:List Expr}{scope:Scope}{pos:Pos}{it acc:Value}{env:Env} (I:Nat→Shared→Prop)
  (turn:∀ n s,I n s→wpAny (model prog w) A (pyNext it) (fun r s₁=>match r with
   | none=>R (.ok .next) s₁
   | some v=>wpAny (model prog w) A (letOwnedTupleGo target it v) (fun _ s₁'=>wpAny (model prog w) A (assign target env v) (fun _ s₂ =>
     wpAny (model prog w) A (forIn ifs true fun c r=>if r=true then do let ok ← isTrue c env (eval c env);pure (ForInStep.yield ok) else pure (ForInStep.yield r)) (fun ok s₃ =>
      if ok=true then wpAny (model prog w) A (eval elt env) (fun x s₄ =>
       wpAny (model prog w) A (call (.builtin "list.append") [acc,x]) (fun _ s₅=>∃ m,m < n∧I m s₅) (notedBy (model prog w) A env fun e s'=>R (.error e) s') s₄) (notedBy (model prog w) A env fun e s'=>R (.error e) s') s₃
      else ∃ m,m < n∧I m s₃) (notedBy (model prog w) A env fun e s'=>R (.error e) s') s₂) (notedBy (model prog w) A env fun e s'=>R (.error e) s') s₁') (notedBy (model prog w) A env fun e s'=>R (.error e) s') s₁) (notedBy (model prog w) A env fun e s'=>R (.error e) s') s)
  (n:Nat) (h:I n s) :
  codeAny (model prog w) A (.compLoop (.ListComp elt [⟨target,iter,ifs,0⟩] scope pos) 0 it acc env) R s:=by
 refine codeAny_loop rfl I (fun n s hI=>?_) n h
 show wpAny _ A ((compTurn (.ListComp elt [⟨target,iter,ifs,0⟩] scope pos) 0 it acc env).onRaise (fun x=>do noteFrame x env;theTreesLotGoes x)) _ _ s
 refine wpAny_noted ?_
 rw [compTurn_list]
 refine wpAny_bind (wpAny_standAt (wpAny_bind (wpAny_mono (turn n s hI) (fun r s₁ h₁=>?_) fun _ _ h'=>h')))
 cases r with
 | none=>exact wpAny_pure h₁
 | some v =>
  refine wpAny_bind (wpAny_mono h₁ (fun _ s₁' h₁'=>?_) fun _ _ h'=>h')
  refine wpAny_bind (wpAny_mono h₁' (fun _ s₂ h₂=>wpAny_bind (wpAny_mono h₂ (fun ok s₃ h₃=>?_) fun _ _ h'=>h')) fun _ _ h'=>h')
  cases ok with
  | false=>exact wpAny_pure ⟨rfl,h₃⟩
  | true =>
   exact wpAny_bind (wpAny_bind (wpAny_mono h₃ (fun x s₄ h₄=>wpAny_bind (wpAny_mono h₄ (fun _ s₅ h₅=>wpAny_pure (wpAny_pure ⟨rfl,h₅⟩)) fun _ _ h'=>h')) fun _ _ h'=>h'))
end
end PR
namespace L2
open PySem PySem.Spec
end L2
namespace PR
open PySem PySem.Spec L2
section
variable {X:Cx}{T:Tb}{W:Nat→St→Hp→Prop}{Z:Zn}{F F1 B L:Addr→Prop}{H H1:Hp}{σ:St}{env:En}{fp:Nat→List Addr}{D:Ends}
theorem StRel.wk {e2:En} (S:StRel T Z F H σ env fp) (hpin:Z.pin=none) (hl:e2.length=env.length) (h:∀ (i:Nat) pv,e2[i]?=some (some pv)→env[i]?=some (some pv)):StRel T Z F H σ e2 fp :=
 ⟨S.hp,S.len.trans hl.symm,fun i pv e=>S.rel i pv (h i pv e),S.nd,S.dj,S.dis,S.new,S.ch,fun v hv=>by rw [hpin] at hv;cases hv⟩
theorem StRel.noOwn (S:StRel T Z F H σ env fp) (h:∀ (i:Nat) pv,env[i]?=some (some pv)→pv.has Fl.isOwn=false):StRel T Z F H σ env (fun _=>[]) :=
 ⟨S.hp,S.len,fun i pv e=>by
  obtain ⟨v,h1,h2⟩:=S.rel i pv e
  have:=Rel.noOwn (h i pv e) h2
  rw [this] at h2
  exact ⟨v,h1,h2⟩,fun _=>List.nodup_nil,fun _ _ _ _ z=>(nomatch z),fun _ _ z=>(nomatch z),fun _ _ z=>(nomatch z),fun _ _ z=>(nomatch z),S.pn⟩
theorem StRel.updD {Dd:Addr}{o o':HO} (S:StRel T Z F H σ env (fun _=>[])) (hF:¬ F Dd) (h0:Z.H0 Dd=none) (hD:H Dd=some o) (hfx:¬ isFix o):StRel T Z F (upd H Dd o') σ env (fun _=>[]):=by
 have ne:∀ a u,H a=some u→(F a ∨ Z.B a ∨ NoL a ∨ isFix u)→a ≠ Dd:=fun a u e h z=>by
  subst z
  rcases h with h | h | h | h
  ·exact hF h
  ·obtain ⟨⟨u',e'⟩,_⟩:=S.hp.bo _ h
   rw [h0] at e';cases e'
  ·exact h
  ·rw [hD] at e;cases e;exact hfx h
 refine ⟨⟨S.hp.bo,fun a u e n=>?_,S.hp.f0,S.hp.fn,fun a h=>?_⟩,S.len,fun i pv e=>?_,S.nd,S.dj,fun _ _ z=>(nomatch z),S.new,fun _ _ z=>(nomatch z),S.pn⟩
 ·have:a ≠ Dd:=fun z=>by rw [z,h0] at e;cases e
  rw [upd_ne this]
  exact S.hp.keep a u e n
 ·obtain ⟨u,e⟩:=S.hp.ft a h
  exact ⟨u,by rw [upd_ne (show a ≠ Dd from fun z=>hF (by rw [← z];exact h))];exact e⟩
 ·obtain ⟨v,h1,h2⟩:=S.rel i pv e
  refine ⟨v,h1,Rel.tr (fun _ h=>h) (fun _ h=>h) (fun _ h=>h) (fun a u q h=>?_) (fun _ z=>(nomatch z)) h2⟩
  rw [upd_ne (ne a u q h)]
  exact q
def zC (F:Addr→Prop) (H:Hp):Zn:=⟨H,F,fun _=>False,fun a=>∃ o,H a=some o,none⟩
theorem cap_start {caps:List Nat}{k:Nat}{Dd:Addr} (S:StRel T Z F H σ env fp) (hD:H Dd=none) (hFD:¬ F Dd) :
  StRel T (zC F H) F (upd H Dd (.lst [])) (capS caps k σ) (capE caps k env) (fun _=>[]):=by
 have ext:Ext H (upd H Dd (.lst [])):=Ext.upd hD
 refine ⟨⟨fun a h=>⟨h,fun z=>z⟩,fun a o h _=>ext a o h,fun _ h=>h,fun _ h=>.inl h,fun a h=>let ⟨o,e⟩:=S.hp.ft a h;⟨o,ext a o e⟩⟩,by simp [capS,capE],fun i pv e=>?_,fun _=>List.nodup_nil,fun _ _ _ _ z=>(nomatch z),fun _ _ z=>(nomatch z),fun _ _ z=>(nomatch z),fun _ _ z=>(nomatch z),fun _ h=>(nomatch h)⟩
 unfold capE at e
 unfold capS
 by_cases hi:i < caps.length
 ·rw [List.getElem?_append_left (by simpa using hi),List.getElem?_map] at e ⊢
  obtain ⟨j,hj,e2⟩:=Option.map_eq_some_iff.mp e
  rw [hj]
  obtain ⟨pv0,e3,rfl⟩:=Option.map_eq_some_iff.mp e2
  have e4:env[j]?=some (some pv0):=by
   cases e5:env[j]? with
   | none=>rw [e5] at e3;cases e3
   | some w=>rw [e5] at e3;simp only [Option.join_some] at e3;rw [e3]
  obtain ⟨v,h1,h2⟩:=S.rel j pv0 e4
  refine ⟨v,by simp [h1],?_⟩
  refine Rel.borrow (B:=fun a=>∃ o,H a=some o) (L:=NoL) (fun _ h=>h) (fun _ h=>h.elim) (fun a ha=>(S.dis j a ha).2) ?_
  exact Rel.tr (fun _ h=>h) (fun a h=>let ⟨⟨o,h1⟩,h2⟩:=S.hp.bo a h;⟨o,S.hp.keep a o h1 h2⟩) (fun _ h=>h) (fun a o q _=>ext a o q) (fun a _ o q=>ext a o q) h2
 ·rw [List.getElem?_append_right (by simpa using hi),List.getElem?_replicate] at e
  split at e <;> cases e
set_option maxHeartbeats 1000000 in
theorem comp_core {elt iter tg:Expr}{ifs:List Expr}{scope:Scope}{pos p':Pos}{caps:List Nat}{N tn:List Str}{mi:MI}{g:TgM}{mc:MT}{me:ME}
  (cs:CompScope X scope caps N tn) (hc:X.calm=true) (hi:SIc X T W tg iter mi) (hk:TgKeep g caps.length)
  (hb:∀ C s H ex,SG (cxC X scope C N s H ex) T tg g∧STs (cxC X scope C N s H ex) T WF ifs mc∧SE (cxC X scope C N s H ex) T WF elt me)
  (hs:∀ x,foldedSetIterable iter X.env x=pure x) {pins:List (Addr × Obj)}{s:Shared}{Q:VK}{use:Option (Value→Sem Unit)}{Q':Value→Shared→Prop} (I:L2.Inv X pins σ H s) (h:tE T W (mComp caps tn.length mi g mc me) σ H Q)
  (hfin:∀ (Dd C:Addr) (H':Hp) (s6:Shared) (m:Str→Option Value),Q (.ref Dd) H'→L2.Inv X pins σ H' s6→s6.heap.Ns C m→H' C=none→C ≠ X.env.locals→C ∉ X.fs→X.s₀.heap.objs.size ≤ C→(∀ x c,X.env.cells.lookup x=some c→c ≠ C)→(∀ p ∈ X.pn ++ pins,p.1 ≠ C)→compPost (model X.prog X.w) X.A X.xe use Q' (.ref Dd) C (.ok .next) s6) :
  wpAny (model X.prog X.w) X.A (comprehension (.ListComp elt [⟨tg,iter,ifs,0⟩] scope pos) scope X.env p' (newList []) false (eval iter X.env) use) Q' X.xe s:=by
 obtain ⟨Z,F,env,fp,S,q⟩:=h
 unfold mComp at q
 refine wpAny_comprehension_free (use:=use) rfl hs (closureFor_eq fun y hy hf=>I.ok.has y.1 (cs.free y hy hf)) cs.kind cs.names ?_
 refine thn (hi pins s σ H (fun J H1=>∃ F1 xs,mi env=.ok xs∧Gr F H F1 H1∧ItC T F1 Z.B (Own fp) H1 J xs) I ⟨Z,F,env,fp,S,?_⟩) fun xv s1 h1=>thn h1 fun itv s2 h2=>?_
 ·cases em:mi env with
  | ok xs=>exact fun J H1 F1 g1 it=>⟨F1,xs,rfl,g1,it⟩
  | exc c=>rw [em] at q;exact q
  | stuck=>rw [em] at q;exact q
 obtain ⟨it,fpi,tn_,J,H2,rfl,I2,Tn,st2,f2,F1,xs,em,g1,itc⟩:=h2
 rw [em] at q
 simp only [Res.ok_bind] at q
 split at q
 case isFalse=>exact q.elim
 rename_i hlen
 cases ec:compL g mc me (capE caps tn.length env) xs with
 | exc c=>rw [ec] at q;exact q.elim
 | stuck=>rw [ec] at q;exact q.elim
 | ok full =>
 rw [ec] at q
 dsimp only at q
 have S2:=S.grow g1
 have hlt:∀ b ∈ fpi,b < s2.heap.objs.size:=fun b hb=>by
  obtain ⟨o,ho,_⟩:=Tn.obj 0 _ st2 b hb
  exact Heap.lt_size ho
 refine PySem.wpAny_newObj_type (wpAny_newFunctionEnv cs.ncell (by intro y hy;simp at hy) (fun h₁ hns₁ hsb₁=>?_) cs.kind)
 dsimp only at hns₁ hsb₁ ⊢
 generalize hH2:s2.heap.push { cls:=.type "list", dict:=none,data:=.seq ([]:List Value).toArray }=P2 at hns₁ hsb₁ ⊢
 have hC:P2.objs.size=s2.heap.objs.size+1:=by rw [← hH2,Heap.size_push]
 have old:∀ b o,s2.heap.get? b=some o→h₁.get? b=some o:=fun b o e=>by
  have ne:b ≠ P2.objs.size:=by rw [hC];exact Nat.ne_of_lt (Nat.lt_succ_of_lt (Heap.lt_size e))
  exact hsb₁.extBut b o ne (Heap.get?_push_of_some _ (hH2 ▸ Heap.get?_push_of_some _ e))
 have hDn:s2.heap.objs.size ≠ P2.objs.size:=by rw [hC];exact Nat.ne_of_lt (Nat.lt_succ_self _)
 have hDo:h₁.get? s2.heap.objs.size=some { cls:=.type "list", data:=.seq ([]:List Value).toArray }:=hsb₁.extBut _ _ hDn (Heap.get?_push_of_some _ (hH2 ▸ Heap.get?_push_size _ rfl))
 rw [hC] at hns₁
 have inv0:=inv_comp (t:=s2.toks+([]:List (Str × Value)).length) cs I2 f2 hlt hns₁ hDo old
 have hDH:H2 s2.heap.objs.size=none:=I2.hok.fresh (Nat.le_refl _)
 have hDF:¬ F1 s2.heap.objs.size:=fun z=>by obtain ⟨o,e⟩:=g1.dom _ z;rw [hDH] at e;cases e
 have SB:=cap_start (caps:=caps) (k:=tn.length) S2 hDH hDF
 obtain ⟨hgN,hts,hel⟩:=hb (s2.heap.objs.size+1) s2 H2 fpi
 have never:∀ {α:Type}{t:Sem α}{Qa:α→Shared→Prop}{E':Value→Shared→Prop}{s':Shared},wpAny (model X.prog X.w) X.A t Qa (fun _ _=>False) s'→wpAny (model X.prog X.w) X.A t Qa E' s':=fun h=>wpAny_mono h (fun _ _ x=>x) fun _ _ z=>z.elim
 have fpok:∀ {H':Hp}{pins':List (Addr × Obj)},(∀ p ∈ pins',p.1 ∉ fpi)→(∀ b ∈ fpi,H' b=none)→∀ b ∈ fpi,FpOk (cxC X scope (s2.heap.objs.size+1) N s2 H2 fpi) pins' H' b:=fun {H' pins'} hp hn b hb=>by
  refine ⟨hn b hb,Nat.ne_of_lt (Nat.lt_succ_of_lt (hlt b hb)),(cxC_ok cs I2 f2 hlt (Nat.le_succ _)).exfs b hb,.inl hb,((cxC_ok cs I2 f2 hlt (Nat.le_succ _)).exf b hb).2,fun p hp' z=>?_⟩
  rcases List.mem_append.mp hp' with w | w
  ·exact absurd (show p ∈ ([]:List (Addr × Obj)) from w) (by simp)
  ·exact hp p w (z ▸ hb)
 have key:∀ s4:Shared,L2.Inv (cxC X scope (s2.heap.objs.size+1) N s2 H2 fpi) [] (capS caps tn.length σ) (upd H2 s2.heap.objs.size (.lst [])) s4→tn_ 0 s4.heap →
   codeAny (model X.prog X.w) X.A (.compLoop (.ListComp elt [⟨tg,iter,ifs,0⟩] scope pos) 0 (.ref it) (.ref s2.heap.objs.size) (compEnvC scope (clOf X.env.cells scope.names []) (s2.heap.objs.size+1) X.env))
    (compPost (model X.prog X.w) X.A X.xe use Q' (.ref s2.heap.objs.size) (s2.heap.objs.size+1)) s4:=by
  intro s4 inv4 st4
  refine compLoop_any (fun n s'=>∃ (i:Nat) (σ':St) (H':Hp) (Fi:Addr→Prop) (ys zs:List PV) (vs:List V) (f:List Addr),n=xs.length - i∧i ≤ xs.length∧L2.Inv (cxC X scope (s2.heap.objs.size+1) N s2 H2 fpi) [] σ' H' s'∧tn_ i s'.heap∧(∀ b ∈ fpi,H' b=none) ∧
   StRel T (zC F1 H2) Fi H' σ' (capE caps tn.length env) (fun _=>[])∧H' s2.heap.objs.size=some (.lst vs)∧RelL T Fi Z.B (Own fp) H' ys vs f∧f.Nodup∧(∀ a ∈ f,¬ Fi a∧H2 a=none∧a ≠ s2.heap.objs.size)∧¬ Fi s2.heap.objs.size∧ys.length ≤ i ∧
   compL g mc me (capE caps tn.length env) (xs.drop i)=.ok zs∧full=ys ++ zs) ?_ xs.length ?_
  case refine_2 =>
   refine ⟨0,_,_,F1,[],full,[],[],by simp,Nat.zero_le _,inv4,st4,fun b hb=>?_,SB,upd_same,by unfold RelL;exact ⟨rfl,rfl⟩,List.nodup_nil,fun _ z=>(nomatch z),hDF,Nat.zero_le _,ec,rfl⟩
   rw [upd_ne (Nat.ne_of_lt (hlt b hb))]
   exact (f2 b hb).1
  rintro n s5 ⟨i,σ',H',Fi,ys,zs,vs,f,rfl,hil,inv5,st5,fr5,SI5,hD5,ry,nd5,nf5,nFD,hyl,ecl,efull⟩
  have ext5:Ext H2 H':=fun a o e=>SI5.hp.keep a o e fun z=>z
  have gr5:Gr F1 H2 Fi H':=⟨ext5,SI5.hp.f0,fun a h=>by
   rcases SI5.hp.fn a h with z | z | z
   ·exact .inl z
   ·exact .inr z
   ·exact z.elim,SI5.hp.ft⟩
  obtain ⟨go,stop⟩:=itc H' ext5
  by_cases hlt5:i < xs.length
  ·have hx:xs[i]?=some xs[i]:=by simp [hlt5]
   obtain ⟨g5,yl⟩:=go i _ hx
   rw [List.drop_eq_getElem_cons hlt5] at ecl
   unfold compL at ecl
   cases eg:g xs[i].borrow (capE caps tn.length env) with
   | none=>rw [eg] at ecl;cases ecl
   | some e' =>
   rw [eg] at ecl
   dsimp only at ecl
   refine thn (Tn.item (cxC X scope (s2.heap.objs.size+1) N s2 H2 fpi) rfl rfl rfl hc i [] s5 σ' H' _ inv5 (fpok (fun _ z=>absurd z (by simp)) fr5) st5 g5) fun r s6 ⟨u,hr,h6⟩=>?_
   subst hr
   refine thn h6 fun _ s7 ⟨v,H7,inv7,rv,yy,st7,fr7⟩=>?_
   obtain ⟨ex7,fx,tx,rx⟩:=yl v H7 yy
   replace SI5:=SI5.grow (Gr.same SI5.hp.ft ex7)
   replace ry:=ry.ext ex7 fun _ h=>h
   replace hD5:=ex7 _ _ hD5
   replace gr5:=gr5.trans (Gr.same gr5.dom ex7)
   replace ext5:=gr5.ext
   have pinv:=inv7.pinned (fpok (fun _ z=>absurd z (by simp)) fr7) (Tn.obj _ _ st7)
   have rxb:Rel T Fi (zC F1 H2).B NoL H7 xs[i].borrow v []:=by
    refine Rel.borrow (B:=fun a=>∃ o,H2 a=some o) (L:=Own fp) (fun _ h=>h) (fun a ⟨j,hj⟩=>(S2.dis j a hj).2) (fun a ha=>tx a ha) ?_
    exact Rel.tr SI5.hp.f0 (fun a h=>let ⟨⟨o,h1⟩,h2⟩:=S2.hp.bo a h;⟨o,S2.hp.keep a o h1 h2⟩) (fun _ h=>h) (fun a o q _=>q) (fun a _ o q=>q) rx
   refine never (thn (hgN _ s7 σ' H7 v u (fun σ8 H8=>H8=H7∧∃ fp8,StRel T (zC F1 H2) Fi H7 σ8 e' fp8) pinv rv ⟨zC F1 H2,Fi,capE caps tn.length env,fun _=>[],xs[i].borrow,[],SI5,rxb,Free.nil,?_⟩) fun _ s8 ⟨σ8,H8,inv8,e8,fp8,S8⟩=>?_)
   ·rw [eg]
    exact fun σ8 fp8 S8=>⟨rfl,fp8,S8⟩
   subst e8
   obtain ⟨kl,kk⟩:=hk.keep _ _ _ eg
   have capOwn:∀ (j:Nat) pv,(capE caps tn.length env)[j]?=some (some pv)→pv.has Fl.isOwn=false:=fun j pv ej=>by
    unfold capE at ej
    by_cases hj:j < caps.length
    ·rw [List.getElem?_append_left (by simpa using hj),List.getElem?_map] at ej
     obtain ⟨jj,_,e2⟩:=Option.map_eq_some_iff.mp ej
     obtain ⟨pv0,_,rfl⟩:=Option.map_eq_some_iff.mp e2
     exact borrow_own pv0
    ·rw [List.getElem?_append_right (by simpa using hj),List.getElem?_replicate] at ej
     split at ej <;> cases ej
   have S8':StRel T (zC F1 H2) Fi H8 σ8 e' (fun _=>[]):=S8.noOwn fun j pv ej=>by
    rcases hk.own _ _ _ eg (borrow_own _) j pv ej with z | z
    ·exact capOwn j pv z
    ·exact z
   have back:∀ {F9:Addr→Prop}{H9:Hp},StRel T (zC F1 H2) F9 H9 σ8 e' (fun _=>[])→StRel T (zC F1 H2) F9 H9 σ8 (capE caps tn.length env) (fun _=>[]):=fun S9=>S9.wk rfl kl.symm fun j pv ej=>by
    have hj:j < caps.length:=by
     by_cases hj:j < caps.length
     ·exact hj
     ·unfold capE at ej
      rw [List.getElem?_append_right (by simpa using hj),List.getElem?_replicate] at ej
      split at ej <;> cases ej
    rw [kk j hj]
    exact ej
   have pinback:∀ {H9:Hp}{s9:Shared},L2.Inv (cxC X scope (s2.heap.objs.size+1) N s2 H2 fpi) ([] ++ pinsAt fpi s7.heap) σ8 H9 s9→L2.Inv (cxC X scope (s2.heap.objs.size+1) N s2 H2 fpi) [] σ8 H9 s9∧tn_ (i+1) s9.heap∧∀ b ∈ fpi,H9 b=none:=fun {H9 s9} i9 =>
    ⟨i9.unpinned,Tn.keep _ _ _ st7 fun b hb o e=>(i9.pin (b,o) (List.mem_append_right _ (List.mem_append_right _ (mem_pinsAt hb e)))).1,fun b hb=>by
     obtain ⟨o,e,_⟩:=Tn.obj _ _ st7 b hb
     exact (i9.pin (b,o) (List.mem_append_right _ (List.mem_append_right _ (mem_pinsAt hb e)))).2.1⟩
   cases emc:mc e' with
   | exc c=>rw [emc] at ecl;cases ecl
   | stuck=>rw [emc] at ecl;cases ecl
   | ok bb =>
   rw [emc] at ecl
   simp only [Res.ok_bind] at ecl
   refine never (thn (hts _ s8 σ8 H8 (fun b H9=>b=bb∧∃ F9,Gr Fi H8 F9 H9) inv8 ⟨zC F1 H2,Fi,e',fun _=>[],S8',?_⟩) fun ok s9 ⟨H9,inv9,eb,F9,g9⟩=>?_)
   ·rw [emc]
    exact fun H9 F9 g9=>⟨rfl,F9,g9⟩
   subst eb
   have S9:=S8'.grow g9
   have ry9:=ry.ext g9.ext g9.mono
   have nf9:∀ a ∈ f,¬ F9 a:=fun a ha z=>by
    rcases g9.only a z with z | z
    ·exact (nf5 a ha).1 z
    ·obtain ⟨o,e⟩:=ry.there a ha
     rw [e] at z;cases z
   have nFD9:¬ F9 s2.heap.objs.size:=fun z=>by
    rcases g9.only _ z with z | z
    ·exact nFD z
    ·rw [hD5] at z;cases z
   cases ok with
   | false =>
    simp only [Bool.false_eq_true,if_false] at ecl ⊢
    obtain ⟨i10,st10,fr10⟩:=pinback inv9
    exact ⟨xs.length - (i+1),by omega,i+1,σ8,H9,F9,ys,zs,vs,f,rfl,hlt5,i10,st10,fr10,back S9,g9.ext _ _ hD5,ry9,nd5,fun a ha=>⟨nf9 a ha,(nf5 a ha).2⟩,nFD9,by omega,ecl,efull⟩
   | true =>
    simp only [if_true] at ecl ⊢
    cases eme:me e' with
    | exc c=>rw [eme] at ecl;cases ecl
    | stuck=>rw [eme] at ecl;cases ecl
    | ok y =>
    rw [eme] at ecl
    simp only [Res.ok_bind] at ecl
    split at ecl
    case isTrue=>cases ecl
    rename_i hyb
    simp only [Bool.or_eq_true,not_or,Bool.not_eq_true] at hyb
    cases ecr:compL g mc me (capE caps tn.length env) (xs.drop (i+1)) with
    | exc c=>rw [ecr] at ecl;cases ecl
    | stuck=>rw [ecr] at ecl;cases ecl
    | ok zs' =>
    rw [ecr] at ecl
    simp only [Res.ok_bind] at ecl
    cases ecl
    refine never (thn (hel _ s9 σ8 H9 (fun v' H10=>∃ F10 f10,Gr F9 H9 F10 H10∧Rel T F10 (zC F1 H2).B (Own fun _=>[]) H10 y v' f10∧(∀ a ∈ f10,¬ F10 a)∧f10.Nodup∧∀ a ∈ f10,H9 a=none) inv9 ⟨zC F1 H2,F9,e',fun _=>[],S9,?_⟩) fun w s10 ⟨v',H10,inv10,rw10,F10,f10,g10,r10,n10,d10,w10⟩=>?_)
    ·rw [eme]
     exact fun v' H10 F10 f10 g10 r10 n10 d10 w10=>⟨F10,f10,g10,r10,n10,d10,w10⟩
    have hvl:vs.length < sizeLine:=by
     have h1:=ry.length
     have h2:sizeLine=16777216:=sizeLine_eq
     omega
    have hD10:H10 s2.heap.objs.size=some (.lst vs):=g10.ext _ _ (g9.ext _ _ hD5)
    refine never (thn (mt_append _ s10 σ8 H10 (.ref s2.heap.objs.size) [v'] (.ref s2.heap.objs.size) [w] (fun _ H11=>H11=upd H10 s2.heap.objs.size (.lst (vs ++ [v']))) inv10 rfl (.cons rw10 .nil) ⟨s2.heap.objs.size,vs,v',rfl,rfl,hD10,hvl,rfl⟩) fun _ s11 ⟨_,H11,inv11,_,e11⟩=>?_)
    subst e11
    obtain ⟨i12,st12,fr12⟩:=pinback inv11
    have S10:=S9.grow g10
    have nFD10:¬ F10 s2.heap.objs.size:=fun z=>by
     rcases g10.only _ z with z | z
     ·exact nFD9 z
     ·rw [g9.ext _ _ hD5] at z;cases z
    have ry10:=ry9.ext g10.ext g10.mono
    have ryy:RelL T F10 Z.B (Own fp) (upd H10 s2.heap.objs.size (.lst (vs ++ [v']))) (ys ++ [y]) (vs ++ [v']) (f ++ f10):=by
     have ry1:Rel T F10 Z.B (Own fp) H10 y v' f10:=Rel.noL hyb.2 (Rel.noB (B':=Z.B) hyb.1 r10)
     have all:RelL T F10 Z.B (Own fp) H10 (ys ++ [y]) (vs ++ [v']) (f ++ f10):=RelL.append ry10 (by unfold RelL;exact ⟨v',[],f10,[],rfl,ry1,by unfold RelL;exact ⟨rfl,rfl⟩,by simp⟩)
     refine RelL.tr (fun _ h=>h) (fun _ h=>h) (fun _ h=>h) (fun a o e h=>?_) (fun a ha o e=>?_) all
     ·refine (upd_ne fun z=>?_).trans e
      subst z
      rcases h with h | h | h | h
      ·exact nFD10 h
      ·obtain ⟨⟨o',h1⟩,h2⟩:=S2.hp.bo _ h
       rw [S2.hp.keep _ o' h1 h2] at hDH;cases hDH
      ·obtain ⟨j,hj⟩:=h
       obtain ⟨_,o',ho'⟩:=S2.dis j _ hj
       rw [hDH] at ho';cases ho'
      ·rw [hD10] at e;cases e;exact h
     ·refine (upd_ne fun z=>?_).trans e
      subst z
      rcases List.mem_append.mp ha with ha | ha
      ·exact (nf5 _ ha).2.2 rfl
      ·have:=w10 _ ha
       rw [g9.ext _ _ hD5] at this;cases this
    have nf10:∀ a ∈ f,¬ F10 a:=fun a ha z=>by
     rcases g10.only a z with z | z
     ·exact nf9 a ha z
     ·obtain ⟨o,e⟩:=ry9.there a ha
      rw [e] at z;cases z
    refine ⟨xs.length - (i+1),by omega,i+1,σ8,_,F10,ys ++ [y],zs',vs ++ [v'],f ++ f10,rfl,hlt5,i12,st12,fr12,back (S10.updD nFD10 hDH hD10 (fun z=>z)),upd_same,ryy,?_,fun a ha=>?_,nFD10,by simp;omega,ecr,by rw [efull,List.append_assoc];rfl⟩
    ·refine List.nodup_append.mpr ⟨nd5,d10,fun a ha b hb z=>?_⟩
     subst z
     obtain ⟨o,e⟩:=ry9.there a ha
     rw [w10 a hb] at e;cases e
    ·rcases List.mem_append.mp ha with ha | ha
     ·exact ⟨nf10 a ha,(nf5 a ha).2⟩
     ·refine ⟨n10 a ha,?_,fun z=>?_⟩
      ·have:=w10 a ha
       exact ext5.free (g9.ext.free this)
      ·subst z
       have:=w10 _ ha
       rw [g9.ext _ _ hD5] at this;cases this
  ·have e:i=xs.length:=by omega
   subst e
   rw [List.drop_length] at ecl
   unfold compL at ecl
   cases ecl
   rw [List.append_nil] at efull
   subst efull
   refine thn (Tn.done (cxC X scope (s2.heap.objs.size+1) N s2 H2 fpi) rfl rfl rfl hc xs.length [] s5 σ' H' _ inv5 (fpok (fun _ z=>absurd z (by simp)) fr5) st5 stop) fun r s6 ⟨hr,inv6⟩=>?_
   subst hr
   obtain ⟨m,hn,_⟩:=id inv6.loc
   have hlc:X.env.locals < s2.heap.objs.size+1:=Nat.lt_succ_of_lt I2.lt
   have iX:L2.Inv X pins σ H' s6:=I2.call' inv6.os inv6.base inv6.hok inv6.bare fun b hb=>⟨(f2 b hb).2.2.2.1,(f2 b hb).2.1,(f2 b hb).2.2.2.2.1,(f2 b hb).2.2.2.2.2⟩
   refine hfin _ (s2.heap.objs.size+1) H' s6 m ?_ iX hn inv6.free (Nat.ne_of_gt hlc) (I2.nofs (Nat.le_succ _)) (Nat.le_trans I2.sz (Nat.le_succ _)) (fun x c e z=>?_) (fun p hp z=>?_)
   case refine_2 =>
    obtain ⟨v,hv⟩:=I2.cell x c e
    rw [z] at hv
    exact absurd hv.lt (Nat.not_lt.mpr (Nat.le_succ _))
   case refine_3 =>
    have:=Heap.lt_size (I2.pin p hp).1
    rw [z] at this
    exact absurd this (Nat.not_lt.mpr (Nat.le_succ _))
   refine q (.ref s2.heap.objs.size) H' Fi (s2.heap.objs.size::f) (g1.trans gr5) ?_ (fun a ha=>?_) ?_ (fun a ha=>?_)
   ·unfold Rel
    exact ⟨_,vs,f,rfl,hD5,ry,rfl⟩
   ·rcases List.mem_cons.mp ha with rfl | ha
    ·exact nFD
    ·exact (nf5 a ha).1
   ·exact List.nodup_cons.mpr ⟨fun z=>(nf5 _ z).2.2 rfl,nd5⟩
   ·rcases List.mem_cons.mp ha with rfl | ha
    ·exact g1.ext.free hDH
    ·exact g1.ext.free (nf5 a ha).2.1
 have st0:tn_ 0 h₁:=Tn.keep _ _ _ st2 fun b _ o e=>old b o e
 have lp:=key _ inv0 st0
 simp only [hC]
 exact codeAny_compStart_list lp (Tn.self _ 0 _ _ _ st0 lp)
theorem se_comp {elt iter tg:Expr}{ifs:List Expr}{scope:Scope}{pos:Pos}{caps:List Nat}{N tn:List Str}{mi:MI}{g:TgM}{mc:MT}{me:ME}
  (cs:CompScope X scope caps N tn) (hc:X.calm=true) (hi:SIc X T W tg iter mi) (hk:TgKeep g caps.length)
  (hb:∀ C s H ex,SG (cxC X scope C N s H ex) T tg g∧STs (cxC X scope C N s H ex) T WF ifs mc∧SE (cxC X scope C N s H ex) T WF elt me)
  (hs:∀ x,foldedSetIterable iter X.env x=pure x:=by intro _;rfl):SE X T W (.ListComp elt [⟨tg,iter,ifs,0⟩] scope pos) (mComp caps tn.length mi g mc me):=by
 intro pins s σ H Q I h
 rw [eval_ListComp]
 refine comp_core cs hc hi hk hb hs I h fun Dd C H' s6 m hq iX hn hCn hCl hCf hC0 hCc hCp=>⟨m,hn,fun h' hs'=>⟨.ref Dd,H',?_,rfl,hq⟩⟩
 exact iX.turned (t':=s6.toks) (fun b o hb e=>(hs'.2 b hb).trans e) hCn hCl (.inr hC0) hCc hCp
theorem ss_setC {i:Nat}{y:Str}{elt iter tg:Expr}{ifs:List Expr}{scope:Scope}{pos py spos:Pos}{caps:List Nat}{N tn:List Str}{mi:MI}{g:TgM}{mc:MT}{me:ME}
  (cs:CompScope X scope caps N tn) (hc:X.calm=true) (hN:X.N.Nodup) (hy:X.N[i]?=some y) (hx:Loc X.env.scope y) (hi:SIc X T W tg iter mi) (hk:TgKeep g caps.length)
  (hb:∀ C s H ex,SG (cxC X scope C N s H ex) T tg g∧STs (cxC X scope C N s H ex) T WF ifs mc∧SE (cxC X scope C N s H ex) T WF elt me)
  (hsw:swapsWith (.ListComp elt [⟨tg,iter,ifs,0⟩] scope pos) (some (.Name y py)) spos.line X.env=pure true:=by rfl)
  (hs:∀ x,foldedSetIterable iter X.env x=pure x:=by intro _;rfl)
  (hf:X.fn y=true ∨ X.env.scope.names.lookup y=some .local:=by first | exact .inl rfl | exact .inr rfl | assumption) :
  SS X T W (.Assign [.Name y py] (.ListComp elt [⟨tg,iter,ifs,0⟩] scope pos) spos) (mSet i (mComp caps tn.length mi g mc me)):=by
 intro pins s σ H D I h
 obtain ⟨Z,F,env,fp,S,q⟩:=h
 unfold mSet at q
 rw [exec_Assign_Name_used _ _ _ _ hsw]
 refine wpAny_bind (wpAny_standAt (wpAny_bind ?_))
 show wpAny _ X.A (do let _ ← comprehension (.ListComp elt [⟨tg,iter,ifs,0⟩] scope pos) scope X.env _ (newList []) false (eval iter X.env) (some (assign (.Name y py) X.env))) _ _ s
 refine wpAny_bind (wpAny_mono (comp_core (use:=some (assign (.Name y py) X.env)) (Q':=fun _ s'=>SP X pins D .next s') (Q:=fun v H1=>D.nx (σ.set i (some v)) H1) cs hc hi hk hb hs I ?_ fun Dd C H' s6 m hq iX hn hCn hCl hCf hC0 hCc hCp=>?_) (fun _ s' hq=>wpAny_pure (wpAny_pure hq)) fun _ _ e=>e)
 ·refine tE.bind S (fun c e H' x=>?_) (fun e=>by rw [e] at q;exact q) fun pv v H1 F1 f e g r h1 h2 h3=>?_
  ·rw [e] at q
   exact q F H' σ fp (S.grow (Gr.same S.hp.ft x))
  ·rw [e] at q
   simp only at q
   split at q
   ·rename_i hl
    rw [Bool.and_eq_true] at hl
    exact q F1 H1 _ _ (S.putN g hl.2 r hl.1 h1 h2 h3)
   ·exact q.elim
 ·refine wpAny_assign_Name (store_ok2 (v:=.ref Dd) (u:=.ref Dd) iX hN hy hx rfl (fun s7 i7 ⟨a,hsa,ha⟩=>?_) hf)
  have hCa:C ≠ a:=by
   rcases ha with ha | ha
   ·rw [ha];exact hCl
   ·exact fun z=>hCc y a ha z.symm
  refine ⟨m,hn.sameBut hsa hCa,fun h' hs'=>⟨_,H',?_,hq⟩⟩
  exact i7.turned (t':=s7.toks) (fun b o hb e=>(hs'.2 b hb).trans e) hCn hCl (.inr hC0) hCc hCp
end
end PR
namespace PR
open PySem PySem.Spec L2
def GFI (T:Tb) (Z:Zn) (v0:V) (Q:VK) (E:XK):Res PV→Prop
 | .ok pv=>∀ F H f,HpRel T Z F H→Rel T F Z.B NoL H pv v0 f→f.Nodup→(∀ a ∈ f,¬ F a)→(∀ a ∈ f,Z.H0 a=none ∨ Z.fp0 a)→Q .non H
 | .exc c=>∀ H,(∀ a o,Z.H0 a=some o→¬ Z.fp0 a→H a=some o)→E (.ref (T.xcl c)) none H
 | .stuck=>False
def spI (T:Tb) (n:Nat) (m:List PV→Res PV):Sp:=fun vs H Q E=>vs.length=n∧∃ v0 pvs F B f,vs[0]?=some v0∧ArgR T F B H pvs vs f∧(∃ fl c ks xs,pvs[0]?=some (.obj fl c ks xs))∧GFI T ⟨H,F,(· ∈ f),B,some v0⟩ v0 Q E (m pvs)
def runI (n:Nat) (m:MS) (args:List PV):Res PV:=match m (args.map some ++ List.replicate (n - args.length) none) with
 | .next e=>match e[0]? with
  | some (some o)=>.ok o
  | _=>.stuck
 | .exc c _=>.exc c
 | _=>.stuck
section
variable {P:Program}{w:World}{K:PySem.W.Frag}{mg:Str→Option Value}{base:Heap}{T:Tb}
theorem fnI_ok {x qual:Str}{st:Stmt}{f:Addr}{fd:FuncData}{N ps:List Str}{k:Nat}{m:MS} (F:Fun K x qual st f fd) (S:FnScope N ps (defScope st))
  (body:∀ (cdv:Value) (A:Around) (outer:List Env) (s:Shared) (H:Hp) (E:XK),Room k (A.deeper (PyProof.Rows.envOfC qual (defScope st) s.heap.objs.size f cdv)) →
   SSs (cxOf (CXP P w) P w K mg base N qual (defScope st) f cdv A outer s H E) T (WD T E) (defBody st) m):FnOk P w K mg base (CXP P w) (k+1) f fd ps (spI T ps.length (runI N.length m)):=by
 obtain ⟨oc,od,kV,doc,pm,an,cdv,ct,osl,rfl,lk,hcd⟩:=F.ex
 refine fn_of lk hcd S (fun vs H Q E h=>h.1) fun A outer s H vs Q E hr hsp=>⟨_,body cdv A outer s H E hr,?_⟩
 obtain ⟨_,v0,pvs,F,B,fl,hv0,R,hob,q⟩:=hsp
 obtain ⟨fp,S0⟩:=arg_start N R (some v0) (fun v hv=>by cases hv;exact ⟨hv0,hob⟩)
 refine ⟨_,F,_,fp,S0,?_⟩
 unfold runI at q
 cases e:m (pvs.map some ++ List.replicate (N.length - pvs.length) none) with
 | next e' =>
  rw [e] at q
  dsimp only at q
  intro F' H' σ' fp' S'
  obtain ⟨h1,_⟩:=S'.pn v0 rfl
  cases e0:e'[0]? with
  | none=>rw [e0] at q;exact q.elim
  | some o0 =>
   cases o0 with
   | none=>rw [e0] at q;exact q.elim
   | some o =>
    rw [e0] at q
    obtain ⟨v,h2,r⟩:=S'.rel 0 o e0
    rw [h1] at h2
    cases h2
    exact q F' H' (fp' 0) S'.hp r (S'.nd 0) (fun a ha=>(S'.dis 0 a ha).1) (S'.new 0)
 | ret v=>rw [e] at q;exact q.elim
 | brk e'=>rw [e] at q;exact q.elim
 | cont e'=>rw [e] at q;exact q.elim
 | exc c e'=>rw [e] at q;exact fun F' H' σ' fp' S'=>q H' S'.hp.keep
 | stuck=>rw [e] at q;exact q.elim
end
section
variable {X:Cx}{T:Tb}{W:Nat→St→Hp→Prop}{Z:Zn}{F F1 B L:Addr→Prop}{H H1:Hp}{σ:St}{env:En}{fp:Nat→List Addr}{D:Ends}
theorem run_mk {k c:Nat}{f:Addr}{fd:FuncData}{ps:List Str}{m:List PV→Res PV}{xs:List PV}{vs:List V}{us ds:List Value}{fx:List Addr}{Q:VK}{pins:List (Addr × Obj)}{s1:Shared}{dvs:List V}{dps:List PV}
  (M:Mk X.K (T.cls c) f) (hcn:c < T.nc) (G:FnOk X.prog X.w X.K X.mg X.base (CXP X.prog X.w) k f fd ps (spI T ps.length m)) (hr:Room (k+1) X.A) (hb:Binds X.K fd ps ds) (hd:Vals dvs ds) (hdp:∀ F B L H,RelL T F B L H dps dvs []) (hx:XF X T W)
  (S:StRel T Z F H σ env fp) (g:Gr F H F1 H1) (r:RelL T F1 Z.B (Own fp) H1 xs vs fx) (nf:∀ a ∈ fx,¬ F1 a) (nd:fx.Nodup) (new:∀ a ∈ fx,H a=none) (q:GE T W Z.B F (Own fp) σ H Q (callR m (.obj .own c [] []::(xs ++ dps))))
  (I1:L2.Inv X pins σ H1 s1) (rv:Vals vs us) (hlen:vs.length+dvs.length+1=ps.length):wpAny (model X.prog X.w) X.A (call (.ref (T.cls c)) us) (EP X pins σ Q) X.xe s1:=by
 have hxn:H1 (s1.heap.objs.size+1)=none:=I1.hok.fresh (Nat.le_succ _)
 have hdn:H1 s1.heap.objs.size=none:=I1.hok.fresh (Nat.le_refl _)
 have hne:s1.heap.objs.size ≠ s1.heap.objs.size+1:=Nat.ne_of_lt (Nat.lt_succ_self _)
 generalize hH2:upd (upd H1 s1.heap.objs.size (.own (s1.heap.objs.size+1))) (s1.heap.objs.size+1) (.ins (T.cls c) s1.heap.objs.size [])=H2
 have ext2:Ext H1 H2:=by
  rw [← hH2]
  exact (Ext.upd hdn).trans (Ext.upd (by rw [upd_ne hne.symm];exact hxn))
 have free2:∀ a,H2 a=none→H1 a=none:=fun a h=>ext2.free h
 have hx2:H2 (s1.heap.objs.size+1)=some (.ins (T.cls c) s1.heap.objs.size []):=by rw [← hH2];exact upd_same
 have I2:=L2.Inv.made (C:=T.cls c) I1
 rw [hH2] at I2
 have r2:Vals (V.ref (s1.heap.objs.size+1)::(vs ++ dvs)) (Value.ref (s1.heap.objs.size+1)::(us ++ ds)):=.cons rfl (rv.append hd)
 have hl:(Value.ref (s1.heap.objs.size+1)::us ++ ds).length=ps.length:=by
  have e:=r2.length
  simp only [List.length_cons,List.length_append] at e hlen ⊢
  omega
 have rr:RelL T F1 Z.B (Own fp) H1 (xs ++ dps) (vs ++ dvs) fx:=by
  have:=RelL.append r (hdp F1 Z.B (Own fp) H1)
  rwa [List.append_nil] at this
 have nx:s1.heap.objs.size+1 ∉ fx:=fun z=>by
  obtain ⟨o,ho⟩:=r.there _ z
  rw [hxn] at ho;cases ho
 have hBo:∀ a,Z.B a→(∃ o,H2 a=some o)∧a ∉ (s1.heap.objs.size+1)::fx:=fun a h=>by
  obtain ⟨⟨o,h1⟩,h2⟩:=S.hp.bo a h
  have h3:=S.hp.keep a o h1 h2
  refine ⟨⟨o,ext2 a o (g.ext a o h3)⟩,fun z=>?_⟩
  rcases List.mem_cons.mp z with z | z
  ·rw [z] at h3;rw [g.ext _ _ h3] at hxn;cases hxn
  ·rw [new a z] at h3;cases h3
 have hOw:∀ a,Own fp a→(∃ o,H2 a=some o)∧a ∉ (s1.heap.objs.size+1)::fx:=fun a ⟨i,hi⟩=>by
  obtain ⟨_,o,ho⟩:=S.dis i a hi
  refine ⟨⟨o,ext2 a o (g.ext a o ho)⟩,fun z=>?_⟩
  rcases List.mem_cons.mp z with z | z
  ·rw [z] at ho;rw [g.ext _ _ ho] at hxn;cases hxn
  ·rw [new a z] at ho;cases ho
 have nF:¬ F1 (s1.heap.objs.size+1):=fun z=>by
  obtain ⟨o,ho⟩:=g.dom _ z
  rw [hxn] at ho;cases ho
 have R:ArgR T F1 (fun a=>(∃ o,H2 a=some o)∧a ∉ (s1.heap.objs.size+1)::fx) H2 (.obj .own c [] []::mapL Fl.toBor (xs ++ dps)) (.ref (s1.heap.objs.size+1)::(vs ++ dvs)) ((s1.heap.objs.size+1)::fx):=by
  refine ⟨?_,List.nodup_cons.mpr ⟨nx,nd⟩,fun a ha=>?_,fun a h=>h,fun a h=>let ⟨o,ho⟩:=g.dom a h;⟨o,ext2 a o ho⟩⟩
  ·unfold RelL
   refine ⟨_,_,[s1.heap.objs.size+1],fx,rfl,?_,RelL.toBor hBo hOw (rr.ext ext2 fun _ h=>h),rfl⟩
   unfold Rel
   exact ⟨_,s1.heap.objs.size,[],[],rfl,by simpa using hx2,⟨rfl,hcn⟩,by unfold RelL;exact ⟨rfl,rfl⟩,rfl,True.intro⟩
  ·rcases List.mem_cons.mp ha with rfl | ha
   ·exact nF
   ·exact nf a ha
 have newx:∀ a ∈ (s1.heap.objs.size+1)::fx,H a=none:=fun a ha=>by
  rcases List.mem_cons.mp ha with rfl | ha
  ·exact g.ext.free hxn
  ·exact new a ha
 refine wpAny_call (make_map (f:=f) I1.kIn M.makes M.init (beq_iff_eq.mp M.fn) (codeAny_mono (G.run _ X.stack _ _ ⟨Value.ref (s1.heap.objs.size+1)::us,[]⟩ (Value.ref (s1.heap.objs.size+1)::(us ++ ds)) _ (fun v H3=>v=.non∧Q (.ref (s1.heap.objs.size+1)) H3) (fun cls _ H'=>∃ c,cls=.ref (T.xcl c)∧W c σ H') (hr.make (T.cls c) us [])
  (I2.env0.make (T.cls c) us []) (hb _ (Value.ref (s1.heap.objs.size+1)::us) I2.kIn hl) r2 ⟨by rw [r2.length];exact hl,_,_,F1,_,_,rfl,R,⟨.own,c,[],[],rfl⟩,?_⟩) fun rs s' hq'=>?_))
 ·unfold callR at q
  have e0:mapL Fl.toBor (PV.obj .own c [] []::(xs ++ dps))=.obj .own c [] []::mapL Fl.toBor (xs ++ dps):=by simp [mapL,PV.mapF,Fl.toBor]
  rw [e0] at q
  cases e:m (.obj .own c [] []::mapL Fl.toBor (xs ++ dps)) with
  | ok v =>
   rw [e] at q
   dsimp only at q
   intro F3 H3 f3 hp3 r3 nd3 nf3 new3
   refine ⟨rfl,?_⟩
   by_cases hbr:v.has Fl.isBor=true
   ·rw [if_pos hbr] at q;exact q.elim
   ·rw [if_neg hbr] at q
    have hbr':v.has Fl.isBor=false:=by simpa using hbr
    refine q _ H3 F3 f3 ⟨fun a o h=>hp3.keep a o (ext2 a o (g.ext a o h)) fun z=>(by rw [newx a z] at h;cases h),fun a h=>hp3.f0 a (g.mono a h),fun a h=>?_,hp3.ft⟩ ?_ nf3 nd3 fun a ha=>?_
    ·rcases hp3.fn a h with z | z | z
     ·exact g.only a z
     ·exact .inr (g.ext.free (free2 a z))
     ·exact .inr (newx a z)
    ·exact Rel.tr (fun _ h=>h) (fun _ h=>h) (fun _ h=>h.elim) (fun _ _ h _=>h) (fun _ _ _ h=>h) (Rel.noB (B':=Z.B) hbr' r3)
    ·rcases new3 a ha with z | z
     ·exact g.ext.free (free2 a z)
     ·exact newx a z
  | exc c' =>
   rw [e] at q
   exact fun H' h=>⟨c',rfl,q H' fun a o z=>h a o (ext2 a o (g.ext a o z)) fun z'=>by rw [newx a z'] at z;cases z⟩
  | stuck=>rw [e] at q;exact q.elim
 ·cases rs with
  | error e =>
   obtain ⟨cls,H',fl,c',rfl,hw⟩:=hq'
   exact hx pins σ H2 _ c' H' e s' I2 fl hw
  | ok fl =>
   cases fl with
   | ret u =>
    obtain ⟨v,H',I3,rv',ev,q3⟩:=I2.after hq'
    subst ev
    exact ⟨rv',⟨V.ref (s1.heap.objs.size+1),H',I3,rfl,q3⟩⟩
   | next=>exact False.elim hq'
   | brk=>exact False.elim hq'
   | cont=>exact False.elim hq'
theorem se_make {k c:Nat}{f:Addr}{fd:FuncData}{ps:List Str}{m:List PV→Res PV}{x:Str}{p pos:Pos}{e:Expr}{es:List Expr}{ms:MA}{ds:List Value}{dvs:List V}{dps:List PV}{n:Nat}
  (M:Mk X.K (T.cls c) f) (hcn:c < T.nc) (G:FnOk X.prog X.w X.K X.mg X.base (CXP X.prog X.w) k f fd ps (spI T ps.length m)) (hr:Room (k+1) X.A) (hg:Gl X x) (hm:X.mg x=some (.ref (T.cls c))) (hb:Binds X.K fd ps ds) (hd:Vals dvs ds) (hdp:∀ F B L H,RelL T F B L H dps dvs []) (hx:XF X T W)
  (hn:LenA ms n) (hps:n+dvs.length+1=ps.length) (ha:SA X T W (e::es) ms)
  (hdb:(x == ("__debug__" : Str))=false:=by decide) (he:starEach (e::es) X.env=(false,eval e X.env)::starEach es X.env:=by rfl) (hpl:(backTo pos (starEach es X.env)).any (·.1)=false:=by rfl) :
  SE X T W (.Call (.Name x p) (e::es) [] pos) (mCall (fun xs=>callR m (.obj .own c [] []::(xs ++ dps))) ms):=by
 intro pins s σ H Q I h
 obtain ⟨Z,F,env,fp,S,q⟩:=h
 unfold mCall at q
 refine wpAny_Call_Name_kw (ld_glob I hg hm ?_ hdb)
 refine PySem.W.callWith_K (h₀:=X.base) I.ok.mod.kin M.kp (thn (ha pos pins s σ H (fun vs H1=>∀ us s1,L2.Inv X pins σ H1 s1→Vals vs us→wpAny (model X.prog X.w) X.A (call (.ref (T.cls c)) us) (EP X pins σ Q) X.xe s1) I
  (tA.bind S (fun c e=>by rw [e] at q;exact q) (fun e=>by rw [e] at q;exact q) fun xs vs H1 F1 f1 e1 g1 r1 n1 d1 w1 us s1 I1 rv=>?_)) fun us s1 ⟨vs,H1,I1,r,q1⟩=>⟨I1.kIn,q1 us s1 I1 r⟩) he hpl
 rw [e1] at q
 exact run_mk M hcn G hr hb hd hdp hx S g1 r1 n1 d1 w1 q I1 rv (by rw [← r1.length,hn env xs e1];exact hps)
theorem StRel.mut {i:Nat}{pv':PV}{v:V}{a:Addr}{f':List Addr}{o':HO} (S:StRel T Z F H σ env fp) (hi:i < env.length) (hv:σ[i]?=some (some v)) (ha:a ∈ fp i) (r:Rel T F Z.B NoL (upd H a o') pv' v f') (nd:f'.Nodup) (nf:∀ b ∈ f',¬ F b)
  (new:∀ b ∈ f',Z.H0 b=none ∨ Z.fp0 b) (dj:∀ b ∈ f',∀ j,j ≠ i→b ∉ fp j) (ho:i=0→isObj0 env=true→∃ fl c ks xs,pv'=.obj fl c ks xs):StRel T Z F (upd H a o') σ (env.set i (some pv')) (fput fp i f'):=by
 obtain ⟨oa,hoa,hch⟩:=S.ch i a ha
 have nFa:¬ F a:=(S.dis i a ha).1
 have nBa:¬ Z.B a:=fun z=>S.bow a z ⟨i,ha⟩
 have ne:∀ b u,H b=some u→(F b ∨ Z.B b ∨ NoL b ∨ isFix u)→b ≠ a:=fun b u e h z=>by
  subst z
  rcases h with h | h | h | h
  ·exact nFa h
  ·exact nBa h
  ·exact h
  ·rw [hoa] at e
   cases e
   cases oa with
   | lst _=>exact h
   | ins _ _ _=>exact h
   | _=>exact hch
 have nz:∀ b u,Z.H0 b=some u→¬ Z.fp0 b→b ≠ a:=fun b u e n z=>by
  subst z
  rcases S.new i _ ha with w | w
  ·rw [e] at w;cases w
  ·exact n w
 have nj:∀ j,j ≠ i→∀ b ∈ fp j,b ≠ a:=fun j hj b hb z=>by
  subst z
  exact S.dj j i hj _ hb ha
 refine ⟨⟨S.hp.bo,fun b u e n=>by rw [upd_ne (nz b u e n)];exact S.hp.keep b u e n,S.hp.f0,S.hp.fn,fun b h=>?_⟩,by rw [List.length_set,S.len],fun j pv e=>?_,fun j=>?_,fun j k hjk b hb=>?_,fun j b hb=>?_,fun j b hb=>?_,fun j b hb=>?_,fun w hw=>?_⟩
 ·obtain ⟨u,e⟩:=S.hp.ft b h
  exact ⟨u,by rw [upd_ne (show b ≠ a from fun z=>nFa (by rw [← z];exact h))];exact e⟩
 ·by_cases hj:j=i
  ·subst hj
   rw [List.getElem?_set_self hi] at e
   cases e
   refine ⟨v,hv,?_⟩
   unfold fput
   rw [if_pos rfl]
   exact r
  ·rw [List.getElem?_set_ne (Ne.symm hj)] at e
   obtain ⟨w,h1,h2⟩:=S.rel j pv e
   refine ⟨w,h1,?_⟩
   unfold fput
   rw [if_neg hj]
   exact Rel.tr (fun _ h=>h) (fun _ h=>h) (fun _ h=>h) (fun b u q h=>by rw [upd_ne (ne b u q h)];exact q) (fun b hb u q=>by rw [upd_ne (nj j hj b hb)];exact q) h2
 ·unfold fput;split
  ·exact nd
  ·exact S.nd j
 ·unfold fput at hb ⊢
  by_cases h1:j=i
  ·subst h1
   rw [if_pos rfl] at hb
   rw [if_neg (Ne.symm hjk)]
   exact dj b hb k (Ne.symm hjk)
  ·rw [if_neg h1] at hb
   by_cases h2:k=i
   ·subst h2
    rw [if_pos rfl]
    exact fun z=>dj b z j h1 hb
   ·rw [if_neg h2]
    exact S.dj j k hjk b hb
 ·unfold fput at hb
  by_cases h1:j=i
  ·rw [if_pos h1] at hb;exact ⟨nf b hb,r.there b hb⟩
  ·rw [if_neg h1] at hb
   obtain ⟨n,u,e⟩:=S.dis j b hb
   exact ⟨n,u,by rw [upd_ne (nj j h1 b hb)];exact e⟩
 ·unfold fput at hb
  by_cases h1:j=i
  ·rw [if_pos h1] at hb;exact new b hb
  ·rw [if_neg h1] at hb;exact S.new j b hb
 ·unfold fput at hb
  by_cases h1:j=i
  ·rw [if_pos h1] at hb;exact r.chg b hb
  ·rw [if_neg h1] at hb
   obtain ⟨u,e,c⟩:=S.ch j b hb
   exact ⟨u,by rw [upd_ne (nj j h1 b hb)];exact e,c⟩
 ·obtain ⟨h1,h2⟩:=S.pn w hw
  refine ⟨h1,?_⟩
  by_cases hi0:i=0
  ·obtain ⟨fl,c,ks,xs,e⟩:=ho hi0 h2
   subst hi0 e
   unfold isObj0
   rw [List.getElem?_set_self hi]
  ·unfold isObj0 at h2 ⊢
   rw [List.getElem?_set_ne hi0]
   exact h2
def mFld (i k:Nat) (e:ME):MS:=fun env=>match e env with
 | .ok v=>(match env[i]? with
  | some (some (.obj .own c ks vs))=>if v.noLnt && !ks.contains k && decide (ks.length < 900) then .next (env.set i (some (.obj .own c (ks ++ [k]) (vs ++ [v])))) else .stuck
  | _=>.stuck)
 | .exc c=>.exc c env
 | .stuck=>.stuck
theorem putF_new {k:Nat}{y:V}:∀ {ks:List Nat}{ws:List V},ks.contains k=false→ks.length=ws.length→putF (T.att k) y ((ks.map T.att).zip ws)=((ks ++ [k]).map T.att).zip (ws ++ [y])
 | [],[],_,_=>rfl
 | j::ks,w::ws,h,hl=>by
  simp only [List.contains_cons,Bool.or_eq_false_iff,beq_eq_false_iff_ne] at h
  show putF (T.att k) y ((T.att j,w)::(ks.map T.att).zip ws)=(T.att j,w)::((ks ++ [k]).map T.att).zip (ws ++ [y])
  unfold putF
  rw [if_neg (fun z=>h.1 (T.inj _ _ z).symm),putF_new h.2 (by simpa using hl)]
 | [],_::_,_,hl=>by simp at hl
 | _::_,[],_,hl=>by simp at hl
theorem ss_fld {i k:Nat}{x f:Str}{e:Expr}{m:ME}{pos pos' px:Pos} (hK:X.K=T.K) (hf:T.att k=f) (hc:∀ c < T.nc,Cls T.K (T.cls c)) (hn:∀ c < T.nc,NoAttr T.K (T.cls c) f) (hN:X.N[i]?=some x) (hv:Vis X.env.scope x) (he:SE X T W e m)
  (hs:swapsWith e (some (.Attribute (.Name x px) f pos')) pos.line X.env=pure false:=by rfl) (hd:(x == ("__debug__" : Str))=false:=by decide) (hcd:(x == ("__classdict__" : Str))=false:=by decide) :
  SS X T W (.Assign [.Attribute (.Name x px) f pos'] e pos) (mFld i k m):=PS.wk (ps_fld (pos:=pos) (pos':=pos') (pe_var (pos:=px) hN hv hd hcd) he hs) fun D σ H ⟨Z,F,env,fp,S,q⟩=>by
 unfold mFld at q
 refine tE.bind S (fun c e H' x=>?_) (fun e=>by rw [e] at q;exact q) fun pv v H1 F1 f1 e g r h1 h2 h3=>?_
 ·rw [e] at q
  exact q F H' σ fp (S.grow (Gr.same S.hp.ft x))
 ·rw [e] at q
  dsimp only at q
  split at q
  ·rename_i c ks vs eo
   split at q
   ·rename_i hcnd
    simp only [Bool.and_eq_true,Bool.not_eq_true',decide_eq_true_eq] at hcnd
    obtain ⟨⟨hln,hkn⟩,hkl⟩:=hcnd
    have S1:=S.grow g
    obtain ⟨vo,ho1,ho2⟩:=S1.rel i _ eo
    have ho3:=ho2
    unfold Rel at ho3
    obtain ⟨a,dx,ws,fp',rfl,hl,hk,hr,hfl,_⟩:=ho3
    have hfl':fp i=a::fp':=hfl
    have hil:i < env.length:=(List.getElem?_eq_some_iff.mp eo).1
    refine ⟨_,ho1,a,_,dx,_,rfl,hl,by rw [hK];exact hc c hk.2,by rw [hK];exact hn c hk.2,?_,?_⟩
    ·have:=hr.length
     rw [List.length_zip,List.length_map]
     omega
    ·rw [← hf,putF_new hkn (by rw [← hr.length];exact hk.1)]
     have ha:a ∈ fp i:=by rw [hfl'];exact List.mem_cons_self
     have nd:(a::fp').Nodup:=by rw [← hfl'];exact S1.nd i
     have old:∀ b ∈ f1,∀ j,b ∉ fp j:=fun b hb j hj=>by
      obtain ⟨_,o,e⟩:=S.dis j b hj
      rw [h3 b hb] at e;cases e
     have hrv:Rel T F1 Z.B NoL H1 pv v f1:=Rel.noL (by simpa [PV.noLnt] using hln) r
     have nea:∀ b u,H1 b=some u→(F1 b ∨ Z.B b ∨ NoL b ∨ isFix u)→b ≠ a:=fun b u e h z=>by
      subst z
      rcases h with h | h | h | h
      ·exact (S1.dis i _ ha).1 h
      ·exact S1.bow _ h ⟨i,ha⟩
      ·exact h
      ·rw [hl] at e;cases e;exact h
     refine q F1 _ σ _ (S1.mut (f':=a::(fp' ++ f1)) hil ho1 ha ?_ ?_ (fun b hb=>?_) (fun b hb=>?_) (fun b hb j hj=>?_) fun _ _=>⟨_,_,_,_,rfl⟩)
     ·unfold Rel
      have hrr:RelL T F1 Z.B NoL H1 (vs ++ [pv]) (ws ++ [v]) (fp' ++ f1):=RelL.append hr (by unfold RelL;exact ⟨v,[],f1,[],rfl,hrv,by unfold RelL;exact ⟨rfl,rfl⟩,by simp⟩)
      refine ⟨a,dx,ws ++ [v],fp' ++ f1,rfl,upd_same,⟨by simp [hk.1],hk.2⟩,?_,rfl,True.intro⟩
      refine RelL.tr (fun _ h=>h) (fun _ h=>h) (fun _ h=>h) (fun b u e h=>by rw [upd_ne (nea b u e h)];exact e) (fun b hb u e=>?_) hrr
      refine (upd_ne fun z=>?_).trans e
      subst z
      rcases List.mem_append.mp hb with hb | hb
      ·exact (List.nodup_cons.mp nd).1 hb
      ·exact old _ hb i ha
     ·refine List.nodup_cons.mpr ⟨fun z=>?_,List.nodup_append.mpr ⟨(List.nodup_cons.mp nd).2,h2,fun b hb b' hb' z=>?_⟩⟩
      ·rcases List.mem_append.mp z with z | z
       ·exact (List.nodup_cons.mp nd).1 z
       ·exact old _ z i ha
      ·subst z
       exact old b hb' i (by rw [hfl'];exact List.mem_cons_of_mem _ hb)
     ·rcases List.mem_cons.mp hb with rfl | hb
      ·exact (S1.dis i _ ha).1
      ·rcases List.mem_append.mp hb with hb | hb
       ·exact (S1.dis i b (by rw [hfl'];exact List.mem_cons_of_mem _ hb)).1
       ·exact h1 b hb
     ·rcases List.mem_cons.mp hb with rfl | hb
      ·exact S1.new i _ ha
      ·rcases List.mem_append.mp hb with hb | hb
       ·exact S1.new i b (by rw [hfl'];exact List.mem_cons_of_mem _ hb)
       ·exact S.hp.newE h3 b hb
     ·rcases List.mem_cons.mp hb with rfl | hb
      ·exact fun z=>S1.dj i j (Ne.symm hj) _ ha z
      ·rcases List.mem_append.mp hb with hb | hb
       ·exact fun z=>S1.dj i j (Ne.symm hj) b (by rw [hfl'];exact List.mem_cons_of_mem _ hb) z
       ·exact old b hb j
   ·exact q.elim
  ·exact q.elim
end
end PR
namespace PR
open PySem PySem.Spec L2
section
variable {X:Cx}{T:Tb}{W:Nat→St→Hp→Prop}{Z:Zn}{F F1 B L:Addr→Prop}{H H1:Hp}{σ:St}{env:En}{fp:Nat→List Addr}{D:Ends}
theorem StRel.mutL {i:Nat}{xs ys:List PV}{ws us:List V}{a:Addr}{v:V}{f' fp':List Addr} (S:StRel T Z F H σ env fp) (eo:env[i]?=some (some (.lst .own xs))) (hv:σ[i]?=some (some (.ref a))) (hfp:fp i=a::fp') (r:RelL T F Z.B NoL H ys us f') (nd:f'.Nodup)
  (hf:∀ b ∈ f',(b ∈ fp') ∨ (¬ F b∧(Z.H0 b=none ∨ Z.fp0 b)∧∀ j,b ∉ fp j)) (hl:H a=some (.lst ws)):StRel T Z F (upd H a (.lst us)) σ (env.set i (some (.lst .own ys))) (fput fp i (a::f')):=by
 have ha:a ∈ fp i:=by rw [hfp];exact List.mem_cons_self
 have ndi:(a::fp').Nodup:=by rw [← hfp];exact S.nd i
 have sub:∀ b ∈ fp',b ∈ fp i:=fun b hb=>by rw [hfp];exact List.mem_cons_of_mem _ hb
 have na:∀ b ∈ f',b ≠ a:=fun b hb z=>by
  subst z
  rcases hf _ hb with h | h
  ·exact (List.nodup_cons.mp ndi).1 h
  ·exact h.2.2 i ha
 have hil:i < env.length:=(List.getElem?_eq_some_iff.mp eo).1
 have nea:∀ b u,H b=some u→(F b ∨ Z.B b ∨ NoL b ∨ isFix u)→b ≠ a:=fun b u e h z=>by
  subst z
  rcases h with h | h | h | h
  ·exact (S.dis i _ ha).1 h
  ·exact S.bow _ h ⟨i,ha⟩
  ·exact h
  ·rw [hl] at e;cases e;exact h
 refine S.mut hil hv ha ?_ (List.nodup_cons.mpr ⟨fun z=>na a z rfl,nd⟩) (fun b hb=>?_) (fun b hb=>?_) (fun b hb j hj=>?_) fun h0 h1=>?_
 ·unfold Rel
  exact ⟨a,us,f',rfl,upd_same,RelL.tr (fun _ h=>h) (fun _ h=>h) (fun _ h=>h) (fun b u e h=>by rw [upd_ne (nea b u e h)];exact e) (fun b hb u e=>by rw [upd_ne (na b hb)];exact e) r,rfl⟩
 ·rcases List.mem_cons.mp hb with rfl | hb
  ·exact (S.dis i _ ha).1
  ·rcases hf b hb with h | h
   ·exact (S.dis i b (sub b h)).1
   ·exact h.1
 ·rcases List.mem_cons.mp hb with rfl | hb
  ·exact S.new i _ ha
  ·rcases hf b hb with h | h
   ·exact S.new i b (sub b h)
   ·exact h.2.1
 ·rcases List.mem_cons.mp hb with rfl | hb
  ·exact fun z=>S.dj i j (Ne.symm hj) _ ha z
  ·rcases hf b hb with h | h
   ·exact fun z=>S.dj i j (Ne.symm hj) b (sub b h) z
   ·exact h.2.2 j
 ·subst h0
  unfold isObj0 at h1
  rw [eo] at h1
  cases h1
theorem StRel.lst {i:Nat}{xs:List PV} (S:StRel T Z F H σ env fp) (eo:env[i]?=some (some (.lst .own xs))):∃ a ws fp',σ[i]?=some (some (.ref a))∧H a=some (.lst ws)∧RelL T F Z.B NoL H xs ws fp'∧fp i=a::fp':=by
 obtain ⟨v,h1,h2⟩:=S.rel i _ eo
 unfold Rel at h2
 obtain ⟨a,ws,fp',rfl,hl,hr,hf⟩:=h2
 exact ⟨a,ws,fp',h1,hl,hr,hf⟩
theorem StRel.beside {f1:List Addr} (S:StRel T Z F H σ env fp) (g:Gr F H F1 H1) (h1:∀ a ∈ f1,¬ F1 a) (h3:∀ a ∈ f1,H a=none):∀ b ∈ f1,¬ F1 b∧(Z.H0 b=none ∨ Z.fp0 b)∧∀ j,b ∉ fp j:=fun b hb=>⟨h1 b hb,S.hp.newE h3 b hb,fun j hj=>by
 obtain ⟨_,o,e⟩:=S.dis j b hj
 rw [h3 b hb] at e;cases e⟩
def mAppend (i:Nat) (e:ME):MS:=fun env=>match e env with
 | .ok v=>(match env[i]? with
  | some (some (.lst .own xs))=>if v.noLnt && decide (xs.length < 10000000) then .next (env.set i (some (.lst .own (xs ++ [v])))) else .stuck
  | _=>.stuck)
 | .exc c=>(match env[i]? with
  | some (some (.lst .own _))=>.exc c env
  | _=>.stuck)
 | .stuck=>.stuck
theorem ss_append {i:Nat}{x:Str}{e:Expr}{m:ME}{pos px apos cpos:Pos} (hK:X.K=T.K) (hN:X.N[i]?=some x) (hv:Vis X.env.scope x) (he:SE X T W e m)
  (hs:swapsWith (.Call (.Attribute (.Name x px) "append" apos) [e] [] cpos) none pos.line X.env=pure false:=by rfl) (hst:starEach [e] X.env=[(false,eval e X.env)]:=by rfl)
  (hfew:((backTo cpos (starEach [e] X.env)).all (fun x=>!x.1) && (backToKw cpos (keywordEach [] X.env)).all (fun x=>x.1.isSome) && decide ([e].length+([]:List Keyword).length+(if ([]:List Keyword).isEmpty then 0 else 1) < 30))=true:=by rfl)
  (hline:(apos.endLine == cpos.line)=true:=by rfl) (hd:(x == ("__debug__" : Str))=false:=by decide) (hcd:(x == ("__classdict__" : Str))=false:=by decide) :
  SS X T W (.Expr (.Call (.Attribute (.Name x px) "append" apos) [e] [] cpos) pos) (mAppend i m) :=
 PS.wk (ps_expr (pos:=pos) (pe_bm (cpos:=cpos) (apos:=apos) PySem.F.plainAttrs_list PySem.F.slot_list_append PySem.F.type_list_append mt_append (pe_var (pos:=px) hN hv hd hcd) (sa_cons he sa_nil hst) rfl hfew hline hst) hs) fun D σ H ⟨Z,F,env,fp,S,q⟩=>by
  unfold mAppend at q
  cases em:m env with
  | stuck=>rw [em] at q;exact q.elim
  | exc c =>
   rw [em] at q
   dsimp only at q
   split at q
   ·rename_i xs eo
    obtain ⟨a,ws,fp',h1,hl,hr,hf⟩:=S.lst eo
    refine ⟨_,h1,.inl ⟨rfl,ws,by rw [hK];exact SqL.of hl⟩,Z,F,env,fp,S,?_⟩
    unfold mCons
    rw [em]
    exact fun H' x=>q F H' σ fp (S.grow (Gr.same S.hp.ft x))
   ·exact q.elim
  | ok v =>
   rw [em] at q
   dsimp only at q
   split at q
   ·rename_i xs eo
    split at q
    ·rename_i hc
     simp only [Bool.and_eq_true,decide_eq_true_eq] at hc
     obtain ⟨a,ws,fp',h1,hl,hr,hf⟩:=S.lst eo
     refine ⟨_,h1,.inl ⟨rfl,ws,by rw [hK];exact SqL.of hl⟩,Z,F,env,fp,S,?_⟩
     unfold mCons mNil
     rw [em]
     intro vs H1 F1 f1 g r n1 d1 w1
     obtain ⟨u,rfl,ru⟩:=r.one
     have S1:=S.grow g
     have hl1:=g.ext a _ hl
     refine ⟨a,ws,u,rfl,rfl,hl1,?_,?_⟩
     ·rw [← hr.length,sizeLine_eq];omega
     ·have rone:RelL T F1 Z.B NoL H1 [v] [u] f1:=by unfold RelL;exact ⟨u,[],f1,[],rfl,Rel.noL (by simpa [PV.noLnt] using hc.1) ru,by unfold RelL;exact ⟨rfl,rfl⟩,by simp⟩
      refine q F1 _ σ _ (S1.mutL (v:=u) eo h1 hf (RelL.append (hr.ext g.ext g.mono) rone) ?_ (fun b hb=>?_) hl1)
      ·have ndi:(a::fp').Nodup:=by rw [← hf];exact S.nd i
       refine List.nodup_append.mpr ⟨(List.nodup_cons.mp ndi).2,d1,fun b hb b' hb' z=>?_⟩
       subst z
       exact (S.beside g n1 w1 b hb').2.2 i (by rw [hf];exact List.mem_cons_of_mem _ hb)
      ·rcases List.mem_append.mp hb with hb | hb
       ·exact .inl hb
       ·exact .inr (S.beside g n1 w1 b hb)
    ·exact q.elim
   ·exact q.elim
def mClear (i:Nat):MS:=fun env=>match env[i]? with
 | some (some (.lst .own _))=>.next (env.set i (some (.lst .own [])))
 | _=>.stuck
theorem ss_clear {i:Nat}{x:Str}{pos px apos cpos:Pos} (hK:X.K=T.K) (hN:X.N[i]?=some x) (hv:Vis X.env.scope x)
  (hs:swapsWith (.Call (.Attribute (.Name x px) "clear" apos) [] [] cpos) none pos.line X.env=pure false:=by rfl) (hline:(apos.endLine == cpos.line)=true:=by rfl) (hd:(x == ("__debug__" : Str))=false:=by decide) (hcd:(x == ("__classdict__" : Str))=false:=by decide) :
  SS X T W (.Expr (.Call (.Attribute (.Name x px) "clear" apos) [] [] cpos) pos) (mClear i) :=
 PS.wk (ps_expr (pos:=pos) (pe_bm0 (cpos:=cpos) (apos:=apos) PySem.F.plainAttrs_list PySem.F.slot_list_clear PySem.F.type_list_clear mt_clear (pe_var (pos:=px) hN hv hd hcd) rfl hline) hs) fun D σ H ⟨Z,F,env,fp,S,q⟩=>by
  unfold mClear at q
  split at q
  ·rename_i xs eo
   obtain ⟨a,ws,fp',h1,hl,hr,hf⟩:=S.lst eo
   refine ⟨_,h1,.inl ⟨rfl,ws,by rw [hK];exact SqL.of hl⟩,a,ws,rfl,rfl,hl,?_⟩
   exact q F _ σ _ (S.mutL (v:=.non) (f':=[]) eo h1 hf (by unfold RelL;exact ⟨rfl,rfl⟩) List.nodup_nil (fun _ z=>(nomatch z)) hl)
  ·exact q.elim
def mSetIx (i:Nat) (k e:ME):MS:=fun env=>match e env with
 | .ok v=>(match env[i]? with
  | some (some (.lst .own xs))=>(match k env with
   | .ok (.int j)=>(match ixN xs.length j with
    | some n=>if v.noLnt then .next (env.set i (some (.lst .own (xs.set n v)))) else .stuck
    | none=>.stuck)
   | _=>.stuck)
  | _=>.stuck)
 | .exc c=>.exc c env
 | .stuck=>.stuck
theorem RelL.set {y:PV}{w:V}{g:List Addr} (ry:Rel T F B L H y w g):∀ {xs:List PV}{vs:List V}{f:List Addr} (n:Nat),RelL T F B L H xs vs f→(f ++ g).Nodup→∃ f',RelL T F B L H (xs.set n y) (vs.set n w) f'∧f'.Nodup∧∀ b ∈ f',b ∈ f ∨ b ∈ g
 | [],vs,f,n,h,nd=>by unfold RelL at h;obtain ⟨rfl,rfl⟩:=h;exact ⟨[],by simp [RelL],List.nodup_nil,fun _ z=>(nomatch z)⟩
 | x::xs,_,_,0,h,nd=>by
  unfold RelL at h
  obtain ⟨v,ws,f1,f2,rfl,h1,h2,rfl⟩:=h
  obtain ⟨n1,n2,n3⟩:=List.nodup_append.mp nd
  obtain ⟨m1,m2,m3⟩:=List.nodup_append.mp n1
  refine ⟨g ++ f2,?_,List.nodup_append.mpr ⟨n2,m2,fun a ha b hb z=>n3 b (List.mem_append_right _ hb) a ha z.symm⟩,fun b hb=>?_⟩
  ·rw [List.set_cons_zero,List.set_cons_zero]
   unfold RelL
   exact ⟨w,ws,g,f2,rfl,ry,h2,rfl⟩
  ·rcases List.mem_append.mp hb with hb | hb
   ·exact .inr hb
   ·exact .inl (List.mem_append_right _ hb)
 | x::xs,_,_,n+1,h,nd=>by
  unfold RelL at h
  obtain ⟨v,ws,f1,f2,rfl,h1,h2,rfl⟩:=h
  obtain ⟨n1,n2,n3⟩:=List.nodup_append.mp nd
  obtain ⟨m1,m2,m3⟩:=List.nodup_append.mp n1
  obtain ⟨f',r,d,s⟩:=RelL.set ry n h2 (List.nodup_append.mpr ⟨m2,n2,fun a ha b hb=>n3 a (List.mem_append_right _ ha) b hb⟩)
  refine ⟨f1 ++ f',?_,List.nodup_append.mpr ⟨m1,d,fun a ha b hb z=>?_⟩,fun b hb=>?_⟩
  ·rw [List.set_cons_succ,List.set_cons_succ]
   unfold RelL
   exact ⟨v,_,f1,f',rfl,h1,r,rfl⟩
  ·rcases s b hb with h | h
   ·exact m3 a ha b h z
   ·exact n3 a (List.mem_append_left _ ha) b h z
  ·rcases List.mem_append.mp hb with hb | hb
   ·exact .inl (List.mem_append_left _ hb)
   ·rcases s b hb with h | h
    ·exact .inl (List.mem_append_right _ h)
    ·exact .inr h
theorem ss_setIx {i:Nat}{x:Str}{k e:Expr}{mk me:ME}{pos px tpos:Pos} (hN:X.N[i]?=some x) (hv:Vis X.env.scope x) (hk:SE X T W k mk) (he:SE X T W e me)
  (ha:∀ v,assign (.Subscript (.Name x px) k tpos) X.env v=(do
   let ov ← holding [v] (eval (.Name x px) X.env)
   let iv ← holding [v,ov] (eval k X.env)
   standAt tpos
   holding [v,ov,iv] (setItem ov iv v)
   release [v,ov,iv] []):=by intro _;rfl)
  (hs:swapsWithSole [.Subscript (.Name x px) k tpos] e pos.line X.env=pure false:=by rfl) (hw:swappedStores [.Subscript (.Name x px) k tpos] e X.env=pure none:=by rfl)
  (h1:(assignEach [.Subscript (.Name x px) k tpos] X.env).map (·.2)=[assign (.Subscript (.Name x px) k tpos) X.env]:=by rfl) (hd:(x == ("__debug__" : Str))=false:=by decide) (hcd:(x == ("__classdict__" : Str))=false:=by decide) :
  SS X T W (.Assign [.Subscript (.Name x px) k tpos] e pos) (mSetIx i mk me) :=
 PS.wk (ps_asg (pos:=pos) he (pg_sub (pos:=tpos) (pe_var (pos:=px) hN hv hd hcd) hk set_list ha) hs hw h1) fun D σ H ⟨Z,F,env,fp,S,q⟩=>by
  unfold mSetIx at q
  refine tE.bind S (fun c e H' x=>?_) (fun e=>by rw [e] at q;exact q) fun pv v H1 F1 f1 e g r n1 d1 w1=>?_
  ·rw [e] at q
   exact q F H' σ fp (S.grow (Gr.same S.hp.ft x))
  ·rw [e] at q
   dsimp only at q
   split at q
   ·rename_i xs eo
    have S1:=S.grow g
    obtain ⟨a,ws,fp',h1,hl,hr,hf⟩:=S1.lst eo
    cases ek:mk env with
    | stuck=>rw [ek] at q;exact q.elim
    | exc c=>rw [ek] at q;exact q.elim
    | ok kv =>
     rw [ek] at q
     refine ⟨_,h1,Z,F1,env,fp,S1,?_⟩
     rw [ek]
     intro u H2 F2 f2 g2 r2 _ _ _
     cases kv with
     | int j =>
      dsimp only at q
      unfold Rel at r2
      obtain ⟨rfl,_⟩:=r2
      cases en:ixN xs.length j with
      | none=>rw [en] at q;exact q.elim
      | some n =>
       rw [en] at q
       dsimp only at q
       split at q
       ·rename_i hln
        have S2:=S1.grow g2
        have hr2:=hr.ext g2.ext g2.mono
        have ndi:(a::fp').Nodup:=by rw [← hf];exact S.nd i
        have g12:=g.trans g2
        have nn:∀ b ∈ f1,¬ F2 b:=fun b hb z=>by
         rcases g2.only b z with z | z
         ·exact n1 b hb z
         ·obtain ⟨o,ho⟩:=r.there b hb
          rw [ho] at z;cases z
        obtain ⟨f',r',nd',sub'⟩:=RelL.set (T:=T) (Rel.noL (L':=NoL) (by simpa [PV.noLnt] using hln) (r.ext g2.ext g2.mono)) n hr2 (List.nodup_append.mpr ⟨(List.nodup_cons.mp ndi).2,d1,fun b hb b' hb' z=>by
         subst z
         exact (S.beside g12 nn w1 b hb').2.2 i (by rw [hf];exact List.mem_cons_of_mem _ hb)⟩)
        refine ⟨a,ws,j,n,rfl,rfl,g2.ext a _ hl,by rw [← hr.length];exact en,?_⟩
        refine q F2 _ σ _ (S2.mutL (v:=v) eo h1 hf r' nd' (fun b hb=>?_) (g2.ext a _ hl))
        rcases sub' b hb with h | h
        ·exact .inl h
        ·exact .inr (S.beside g12 nn w1 b h)
       ·exact q.elim
     | _=>exact q.elim
   ·exact q.elim
end
end PR
namespace PR
open PySem PySem.Spec L2
def oddS (i:Nat):Str:=⟨#[1114112+i]⟩
def attOf (l:List Str) (i:Nat):Str:=match l[i]? with
 | some x=>x
 | none=>oddS i
def plainS (x:Str):Bool:=x.cps.all fun c=>decide (c < 1114112)
theorem odd_not_plain (i:Nat):plainS (oddS i)=false:=by
 simp [plainS,oddS]
theorem attOf_inj {l:List Str} (nd:l.Nodup) (h:l.all plainS=true) (i j:Nat) (e:attOf l i=attOf l j):i=j:=by
 have pl:∀ (i:Nat) x,l[i]?=some x→plainS x=true:=fun i x hx=>List.all_eq_true.mp h x (List.mem_of_getElem? hx)
 unfold attOf at e
 cases ei:l[i]? with
 | some x =>
  cases ej:l[j]? with
  | some y =>
   rw [ei,ej] at e
   dsimp only at e
   subst e
   obtain ⟨h1,e1⟩:=List.getElem?_eq_some_iff.mp ei
   obtain ⟨h2,e2⟩:=List.getElem?_eq_some_iff.mp ej
   exact (List.getElem_inj nd).mp (e1.trans e2.symm)
  | none =>
   rw [ei,ej] at e
   dsimp only at e
   have:=pl i x ei
   rw [e,odd_not_plain] at this
   cases this
 | none =>
  cases ej:l[j]? with
  | some y =>
   rw [ei,ej] at e
   dsimp only at e
   have:=pl j y ej
   rw [← e,odd_not_plain] at this
   cases this
  | none =>
   rw [ei,ej] at e
   dsimp only at e
   simpa [oddS] using e
theorem attOf_ne {l:List Str}{m:Str} (hp:plainS m=true) (hm:m ∉ l) (k:Nat):attOf l k ≠ m:=by
 unfold attOf
 cases e:l[k]? with
 | some x=>exact fun z=>hm (z ▸ List.mem_of_getElem? e)
 | none =>
  intro z
  dsimp only at z
  rw [← z,odd_not_plain] at hp
  cases hp
structure Ctx (X:Cx) (T:Tb) (W:Nat→St→Hp→Prop) (k:Nat):Prop where
 hK:X.K=T.K
 calm:X.calm=true
 room:Room k X.A
 xf:XF X T W
 po:PassesOwn (model X.prog X.w) X.A X.env X.xe
theorem Ctx.hu {X:Cx}{T:Tb}{W:Nat→St→Hp→Prop}{k:Nat} (c:Ctx X T W k):X.A.units+64 < cLine:=c.room.units
theorem Ctx.hu2 {X:Cx}{T:Tb}{W:Nat→St→Hp→Prop}{k:Nat} (c:Ctx X T W k):X.A.units+66 < cLine:=by
 have:=c.room.un
 omega
theorem ctx_def {P:Program}{w:World}{mg:Str→Option Value}{base:Heap}{N:List Str}{qual:Str}{scope:Scope}{f:Addr}{cd:Value}{A:Around}{outer:List Env}{s:Shared}{H:Hp}{E:XK}{T:Tb}{k:Nat}
  (hr:Room k (A.deeper (PyProof.Rows.envOfC qual scope s.heap.objs.size f cd))):Ctx (cxOf (CXP P w) P w T.K mg base N qual scope f cd A outer s H E) T (WD T E) k:=⟨rfl,rfl,hr,xf_def,PassesOwn.leaving⟩
theorem Ctx.comp {X:Cx}{T:Tb}{W:Nat→St→Hp→Prop}{k:Nat} (c:Ctx X T W k) {scope:Scope}{C:Addr}{N:List Str}{s:Shared}{H:Hp}{ex:List Addr}:Ctx (cxC X scope C N s H ex) T WF k:=⟨c.hK,c.calm,c.room,fun _ _ _ _ _ _ _ _ _ _ h=>h.elim,PassesOwn.never⟩
def compOk (scD scope:Scope) (NX:List Str) (caps:List Nat) (N tn:List Str):Bool :=
 decide (scope.kind=.function) && scope.names.all (fun y=>decide (y.2 ≠ .cell)) && scope.names.all (fun y=>decide (y.2=.local→scope.names.lookup y.1=some .local)) &&
 scope.names.all (fun y=>decide (y.2=.free→scD.names.lookup y.1=some .cell ∨ scD.names.lookup y.1=some .free)) && decide (N=caps.map (fun i=>NX.getD i "") ++ tn) && caps.all (fun i=>decide (i < NX.length)) &&
 caps.all (fun i=>match NX[i]? with | some x=>decide ((x,NameKind.free) ∈ scope.names∧scope.names.lookup x=some .free) | none=>false) && tn.all (fun x=>decide (scope.names.lookup x=some .local)) && decide N.Nodup
theorem comp_of {X:Cx}{scD scope:Scope}{NX:List Str}{caps:List Nat}{N tn:List Str} (h:compOk scD scope NX caps N tn=true) (hs:X.env.scope=scD) (hN:X.N=NX):CompScope X scope caps N tn:=by
 simp only [compOk,Bool.and_eq_true,decide_eq_true_eq,List.all_eq_true] at h
 obtain ⟨⟨⟨⟨⟨⟨⟨⟨h1,h2⟩,h3⟩,h4⟩,h5⟩,h6⟩,h7⟩,h8⟩,h9⟩:=h
 subst hs hN
 refine ⟨h1,h2,h3,h4,h5,h6,fun i hi x hx=>?_,h8,h9⟩
 have:=h7 i hi
 rw [hx] at this
 simpa using this
section
variable {X:Cx}{T:Tb}{W:Nat→St→Hp→Prop}
theorem sv (i:Nat) {x:Str}{pos:Pos} (hN:X.N[i]?=some x:=by rfl) (hv:Vis X.env.scope x:=by first | exact Or.inl rfl | exact Or.inr (Or.inl rfl) | exact Or.inr (Or.inr rfl)) (hd:(x == ("__debug__" : Str))=false:=by decide)
  (hcd:(x == ("__classdict__" : Str))=false:=by decide):SE X T W (.Name x pos) (mVar i):=se_var hN hv hd hcd
def tyP:PV→String
 | .non => "NoneType"
 | .bl _ => "bool"
 | .int _ => "int"
 | .str _ => "str"
 | .lst _ _ => "list"
 | .tup _ => "tuple"
 | _ => ""
def isiB (t c:String):Bool:=t == c || (t == "bool" && c == "int")
def pIsi (c:String):PV→Res PV:=fun x=>if tyP x = "" then .stuck else .ok (.bl (isiB (tyP x) c))
def tIsi (m:ME) (c:String):ME:=fun env=>(m env).bind (pIsi c)
def KitB (K:PySem.W.Frag) (c:String):Prop:=∀ t ∈ ["NoneType", "bool", "int", "str", "list", "tuple"],PySem.W.kitOne K (.type t) (.type c)=some (isiB t c)
theorem isi_rel {pins:List (Addr × Obj)}{σ:St}{H:Hp}{s:Shared}{F B L:Addr→Prop}{x:PV}{v:V}{u:Value}{f:List Addr}{c:String}{Q:Value→Shared→Prop}{A:Around}{E:Value→Shared→Prop} (hK:X.K=T.K) (hc:KitB T.K c) (I:L2.Inv X pins σ H s) (r:Rel T F B L H x v f) (ru:RelV v u) (hx:tyP x ≠ "")
  (h:∀ tk,Q (.bool (isiB (tyP x) c)) { s with toks:=tk }):wpAny (model X.prog X.w) A (call (.builtin "isinstance") [u,.type c]) Q E s:=by
 have kin:T.K.In s.heap:=by rw [← hK];exact I.kIn
 cases x with
 | non=>unfold Rel at r;obtain ⟨rfl,_⟩:=r;cases ru;exact PySem.W.kia_one PySem.W.kitx_none kin True.intro (hc _ (by simp)) (fun z=>nomatch z) h
 | bl b=>unfold Rel at r;obtain ⟨rfl,_⟩:=r;cases ru;exact PySem.W.kia_one PySem.W.kitx_bool kin True.intro (hc _ (by simp)) (fun z=>nomatch z) h
 | int i=>unfold Rel at r;obtain ⟨rfl,_⟩:=r;obtain ⟨t,rfl⟩:=ru;exact PySem.W.kia_one PySem.W.kitx_int kin True.intro (hc _ (by simp)) (fun z=>nomatch z) h
 | str i=>unfold Rel at r;obtain ⟨rfl,_⟩:=r;obtain ⟨t,rfl⟩:=ru;exact PySem.W.kia_one PySem.W.kitx_str kin True.intro (hc _ (by simp)) (fun z=>nomatch z) h
 | lst f xs =>
  unfold Rel at r
  obtain ⟨a,vs,fp',rfl,hl,hr,_⟩:=r
  cases ru
  obtain ⟨its,_,⟨o,n,ho,hcl,_,_⟩,_⟩:=I.list (by rw [hK];exact hl.sq)
  exact PySem.W.kia_one PySem.W.kitx_list kin ⟨_,ho,hcl⟩ (hc _ (by simp)) (fun z=>nomatch z) h
 | tup xs =>
  unfold Rel at r
  obtain ⟨a,vs,rfl,hl,hr⟩:=r
  cases ru
  obtain ⟨its,_,⟨o,ho,hcl,_⟩,_⟩:=I.tuple (by rw [hK];exact hl)
  exact PySem.W.kia_one PySem.W.kitx_tuple kin ⟨_,ho,hcl⟩ (hc _ (by simp)) (fun z=>nomatch z) h
 | obj f c ks xs=>exact absurd rfl hx
 | exc c=>exact absurd rfl hx
theorem se_isi {e:Expr}{m:ME}{c:String}{cn:Str}{p pc pos:Pos} (hK:X.K=T.K) (hc:KitB T.K c) (hg:Gl X "isinstance") (hm:X.mg "isinstance" = none) (hb:bootBuiltins "isinstance" = some (.builtin "isinstance")) (hgc:Gl X cn) (hmc:X.mg cn=none) (hvc:bootBuiltins cn=some (.type c)) (he:SE X T W e m)
  (hcn:cn ≠ "__name__" := by decide) (hcd:(cn == ("__debug__" : Str))=false:=by decide) (hst:starEach [e,.Name cn pc] X.env=[(false,eval e X.env),(false,eval (.Name cn pc) X.env)]:=by rfl)
  (hst2:starEach [.Name cn pc] X.env=[(false,eval (.Name cn pc) X.env)]:=by rfl):SE X T W (.Call (.Name "isinstance" p) [e,.Name cn pc] [] pos) (tIsi m c):=by
 have ht:PE X (.Name cn pc) (tC (.ty c)):=pe_bltn hgc hmc hvc rfl hcn hcd
 have hcall:CallR X (.builtin "isinstance") (fun vs H Q=>∃ v x F B L f,vs=[v,.ty c]∧Rel T F B L H x v f∧tyP x ≠ "" ∧ Q (.bl (isiB (tyP x) c)) H):=by
  intro pins s σ H vs us Q I rv h
  obtain ⟨v,x,F,B,L,f,rfl,r,hx,q⟩:=h
  cases rv with
  | cons r1 r2 =>
   cases r2 with
   | cons r3 r4 =>
    cases r4
    cases r3
    exact isi_rel hK hc I r r1 hx fun tk=>⟨.bl _,H,I.tok tk,rfl,q⟩
 have hargs:PA X [e,.Name cn pc] (tCons (tE T W m) (tCons (tC (.ty c)) tNil)):=pa_cons he (pa_cons ht pa_nil hst2) (by rw [hst,hst2])
 refine PE.wk (pe_callB (pos:=pos) (p:=p) hcall hg hm hb hargs (he:=by rw [hst,hst2]) (hpl:=by rw [hst2];rfl)) fun σ H Q ⟨Z,F,env,fp,S,q⟩=>?_
 unfold tIsi at q
 refine tE.bind S (fun c e=>by rw [e] at q;exact q) (fun e=>by rw [e] at q;exact q) fun x v H1 F1 f1 e1 g1 r1 n1 d1 w1=>?_
 rw [e1] at q
 simp only [Res.ok_bind,pIsi] at q
 by_cases hx:tyP x = ""
 ·rw [if_pos hx] at q;exact q.elim
 ·rw [if_neg hx] at q
  exact ⟨v,x,F1,Z.B,Own fp,f1,rfl,r1,hx,q.scal g1 relB⟩
def mChain (f g:PV→PV→Res PV) (a b c:ME):ME:=fun env=>(a env).bind fun x=>(b env).bind fun y=>(f x y).bind fun
 | .bl true=>(c env).bind fun z=>g y z
 | .bl false=>.ok (.bl false)
 | _=>.stuck
end
theorem se_globI {X:Cx}{T:Tb}{W:Nat→St→Hp→Prop}{x:Str}{i:Int}{t:Tok}{pos:Pos} (hg:Gl X x) (hm:X.mg x=some (.int i t)) (hd:(x == ("__debug__" : Str))=false:=by decide):SE X T W (.Name x pos) (mC (.int i)) :=
 se_val (v:=.int i) (pe_glob hg hm ⟨t,rfl⟩ hd) fun _ _ _ _=>relI
end PR
namespace PR
open PySem PySem.Spec
structure ExcC (K:PySem.W.Frag) (C:Addr):Prop where
 ga:PySem.W.findIn K (.ref C) "__getattribute__" = some (some (.builtin "BaseException.__getattribute__"))
 gt:PySem.W.findIn K (.ref C) "__getattr__" = some none
 ca:PySem.W.findIn K (.ref C) "__class__" = some (some (.builtin "object.__class__"))
 sb:PySem.W.mroIn K C (.type "BaseException")=some true
 so:PySem.W.mroIn K C (.type "object")=some true
 cl:(PySem.W.clsIn K C).isSome=true
section
variable {prog:Program}{w:World}{A:Around}{E:Value→Shared→Prop}{h:Heap}{g:Array GenState}{d:Drawn}{t:Nat}{os:OsState}{a C:Addr}{o:Obj}{K:PySem.W.Frag}
end
end PR
namespace L2
open PySem PySem.Spec PyProof.Rows
section
variable {X:Cx}{pins pins':List (Addr × Obj)}{σ:St}{H H':Hp}{s:Shared}{E:Value→Shared→Prop}{e:Value}
end
end L2
namespace PR
open PySem PySem.Spec L2
section
variable {X:Cx}{T:Tb}{W:Nat→St→Hp→Prop}{pins:List (Addr × Obj)}{σ:St}{H H':Hp}{s s':Shared}
end
end PR
namespace PR
open PySem PySem.Spec L2
section
variable {X:Cx}{T:Tb}{W:Nat→St→Hp→Prop}{Z:Zn}{F:Addr→Prop}{H:Hp}{σ:St}{env:En}{fp:Nat→List Addr}
end
end PR
namespace PR
open PySem PySem.Spec L2
section
variable {X:Cx}{T:Tb}{W:Nat→St→Hp→Prop}
end
end PR
namespace PR
open PySem PySem.Spec L2
theorem relL0 {T:Tb} (F B L:Addr→Prop) (H:Hp):RelL T F B L H [] [] []:=by unfold RelL;exact ⟨rfl,rfl⟩
def mMet (disp:Nat→Option (List PV→Res PV)) (o:ME) (ms:MA):ME:=fun env=>(o env).bind fun ov=>match ov with
 | .obj _ c _ _=>match disp c with
  | some m=>(ms env).bind fun xs=>callR m (ov::xs)
  | none=>.stuck
 | _=>.stuck
theorem mMet_eq (disp:Nat→Option (List PV→Res PV)) (o:ME) (ms:MA):mMeth disp [] o ms=mMet disp o ms:=by
 funext env
 unfold mMeth mMet
 congr 1
 funext ov
 cases ov with
 | obj f c ks vs=>simp only [List.append_nil,List.cons_append] <;> rfl
 | _=>rfl
def mNew (c:Nat) (m:List PV→Res PV) (ms:MA):ME:=mCall (fun xs=>callR m (.obj .own c [] []::xs)) ms
section
variable {X:Cx}{T:Tb}{W:Nat→St→Hp→Prop}
theorem se_callN {k kk n:Nat}{f:Addr}{fd:FuncData}{ps:List Str}{m:List PV→Res PV}{x:Str}{p pos:Pos}{e:Expr}{es:List Expr}{ms:MA}
  (G:FnOk X.prog X.w X.K X.mg X.base (CXP X.prog X.w) k f fd ps (spM T ps.length m)) (cx:Ctx X T W kk) (hk:k ≤ kk) (hg:Gl X x) (hm:X.mg x=some (.ref f)) (hkp:PySem.W.keepIn X.K (.ref f)=true) (hb:Binds X.K fd ps [])
  (hn:LenA ms n) (hps:n=ps.length) (ha:SA X T W (e::es) ms)
  (hdb:(x == ("__debug__" : Str))=false:=by decide) (he:starEach (e::es) X.env=(false,eval e X.env)::starEach es X.env:=by rfl) (hpl:(backTo pos (starEach es X.env)).any (·.1)=false:=by rfl) :
  SE X T W (.Call (.Name x p) (e::es) [] pos) (mCall (callR m) ms):=by
 have h:=se_call (dvs:=[]) (dps:=[]) (p:=p) (pos:=pos) G (cx.room.mono hk) hg hm hkp hb .nil relL0 cx.xf (fun env xs q=>by rw [hn env xs q];exact hps) ha hdb he hpl
 simpa using h
theorem se_met {k kk n:Nat}{mn:Str}{ps:List Str}{disp:Nat→Option (List PV→Res PV)}{o e:Expr}{es:List Expr}{mo:ME}{ms:MA}{apos pos:Pos}{pl:Sem Bool}
  (cx:Ctx X T W kk) (hc:∀ c < T.nc,Cls T.K (T.cls c)) (hm:∀ k,T.att k ≠ mn) (D:Disp X T k mn ps [] disp) (hk:k ≤ kk)
  (hn:LenA ms n) (hps:n+1=ps.length) (ho:SE X T W o mo) (ha:SA X T W (e::es) ms)
  (hst:starEach (e::es) X.env=(false,eval e X.env)::starEach es X.env:=by rfl) (hpl:(backTo pos (starEach es X.env)).any (·.1)=false:=by rfl)
  (ht:eval (.Call (.Attribute o mn apos) (e::es) [] pos) X.env=(do
   let ov ← eval o X.env
   standAt apos.atName
   let (f,first) ← holding [ov] (getMethod ov mn pl)
   callWith pos f first (backTo pos (starEach (e::es) X.env)) (backToKw pos (keywordEach [] X.env))):=by rfl) :
  SE X T W (.Call (.Attribute o mn apos) (e::es) [] pos) (mMet disp mo ms):=by
 rw [← mMet_eq]
 exact se_meth (pl:=pl) (dvs:=[]) (dps:=[]) cx.hK hc hm D (cx.room.mono hk) .nil relL0 cx.xf (fun env xs q=>by rw [hn env xs q];exact hps) ho ha hst hpl ht
theorem se_met0 {k kk:Nat}{mn:Str}{ps:List Str}{disp:Nat→Option (List PV→Res PV)}{o:Expr}{mo:ME}{apos pos:Pos}{pl:Sem Bool}
  (cx:Ctx X T W kk) (hc:∀ c < T.nc,Cls T.K (T.cls c)) (hm:∀ k,T.att k ≠ mn) (D:Disp X T k mn ps [] disp) (hk:k ≤ kk) (hps:ps.length=1) (ho:SE X T W o mo)
  (ht:eval (.Call (.Attribute o mn apos) [] [] pos) X.env=(do
   let ov ← eval o X.env
   standAt apos.atName
   let (f,first) ← holding [ov] (getMethod ov mn pl)
   callWith pos f first (backTo pos (starEach [] X.env)) (backToKw pos (keywordEach [] X.env))):=by rfl) :
  SE X T W (.Call (.Attribute o mn apos) [] [] pos) (mMet disp mo mNil):=by
 intro pins s σ H Q I h
 obtain ⟨Z,F,env,fp,S,q⟩:=h
 unfold mMet at q
 refine PySem.W.methodCall_KW (pl:=pl) (thn (ho pins s σ H (fun v H1=>∃ ov F1 f1,mo env=.ok ov∧Gr F H F1 H1∧Rel T F1 Z.B (Own fp) H1 ov v f1∧(∀ a ∈ f1,¬ F1 a)∧f1.Nodup∧∀ a ∈ f1,H a=none) I
  (tE.bind S (fun c e=>by rw [e] at q;exact q) (fun e=>by rw [e] at q;exact q) fun ov v H1 F1 f1 e1 g1 r1 n1 d1 w1=>⟨ov,F1,f1,e1,g1,r1,n1,d1,w1⟩)) fun u s1 ⟨v,H1,I1,ru,ov,F1,f1,e1,g1,r1,n1,d1,w1⟩=>?_) ht
 rw [e1] at q
 simp only [Res.ok_bind] at q
 by_cases hobj:∃ fl c ks xs m,ov=.obj fl c ks xs∧disp c=some m
 ·obtain ⟨fl,c,ks,ys,m,rfl,em⟩:=hobj
  dsimp only at q
  rw [em] at q
  simp only [mNil,Res.ok_bind] at q
  refine meth_at cx.hK hc hm D em r1 I1 ru fun a f fd eu hkp hb G=>?_
  subst eu
  refine PySem.W.callWith_K0 (first:=[.ref a]) I1.kIn hkp ?_
  exact run_m (xs:=[.obj fl c ks ys]) (vs:=[v]) (us:=[.ref a]) (fx:=f1) (dvs:=[]) (dps:=[]) G (cx.room.mono hk) hb .nil relL0 cx.xf S g1 (by unfold RelL;exact ⟨v,[],f1,[],rfl,r1,relL0 _ _ _ _,by simp⟩) n1 d1 w1 (by simpa using q) I1 (.cons ru .nil) (by simp [hps])
 ·exfalso
  cases ov with
  | obj fl c ks ys =>
   cases em:disp c with
   | none=>simp only [em] at q;exact q
   | some m=>exact hobj ⟨fl,c,ks,ys,m,rfl,em⟩
  | _=>exact q
theorem se_new {k kk c n:Nat}{f:Addr}{fd:FuncData}{ps:List Str}{m:List PV→Res PV}{x:Str}{p pos:Pos}{e:Expr}{es:List Expr}{ms:MA}
  (M:Mk X.K (T.cls c) f) (hcn:c < T.nc) (G:FnOk X.prog X.w X.K X.mg X.base (CXP X.prog X.w) k f fd ps (spI T ps.length m)) (cx:Ctx X T W kk) (hk:k+1 ≤ kk) (hg:Gl X x) (hm:X.mg x=some (.ref (T.cls c))) (hb:Binds X.K fd ps [])
  (hn:LenA ms n) (hps:n+1=ps.length) (ha:SA X T W (e::es) ms)
  (hdb:(x == ("__debug__" : Str))=false:=by decide) (he:starEach (e::es) X.env=(false,eval e X.env)::starEach es X.env:=by rfl) (hpl:(backTo pos (starEach es X.env)).any (·.1)=false:=by rfl) :
  SE X T W (.Call (.Name x p) (e::es) [] pos) (mNew c m ms):=by
 have h:=se_make (dvs:=[]) (dps:=[]) (p:=p) (pos:=pos) M hcn G (cx.room.mono hk) hg hm hb .nil relL0 cx.xf hn hps ha hdb he hpl
 unfold mNew
 simpa using h
end
theorem excO_of {K:PySem.W.Frag}{h:Heap}{C:Addr} (X:K.In h) (q:PySem.W.excIn K C [.type "ValueError", .type "Exception", .type "BaseException", .type "object"] "ValueError.__new__" = true) :
  ∃ bm N nm q bs hdct sn sub ab col dd k0 k1 k2 k3 k5 mN,h.get? C=some (excClassObj nm q C N bs bm hdct sn sub ab col dd k0 k1 k2 k3 k5 "ValueError.__new__")∧h.Ns N mN∧mN "__init__" = none ∧
   OwnTail h [.type "ValueError", .type "Exception", .type "BaseException", .type "object"] bm:=by
 unfold PySem.W.excIn at q
 split at q
 ·rename_i dd cd sl ho
  split at q
  ·rename_i C' bm k0 k1 k2 k3 n k5 hm hs
   simp only [Bool.and_eq_true,beq_iff_eq,Bool.not_eq_true'] at q
   obtain ⟨⟨⟨⟨⟨rfl,rfl⟩,hdel⟩,ht⟩,hok⟩,hni⟩:=q
   cases cd
   cases sl
   dsimp only at hm hdel hok hni hs
   subst hm hdel hs
   exact ⟨bm,_,_,_,_,_,_,_,_,_,dd,k0,k1,k2,k3,k5,_,X _ _ ho,.of_isNs (PySem.W.isNs_of_in X hok),PySem.W.nsMap_none_of_in X hok hni,PySem.W.tail_of_in X ht⟩
  ·cases q
 ·cases q
end PR
namespace PR
open PySem PySem.Spec L2
def mRaiseA (c:Nat) (ms:MA):MS:=fun env=>match ms env with
 | .ok _=>.exc c env
 | .exc k=>.exc k env
 | .stuck=>.stuck
theorem ss_raiseN {X:Cx}{T:Tb}{W:Nat→St→Hp→Prop}{k c n:Nat}{x:Str}{e:Expr}{es:List Expr}{ms:MA}{np cpos pos:Pos} (cx:Ctx X T W k) (hm:X.mg x=some (.ref (T.xcl c))) (hB:T.K.In X.base)
  (hE:PySem.W.excIn T.K (T.xcl c) [.type "ValueError", .type "Exception", .type "BaseException", .type "object"] "ValueError.__new__" = true) (hx:XM X T W) (hg:Gl X x) (hn:LenA ms n) (hn2:n ≤ 100) (ha:SA X T W (e::es) ms)
  (hd:(x == ("__debug__" : Str))=false:=by decide)
  (he:starEach (e::es) X.env=(false,eval e X.env)::starEach es X.env:=by rfl) (hpl:(backTo cpos (starEach es X.env)).any (·.1)=false:=by rfl) :
  SS X T W (.Raise (some (.Call (.Name x np) (e::es) [] cpos)) none pos) (mRaiseA c ms) :=
 ss_raise (np:=np) (cpos:=cpos) (pos:=pos) ⟨hm,excO_of hB hE⟩ hx cx.calm hg ha (fun env pvs q=>by rw [hn env pvs q];exact hn2) hd he hpl
structure Scr (fl:Fl):Prop where
 is:fl=.frz ∨ fl=.mod
theorem Scr.lend {fl:Fl} (h:Scr fl):fl.lend=fl:=by rcases h.is with rfl | rfl <;> rfl
theorem Scr.toBor {fl:Fl} (h:Scr fl):fl.toBor=fl:=by rcases h.is with rfl | rfl <;> rfl
theorem relL_ints {T:Tb}{F B L:Addr→Prop}{H:Hp}:∀ ns:List Int,RelL T F B L H (ns.map PV.int) (ns.map V.int) []
 | []=>relL0 _ _ _ _
 | n::ns=>by
  rw [List.map_cons,List.map_cons]
  unfold RelL
  exact ⟨_,_,[],[],rfl,relI,relL_ints ns,rfl⟩
def spScr (K:PySem.W.Frag):Sp:=fun vs H Q _=>∃ (a:Addr) (ns:List Int),vs=[.ref a]∧SqL K H a (ns.map V.int)∧ns.length ≤ 63∧∀ v H',v=.bl true→Q v H'
theorem law_fn {P:Program}{w:World}{T:Tb}{mg:Str→Option Value}{base:Heap}{k:Nat}{f:Addr}{fd:FuncData}{x:Str}{m:List PV→Res PV} (G:FnOk P w T.K mg base (CXP P w) k f fd [x] (spM T 1 m))
  (h:∀ (fl:Fl) (ns:List Int),Scr fl→ns.length ≤ 63→m [.lst fl (ns.map .int)]=.ok (.bl true)):FnOk P w T.K mg base (CXP P w) k f fd [x] (spScr T.K):=by
 refine G.imp fun vs H Q E q=>?_
 obtain ⟨a,ns,rfl,hS,hl,hQ⟩:=q
 have fin:∀ fl,Scr fl→∀ Z:Zn,GF T Z Q E (m [.lst fl (ns.map .int)]):=fun fl hf Z=>by
  rw [h fl ns hf hl]
  intro F H' v f' _ r _ _ _
  unfold Rel at r
  exact hQ v H' r.1
 refine ⟨rfl,?_⟩
 rcases hS with hS | hS
 ·refine ⟨[.lst .frz (ns.map .int)],(·=a),fun _=>False,[],⟨?_,List.nodup_nil,fun _ z=>(nomatch z),fun _ z=>z.elim,fun b hb=>?_⟩,fin _ ⟨.inl rfl⟩ _⟩
  ·unfold RelL
   refine ⟨_,_,[],[],rfl,?_,relL0 _ _ _ _,rfl⟩
   unfold Rel
   exact ⟨a,_,[],rfl,⟨rfl,hS⟩,relL_ints ns,rfl,rfl⟩
  ·subst hb
   rcases hS with e | ⟨o,e⟩
   ·exact ⟨_,e⟩
   ·exact ⟨_,e⟩
 ·refine ⟨[.lst .mod (ns.map .int)],fun _=>False,fun _=>False,[],⟨?_,List.nodup_nil,fun _ z=>(nomatch z),fun _ z=>z.elim,fun _ z=>z.elim⟩,fin _ ⟨.inr rfl⟩ _⟩
  unfold RelL
  refine ⟨_,_,[],[],rfl,?_,relL0 _ _ _ _,rfl⟩
  unfold Rel
  exact ⟨a,_,[],rfl,hS,relL_ints ns,rfl,rfl⟩
theorem law_walk {l:PySem.W.OpenLaw}{k:Nat}{x:Str}{q:Program}{loose:List Str}{XP:(Str→Option Value)→Heap→Prop}{YP:World→Heap→Prop}{d:DefRec}{K:Params→PySem.W.Frag} (hn:l.most=some 63) (hdf:d.params.defaults=[]) (hr:Room k callerA)
  (hY:∀ (w:World) (h:Heap),YP w h→(K w.params).In h)
  (F:∀ (w:World) (mg:Str→Option Value) (fa:Addr) (h:Heap),(K w.params).In h→h.Ns mainGlobals mg→mg d.name=some (.ref fa) →
   ∃ fd:FuncData,(∀ (s:Shared) (u:Value),BindsTo s fd ⟨[u],[]⟩ [(x,u)])∧∀ base:Heap,(K w.params).In base→base.Ns mainGlobals mg→FnOk l.prog w (K w.params) mg base (CXP l.prog w) k fa fd [x] (spScr (K w.params))) :
  PySem.W.WalkO q loose XP YP l.row.toRowW d [] (fun f vs=>PySem.call f vs) :=
 L2.walk_of (n:=63) (k:=k) (x:=x) (CX:=fun w=>CXP l.prog w) (sp:=fun w=>spScr (K w.params)) hn (by decide) hdf hr hY F (fun _ _ a ns hl _ hS=>⟨a,ns,rfl,hS,hl,fun _ _ z=>z⟩) fun _ _ _ _ _ ⟨_,_,_,z⟩=>z
theorem kit_int {K:PySem.W.Frag}:KitB K "int" := by
 intro t ht
 simp only [List.mem_cons,List.not_mem_nil,or_false] at ht
 rcases ht with rfl | rfl | rfl | rfl | rfl | rfl <;> kernel_rfl
theorem kit_bool {K:PySem.W.Frag}:KitB K "bool" := by
 intro t ht
 simp only [List.mem_cons,List.not_mem_nil,or_false] at ht
 rcases ht with rfl | rfl | rfl | rfl | rfl | rfl <;> kernel_rfl
theorem kit_list {K:PySem.W.Frag}:KitB K "list" := by
 intro t ht
 simp only [List.mem_cons,List.not_mem_nil,or_false] at ht
 rcases ht with rfl | rfl | rfl | rfl | rfl | rfl <;> kernel_rfl
theorem kit_tuple {K:PySem.W.Frag}:KitB K "tuple" := by
 intro t ht
 simp only [List.mem_cons,List.not_mem_nil,or_false] at ht
 rcases ht with rfl | rfl | rfl | rfl | rfl | rfl <;> kernel_rfl
theorem bb_isinstance:bootBuiltins "isinstance" = some (.builtin "isinstance"):=by decide +kernel
theorem bb_int:bootBuiltins "int" = some (.type "int"):=by decide +kernel
theorem bb_bool:bootBuiltins "bool" = some (.type "bool"):=by decide +kernel
theorem bb_list:bootBuiltins "list" = some (.type "list"):=by decide +kernel
theorem bb_tuple:bootBuiltins "tuple" = some (.type "tuple"):=by decide +kernel
def excB (K:PySem.W.Frag) (C:Addr):Bool :=
 decide (PySem.W.findIn K (.ref C) "__getattribute__" = some (some (.builtin "BaseException.__getattribute__"))) && decide (PySem.W.findIn K (.ref C) "__getattr__" = some none) &&
 decide (PySem.W.findIn K (.ref C) "__class__" = some (some (.builtin "object.__class__"))) && decide (PySem.W.mroIn K C (.type "BaseException")=some true) && decide (PySem.W.mroIn K C (.type "object")=some true) && (PySem.W.clsIn K C).isSome &&
 PySem.W.excIn K C [.type "ValueError", .type "Exception", .type "BaseException", .type "object"] "ValueError.__new__"
theorem excB_of {K:PySem.W.Frag}{C:Addr} (h:excB K C=true):ExcC K C∧PySem.W.excIn K C [.type "ValueError", .type "Exception", .type "BaseException", .type "object"] "ValueError.__new__" = true:=by
 simp only [excB,Bool.and_eq_true,decide_eq_true_eq] at h
 obtain ⟨⟨⟨⟨⟨⟨h1,h2⟩,h3⟩,h4⟩,h5⟩,h6⟩,h7⟩:=h
 exact ⟨⟨h1,h2,h3,h4,h5,h6⟩,h7⟩
def pick (l:List Addr) (i:Nat):Addr:=l.getD i (l.headD 0)
end PR
namespace PR
open PySem PySem.Spec L2
def PV.isBl (c:Bool):PV→Bool
 | .bl b=>b == c
 | _=>false
def pIsB:PV→PV→Res PV
 | x,.bl c=>.ok (.bl (x.isBl c))
 | _,_=>.stuck
def pNotB:PV→PV→Res PV
 | x,.bl c=>.ok (.bl (!x.isBl c))
 | _,_=>.stuck
section
variable {X:Cx}{T:Tb}{W:Nat→St→Hp→Prop}{F B L:Addr→Prop}{H:Hp}{a b:Expr}{ma mb:ME}{pos:Pos}
theorem Rel.isBl {x:PV}{v:V}{f:List Addr} (c:Bool) (r:Rel T F B L H x v f):decide (v=.bl c)=x.isBl c:=by
 cases x with
 | non=>unfold Rel at r;rw [r.1];rfl
 | bl b=>unfold Rel at r;rw [r.1];cases b <;> cases c <;> rfl
 | int i=>unfold Rel at r;rw [r.1];rfl
 | str i=>unfold Rel at r;rw [r.1];rfl
 | lst f xs=>unfold Rel at r;obtain ⟨a,_,_,rfl,_⟩:=r;rfl
 | tup xs=>unfold Rel at r;obtain ⟨a,_,rfl,_⟩:=r;rfl
 | obj f c ks xs=>unfold Rel at r;obtain ⟨a,_,_,_,rfl,_⟩:=r;rfl
 | exc c=>unfold Rel at r;obtain ⟨a,rfl,_⟩:=r;rfl
theorem relV_bl {x:V}{v:Value}{c:Bool} (r:RelV x v):(v == Value.bool c)=decide (x=.bl c):=by
 cases x with
 | non=>cases r;rfl
 | bl b=>cases r;cases b <;> cases c <;> rfl
 | int i=>obtain ⟨t,rfl⟩:=r;rfl
 | str i=>obtain ⟨t,rfl⟩:=r;rfl
 | byt i=>obtain ⟨t,rfl⟩:=r;rfl
 | ref i=>cases r;rfl
 | ty i=>cases r;rfl
 | flt i=>obtain ⟨t,rfl⟩:=r;rfl
theorem op_isB:OpR X (compareOp .Is) (fun x y H Q=>∃ c,y=.bl c∧Q (.bl (decide (x=.bl c))) H):=by
 intro pins s σ H x y v u Q I rx ry h
 obtain ⟨c,rfl,q⟩:=h
 cases ry
 have e:=relV_bl (c:=c) rx
 have go:EP X pins σ Q (.bool (v == .bool c)) s:=⟨.bl _,H,I,by rw [e];rfl,q⟩
 cases x <;> first
  | (cases rx;exact wpAny_pure go)
  | (obtain ⟨t,rfl⟩:=rx;exact wpAny_pure go)
theorem mir_isB:Mir2 T W pIsB (fun x y H Q=>∃ c,y=.bl c∧Q (.bl (decide (x=.bl c))) H):=by
 intro B F L σ H Q F' H' x y v u fx fy gr rx ry nf nd new q
 cases y with
 | bl c=>unfold Rel at ry;refine ⟨c,ry.1,?_⟩;rw [rx.isBl c];exact GE.scal (pv:=.bl (x.isBl c)) (by simpa [pIsB] using q) gr relB
 | _=>simp only [pIsB] at q;exact q.elim
theorem se_isB (ha:SE X T W a ma) (hb:SE X T W b mb):SE X T W (.Compare a [.Is] [b] pos) (mOp pIsB ma mb):=se_cmp op_isB mir_isB ha hb (nomark _)
end
theorem vals_ix:∀ (xs:List V) (ys:List Value),xs.length=ys.length→(∀ (i:Nat) x y,xs[i]?=some x→ys[i]?=some y→RelV x y)→Vals xs ys
 | [],[],_,_=>.nil
 | x::xs,y::ys,hl,h=>.cons (h 0 x y rfl rfl) (vals_ix xs ys (by simpa using hl) fun i a b e1 e2=>h (i+1) a b (by simpa using e1) (by simpa using e2))
 | [],_::_,hl,_=>by simp at hl
 | _::_,[],hl,_=>by simp at hl
def rngV (lo:Int) (n:Nat):List V:=(List.range n).map fun k=>.int (lo+(k:Nat))
section
variable {X:Cx}{T:Tb}{W:Nat→St→Hp→Prop}{Z:Zn}{F F1 B L:Addr→Prop}{H H1:Hp}{σ:St}{env:En}{fp:Nat→List Addr}
theorem relL_rng (lo:Int) (n:Nat):RelL T F B L H (rngP lo n) (rngV lo n) []:=by
 unfold rngP rngV
 have:∀ l:List Nat,RelL T F B L H (l.map fun k=>PV.int (lo+(k:Nat))) (l.map fun k=>V.int (lo+(k:Nat))) []:=by
  intro l
  induction l with
  | nil=>exact relL0 _ _ _ _
  | cons a l ih =>
   rw [List.map_cons,List.map_cons]
   unfold RelL
   exact ⟨_,_,[],[],rfl,relI,ih,rfl⟩
 exact this _
theorem pe_range1 {a:Expr}{ta:TA}{p pos:Pos} (hg:Gl X "range") (hm:X.mg "range" = none) (ha:PA X [a] ta) (hs:starEach [a] X.env=[(false,eval a X.env)]:=by rfl) :
  PE X (.Call (.Name "range" p) [a] [] pos) (fun σ H Q=>ta σ H fun vs H1=>∃ j:Int,vs=[.int j]∧∀ r,H1 r=none→Q (.ref r) (upd H1 r (.rng 0 j))):=by
 intro pins s σ H Q I h
 refine PyProof.Rows.Call_ (ld_blt I hg hm PyProof.Rows.boot_range (PyProof.Rows.callWith_type1 (thn (ha pos pins s σ H _ I h) fun us s1 ⟨vs,H1,I1,r1,q1⟩=>?_) hs rfl))
 obtain ⟨j,e,q⟩:=q1
 subst e
 cases r1 with
 | cons r rr =>
  cases rr
  obtain ⟨t,rfl⟩:=r
  refine call_range_1 ⟨.ref s1.heap.objs.size,_,I1.laid (fun b u e=>Heap.get?_push_of_some _ e) (Nat.le_refl _) ?_,rfl,q _ (I1.hok.fresh (Nat.le_refl _))⟩
  exact ⟨_,_,_,Heap.get?_push_size _ rfl⟩
theorem call_list_rng (hc:X.calm=true):CallR X (.type "list") (fun xs H Q=>∃ r hi,xs=[.ref r]∧H r=some (.rng 0 hi)∧(0 ≤ hi∧hi ≤ 1000000)∧∀ l,H l=none→Q (.ref l) (upd H l (.lst (rngV 0 hi.toNat)))):=by
 intro pins s σ H xs us Q I rv h
 obtain ⟨r,hi,rfl,hr,⟨h0,h1⟩,q⟩:=h
 obtain ⟨u,rfl,rx⟩:=vals1 rv
 cases rx
 obtain ⟨t,u,v,e⟩:=I.hok r _ hr
 have hsz:Builtin.Range.rangeSize 0 hi 1=(hi.toNat:Int):=by
  unfold Builtin.Range.rangeSize
  rw [if_pos (by decide)]
  split <;> omega
 have hsm:Builtin.Range.small 0 hi 1=true:=by
  unfold Builtin.Range.small
  rw [hsz]
  simp only [Builtin.Range.rangeFitsLong,Bool.and_eq_true,Bool.or_eq_true,decide_eq_true_eq,show (1:Int) > 0 by decide,if_true]
  refine ⟨⟨⟨⟨by decide,by omega⟩,by decide⟩,by omega⟩,.inr (by omega)⟩
 refine call_list_range (I.ok.hd hc) e hsm hsz (by omega) fun h' tk acc c' kp eS hacc=>?_
 refine ⟨.ref s.heap.objs.size,_,I.laid (t':=tk) kp (Nat.le_refl _) ?_,rfl,q _ (I.hok.fresh (Nat.le_refl _))⟩
 refine ⟨?_,acc.toList,c',vals_ix _ _ ?_ fun i x y e1 e2=>?_,?_⟩
 ·rw [sizeLine_eq];simp [rngV];omega
 ·simp [rngV,hacc.1]
 ·have:=hacc.2 i y (by simpa using e2)
  obtain ⟨t,rfl⟩:=this
  have hi:i < hi.toNat:=by
   have:=(List.getElem?_eq_some_iff.mp e1).1
   simpa [rngV] using this
  simp [rngV,hi] at e1
  subst e1
  exact ⟨t,by simp⟩
 ·simpa using eS
def pListR1:List PV→Res PV
 | [.int n]=>if decide (0 ≤ n∧n ≤ 1000000) then .ok (.lst .own (rngP 0 n.toNat)) else .stuck
 | _=>.stuck
theorem se_listR1 {a:Expr}{ms:MA}{p p2 pos pos2:Pos} (hc:X.calm=true) (hg:Gl X "list") (hm:X.mg "list" = none) (hv:bootBuiltins "list" = some (.type "list")) (hg2:Gl X "range") (hm2:X.mg "range" = none) (ha:SA X T W [a] ms)
  (hs:starEach [a] X.env=[(false,eval a X.env)]:=by rfl)
  (he:starEach [.Call (.Name "range" p2) [a] [] pos2] X.env=[(false,eval (.Call (.Name "range" p2) [a] [] pos2) X.env)]:=by rfl) :
  SE X T W (.Call (.Name "list" p) [.Call (.Name "range" p2) [a] [] pos2] [] pos) (mCall pListR1 ms):=by
 refine PE.wk (pe_callTy (p:=p) (pos:=pos) (call_list_rng hc) hg hm hv (pa_cons (pe_range1 (p:=p2) (pos:=pos2) hg2 hm2 ha hs) pa_nil (by rw [he];rfl)) (he:=by rw [he];rfl) (hpl:=rfl)) fun σ H Q ⟨Z,F,env,fp,S,q⟩=>?_
 unfold mCall at q
 refine tA.bind S (fun c e=>by rw [e] at q;exact q) (fun e=>by rw [e] at q;exact q) fun pvs vs H1 F1 f1 e1 g1 r1 n1 d1 w1=>?_
 rw [e1] at q
 simp only [Res.ok_bind] at q
 match pvs,r1,q with
 | [.int n],r1,q =>
  obtain ⟨v,rfl,rv⟩:=RelL.one r1
  unfold Rel at rv
  obtain ⟨rfl,rfl⟩:=rv
  simp only [pListR1] at q
  refine ⟨n,rfl,fun r hr=>?_⟩
  by_cases hn:decide (0 ≤ n∧n ≤ 1000000)=true
  ·rw [if_pos hn] at q
   have g2:Gr F H F1 (upd H1 r (.rng 0 n)):=g1.trans (Gr.same g1.dom (Ext.upd hr))
   exact ⟨r,n,rfl,upd_same,of_decide_eq_true hn,fun l hl=>GE.newL q g2 (relL_rng 0 n.toNat) (fun _ z=>(nomatch z)) List.nodup_nil (fun _ z=>(nomatch z)) l hl⟩
  ·rw [if_neg hn] at q;exact q.elim
 | [],_,q=>exact q.elim
 | [.non],_,q=>exact q.elim
 | [.bl _],_,q=>exact q.elim
 | [.str _],_,q=>exact q.elim
 | [.lst _ _],_,q=>exact q.elim
 | [.tup _],_,q=>exact q.elim
 | [.obj _ _ _ _],_,q=>exact q.elim
 | [.exc _],_,q=>exact q.elim
 | .int _::_::_,_,q=>exact q.elim
 | .non::_::_,_,q=>exact q.elim
 | .bl _::_::_,_,q=>exact q.elim
 | .str _::_::_,_,q=>exact q.elim
 | .lst _ _::_::_,_,q=>exact q.elim
 | .tup _::_::_,_,q=>exact q.elim
 | .obj _ _ _ _::_::_,_,q=>exact q.elim
 | .exc _::_::_,_,q=>exact q.elim
end
def intsOf:List PV→Option (List Int)
 | []=>some []
 | .int i::xs=>(intsOf xs).map (i::·)
 | _::_=>none
section
variable {X:Cx}{T:Tb}{W:Nat→St→Hp→Prop}{Z:Zn}{F F1 B L:Addr→Prop}{H H1:Hp}{σ:St}{env:En}{fp:Nat→List Addr}
theorem intsOf_rel:∀ {xs:List PV}{vs:List V}{f:List Addr}{ns:List Int},intsOf xs=some ns→RelL T F B L H xs vs f→vs=ns.map V.int
 | [],_,_,_,e,r=>by cases e;unfold RelL at r;exact r.1
 | .int i::xs,_,_,ns,e,r=>by
  unfold RelL at r
  obtain ⟨v,ws,f1,f2,rfl,h1,h2,rfl⟩:=r
  simp only [intsOf] at e
  cases e2:intsOf xs with
  | none=>rw [e2] at e;cases e
  | some ms =>
   rw [e2] at e
   cases e
   unfold Rel at h1
   rw [h1.1,intsOf_rel e2 h2]
   rfl
 | .non::_,_,_,_,e,_=>by simp [intsOf] at e
 | .bl _::_,_,_,_,e,_=>by simp [intsOf] at e
 | .str _::_,_,_,_,e,_=>by simp [intsOf] at e
 | .lst _ _::_,_,_,_,e,_=>by simp [intsOf] at e
 | .tup _::_,_,_,_,e,_=>by simp [intsOf] at e
 | .obj _ _ _ _::_,_,_,_,e,_=>by simp [intsOf] at e
 | .exc _::_,_,_,_,e,_=>by simp [intsOf] at e
theorem vals_intsAre:∀ {ns:List Int}{its:List Value},Vals (ns.map V.int) its→PyProof.Rows.IntsAre its ns
 | [],_,r=>by cases r;exact .nil
 | n::ns,_,r=>by
  cases r with
  | cons h t =>
   obtain ⟨tk,rfl⟩:=h
   exact .cons _ _ (vals_intsAre t)
end
end PR
namespace PR
open PySem PySem.Spec L2
def minI:List Int→Int
 | []=>0
 | [a]=>a
 | a::b::l=>min a (minI (b::l))
def maxI:List Int→Int
 | []=>0
 | [a]=>a
 | a::b::l=>max a (maxI (b::l))
theorem minI_mem:∀ {l:List Int},l ≠ []→minI l ∈ l∧∀ x ∈ l,minI l ≤ x
 | [],h=>absurd rfl h
 | [a],_=>by simp [minI]
 | a::b::l,_=>by
  obtain ⟨h1,h2⟩:=minI_mem (l:=b::l) (by simp)
  unfold minI
  refine ⟨?_,fun x hx=>?_⟩
  ·rcases Int.le_total a (minI (b::l)) with h | h
   ·rw [Int.min_eq_left h];exact List.mem_cons_self
   ·rw [Int.min_eq_right h];exact List.mem_cons_of_mem _ h1
  ·rcases List.mem_cons.mp hx with rfl | hx
   ·exact Int.min_le_left _ _
   ·exact Int.le_trans (Int.min_le_right _ _) (h2 x hx)
theorem maxI_mem:∀ {l:List Int},l ≠ []→maxI l ∈ l∧∀ x ∈ l,x ≤ maxI l
 | [],h=>absurd rfl h
 | [a],_=>by simp [maxI]
 | a::b::l,_=>by
  obtain ⟨h1,h2⟩:=maxI_mem (l:=b::l) (by simp)
  unfold maxI
  refine ⟨?_,fun x hx=>?_⟩
  ·rcases Int.le_total a (maxI (b::l)) with h | h
   ·rw [Int.max_eq_right h];exact List.mem_cons_of_mem _ h1
   ·rw [Int.max_eq_left h];exact List.mem_cons_self
  ·rcases List.mem_cons.mp hx with rfl | hx
   ·exact Int.le_max_left _ _
   ·exact Int.le_trans (h2 x hx) (Int.le_max_right _ _)
section
variable {X:Cx}{T:Tb}{W:Nat→St→Hp→Prop}{Z:Zn}{F F1 B L:Addr→Prop}{H H1:Hp}{σ:St}{env:En}{fp:Nat→List Addr}{pins:List (Addr × Obj)}{s:Shared}
theorem inv_kept {h':Heap}{t:Nat} (I:L2.Inv X pins σ H s) (k:∀ b o,s.heap.get? b=some o→h'.get? b=some o):L2.Inv X pins σ H { s with heap:=h',toks:=t }:=I.un (Un.kept k) (I.hok.kept k)
theorem ints_at {its:List Value}{ns:List Int} (r:Vals (ns.map V.int) its):∀ (i:Nat) (v:Value),its.toArray[i]?=some v→∃ t,v=.int (ns.getD i 0) t:=by
 intro i v e
 have e':its[i]?=some v:=by simpa using e
 have hi:i < ns.length:=by
  have h1:=(List.getElem?_eq_some_iff.mp e').1
  have h2:=r.length
  rw [List.length_map] at h2
  omega
 have:∀ {ns:List Int}{its:List Value}{i:Nat}{v:Value},Vals (ns.map V.int) its→its[i]?=some v→∃ t,v=.int (ns.getD i 0) t:=by
  intro ns
  induction ns with
  | nil=>intro its i v r e;cases r;simp at e
  | cons n ns ih =>
   intro its i v r e
   cases r with
   | cons h t =>
    obtain ⟨tk,rfl⟩:=h
    cases i with
    | zero=>simp at e;exact ⟨tk,by rw [← e];rfl⟩
    | succ i =>
     obtain ⟨tk',h'⟩:=ih t (by simpa using e)
     exact ⟨tk',by rw [h'];rfl⟩
 exact this r e'
theorem best_min {ns:List Int} (h:0 < ns.length):ns.getD (argBest (fun i j=>decide (ns.getD i 0 < ns.getD j 0)) (ns.length - 1)) 0=minI ns:=by
 obtain ⟨h1,h2⟩:=argBest_lt (fun i=>ns.getD i 0) (ns.length - 1)
 obtain ⟨m1,m2⟩:=minI_mem (l:=ns) (by intro z;simp [z] at h)
 refine Int.le_antisymm ?_ (m2 _ ?_)
 ·obtain ⟨i,hi,e⟩:=List.getElem_of_mem m1
  have:=h2 i (by omega)
  simp only [List.getD_eq_getElem?_getD,List.getElem?_eq_getElem hi,Option.getD_some,e] at this
  simpa [List.getD_eq_getElem?_getD] using this
 ·rw [List.getD_eq_getElem?_getD,List.getElem?_eq_getElem (by omega)]
  exact List.getElem_mem _
theorem best_max {ns:List Int} (h:0 < ns.length):ns.getD (argBest (fun i j=>decide (ns.getD i 0 > ns.getD j 0)) (ns.length - 1)) 0=maxI ns:=by
 obtain ⟨h1,h2⟩:=argBest_gt (fun i=>ns.getD i 0) (ns.length - 1)
 obtain ⟨m1,m2⟩:=maxI_mem (l:=ns) (by intro z;simp [z] at h)
 refine Int.le_antisymm (m2 _ ?_) ?_
 ·rw [List.getD_eq_getElem?_getD,List.getElem?_eq_getElem (by omega)]
  exact List.getElem_mem _
 ·obtain ⟨i,hi,e⟩:=List.getElem_of_mem m1
  have:=h2 i (by omega)
  simp only [List.getD_eq_getElem?_getD,List.getElem?_eq_getElem hi,Option.getD_some,e] at this
  simpa [List.getD_eq_getElem?_getD] using this
theorem two_lt {n:Nat}{l I:Addr} (hl:l < n) (e:I=n):∀ b ∈ [I,l],b < n+1:=fun b hb=>by
 rcases List.mem_cons.mp hb with z | hb
 ·rw [z,e];exact Nat.lt_succ_self _
 ·rcases List.mem_cons.mp hb with rfl | hb
  ·exact Nat.lt_succ_of_lt hl
  ·cases hb
theorem one_kept {h h':Heap}{o:Obj} (hk:∀ b u,b ∉ [h.objs.size]→(h.push o).get? b=some u→h'.get? b=some u):∀ b u,h.get? b=some u→h'.get? b=some u:=fun b u e =>
 hk b u (fun hm=>by
  rcases List.mem_cons.mp hm with z | z
  ·exact absurd (z ▸ Heap.lt_size e) (Nat.lt_irrefl _)
  ·cases z) (Heap.get?_push_of_some _ e)
theorem call_min_seq (hc:X.calm=true):CallR X (.builtin "min") (fun xs H Q=>∃ p ns,xs=[.ref p]∧(SqL X.K H p (ns.map V.int) ∨ SqT X.K H p (ns.map V.int))∧0 < ns.length∧Q (.int (minI ns)) H):=by
 intro pins s σ H xs us Q I rv h
 obtain ⟨p,ns,rfl,hq,hn,q⟩:=h
 obtain ⟨u,rfl,rx⟩:=vals1 rv
 cases rx
 have hh:=I.ok.hd hc
 have key:∀ {its:List Value},Vals (ns.map V.int) its→∀ {v:Value}{h':Heap}{tk:Nat},its.toArray[argBest (fun i j=>decide (ns.getD i 0 < ns.getD j 0)) (its.toArray.size - 1)]?=some v→(∀ b o,s.heap.get? b=some o→h'.get? b=some o)→EP X pins σ Q v { s with heap:=h',toks:=tk }:=by
  intro its r v h' tk hv k
  have hl:its.toArray.size=ns.length:=by
   have:=r.length
   simpa using this.symm
  rw [hl] at hv
  obtain ⟨t,rfl⟩:=ints_at r _ _ hv
  rw [best_min hn]
  exact ⟨.int _,H,inv_kept I k,⟨t,rfl⟩,q⟩
 rcases hq with hq | hq
 ·obtain ⟨its,r,pl,hz⟩:=I.list hq
  have hl:its.toArray.size=ns.length:=by
   have:=r.length
   simpa using this.symm
  obtain ⟨o,ho,hcl,n,hd⟩:=pl.isList
  have hlt:=Heap.lt_size ho
  refine call_min_walk (wpAny_pyIter_list pl.isList ?_)
  refine ⟨_,_,_,_,_,_,_,rfl,Walks.list (A:=X.A.in1) hh _ p (Nat.ne_of_lt hlt) its.toArray,⟨⟨_,Heap.get?_push_size _ rfl,rfl,rfl⟩,pl.isList.push _⟩,fun b hb=>?_,by omega,CmpOf.ints_lt (fun i=>ns.getD i 0) (ints_at r),fun v h' tk hP hk=>key r hP (one_kept hk)⟩
  show b < (s.heap.push _).objs.size
  rw [Heap.size_push]
  exact two_lt hlt rfl b hb
 ·obtain ⟨its,r,pl,hz⟩:=I.tuple hq
  have hl:its.toArray.size=ns.length:=by
   have:=r.length
   simpa using this.symm
  have pt:s.heap.IsTuple p its.toArray:=pl
  obtain ⟨o,ho,hcl,n,hd⟩:=pl
  have hlt:=Heap.lt_size ho
  refine call_min_walk (wpAny_pyIter_tuple pt ?_)
  refine ⟨_,_,_,_,_,_,_,rfl,Walks.tuple (A:=X.A.in1) hh _ p (Nat.ne_of_lt hlt) its.toArray,⟨⟨_,Heap.get?_push_size _ rfl,rfl,rfl⟩,pt.push _⟩,fun b hb=>?_,by omega,CmpOf.ints_lt (fun i=>ns.getD i 0) (ints_at r),fun v h' tk hP hk=>key r hP (one_kept hk)⟩
  show b < (s.heap.push _).objs.size
  rw [Heap.size_push]
  exact two_lt hlt rfl b hb
theorem call_max_seq (hc:X.calm=true):CallR X (.builtin "max") (fun xs H Q=>∃ p ns,xs=[.ref p]∧(SqL X.K H p (ns.map V.int) ∨ SqT X.K H p (ns.map V.int))∧0 < ns.length∧Q (.int (maxI ns)) H):=by
 intro pins s σ H xs us Q I rv h
 obtain ⟨p,ns,rfl,hq,hn,q⟩:=h
 obtain ⟨u,rfl,rx⟩:=vals1 rv
 cases rx
 have hh:=I.ok.hd hc
 have key:∀ {its:List Value},Vals (ns.map V.int) its→∀ {v:Value}{h':Heap}{tk:Nat},its.toArray[argBest (fun i j=>decide (ns.getD i 0 > ns.getD j 0)) (its.toArray.size - 1)]?=some v→(∀ b o,s.heap.get? b=some o→h'.get? b=some o)→EP X pins σ Q v { s with heap:=h',toks:=tk }:=by
  intro its r v h' tk hv k
  have hl:its.toArray.size=ns.length:=by
   have:=r.length
   simpa using this.symm
  rw [hl] at hv
  obtain ⟨t,rfl⟩:=ints_at r _ _ hv
  rw [best_max hn]
  exact ⟨.int _,H,inv_kept I k,⟨t,rfl⟩,q⟩
 rcases hq with hq | hq
 ·obtain ⟨its,r,pl,hz⟩:=I.list hq
  have hl:its.toArray.size=ns.length:=by
   have:=r.length
   simpa using this.symm
  obtain ⟨o,ho,hcl,n,hd⟩:=pl.isList
  have hlt:=Heap.lt_size ho
  refine call_max_walk (wpAny_pyIter_list pl.isList ?_)
  refine ⟨_,_,_,_,_,_,_,rfl,Walks.list (A:=X.A.in1) hh _ p (Nat.ne_of_lt hlt) its.toArray,⟨⟨_,Heap.get?_push_size _ rfl,rfl,rfl⟩,pl.isList.push _⟩,fun b hb=>?_,by omega,CmpOf.ints_gt (fun i=>ns.getD i 0) (ints_at r),fun v h' tk hP hk=>key r hP (one_kept hk)⟩
  show b < (s.heap.push _).objs.size
  rw [Heap.size_push]
  exact two_lt hlt rfl b hb
 ·obtain ⟨its,r,pl,hz⟩:=I.tuple hq
  have hl:its.toArray.size=ns.length:=by
   have:=r.length
   simpa using this.symm
  have pt:s.heap.IsTuple p its.toArray:=pl
  obtain ⟨o,ho,hcl,n,hd⟩:=pl
  have hlt:=Heap.lt_size ho
  refine call_max_walk (wpAny_pyIter_tuple pt ?_)
  refine ⟨_,_,_,_,_,_,_,rfl,Walks.tuple (A:=X.A.in1) hh _ p (Nat.ne_of_lt hlt) its.toArray,⟨⟨_,Heap.get?_push_size _ rfl,rfl,rfl⟩,pt.push _⟩,fun b hb=>?_,by omega,CmpOf.ints_gt (fun i=>ns.getD i 0) (ints_at r),fun v h' tk hP hk=>key r hP (one_kept hk)⟩
  show b < (s.heap.push _).objs.size
  rw [Heap.size_push]
  exact two_lt hlt rfl b hb
def pInts (g:List Int→Int):PV→Res PV:=fun x=>match seqOf x with
 | some xs=>match intsOf xs with
  | some ns=>if ns.isEmpty then .stuck else .ok (.int (g ns))
  | none=>.stuck
 | none=>.stuck
theorem mir_ints {g:List Int→Int} (hK:X.K=T.K):Mir T W (p1 (pInts g)) (fun xs H Q=>∃ p ns,xs=[.ref p]∧(SqL X.K H p (ns.map V.int) ∨ SqT X.K H p (ns.map V.int))∧0 < ns.length∧Q (.int (g ns)) H):=by
 intro B F L σ H Q F' H' xs vs fx gr r nf nd new q
 match xs,r,q with
 | [x],r,q =>
  obtain ⟨v,rfl,rv⟩:=RelL.one r
  simp only [p1,pInts] at q
  cases e:seqOf x with
  | none=>rw [e] at q;exact q.elim
  | some ys =>
   rw [e] at q
   dsimp only at q
   cases e2:intsOf ys with
   | none=>rw [e2] at q;exact q.elim
   | some ns =>
    rw [e2] at q
    dsimp only at q
    obtain ⟨a,us,fx',rfl,hs,hr,_⟩:=rv.seq e
    have hu:=intsOf_rel e2 hr
    subst hu
    cases ns with
    | nil=>exact q.elim
    | cons n ns=>exact ⟨a,_,rfl,by rw [hK];exact hs,by simp,q.scal gr relI⟩
 | [],_,q=>exact q.elim
 | _::_::_,_,q=>simp only [p1] at q;exact q.elim
theorem bb_min:bootBuiltins "min" = some (.builtin "min"):=by decide +kernel
theorem bb_max:bootBuiltins "max" = some (.builtin "max"):=by decide +kernel
theorem se_min1 {p pos:Pos}{e:Expr}{m:ME} (hK:X.K=T.K) (hc:X.calm=true) (hg:Gl X "min") (hm:X.mg "min" = none) (ha:SE X T W e m) (he:starEach [e] X.env=[(false,eval e X.env)]:=by rfl):SE X T W (.Call (.Name "min" p) [e] [] pos) (mCall (p1 (pInts minI)) (mCons m mNil)) :=
 se_callB (call_min_seq hc) (mir_ints hK) hg hm bb_min (sa_cons ha sa_nil (by rw [he];rfl)) (he:=by rw [he];rfl) (hpl:=rfl)
theorem se_max1 {p pos:Pos}{e:Expr}{m:ME} (hK:X.K=T.K) (hc:X.calm=true) (hg:Gl X "max") (hm:X.mg "max" = none) (ha:SE X T W e m) (he:starEach [e] X.env=[(false,eval e X.env)]:=by rfl):SE X T W (.Call (.Name "max" p) [e] [] pos) (mCall (p1 (pInts maxI)) (mCons m mNil)) :=
 se_callB (call_max_seq hc) (mir_ints hK) hg hm bb_max (sa_cons ha sa_nil (by rw [he];rfl)) (he:=by rw [he];rfl) (hpl:=rfl)
def pInt2L (g:Int→Int→Int):List PV→Res PV
 | [.int i,.int j]=>.ok (.int (g i j))
 | _=>.stuck
theorem mir_int2L {g:Int→Int→Int}{g':Int→Int→Int} (hg:∀ i j,g' i j=g i j):Mir T W (pInt2L g) (fun xs H Q=>∃ i j,xs=[.int i,.int j]∧Q (.int (g' i j)) H):=by
 intro B F L σ H Q F' H' xs vs fx gr r nf nd new q
 match xs,r,q with
 | [x,y],r,q =>
  cases x with
  | int i =>
   cases y with
   | int j =>
    unfold RelL at r
    obtain ⟨v,ws,f1,f2,rfl,h1,h2,rfl⟩:=r
    obtain ⟨u,rfl,h3⟩:=RelL.one h2
    unfold Rel at h1 h3
    obtain ⟨rfl,_⟩:=h1
    obtain ⟨rfl,_⟩:=h3
    exact ⟨i,j,rfl,by rw [hg];exact q.scal gr relI⟩
   | _=>exact q.elim
  | _=>exact q.elim
 | [],_,q=>exact q.elim
 | [x],_,q=>cases x <;> exact q.elim
 | x::y::z::l,_,q=>cases x <;> cases y <;> exact q.elim
theorem se_min2 {p pos:Pos}{a b:Expr}{ms:MA} (hc:X.calm=true) (hg:Gl X "min") (hm:X.mg "min" = none) (ha:SA X T W [a,b] ms) (he:starEach [a,b] X.env=[(false,eval a X.env),(false,eval b X.env)]:=by rfl) (he2:starEach [b] X.env=[(false,eval b X.env)]:=by rfl) :
  SE X T W (.Call (.Name "min" p) [a,b] [] pos) (mCall (pInt2L min) ms) :=
 se_callB (call_min2 hc) (mir_int2L fun i j=>by simp only [Int.min_def];split <;> split <;> omega) hg hm bb_min ha (he:=by rw [he,he2]) (hpl:=by rw [he2];rfl)
end
end PR
namespace PR
open PySem PySem.W PyProof.Rows
structure Ord (N:Nat) (lt:Nat→Nat→Bool):Prop where
 tr:∀ i j k,i < N→j < N→k < N→lt i j=true→lt j k=true→lt i k=true
 tot:∀ i j,i < N→j < N→i ≠ j→lt i j=false→lt j i=true
 irr:∀ i,i < N→lt i i=false
structure Plc (N:Nat) (p:Array Nat):Prop where
 pm:p.toList.Perm (List.range N)
abbrev at_ (p:Array Nat) (i:Nat):Nat:=p.getD i 0
section
variable {N:Nat}{lt:Nat→Nat→Bool}{p:Array Nat}
theorem Plc.sz (P:Plc N p):p.size=N:=by simpa using P.pm.length_eq
theorem Plc.get (P:Plc N p) {i:Nat} (h:i < N):p[i]?=some (at_ p i):=by
 have:i < p.size:=by rw [P.sz];exact h
 simp [at_,this]
theorem Plc.bd (P:Plc N p) {i:Nat} (h:i < N):at_ p i < N:=by
 have hm:at_ p i ∈ p.toList:=by
  have:=P.get h
  exact Array.mem_toList_iff.mpr (Array.mem_of_getElem? this)
 simpa using P.pm.mem_iff.mp hm
theorem Plc.inj (P:Plc N p) {i j:Nat} (hi:i < N) (hj:j < N) (e:at_ p i=at_ p j):i=j:=by
 have nd:p.toList.Nodup:=P.pm.nodup_iff.mpr List.nodup_range
 have h1:=P.get hi
 have h2:=P.get hj
 rw [e] at h1
 have h1':p.toList[i]?=some (at_ p j):=by simpa using h1
 have h2':p.toList[j]?=some (at_ p j):=by simpa using h2
 obtain ⟨a1,b1⟩:=List.getElem?_eq_some_iff.mp h1'
 obtain ⟨a2,b2⟩:=List.getElem?_eq_some_iff.mp h2'
 exact (List.getElem_inj nd).mp (b1.trans b2.symm)
def Asc (lt:Nat→Nat→Bool) (p:Array Nat) (n:Nat):Prop:=∀ a b,a < b→b < n→lt (at_ p a) (at_ p b)=true
def Dsc (lt:Nat→Nat→Bool) (p:Array Nat) (n:Nat):Prop:=∀ a b,a < b→b < n→lt (at_ p b) (at_ p a)=true
theorem Asc.more (O:Ord N lt) (P:Plc N p) {n:Nat} (h:Asc lt p n) (h1:1 ≤ n) (hn:n < N) (hl:lt (at_ p (n - 1)) (at_ p n)=true):Asc lt p (n+1):=fun a b hab hb=>by
 by_cases hbn:b < n
 ·exact h a b hab hbn
 ·obtain rfl:b=n:=by omega
  by_cases ha:a=b - 1
  ·rw [ha];exact hl
  ·exact O.tr _ _ _ (P.bd (by omega)) (P.bd (by omega)) (P.bd (by omega)) (h a (b - 1) (by omega) (by omega)) hl
theorem Dsc.more (O:Ord N lt) (P:Plc N p) {n:Nat} (h:Dsc lt p n) (h1:1 ≤ n) (hn:n < N) (hl:lt (at_ p n) (at_ p (n - 1))=true):Dsc lt p (n+1):=fun a b hab hb=>by
 by_cases hbn:b < n
 ·exact h a b hab hbn
 ·obtain rfl:b=n:=by omega
  by_cases ha:a=b - 1
  ·rw [ha];exact hl
  ·exact O.tr _ _ _ (P.bd (by omega)) (P.bd (by omega)) (P.bd (by omega)) hl (h a (b - 1) (by omega) (by omega))
theorem Dsc.rev (P:Plc N p) {n:Nat} (h:Dsc lt p n) (hn:n ≤ N):Asc lt (kas_rev p 0 n) n∧Plc N (kas_rev p 0 n):=by
 have hp:(kas_rev p 0 n).toList.Perm p.toList:=Array.perm_iff_toList_perm.mp (mirror_perm _ _ _ _)
 have P':Plc N (kas_rev p 0 n):=⟨hp.trans P.pm⟩
 have ix:∀ k,k < n→at_ (kas_rev p 0 n) k=at_ p (n - 1 - k):=fun k hk=>by
  have e:=getElem?_mirror_all (xs:=p) (i:=0) (j:=n) (by rw [P.sz];exact hn) k
  have h1:(kas_rev p 0 n)[k]?=p[0+n - 1 - k]?:=by
   unfold kas_rev
   rw [e,if_pos ⟨by omega,hk⟩]
  rw [P'.get (by omega),show 0+n - 1 - k=n - 1 - k by omega,P.get (by omega)] at h1
  exact Option.some.inj h1
 refine ⟨fun a b hab hb=>?_,P'⟩
 rw [ix a (by omega),ix b hb]
 exact h _ _ (by omega) (by omega)
variable {cmp:Nat→Nat→(Bool→Shared→Prop)→Shared→Prop}{s:Shared}
abbrev Cmp (N:Nat) (lt:Nat→Nat→Bool) (cmp:Nat→Nat→(Bool→Shared→Prop)→Shared→Prop) (s:Shared):Prop:=∀ (i j:Nat) (C:Bool→Shared→Prop),i < N→j < N→C (lt i j) s→cmp i j C s
theorem asc_ok (O:Ord N lt) (C:Cmp N lt cmp s) (P:Plc N p):∀ (f n:Nat) (Q:Nat→Shared→Prop),1 ≤ n→n+f=N→Asc lt p n→(∀ m,n ≤ m→m ≤ N→Asc lt p m→(m < N→lt (at_ p m) (at_ p (m - 1))=true)→Q m s)→(kas_asc p f n).kasWp cmp Q s
 | 0,n,Q,h1,hn,ha,k=>k n (Nat.le_refl _) (by omega) ha (by omega)
 | f+1,n,Q,h1,hn,ha,k=>by
  refine C _ _ _ (P.bd (by omega)) (P.bd (by omega)) ?_
  cases e:lt (at_ p n) (at_ p (n - 1)) with
  | true=>exact k n (Nat.le_refl _) (by omega) ha fun _=>e
  | false =>
   have hl:=O.tot _ _ (P.bd (by omega)) (P.bd (by omega)) (fun z=>by have:=P.inj (by omega) (by omega) z;omega) e
   exact asc_ok O C P f (n+1) Q (by omega) (by omega) (ha.more O P h1 (by omega) hl) fun m hm=>k m (by omega)
theorem dsc_ok (O:Ord N lt) (C:Cmp N lt cmp s) (P:Plc N p):∀ (f n:Nat) (Q:Array Nat × Nat × Nat→Shared→Prop),1 ≤ n→n+f=N→Dsc lt p n→(∀ m,n ≤ m→m ≤ N→Dsc lt p m→Q (p,m,0) s)→(kas_desc f p n 0).kasWp cmp Q s
 | 0,n,Q,h1,hn,ha,k=>k n (Nat.le_refl _) (by omega) ha
 | f+1,n,Q,h1,hn,ha,k=>by
  refine C _ _ _ (P.bd (by omega)) (P.bd (by omega)) ?_
  cases e:lt (at_ p n) (at_ p (n - 1)) with
  | true=>exact dsc_ok O C P f (n+1) Q (by omega) (by omega) (ha.more O P h1 (by omega) e) fun m hm=>k m (by omega)
  | false =>
   have hl:=O.tot _ _ (P.bd (by omega)) (P.bd (by omega)) (fun z=>by have:=P.inj (by omega) (by omega) z;omega) e
   refine C _ _ _ (P.bd (by omega)) (P.bd (by omega)) ?_
   have e2:lt (p.getD (n - 1) 0) (p.getD n 0)=true:=hl
   rw [e2]
   exact k n (Nat.le_refl _) (by omega) ha
theorem count_ok (O:Ord N lt) (C:Cmp N lt cmp s) (P:Plc N p) (h2:2 ≤ N) (Q:Nat × Array Nat→Shared→Prop) (k:∀ m p',1 ≤ m→m ≤ N→Plc N p'→Asc lt p' m→Q (m,p') s):(kas_count N p).kasWp cmp Q s:=by
 unfold kas_count
 rw [KasT.kasWp_bind]
 refine asc_ok O C P (N - 1) 1 _ (Nat.le_refl _) (by omega) (fun a b _ hb=>by omega) fun n h1 hn ha hs=>?_
 by_cases e:n=N
 ·rw [if_pos (by simpa using e)]
  exact k n p h1 hn P ha
 ·rw [if_neg (by simpa using e)]
  by_cases hn1:n > 1
  ·rw [if_pos hn1]
   refine C _ _ _ (P.bd (by omega)) (P.bd (by omega)) ?_
   have e2:lt (p.getD 0 0) (p.getD (n - 1) 0)=true:=ha 0 (n - 1) (by omega) (by omega)
   rw [e2]
   exact k n p h1 hn P ha
  ·rw [if_neg hn1]
   obtain rfl:n=1:=by omega
   unfold kas_descPart
   rw [KasT.kasWp_bind]
   refine dsc_ok O C P (N - 2) 2 _ (by omega) (by omega) (fun a b hab hb=>?_) fun m hm1 hm2 hd=>?_
   ·obtain rfl:a=0:=by omega
    obtain rfl:b=1:=by omega
    exact hs (by omega)
   ·dsimp only
    rw [if_neg (Nat.lt_irrefl 0)]
    obtain ⟨ha',P'⟩:=hd.rev P hm2
    unfold kas_tail3
    rw [KasT.kasWp_bind]
    exact asc_ok O C P' (N - m) m _ (by omega) (by omega) ha' fun n' h1' hn' ha'' _=>k n' _ (by omega) hn' P' ha''
theorem place_ok (O:Ord N lt) (C:Cmp N lt cmp s) (P:Plc N p) {k:Nat} (hk:k < N) (ha:Asc lt p k):∀ (f l r:Nat) (Q:Nat→Shared→Prop),l ≤ r→r ≤ k→r - l ≤ f→(∀ a,a < l→lt (at_ p a) (at_ p k)=true)→(∀ a,r ≤ a→a < k→lt (at_ p k) (at_ p a)=true) →
  (∀ m,m ≤ k→(∀ a,a < m→lt (at_ p a) (at_ p k)=true)→(∀ a,m ≤ a→a < k→lt (at_ p k) (at_ p a)=true)→Q m s)→(kas_place p k f l r).kasWp cmp Q s
 | 0,l,r,Q,h1,h2,h3,h4,h5,q=>by
  obtain rfl:l=r:=by omega
  exact q l h2 h4 h5
 | f+1,l,r,Q,h1,h2,h3,h4,h5,q=>by
  unfold kas_place
  by_cases e:l ≥ r
  ·rw [if_pos e]
   obtain rfl:l=r:=by omega
   exact q l h2 h4 h5
  ·rw [if_neg e]
   have hm:(l+r) / 2 < r:=by omega
   have hm2:l ≤ (l+r) / 2:=by omega
   refine C _ _ _ (P.bd hk) (P.bd (by omega)) ?_
   cases e2:lt (at_ p k) (at_ p ((l+r) / 2)) with
   | true =>
    refine place_ok O C P hk ha f l ((l+r) / 2) Q hm2 (by omega) (by omega) h4 (fun a h6 h7=>?_) q
    by_cases hae:a=(l+r) / 2
    ·rw [hae];exact e2
    ·exact O.tr _ _ _ (P.bd hk) (P.bd (by omega)) (P.bd (by omega)) e2 (ha _ a (by omega) h7)
   | false =>
    have hl:=O.tot _ _ (P.bd hk) (P.bd (by omega)) (fun z=>by have:=P.inj hk (by omega) z;omega) e2
    refine place_ok O C P hk ha f ((l+r) / 2+1) r Q (by omega) h2 (by omega) (fun a h6=>?_) h5 q
    by_cases hae:a=(l+r) / 2
    ·rw [hae];exact hl
    ·exact O.tr _ _ _ (P.bd (by omega)) (P.bd (by omega)) (P.bd hk) (ha a _ (by omega) (by omega)) hl
theorem bin_ok (O:Ord N lt) (C:Cmp N lt cmp s):∀ (f k:Nat) (p:Array Nat) (Q:Array Nat→Shared→Prop),Plc N p→Asc lt p k→k+f=N→(∀ p',Plc N p'→Asc lt p' N→Q p' s)→(kas_bin f p k).kasWp cmp Q s
 | 0,k,p,Q,P,ha,hk,q=>q p P (by rw [← hk];exact ha)
 | f+1,k,p,Q,P,ha,hk,q=>by
  unfold kas_bin
  rw [KasT.kasWp_bind]
  refine place_ok O C P (by omega) ha k 0 k _ (Nat.zero_le _) (Nat.le_refl _) (by omega) (fun _ z=>absurd z (Nat.not_lt_zero _)) (fun a h1 h2=>by omega) fun m hm h1 h2=>?_
  have P':Plc N (bubble p k (k - m)):=⟨(Array.perm_iff_toList_perm.mp (bubble_perm _ _ _)).trans P.pm⟩
  have ix:=getElem?_bubble (xs:=p) (src:=k) (by rw [P.sz];omega) (k - m) (by omega)
  have g:∀ i,i < k+1→at_ (bubble p k (k - m)) i=if i=m then at_ p k else if m < i then at_ p (i - 1) else at_ p i:=fun i hi=>by
   have e:=ix i
   rw [P'.get (by omega)] at e
   have hkm:k - (k - m)=m:=by omega
   rw [hkm] at e
   by_cases c1:i=m
   ·rw [if_pos c1]
    rw [if_pos c1,P.get (by omega)] at e
    exact Option.some.inj e
   ·rw [if_neg c1] at e ⊢
    by_cases c2:m < i
    ·rw [if_pos c2]
     rw [if_pos ⟨c2,by omega⟩,P.get (by omega)] at e
     exact Option.some.inj e
    ·rw [if_neg c2]
     rw [if_neg (fun z=>c2 z.1),P.get (by omega)] at e
     exact Option.some.inj e
  refine bin_ok O C f (k+1) _ Q P' (fun a b hab hb=>?_) (by omega) q
  rw [g a (by omega),g b hb]
  by_cases a1:a=m
  ·rw [if_pos a1,if_neg (by omega),if_pos (by omega)]
   exact h2 (b - 1) (by omega) (by omega)
  ·rw [if_neg a1]
   by_cases a2:m < a
   ·rw [if_pos a2,if_neg (by omega),if_pos (by omega)]
    exact ha _ _ (by omega) (by omega)
   ·rw [if_neg a2]
    by_cases b1:b=m
    ·rw [if_pos b1];exact h1 a (by omega)
    ·rw [if_neg b1]
     by_cases b2:m < b
     ·rw [if_pos b2]
      by_cases hh:a=b - 1
      ·omega
      ·exact ha _ _ (by omega) (by omega)
     ·rw [if_neg b2]
      exact ha _ _ hab (by omega)
theorem sort_ok (O:Ord N lt) (C:Cmp N lt cmp s) (h2:2 ≤ N) (Q:Array Nat→Shared→Prop) (q:∀ p,Plc N p→Asc lt p N→Q p s):(kas_sort N).kasWp cmp Q s:=by
 unfold kas_sort
 rw [KasT.kasWp_bind]
 refine count_ok O C (p:=List.toArray (List.range N)) ⟨by simp⟩ h2 _ fun m p' h1 hm P ha=>?_
 dsimp only
 by_cases e:m < N
 ·rw [if_pos e,Nat.max_eq_left h1]
  exact bin_ok O C (N - m) m p' Q P ha (by omega) q
 ·rw [if_neg e]
  obtain rfl:m=N:=by omega
  exact q p' P ha
end
end PR
namespace PR
open PySem PySem.Spec L2 PyProof.Rows PySem.W
section
variable {prog:Program}{w:World}{A:Around}{E:Value→Shared→Prop}{s:Shared}
def outOf (vs:List Value) (p:Array Nat):Array Value:=(p.toList.map fun i=>vs.getD i Value.none).toArray
theorem plc_range (N:Nat):Plc N (List.range N).toArray:=⟨by simp⟩
theorem outOf_range {vs:List Value}:outOf vs (List.range vs.length).toArray=vs.toArray:=by
 unfold outOf
 congr 1
 refine List.ext_getElem (by simp) fun i h1 h2=>?_
 simp [h2]
theorem lsort_gen {a:Addr}{vs:List Value}{n:Nat}{κ:SortKind}{lt:Nat→Nat→Bool}{P:PySem.Fin→Shared→Prop} (ho:s.heap.get? a=some (seqObj "list" vs.toArray n)) (h64:vs.length < 64)
  (hK:2 ≤ vs.length→∀ s':Shared,(∀ b o,b ≠ a→s.heap.get? b=some o→s'.heap.get? b=some o)→Ord vs.length lt∧(∀ Q:SortKind→Shared→Prop,Q κ s'→wpAny (model prog w) A (keyKind' vs.toArray) Q E s')∧Cmp vs.length lt (kas_ask prog w A κ vs) s')
  (h:∀ p,Plc vs.length p→Asc lt p vs.length→P (.done (.ret .none)) { s with heap:=sortedHeap s.heap a vs (outOf vs p) }) :
  wpAny (model prog w) A (Builtin.«list.sort» ⟨[.ref a],[]⟩) P E s:=by
 have lo:=Heap.lt_size ho
 obtain ⟨e1,g1⟩:∃ e1,(s.heap.update a (Obj.mapSeq fun _=>#[])).get? a=some (seqObj "list" #[] e1):=⟨_,get?_update_seq ho (fun _=>#[])⟩
 have g6:(((s.heap.update a (Obj.mapSeq fun _=>#[])).push (seqObj "tuple" vs.toArray 0)).push (seqObj "list" #[] 0)).get? a=some (seqObj "list" #[] e1):=Heap.get?_push_of_some _ (Heap.get?_push_of_some _ g1)
 have kp:∀ b o,b ≠ a→s.heap.get? b=some o→(((s.heap.update a (Obj.mapSeq fun _=>#[])).push (seqObj "tuple" vs.toArray 0)).push (seqObj "list" #[] 0)).get? b=some o:=fun b o hb q =>
  Heap.get?_push_of_some _ (Heap.get?_push_of_some _ ((Heap.get?_update_ne _ _ _ _ hb).trans q))
 rw [list_sort_plain]
 refine wpAny_bind (listItems_at ho rfl (wpAny_bind (listUpdate_at ho rfl (wpAny_bind (seqEpoch_at g1 rfl (wpAny_bind (wpAny_newTuple (wpAny_bind (wpAny_newList (wpAny_holding ?_)))))))))) <;> try (simp only [List.size_toArray,sizeLine_eq];omega)
 show wpAny (model prog w) A _ P E { s with heap:=((s.heap.update a (Obj.mapSeq fun _=>#[])).push (seqObj "tuple" vs.toArray 0)).push (seqObj "list" #[] 0) }
 dsimp only
 by_cases h2:vs.toArray.size < 2
 ·have h2':vs.length < 2:=by simpa using h2
  rw [if_pos h2,if_pos h2]
  refine wpAny_bind (wpAny_pure ?_)
  rw [StateT.run_pure]
  refine wpAny_bind (wpAny_pure ?_)
  dsimp only
  have e3:(arrOf (SortSt.mk' general' (vs.toArray.zip vs.toArray) #[] 7 none)).map (·.2)=outOf vs (List.range vs.length).toArray:=by
   rw [outOf_range]
   show (vs.toArray.zip vs.toArray).map (·.2)=vs.toArray
   match vs,h2' with
   | [],_=>simp
   | [v],_=>simp
  rw [e3]
  refine wpAny_bind (seqEpoch_at g6 rfl (wpAny_bind (listUpdate_at g6 rfl ?_ (Nat.zero_le _) (by rw [outOf_range];simp only [List.size_toArray,sizeLine_eq];omega))))
  simp only [bne_self_eq_false,Bool.false_eq_true,if_false]
  exact wpAny_pure (h _ (plc_range _) fun x y hxy hy=>by omega)
 ·have h2':2 ≤ vs.length:=by simp at h2;omega
  rw [if_neg h2,if_neg h2]
  obtain ⟨O,hk,C⟩:=hK h2' { s with heap:=((s.heap.update a (Obj.mapSeq fun _=>#[])).push (seqObj "tuple" vs.toArray 0)).push (seqObj "list" #[] 0) } kp
  refine wpAny_bind (hk _ ?_)
  refine wpAny_bind (wpAny_mono (kat_run (κ:=κ) (ks:=vs) (vs:=vs) (Q:=fun st' s'=>∃ p:Array Nat,arrOf st'=p.map (kas_item (vs.toArray.zip vs.toArray))∧failedOf st'=none∧Plc vs.length p∧Asc lt p vs.length∧s'=_) rfl h2' h64
   (fun p st' s' _ a2 a3 a4=>⟨p,a2,a3,a4⟩) (sort_ok O C h2' _ fun p c1 c2=>⟨c1,c2,rfl⟩)) ?_ fun _ _ e=>e)
  rintro ⟨⟨⟩,st'⟩ s' ⟨p,har,hf,c1,c2,rfl⟩
  dsimp only
  have e3:=kat_snds (ks:=vs) (vs:=vs) rfl har
  rw [e3]
  refine wpAny_bind (seqEpoch_at g6 rfl (wpAny_bind (listUpdate_at g6 rfl ?_ (Nat.zero_le _) (by
   rw [List.size_toArray,List.length_map,Array.length_toList,c1.sz,sizeLine_eq];omega))))
  rw [hf]
  simp only [bne_self_eq_false,Bool.false_eq_true,if_false]
  exact wpAny_pure (h _ c1 c2)
theorem sorted_gen {l:Addr}{vs:List Value}{κ:SortKind}{lt:Nat→Nat→Bool}{Q:Value→Shared→Prop} (hl:s.heap.IsList l vs.toArray) (h64:vs.length < 64)
  (hK:2 ≤ vs.length→∀ s':Shared,(∀ b o,s.heap.get? b=some o→s'.heap.get? b=some o)→Ord vs.length lt∧(∀ (E:Value→Shared→Prop) (Q:SortKind→Shared→Prop),Q κ s'→wpAny (model prog w) A.in1.in1 (keyKind' vs.toArray) Q E s')∧Cmp vs.length lt (kas_ask prog w A.in1.in1 κ vs) s')
  (h:∀ p,Plc vs.length p→Asc lt p vs.length→Q (.ref (s.heap.objs.size+1)) { s with heap:=sortedAll s.heap vs (outOf vs p) }) :
  wpAny (model prog w) A (call (.builtin "sorted") [.ref l]) Q E s:=by
 refine Calls.call_function_entry kind_sorted plain_sorted entry_sorted (args_sorted1 _) ?_
 unfold Builtin.«sorted»
 have sz:((s.heap.push (seqObj "list" #[] 0)).update s.heap.objs.size (Obj.mapSeq (· ++ vs.toArray))).objs.size=s.heap.objs.size+1:=(Heap.size_update _ _ _).trans (size_push' _ _)
 refine wpAny_bind (m:=checkCount "sorted" 1 1 _) (wpAny_pure (wpAny_bind (collect_list hl (wpAny_bind (wpAny_newList ?_ (by rw [sizeLine_eq];omega))) (by rw [sizeLine_eq];omega))))
 have g:(((s.heap.push (seqObj "list" #[] 0)).update s.heap.objs.size (Obj.mapSeq (· ++ vs.toArray))).push (seqObj "list" vs.toArray 0)).get? (s.heap.objs.size+1)=some (seqObj "list" vs.toArray 0):=sz ▸ Heap.get?_push_size _ rfl
 have kp:∀ b o,s.heap.get? b=some o→(((s.heap.push (seqObj "list" #[] 0)).update s.heap.objs.size (Obj.mapSeq (· ++ vs.toArray))).push (seqObj "list" vs.toArray 0)).get? b=some o:=fun b o q =>
  Heap.get?_push_of_some _ ((Heap.get?_update_ne _ _ _ _ (Nat.ne_of_lt (Heap.lt_size q))).trans (Heap.get?_push_of_some _ q))
 show wpAny _ _ _ _ _ { s with heap:=((s.heap.push (seqObj "list" #[] 0)).update s.heap.objs.size (Obj.mapSeq (· ++ vs.toArray))).push (seqObj "list" vs.toArray 0) }
 rw [sz]
 refine wpAny_bind (wpAny_holding (wpAny_call_entry slot_list_sort ⟨_,g,rfl⟩ entry_list_sort ?body (args_list_sort _)))
 refine lsort_gen (κ:=κ) (lt:=lt) g h64 (fun h2 s' k'=>?_) fun p c1 c2=>⟨_,rfl,wpAny_pure ⟨_,rfl,h p c1 c2⟩⟩
 obtain ⟨O,hk,C⟩:=hK h2 s' fun b o q=>k' b o (Nat.ne_of_lt (Nat.lt_succ_of_lt (Heap.lt_size q))) (kp b o q)
 exact ⟨O,fun Q q=>hk _ Q q,C⟩
def prLt (x y:Int × Int):Bool:=decide (x.1 < y.1) || (x.1 == y.1 && decide (x.2 < y.2))
theorem prLt_trans {x y z:Int × Int} (h1:prLt x y=true) (h2:prLt y z=true):prLt x z=true:=by
 simp only [prLt,Bool.or_eq_true,Bool.and_eq_true,decide_eq_true_eq,beq_iff_eq] at *
 omega
theorem prLt_irr (x:Int × Int):prLt x x=false:=by simp [prLt]
theorem prLt_tot {x y:Int × Int} (h:x ≠ y):prLt x y=true ∨ prLt y x=true:=by
 obtain ⟨a,b⟩:=x
 obtain ⟨c,d⟩:=y
 have:a ≠ c ∨ b ≠ d:=by
  by_cases e:a=c
  ·right;intro e2;exact h (by rw [e,e2])
  ·exact .inl e
 simp only [prLt,Bool.or_eq_true,Bool.and_eq_true,decide_eq_true_eq,beq_iff_eq]
 omega
def PairsAt (h:Heap):List Value→List (Int × Int)→Prop
 | [],[]=>True
 | v::vs,x::ps=>(∃ a o n t u,v=.ref a∧h.get? a=some o∧o.cls=.type "tuple" ∧ o.data=.seq #[.int x.1 t,.int x.2 u] n)∧PairsAt h vs ps
 | _,_=>False
theorem PairsAt.len {h:Heap}:∀ {vs:List Value}{ps:List (Int × Int)},PairsAt h vs ps→vs.length=ps.length
 | [],[],_=>rfl
 | _::_,_::_,q=>by simp [q.2.len]
theorem PairsAt.kept {h h':Heap} (k:∀ b o,h.get? b=some o→h'.get? b=some o):∀ {vs:List Value}{ps:List (Int × Int)},PairsAt h vs ps→PairsAt h' vs ps
 | [],[],_=>trivial
 | _::_,_::_,⟨⟨a,o,n,t,u,e1,e2,e3⟩,q⟩=>⟨⟨a,o,n,t,u,e1,k _ _ e2,e3⟩,q.kept k⟩
theorem PairsAt.at {h:Heap}:∀ {vs:List Value}{ps:List (Int × Int)},PairsAt h vs ps→∀ i,i < ps.length→∃ a o n t u,vs.getD i Value.none=.ref a∧h.get? a=some o∧o.data=.seq #[.int (ps.getD i (0,0)).1 t,.int (ps.getD i (0,0)).2 u] n
 | _::_,_::_,⟨⟨a,o,n,t,u,e1,e2,e3⟩,q⟩,0,_=>⟨a,o,n,t,u,by simp [e1],e2,by simpa using e3.2⟩
 | v::vs,x::ps,⟨_,q⟩,i+1,hi=>by
  have:=q.at i (by simpa using hi)
  simpa using this
 | [],[],_,i,hi=>by simp at hi
theorem PairsAt.firsts {h:Heap}:∀ {vs:List Value}{ps:List (Int × Int)},PairsAt h vs ps→∃ fs,KatTups h vs fs∧fs.length=ps.length∧∀ v ∈ fs,∃ i t,v=.int i t
 | [],[],_=>⟨[],.nil,rfl,fun v hv=>by cases hv⟩
 | _::_,_::_,⟨⟨a,o,n,t,u,e1,e2,e3,e4⟩,q⟩=>by
  obtain ⟨fs,h1,h2,h3⟩:=q.firsts
  subst e1
  refine ⟨_::fs,.cons e2 e3 e4 rfl h1,by simp [h2],fun v hv=>?_⟩
  rcases List.mem_cons.mp hv with rfl | hv
  ·exact ⟨_,_,rfl⟩
  ·exact h3 v hv
theorem pairs_ord {ps:List (Int × Int)} (hd:ps.Nodup):Ord ps.length (fun i j=>prLt (ps.getD i (0,0)) (ps.getD j (0,0))):=by
 refine ⟨fun i j k _ _ _ h1 h2=>prLt_trans h1 h2,fun i j hi hj hn h=>?_,fun i _=>prLt_irr _⟩
 have:ps.getD i (0,0) ≠ ps.getD j (0,0):=by
  simp only [List.getD_eq_getElem?_getD,List.getElem?_eq_getElem hi,List.getElem?_eq_getElem hj,Option.getD_some]
  exact fun e=>hn ((List.getElem_inj hd).mp e)
 rcases prLt_tot this with q | q
 ·rw [q] at h;cases h
 ·exact q
theorem oneLt_two {b:Bool}{x y:Int}{t u:Tok}{Q:Bool→Shared→Prop} (h:Q (decide (x < y)) s):wpAny (model prog w) A (oneLt' b (.int x t) (.int y u)) Q E s:=by
 cases b with
 | true=>exact oneLt_int h
 | false=>exact kat_one _ _ (wpAny_lt_int h)
theorem pairs_cmp {vs:List Value}{ps:List (Int × Int)} (hp:PairsAt s.heap vs ps):Cmp vs.length (fun i j=>prLt (ps.getD i (0,0)) (ps.getD j (0,0))) (kas_ask prog w A (tuples' true) vs) s:=by
 intro i j C hi hj q
 rw [hp.len] at hi hj
 obtain ⟨a,o,n,t,u,e1,e2,e3⟩:=hp.at i hi
 obtain ⟨a',o',n',t',u',e1',e2',e3'⟩:=hp.at j hj
 unfold kas_ask
 rw [e1,e1']
 dsimp only at q
 generalize ps.getD i (0,0)=x at *
 generalize ps.getD j (0,0)=y at *
 refine kat_lt e2 e3 e2' e3' (kat_cons (wpAny_eqBool_int (kat_go (fun h1=>kat_yes (kat_cons (wpAny_eqBool_int (kat_go (fun h2=>kat_yes (kat_nil ?_)) fun h2=>kat_no (oneLt_two ?_))))) fun h1=>kat_no (oneLt_two ?_))))
 ·simp only [beq_iff_eq] at h1 h2
  have:prLt x y=false:=by simp [prLt,h1,h2]
  rw [this] at q
  exact q
 ·simp only [beq_iff_eq] at h1
  have:prLt x y=decide (x.2 < y.2):=by simp [prLt,h1]
  rw [this] at q
  exact q
 ·have:prLt x y=decide (x.1 < y.1):=by simp [prLt,h1]
  rw [this] at q
  exact q
theorem pairs_kind {vs:List Value}{ps:List (Int × Int)} (hp:PairsAt s.heap vs ps) (h2:2 ≤ vs.length) {Q:SortKind→Shared→Prop} (q:Q (tuples' true) s):wpAny (model prog w) A (keyKind' vs.toArray) Q E s:=by
 obtain ⟨fs,h1,hl,hi⟩:=hp.firsts
 refine kat_kind (T:=.type "int") h1 (by rw [hl,← hp.len];omega) (fun v hv=>?_) rfl q
 obtain ⟨i,t,rfl⟩:=hi v hv
 exact Looks.of_pure rfl
theorem sorted_pairs {l:Addr}{vs:List Value}{ps:List (Int × Int)}{Q:Value→Shared→Prop} (hl:s.heap.IsList l vs.toArray) (h64:vs.length < 64) (hp:PairsAt s.heap vs ps) (hd:ps.Nodup)
  (h:∀ p,Plc vs.length p→Asc (fun i j=>prLt (ps.getD i (0,0)) (ps.getD j (0,0))) p vs.length→Q (.ref (s.heap.objs.size+1)) { s with heap:=sortedAll s.heap vs (outOf vs p) }) :
  wpAny (model prog w) A (call (.builtin "sorted") [.ref l]) Q E s :=
 sorted_gen hl h64 (fun h2 s' k=>⟨hp.len ▸ pairs_ord hd,fun E Q q=>pairs_kind (hp.kept k) h2 q,pairs_cmp (hp.kept k)⟩) h
end
end PR
namespace PR
open PySem PySem.Spec L2 PyProof.Rows
def insI (x:Int):List Int→List Int
 | []=>[x]
 | y::l=>if x ≤ y then x::y::l else y::insI x l
def sortI:List Int→List Int
 | []=>[]
 | x::l=>insI x (sortI l)
theorem insI_perm (x:Int):∀ l,(insI x l).Perm (x::l)
 | []=>.refl _
 | y::l=>by
  unfold insI
  split
  ·exact .refl _
  ·exact ((insI_perm x l).cons y).trans (.swap x y l)
theorem sortI_perm:∀ l,(sortI l).Perm l
 | []=>.refl _
 | x::l=>(insI_perm x _).trans ((sortI_perm l).cons x)
theorem insI_asc (x:Int):∀ {l:List Int},l.Pairwise (· ≤ ·)→(insI x l).Pairwise (· ≤ ·)
 | [],_=>by simp [insI]
 | y::l,h=>by
  obtain ⟨h1,h2⟩:=List.pairwise_cons.mp h
  unfold insI
  split
  ·refine List.pairwise_cons.mpr ⟨fun z hz=>?_,h⟩
   rcases List.mem_cons.mp hz with rfl | hz
   ·assumption
   ·have:=h1 z hz;omega
  ·refine List.pairwise_cons.mpr ⟨fun z hz=>?_,insI_asc x h2⟩
   rcases List.mem_cons.mp ((insI_perm x l).mem_iff.mp hz) with rfl | hz
   ·omega
   ·exact h1 z hz
theorem sortI_asc:∀ l,(sortI l).Pairwise (· ≤ ·)
 | []=>.nil
 | x::l=>insI_asc x (sortI_asc l)
theorem sortI_only {l l':List Int} (h1:l'.Perm l) (h2:l'.Pairwise (· ≤ ·)):l'=sortI l :=
 List.Perm.eq_of_pairwise (fun a b _ _ x y=>Int.le_antisymm x y) h2 (sortI_asc l) (h1.trans (sortI_perm l).symm)
def insP (x:Int × Int):List (Int × Int)→List (Int × Int)
 | []=>[x]
 | y::l=>if prLt x y then x::y::l else y::insP x l
def sortP:List (Int × Int)→List (Int × Int)
 | []=>[]
 | x::l=>insP x (sortP l)
theorem insP_perm (x:Int × Int):∀ l,(insP x l).Perm (x::l)
 | []=>.refl _
 | y::l=>by
  unfold insP
  split
  ·exact .refl _
  ·exact ((insP_perm x l).cons y).trans (.swap x y l)
theorem sortP_perm:∀ l,(sortP l).Perm l
 | []=>.refl _
 | x::l=>(insP_perm x _).trans ((sortP_perm l).cons x)
theorem insP_asc (x:Int × Int):∀ {l:List (Int × Int)},x ∉ l→l.Pairwise (fun a b=>prLt a b=true)→(insP x l).Pairwise (fun a b=>prLt a b=true)
 | [],_,_=>by simp [insP]
 | y::l,hn,h=>by
  obtain ⟨h1,h2⟩:=List.pairwise_cons.mp h
  unfold insP
  split
  ·refine List.pairwise_cons.mpr ⟨fun z hz=>?_,h⟩
   rcases List.mem_cons.mp hz with rfl | hz
   ·assumption
   ·exact prLt_trans ‹_› (h1 z hz)
  ·refine List.pairwise_cons.mpr ⟨fun z hz=>?_,insP_asc x (fun z=>hn (List.mem_cons_of_mem _ z)) h2⟩
   rcases List.mem_cons.mp ((insP_perm x l).mem_iff.mp hz) with rfl | hz
   ·rcases prLt_tot (x:=y) (y:=z) (fun e=>hn (e ▸ List.mem_cons_self)) with q | q
    ·exact q
    ·contradiction
   ·exact h1 z hz
theorem sortP_asc:∀ {l:List (Int × Int)},l.Nodup→(sortP l).Pairwise (fun a b=>prLt a b=true)
 | [],_=>.nil
 | x::l,h=>by
  obtain ⟨h1,h2⟩:=List.nodup_cons.mp h
  exact insP_asc x (fun z=>h1 ((sortP_perm l).mem_iff.mp z)) (sortP_asc h2)
theorem sortP_only {l l':List (Int × Int)} (hd:l.Nodup) (h1:l'.Perm l) (h2:l'.Pairwise (fun a b=>prLt a b=true)):l'=sortP l :=
 List.Perm.eq_of_pairwise (fun a b _ _ x y=>by
  have:=prLt_trans x y
  rw [prLt_irr] at this;cases this) h2 (sortP_asc hd) (h1.trans (sortP_perm l).symm)
theorem range_map {α:Type} (l:List α) (d:α):(List.range l.length).map (fun i=>l.getD i d)=l:=by
 refine List.ext_getElem (by simp) fun i h1 h2=>?_
 simp [h2]
theorem plc_sortP {ps:List (Int × Int)}{p:Array Nat} (hd:ps.Nodup) (P:Plc ps.length p) (a:Asc (fun i j=>prLt (ps.getD i (0,0)) (ps.getD j (0,0))) p ps.length):p.toList.map (fun i=>ps.getD i (0,0))=sortP ps:=by
 refine sortP_only hd (by have:=P.pm.map (fun i=>ps.getD i (0,0));rwa [range_map] at this) ?_
 refine List.pairwise_iff_getElem.mpr fun i j hi hj hij=>?_
 have hs:=P.sz
 have hi':i < p.size:=by simpa using hi
 have hj':j < p.size:=by simpa using hj
 have:=a i j hij (by omega)
 simpa [at_,Array.getD,hi',hj'] using this
def PrH (K:PySem.W.Frag) (H:Hp):List V→List (Int × Int)→Prop
 | [],[]=>True
 | v::vs,x::ps=>(∃ a,v=.ref a∧SqT K H a [.int x.1,.int x.2])∧PrH K H vs ps
 | _,_=>False
theorem PrH.len {K:PySem.W.Frag}{H:Hp}:∀ {vs:List V}{ps:List (Int × Int)},PrH K H vs ps→vs.length=ps.length
 | [],[],_=>rfl
 | _::_,_::_,q=>by simp [q.2.len]
section
variable {X:Cx}{T:Tb}{W:Nat→L2.St→Hp→Prop}{Z:Zn}{F F1 B L:Addr→Prop}{H H1:Hp}{σ:L2.St}{env:En}{fp:Nat→List Addr}{pins:List (Addr × Obj)}{s:Shared}
theorem PrH.at (I:L2.Inv X pins σ H s):∀ {vs:List V}{its:List Value}{ps:List (Int × Int)},PrH X.K H vs ps→Vals vs its→PairsAt s.heap its ps
 | [],_,[],_,r=>by cases r;trivial
 | _::_,_,_::_,⟨⟨a,e,h⟩,q⟩,r=>by
  cases r with
  | cons h1 h2 =>
   subst e
   cases h1
   refine ⟨?_,q.at I h2⟩
   obtain ⟨its,r,pl,_⟩:=I.tuple h
   obtain ⟨u,r2,rfl,⟨t,rfl⟩,r3⟩:∃ u r2,its=u::r2∧RelV _ u∧Vals _ r2:=by cases r with | cons a b=>exact ⟨_,_,rfl,a,b⟩
   obtain ⟨u',rfl,⟨t',rfl⟩⟩:=vals1 r3
   obtain ⟨o,ho,hcl,n,hd⟩:=pl
   exact ⟨a,o,n,t,t',rfl,ho,hcl,hd⟩
theorem vals_map {vs:List V}{its:List Value} (r:Vals vs its) (q:List Nat) (hq:∀ i ∈ q,i < vs.length):Vals (q.map fun i=>vs.getD i .non) (q.map fun i=>its.getD i Value.none):=by
 induction q with
 | nil=>exact .nil
 | cons i q ih =>
  refine .cons ?_ (ih fun j hj=>hq j (List.mem_cons_of_mem _ hj))
  have hi:=hq i List.mem_cons_self
  have:∀ {vs:List V}{its:List Value}{i:Nat},Vals vs its→i < vs.length→RelV (vs.getD i .non) (its.getD i Value.none):=by
   intro vs its i r
   induction r generalizing i with
   | nil=>intro h;simp at h
   | cons a b ih =>
    intro h
    cases i with
    | zero=>simpa using a
    | succ i=>simpa using ih (by simpa using h)
  exact this r hi
theorem intsAre_vals:∀ {ns:List Int}{its:List Value},PyProof.Rows.IntsAre its ns→Vals (ns.map V.int) its:=by
 intro ns its h
 induction h with
 | nil=>exact .nil
 | cons=>exact .cons ⟨_,rfl⟩ ‹_›
theorem call_sorted:CallR X (.builtin "sorted") (fun xs H Q=>∃ p ys,xs=[.ref p]∧SqL X.K H p ys∧ys.length < 64 ∧
    ((∃ ns,ys=ns.map V.int∧∀ l,H l=none→Q (.ref l) (upd H l (.lst ((sortI ns).map V.int)))) ∨
     (∃ ps,PrH X.K H ys ps∧ps.Nodup∧∀ l (q:List Nat),H l=none→q.Perm (List.range ys.length)→q.map (fun i=>ps.getD i (0,0))=sortP ps→Q (.ref l) (upd H l (.lst (q.map fun i=>ys.getD i .non)))))):=by
  intro pins s σ H xs us Q I rv h
  obtain ⟨p,ys,rfl,hq,h64,h⟩:=h
  obtain ⟨u,rfl,rx⟩:=vals1 rv
  cases rx
  obtain ⟨its,r,pl,hz⟩:=I.list hq
  have hlen:=r.length
  have hfr:=I.hok.fresh (Nat.le_succ s.heap.objs.size)
  rcases h with ⟨ns,rfl,q⟩ | ⟨ps,hp,hd,q⟩
  · refine sorted_ints pl.isList (vals_intsAre r) (by omega) fun out ns' a1 a2 a3=>?_
    obtain ⟨c,hc⟩:=sortedAll_at s.heap its out
    have e:=sortI_only a2 a3
    subst e
    refine ⟨.ref (s.heap.objs.size+1),_,I.laid (fun b o=>sortedAll_old) (Nat.le_succ _) ?_,rfl,q _ hfr⟩
    refine ⟨?_,out.toList,c,intsAre_vals a1,by simpa using hc⟩
    rw [sizeLine_eq];simp [(sortI_perm ns).length_eq] at h64 ⊢;omega
  · refine sorted_pairs pl.isList (by omega) (hp.at I r) hd fun p P a=>?_
    obtain ⟨c,hc⟩:=sortedAll_at s.heap its (outOf its p)
    have hl:=hp.len
    have pm:p.toList.Perm (List.range ys.length):=by rw [hlen];exact P.pm
    refine ⟨.ref (s.heap.objs.size+1),_,I.laid (fun b o=>sortedAll_old) (Nat.le_succ _) ?_,rfl,q _ p.toList hfr pm (plc_sortP hd (by rw [← hl,hlen];exact P) (by rw [← hl,hlen];exact a))⟩
    refine ⟨?_,_,c,vals_map r p.toList (fun i hi=>by simpa using pm.mem_iff.mp hi),hc⟩
    rw [sizeLine_eq];simp [P.sz,← hlen];omega
end
end PR
namespace PR
open PySem PySem.Spec L2
def prV (x:Int × Int):PV:=.tup [.int x.1,.int x.2]
def pairOf:PV→Option (Int × Int)
 | .tup [.int a,.int b]=>some (a,b)
 | _=>none
def pairsP:List PV→Option (List (Int × Int))
 | []=>some []
 | x::xs=>match pairOf x,pairsP xs with
  | some y,some ys=>some (y::ys)
  | _,_=>none
def pSorted:PV→Res PV
 | .lst _ xs=>if decide (xs.length < 64) then (match intsOf xs with
  | some ns=>.ok (.lst .own ((sortI ns).map .int))
  | none=>match pairsP xs with
   | some ps=>if decide ps.Nodup then .ok (.lst .own ((sortP ps).map prV)) else .stuck
   | none=>.stuck) else .stuck
 | _=>.stuck
section
variable {X:Cx}{T:Tb}{W:Nat→St→Hp→Prop}{Z:Zn}{F F1 B L:Addr→Prop}{H H1:Hp}{σ:St}{env:En}{fp:Nat→List Addr}
theorem pairOf_is {x:PV}{y:Int × Int} (e:pairOf x=some y):x=prV y:=by
 unfold pairOf at e
 split at e
 ·cases e;rfl
 ·cases e
theorem pairsP_rel:∀ {xs:List PV}{vs:List V}{f:List Addr}{ps:List (Int × Int)},pairsP xs=some ps→RelL T F B L H xs vs f→PrH T.K H vs ps∧f=[]
 | [],_,_,_,e,r=>by cases e;unfold RelL at r;obtain ⟨rfl,rfl⟩:=r;exact ⟨trivial,rfl⟩
 | x::xs,_,_,ps,e,r=>by
  unfold RelL at r
  obtain ⟨v,ws,f1,f2,rfl,h1,h2,rfl⟩:=r
  unfold pairsP at e
  cases e1:pairOf x with
  | none=>rw [e1] at e;cases e
  | some y =>
   cases e2:pairsP xs with
   | none=>rw [e1,e2] at e;cases e
   | some ys =>
    rw [e1,e2] at e
    cases e
    obtain ⟨q,rfl⟩:=pairsP_rel e2 h2
    have:=pairOf_is e1
    subst this
    unfold prV Rel at h1
    obtain ⟨a,us,rfl,hs,hr⟩:=h1
    unfold RelL at hr
    obtain ⟨v1,w1,g1,g2,rfl,k1,k2,rfl⟩:=hr
    obtain ⟨v2,rfl,k3⟩:=RelL.one k2
    unfold Rel at k1 k3
    obtain ⟨rfl,rfl⟩:=k1
    obtain ⟨rfl,rfl⟩:=k3
    exact ⟨⟨⟨a,rfl,hs⟩,q⟩,rfl⟩
theorem PrH.rel:∀ {vs:List V}{ps:List (Int × Int)},PrH T.K H vs ps→RelL T F B L H (ps.map prV) vs []
 | [],[],_=>relL0 _ _ _ _
 | _::_,x::ps,⟨⟨a,e,h⟩,q⟩=>by
  subst e
  rw [List.map_cons]
  unfold RelL
  refine ⟨_,_,[],[],rfl,?_,q.rel,rfl⟩
  unfold prV Rel
  refine ⟨a,_,rfl,h,?_⟩
  unfold RelL
  refine ⟨_,_,[],[],rfl,relI,?_,rfl⟩
  unfold RelL
  exact ⟨_,_,[],[],rfl,relI,relL0 _ _ _ _,rfl⟩
theorem PrH.get {K:PySem.W.Frag}:∀ {vs:List V}{ps:List (Int × Int)},PrH K H vs ps→∀ i,i < vs.length→∃ a,vs.getD i .non=.ref a∧SqT K H a [.int (ps.getD i (0,0)).1,.int (ps.getD i (0,0)).2]
 | _::_,_::_,⟨h,q⟩,0,_=>by simpa using h
 | _::_,_::_,⟨_,q⟩,i+1,hi=>by simpa using q.get i (by simpa using hi)
 | [],[],_,_,hi=>by simp at hi
theorem PrH.map {K:PySem.W.Frag}{vs:List V}{ps:List (Int × Int)} (h:PrH K H vs ps) (q:List Nat) (hq:∀ i ∈ q,i < vs.length):PrH K H (q.map fun i=>vs.getD i .non) (q.map fun i=>ps.getD i (0,0)):=by
 induction q with
 | nil=>trivial
 | cons i q ih=>exact ⟨h.get i (hq i List.mem_cons_self),ih fun j hj=>hq j (List.mem_cons_of_mem _ hj)⟩
theorem relL_iL (ns:List Int):RelL T F B L H (ns.map PV.int) (ns.map V.int) []:=by
 induction ns with
 | nil=>exact relL0 _ _ _ _
 | cons a l ih =>
  rw [List.map_cons,List.map_cons]
  unfold RelL
  exact ⟨_,_,[],[],rfl,relI,ih,rfl⟩
theorem RelL.len2:∀ {xs:List PV}{vs:List V}{f:List Addr},RelL T F B L H xs vs f→xs.length=vs.length
 | [],_,_,r=>by unfold RelL at r;rw [r.1];rfl
 | x::xs,_,_,r=>by
  unfold RelL at r
  obtain ⟨v,ws,f1,f2,rfl,_,h2,_⟩:=r
  simp [h2.len2]
theorem mir_sorted (hK:X.K=T.K):Mir T W (p1 pSorted) (fun xs H Q=>∃ p ys,xs=[.ref p]∧SqL X.K H p ys∧ys.length < 64 ∧
    ((∃ ns,ys=ns.map V.int∧∀ l,H l=none→Q (.ref l) (upd H l (.lst ((sortI ns).map V.int)))) ∨
     (∃ ps,PrH X.K H ys ps∧ps.Nodup∧∀ l (q:List Nat),H l=none→q.Perm (List.range ys.length)→q.map (fun i=>ps.getD i (0,0))=sortP ps→Q (.ref l) (upd H l (.lst (q.map fun i=>ys.getD i .non)))))):=by
  intro B F L σ H Q F' H' xs vs fx g r nf nd new q
  match xs,r,q with
  | [x],r,q =>
    obtain ⟨v,rfl,r1⟩:=r.one
    simp only [p1] at q
    cases x with
    | lst f xs =>
      unfold Rel at r1
      obtain ⟨a,ws,fp',rfl,hl,hr,_⟩:=r1
      simp only [pSorted] at q
      by_cases hn:decide (xs.length < 64)=true
      · rw [if_pos hn] at q
        refine ⟨a,ws,rfl,by rw [hK];exact hl.sq,by rw [← hr.len2];exact of_decide_eq_true hn,?_⟩
        cases e1:intsOf xs with
        | some ns =>
          rw [e1] at q
          dsimp only at q
          exact .inl ⟨ns,intsOf_rel e1 hr,GE.newL q g (relL_iL _) (fun _ h=>by cases h) .nil (fun _ h=>by cases h)⟩
        | none =>
          rw [e1] at q
          dsimp only at q
          cases e2:pairsP xs with
          | none=>rw [e2] at q;exact q.elim
          | some ps =>
            rw [e2] at q
            dsimp only at q
            by_cases hd:decide ps.Nodup=true
            · rw [if_pos hd] at q
              obtain ⟨hp,rfl⟩:=pairsP_rel e2 hr
              refine .inr ⟨ps,by rw [hK];exact hp,of_decide_eq_true hd,fun l q' hl' pm e=>?_⟩
              have h2:=hp.map q' fun i hi=>by simpa using pm.mem_iff.mp hi
              rw [e] at h2
              exact GE.newL q g h2.rel (fun _ h=>by cases h) .nil (fun _ h=>by cases h) l hl'
            · rw [if_neg hd] at q;exact q.elim
      · rw [if_neg hn] at q;exact q.elim
    | _=>exact q.elim
  | [],_,q=>exact q.elim
  | _::_::_,_,q=>simp only [p1] at q;exact q.elim
theorem bb_sorted:bootBuiltins "sorted" = some (.builtin "sorted"):=by decide +kernel
theorem se_sorted {p pos:Pos}{e:Expr}{m:ME} (hK:X.K=T.K) (hg:Gl X "sorted") (hm:X.mg "sorted" = none) (ha:SE X T W e m) (he:starEach [e] X.env=[(false,eval e X.env)]:=by rfl):SE X T W (.Call (.Name "sorted" p) [e] [] pos) (mCall (p1 pSorted) (mCons m mNil)) :=
 se_callB call_sorted (mir_sorted hK) hg hm bb_sorted (sa_cons ha sa_nil (by rw [he];rfl)) (he:=by rw [he];rfl) (hpl:=rfl)
end
end PR
namespace PR
open PySem PySem.Spec L2
section
variable {X:Cx}{T:Tb}{W:Nat→St→Hp→Prop}{Z:Zn}{F:Addr→Prop}{H:Hp}{σ:St}{env:En}{fp:Nat→List Addr}
theorem se_globE {x:Str}{i:Int}{pos:Pos} (hg:Gl X x) (hm:∃ t,X.mg x=some (.int i t)) (hd:(x == ("__debug__" : Str))=false:=by decide):SE X T W (.Name x pos) (mC (.int i)):=by
 obtain ⟨t,h⟩:=hm
 exact se_globI hg h hd
end
end PR
namespace PR
open PySem PySem.Spec L2
def putAt {α:Type} (n:Nat) (y:α) (xs:List α):List α:=xs.take n ++ y::xs.drop n
def rInsert:V→List V→Hp→VK→Prop:=fun x vs H Q=>∃ l xs k y,x=.ref l∧vs=[.int k,y]∧H l=some (.lst xs)∧xs.length < sizeLine∧(0 ≤ k∧k ≤ xs.length)∧Q .non (upd H l (.lst (putAt k.toNat y xs)))
theorem vals_take {xs:List V}{its:List Value} (r:Vals xs its) (n:Nat):Vals (xs.take n) (its.take n):=by
 induction r generalizing n with
 | nil=>simp;exact .nil
 | cons a b ih=>cases n with
  | zero=>exact .nil
  | succ n=>exact .cons a (ih n)
theorem vals_drop {xs:List V}{its:List Value} (r:Vals xs its) (n:Nat):Vals (xs.drop n) (its.drop n):=by
 induction r generalizing n with
 | nil=>simp;exact .nil
 | cons a b ih=>cases n with
  | zero=>exact .cons a b
  | succ n=>exact ih n
section
variable {X:Cx}{T:Tb}{W:Nat→St→Hp→Prop}{Z:Zn}{F F1 B L:Addr→Prop}{H H1:Hp}{σ:St}{env:En}{fp:Nat→List Addr}{D:Ends}
theorem mt_insert:MtM X "list.insert" rInsert:=by
 intro pins s σ H x vs v us Q I rx rv h
 obtain ⟨l,xs,k,y,rfl,rfl,hH,hz,⟨h0,h1⟩,q⟩:=h
 cases rx
 obtain ⟨u0,u,rfl,⟨t,rfl⟩,ru⟩:∃ u0 u,us=[u0,u]∧RelV (.int k) u0∧RelV y u:=by
  cases rv with
  | cons a b=>obtain ⟨u,rfl,ru⟩:=vals1 b;exact ⟨_,u,rfl,a,ru⟩
 obtain ⟨z,its,n,r,hl,e⟩:=I.lstM hH
 have hlen:=r.length
 have fits:¬ (!Builtin.List.listFitsIndex k)=true:=by
  rw [sizeLine_eq] at hz
  simp [Builtin.List.listFitsIndex]
  omega
 refine call_meets PySem.F.slot_list_insert ⟨_,e,rfl⟩ PySem.F.entry_list_insert (PySem.F.args_list_insert_3 _ _ _) (PySem.AutoSeq1.list_insert_list_int_val_1 l its.toArray n k t u fits (by rw [List.size_toArray];omega)) ⟨e,?_⟩
 refine ⟨.non,_,I.lset (its':=putAt k.toNat u its) hH e ?_ ?_ ?_,rfl,q⟩
 ·have hk:min k.toNat its.toArray.size=k.toNat:=by rw [List.size_toArray];omega
  dsimp only
  rw [if_neg (by omega),hk]
  apply Array.toList_inj.mp
  simp [putAt,List.take_of_length_le]
 ·exact (vals_take r _).append (.cons ru (vals_drop r _))
 ·simp [putAt];omega
theorem RelL.ins {v:PV}{u:V} (hv:Rel T F B L H v u []):∀ (n:Nat) {xs:List PV}{ws:List V}{f:List Addr},RelL T F B L H xs ws f→RelL T F B L H (putAt n v xs) (putAt n u ws) f
 | 0,xs,ws,f,h=>by
  show RelL T F B L H (v::xs) (u::ws) f
  unfold RelL
  exact ⟨u,ws,[],f,rfl,hv,h,rfl⟩
 | n+1,[],ws,f,h=>by
  unfold RelL at h
  obtain ⟨rfl,rfl⟩:=h
  show RelL T F B L H [v] [u] []
  unfold RelL
  exact ⟨u,[],[],[],rfl,hv,relL0 _ _ _ _,rfl⟩
 | n+1,x::xs,ws,f,h=>by
  unfold RelL at h
  obtain ⟨w,ws,f1,f2,rfl,h1,h2,rfl⟩:=h
  show RelL T F B L H (x::putAt n v xs) (w::putAt n u ws) _
  unfold RelL
  exact ⟨w,_,f1,f2,rfl,h1,RelL.ins hv n h2,rfl⟩
def flatB:PV→Bool
 | .int _=>true
 | x=>(pairOf x).isSome
theorem flat_rel {v:PV}{u:V}{f:List Addr} (h:flatB v=true) (r:Rel T F B L H v u f):f=[]:=by
 have two:∀ {v:PV},(pairOf v).isSome=true→Rel T F B L H v u f→f=[]:=fun {v} h r=>by
  obtain ⟨y,e⟩:=Option.isSome_iff_exists.mp h
  have:pairsP [v]=some [y]:=by simp [pairsP,e]
  refine (pairsP_rel (T:=T) (F:=F) (B:=B) (L:=L) (H:=H) (vs:=[u]) this ?_).2
  unfold RelL
  exact ⟨u,[],f,[],rfl,r,relL0 _ _ _ _,by simp⟩
 cases v with
 | int i=>unfold Rel at r;exact r.2
 | tup xs=>exact two h r
 | _=>simp [flatB,pairOf] at h
def mInsert (i:Nat) (k e:ME):MS:=fun env=>match k env with
 | .ok (.int j)=>(match e env with
  | .ok v=>(match env[i]? with
   | some (some (.lst .own xs))=>if flatB v && v.noLnt && decide (0 ≤ j∧j ≤ xs.length) && decide (xs.length < 10000000) then .next (env.set i (some (.lst .own (putAt j.toNat v xs)))) else .stuck
   | _=>.stuck)
  | _=>.stuck)
 | _=>.stuck
theorem ss_insert {i:Nat}{x:Str}{k e:Expr}{mk m:ME}{pos px apos cpos:Pos} (hK:X.K=T.K) (hN:X.N[i]?=some x) (hv:Vis X.env.scope x) (hk:SE X T W k mk) (he:SE X T W e m)
  (hs:swapsWith (.Call (.Attribute (.Name x px) "insert" apos) [k,e] [] cpos) none pos.line X.env=pure false:=by rfl) (hst:starEach [k,e] X.env=[(false,eval k X.env),(false,eval e X.env)]:=by rfl) (hst2:starEach [e] X.env=[(false,eval e X.env)]:=by rfl)
  (hfew:((backTo cpos (starEach [k,e] X.env)).all (fun x=>!x.1) && (backToKw cpos (keywordEach [] X.env)).all (fun x=>x.1.isSome) && decide ([k,e].length+([]:List Keyword).length+(if ([]:List Keyword).isEmpty then 0 else 1) < 30))=true:=by rfl)
  (hline:(apos.endLine == cpos.line)=true:=by rfl) (hd:(x == ("__debug__" : Str))=false:=by decide) (hcd:(x == ("__classdict__" : Str))=false:=by decide) :
  SS X T W (.Expr (.Call (.Attribute (.Name x px) "insert" apos) [k,e] [] cpos) pos) (mInsert i mk m) :=
 PS.wk (ps_expr (pos:=pos) (pe_bm (cpos:=cpos) (apos:=apos) PySem.F.plainAttrs_list PySem.F.slot_list_insert PySem.F.type_list_insert mt_insert (pe_var (pos:=px) hN hv hd hcd) (sa_cons hk (sa_cons he sa_nil (by rw [hst2];rfl)) (by rw [hst,hst2])) rfl hfew hline (by rw [hst,hst2]) (by rw [hst2];rfl)) hs) fun D σ H ⟨Z,F,env,fp,S,q⟩=>by
  unfold mInsert at q
  split at q
  ·rename_i j ek
   split at q
   ·rename_i v em
    split at q
    ·rename_i xs eo
     split at q
     ·rename_i hc
      simp only [Bool.and_eq_true,decide_eq_true_eq] at hc
      obtain ⟨⟨⟨c1,c2⟩,c3⟩,c4⟩:=hc
      obtain ⟨a,ws,fp',h1,hl,hr,hf⟩:=S.lst eo
      refine ⟨_,h1,.inl ⟨rfl,ws,by rw [hK];exact SqL.of hl⟩,Z,F,env,fp,S,?_⟩
      unfold mCons mNil
      rw [ek,em]
      intro vs H1 F1 f1 g r n1 d1 w1
      unfold RelL at r
      obtain ⟨u0,us,f2,f3,rfl,r0,r1,rfl⟩:=r
      obtain ⟨u,rfl,ru⟩:=r1.one
      unfold Rel at r0
      obtain ⟨rfl,rfl⟩:=r0
      have f0:=flat_rel c1 ru
      subst f0
      have S1:=S.grow g
      have hl1:=g.ext a _ hl
      have hln:=hr.length
      refine ⟨a,ws,j,u,rfl,rfl,hl1,?_,by omega,?_⟩
      ·rw [← hln,sizeLine_eq];omega
      ·have ndi:(a::fp').Nodup:=by rw [← hf];exact S.nd i
       exact q F1 _ σ _ (S1.mutL (v:=u) eo h1 hf (RelL.ins (Rel.noL (by simpa [PV.noLnt] using c2) ru) j.toNat (hr.ext g.ext g.mono)) (List.nodup_cons.mp ndi).2 (fun b hb=>.inl hb) hl1)
     ·exact q.elim
    ·exact q.elim
   ·exact q.elim
  ·exact q.elim
end
end PR
namespace PR
open PySem PySem.Spec L2
def smallI (ns:List Int):Bool:=ns.all fun v=>decide (-1000000 ≤ v∧v ≤ 1000000)
def pSum:PV→Res PV:=fun x=>match seqOf x with
 | some xs=>match intsOf xs with
  | some ns=>if decide (ns.length ≤ 1000) && smallI ns then .ok (.int ns.sum) else .stuck
  | none=>.stuck
 | none=>.stuck
theorem pre_sum (ns:List Int):∀ n,n ≤ ns.length→preSum (fun i=>ns.getD i 0) n=(ns.take n).sum
 | 0,_=>rfl
 | n+1,h=>by
  have hn:n < ns.length:=h
  have e:preSum (fun i=>ns.getD i 0) (n+1)=preSum (fun i=>ns.getD i 0) n+ns.getD n 0:=rfl
  rw [e,pre_sum ns n (by omega),List.take_add_one,List.getElem?_eq_getElem hn,Option.toList_some,List.sum_append,List.sum_singleton]
  simp [hn]
theorem sum_small:∀ {ns:List Int},smallI ns=true→-(1000000 * ns.length:Int) ≤ ns.sum∧ns.sum ≤ 1000000 * ns.length
 | [],_=>by simp
 | n::ns,h=>by
  simp only [smallI,List.all_cons,Bool.and_eq_true,decide_eq_true_eq] at h
  have:=sum_small (ns:=ns) (by simpa [smallI] using h.2)
  simp only [List.sum_cons,List.length_cons]
  omega
theorem small_take {ns:List Int} (h:smallI ns=true) (k:Nat):smallI (ns.take k)=true:=by
 simp only [smallI,List.all_eq_true] at h ⊢
 exact fun x hx=>h x (List.mem_of_mem_take hx)
section
variable {X:Cx}{T:Tb}{W:Nat→St→Hp→Prop}{Z:Zn}{F F1 B L:Addr→Prop}{H H1:Hp}{σ:St}{env:En}{fp:Nat→List Addr}{pins:List (Addr × Obj)}{s:Shared}{a b:Expr}{ma mb:ME}{pos:Pos}
theorem call_sum_seq (hc:X.calm=true):CallR X (.builtin "sum") (fun xs H Q=>∃ p ns,xs=[.ref p]∧(SqL X.K H p (ns.map V.int) ∨ SqT X.K H p (ns.map V.int))∧ns.length ≤ 1000∧smallI ns=true∧Q (.int ns.sum) H):=by
 intro pins s σ H xs us Q I rv h
 obtain ⟨p,ns,rfl,hq,hn,hsm,q⟩:=h
 obtain ⟨u,rfl,rx⟩:=vals1 rv
 cases rx
 have hh:=I.ok.hd hc
 have fit:∀ m,m=ns.length→∀ j,j < m→InLong (ns.getD j 0)∧InLong (preSum (fun i=>ns.getD i 0) (j+1)):=fun m e j hj=>by
  subst e
  have h1:ns.getD j 0 ∈ ns:=by simp [hj]
  simp only [smallI,List.all_eq_true,decide_eq_true_eq] at hsm
  have h2:=hsm _ h1
  have h3:=sum_small (small_take (k:=j+1) (show smallI ns=true by simpa [smallI,List.all_eq_true] using hsm))
  rw [pre_sum ns (j+1) hj]
  have h4:(ns.take (j+1)).length ≤ 1000:=by simp;omega
  unfold InLong
  omega
 have key:∀ {its:List Value},Vals (ns.map V.int) its→∀ {h':Heap}{tk t':Nat},(∀ b o,s.heap.get? b=some o→h'.get? b=some o)→EP X pins σ Q (.int (preSum (fun i=>ns.getD i 0) its.toArray.size) t') { s with heap:=h',toks:=tk }:=by
  intro its r h' tk t' k
  have hl:its.toArray.size=ns.length:=by
   have:=r.length
   simpa using this.symm
  rw [hl,pre_sum ns _ (Nat.le_refl _),List.take_length]
  exact ⟨.int _,H,inv_kept I k,⟨t',rfl⟩,q⟩
 rcases hq with hq | hq
 ·obtain ⟨its,r,pl,hz⟩:=I.list hq
  have hl:its.toArray.size=ns.length:=by
   have:=r.length
   simpa using this.symm
  obtain ⟨o,ho,hcl,n,hd⟩:=pl.isList
  have hlt:=Heap.lt_size ho
  refine call_sum_walk (wpAny_pyIter_list pl.isList ?_)
  refine ⟨_,_,_,_,_,_,(fun i=>ns.getD i 0),rfl,Walks.list (A:=X.A.in1) hh _ p (Nat.ne_of_lt hlt) its.toArray,⟨⟨_,Heap.get?_push_size _ rfl,rfl,rfl⟩,pl.isList.push _⟩,fun b hb=>?_,ints_at r,fit _ hl,fun h' tk t' hk=>key r (one_kept hk)⟩
  show b < (s.heap.push _).objs.size
  rw [Heap.size_push]
  exact two_lt hlt rfl b hb
 ·obtain ⟨its,r,pl,hz⟩:=I.tuple hq
  have hl:its.toArray.size=ns.length:=by
   have:=r.length
   simpa using this.symm
  have pt:s.heap.IsTuple p its.toArray:=pl
  obtain ⟨o,ho,hcl,n,hd⟩:=pl
  have hlt:=Heap.lt_size ho
  refine call_sum_walk (wpAny_pyIter_tuple pt ?_)
  refine ⟨_,_,_,_,_,_,(fun i=>ns.getD i 0),rfl,Walks.tuple (A:=X.A.in1) hh _ p (Nat.ne_of_lt hlt) its.toArray,⟨⟨_,Heap.get?_push_size _ rfl,rfl,rfl⟩,pt.push _⟩,fun b hb=>?_,ints_at r,fit _ hl,fun h' tk t' hk=>key r (one_kept hk)⟩
  show b < (s.heap.push _).objs.size
  rw [Heap.size_push]
  exact two_lt hlt rfl b hb
theorem mir_sum (hK:X.K=T.K):Mir T W (p1 pSum) (fun xs H Q=>∃ p ns,xs=[.ref p]∧(SqL X.K H p (ns.map V.int) ∨ SqT X.K H p (ns.map V.int))∧ns.length ≤ 1000∧smallI ns=true∧Q (.int ns.sum) H):=by
 intro B F L σ H Q F' H' xs vs fx gr r nf nd new q
 match xs,r,q with
 | [x],r,q =>
  obtain ⟨v,rfl,rv⟩:=RelL.one r
  simp only [p1,pSum] at q
  cases e:seqOf x with
  | none=>rw [e] at q;exact q.elim
  | some ys =>
   rw [e] at q
   dsimp only at q
   cases e2:intsOf ys with
   | none=>rw [e2] at q;exact q.elim
   | some ns =>
    rw [e2] at q
    dsimp only at q
    obtain ⟨a,us,fx',rfl,hs,hr,_⟩:=rv.seq e
    have hu:=intsOf_rel e2 hr
    subst hu
    split at q
    ·rename_i hc
     simp only [Bool.and_eq_true,decide_eq_true_eq] at hc
     exact ⟨a,_,rfl,by rw [hK];exact hs,hc.1,hc.2,q.scal gr relI⟩
    ·exact q.elim
 | [],_,q=>exact q.elim
 | _::_::_,_,q=>simp only [p1] at q;exact q.elim
theorem bb_sum:bootBuiltins "sum" = some (.builtin "sum"):=by decide +kernel
theorem se_sum {p pos:Pos}{e:Expr}{m:ME} (hK:X.K=T.K) (hc:X.calm=true) (hg:Gl X "sum") (hm:X.mg "sum" = none) (ha:SE X T W e m) (he:starEach [e] X.env=[(false,eval e X.env)]:=by rfl):SE X T W (.Call (.Name "sum" p) [e] [] pos) (mCall (p1 pSum) (mCons m mNil)) :=
 se_callB (call_sum_seq hc) (mir_sum hK) hg hm bb_sum (sa_cons ha sa_nil (by rw [he];rfl)) (he:=by rw [he];rfl) (hpl:=rfl)
end
end PR
namespace PR
open PySem PySem.Spec L2
section
variable {X:Cx}{T:Tb}{W:Nat→St→Hp→Prop}
end
end PR
namespace PR
open PySem PySem.Spec L2
structure Sup (K:PySem.W.Frag) (C f:Addr):Prop where
 ga:PySem.W.specialIn K (.ref C) "__getattribute__" = some (some (.builtin "type.__getattribute__"))
 rd:PySem.W.readsIn K C (.type "type")=true
 fc:PySem.W.findCls K (.ref C) (.type "type") "__init__" = some (.val (.ref f))
 kp:PySem.W.keepIn K (.ref f)=true
def mSup (m:List PV→Res PV) (ms:MA):MS:=fun env=>match (env[(0:Nat)]?:Option (Option PV)) with
 | some (some (.obj .own c ks vs))=>match ms env with
  | .ok xs=>if hasL Fl.isLnt xs then .stuck else match m (.obj .own c ks vs::mapL Fl.toBor xs) with
   | .ok (.obj fl c' ks' vs')=>if (PV.obj fl c' ks' vs').has Fl.isBor then .stuck else .next (env.set 0 (some (.obj fl c' ks' vs')))
   | _=>.stuck
  | .exc c=>.exc c env
  | .stuck=>.stuck
 | _=>.stuck
section
variable {X:Cx}{T:Tb}{W:Nat→St→Hp→Prop}{Z:Zn}{F F1 F3:Addr→Prop}{H H1 H3:Hp}{σ:St}{env:En}{fp:Nat→List Addr}
theorem StRel.sup {o:PV}{v0:V}{fx f3:List Addr}{B':Addr→Prop} (S:StRel T Z F H σ env fp) (h0:σ[0]?=some (some v0)) (hl:0 < env.length)
  (nx:∀ a ∈ fx,Z.H0 a=none ∨ Z.fp0 a) (nj:∀ a ∈ fx,∀ i,a ∉ fp i) (nF:∀ a ∈ fx,¬ F a) (cx:∀ a ∈ fx,∃ o,H a=some o∧Chg o)
  (hp3:HpRel T ⟨H,F,(· ∈ fp 0 ++ fx),B',some v0⟩ F3 H3) (r:Rel T F3 B' NoL H3 o v0 f3) (hb:o.has Fl.isBor=false) (nd3:f3.Nodup) (nf3:∀ a ∈ f3,¬ F3 a) (new3:∀ a ∈ f3,H a=none ∨ a ∈ fp 0 ++ fx)
  (ho:∃ fl c ks xs,o=.obj fl c ks xs):StRel T Z F3 H3 σ (env.set 0 (some o)) (fput fp 0 f3):=by
 have zfree:∀ a,H a=none→Z.H0 a=none ∨ Z.fp0 a:=fun a z=>by
  by_cases q:Z.fp0 a
  ·exact .inr q
  ·refine .inl ?_
   cases w:Z.H0 a with
   | none=>rfl
   | some o=>rw [S.hp.keep a o w q] at z;exact (nomatch z)
 have inn:∀ a ∈ fp 0 ++ fx,Z.H0 a=none ∨ Z.fp0 a:=fun a h=>by
  rcases List.mem_append.mp h with h | h
  ·exact S.new 0 a h
  ·exact nx a h
 have jn:∀ j,j ≠ 0→∀ a ∈ fp j,a ∉ fp 0 ++ fx:=fun j hj a ha z=>by
  rcases List.mem_append.mp z with z | z
  ·exact S.dj j 0 hj a ha z
  ·exact nj a z j ha
 have chgn:∀ a ∈ fp 0 ++ fx,∃ o,H a=some o∧Chg o:=fun a h=>by
  rcases List.mem_append.mp h with h | h
  ·exact S.ch 0 a h
  ·exact cx a h
 have rel':Rel T F3 Z.B NoL H3 o v0 f3:=Rel.noB hb r
 refine ⟨⟨S.hp.bo,fun a u e n=>hp3.keep a u (S.hp.keep a u e n) fun z=>?_,fun a h=>hp3.f0 a (S.hp.f0 a h),fun a h=>?_,hp3.ft⟩,by rw [List.length_set,S.len],fun j pv e=>?_,fun j=>?_,fun j k hjk b hb=>?_,fun j b hb=>?_,fun j b hb=>?_,fun j b hb=>?_,fun w hw=>?_⟩
 ·rcases inn a z with q | q
  ·rw [e] at q;cases q
  ·exact n q
 ·rcases hp3.fn a h with z | z | z
  ·exact S.hp.fn a z
  ·exact .inr (zfree a z)
  ·exact .inr (inn a z)
 ·by_cases hj:j=0
  ·subst hj
   rw [List.getElem?_set_self hl] at e
   cases e
   refine ⟨v0,h0,?_⟩
   unfold fput
   rw [if_pos rfl]
   exact rel'
  ·rw [List.getElem?_set_ne (Ne.symm hj)] at e
   obtain ⟨w,h1,h2⟩:=S.rel j pv e
   refine ⟨w,h1,?_⟩
   unfold fput
   rw [if_neg hj]
   refine Rel.tr (fun a h=>hp3.f0 a h) (fun _ h=>h) (fun _ h=>h) (fun b u q h=>hp3.keep b u q fun z=>?_) (fun b hb u q=>hp3.keep b u q (jn j hj b hb)) h2
   rcases h with h | h | h | h
   ·rcases List.mem_append.mp z with z | z
    ·exact (S.dis 0 b z).1 h
    ·exact nF b z h
   ·obtain ⟨⟨o',e1⟩,e2⟩:=S.hp.bo b h
    rcases inn b z with q' | q'
    ·rw [e1] at q';cases q'
    ·exact e2 q'
   ·exact h
   ·obtain ⟨o',e1,e2⟩:=chgn b z
    have q1:H b=some u:=q
    rw [q1] at e1
    cases e1
    cases u with
    | lst _=>exact h
    | ins _ _ _=>exact h
    | _=>exact e2
 ·unfold fput;split
  ·exact nd3
  ·exact S.nd j
 ·unfold fput at hb ⊢
  have fj:∀ i,i ≠ 0→∀ a ∈ f3,a ∉ fp i:=fun i hi a ha z=>by
   rcases new3 a ha with q | q
   ·obtain ⟨_,o',e⟩:=S.dis i a z
    rw [e] at q;cases q
   ·exact jn i hi a z q
  by_cases h1:j=0
  ·subst h1
   rw [if_pos rfl] at hb
   rw [if_neg (Ne.symm hjk)]
   exact fj k (Ne.symm hjk) b hb
  ·rw [if_neg h1] at hb
   by_cases h2:k=0
   ·subst h2
    rw [if_pos rfl]
    exact fun z=>fj j h1 b z hb
   ·rw [if_neg h2]
    exact S.dj j k hjk b hb
 ·unfold fput at hb
  by_cases h1:j=0
  ·rw [if_pos h1] at hb;exact ⟨nf3 b hb,r.there b hb⟩
  ·rw [if_neg h1] at hb
   obtain ⟨n,u,e⟩:=S.dis j b hb
   refine ⟨fun z=>?_,u,hp3.keep b u e (jn j h1 b hb)⟩
   rcases hp3.fn b z with q | q | q
   ·exact n q
   ·have q':H b=none:=q
    rw [e] at q';cases q'
   ·exact jn j h1 b hb q
 ·unfold fput at hb
  by_cases h1:j=0
  ·rw [if_pos h1] at hb
   rcases new3 b hb with q | q
   ·exact zfree b q
   ·exact inn b q
  ·rw [if_neg h1] at hb;exact S.new j b hb
 ·unfold fput at hb
  by_cases h1:j=0
  ·rw [if_pos h1] at hb;exact r.chg b hb
  ·rw [if_neg h1] at hb
   obtain ⟨u,e,c⟩:=S.ch j b hb
   exact ⟨u,hp3.keep b u e (jn j h1 b hb),c⟩
 ·obtain ⟨h1,h2⟩:=S.pn w hw
  refine ⟨h1,?_⟩
  obtain ⟨fl,c,ks,xs,e⟩:=ho
  subst e
  unfold isObj0
  rw [List.getElem?_set_self hl]
theorem ss_sup {k kk n:Nat}{C f:Addr}{fd:FuncData}{ps:List Str}{m:List PV→Res PV}{x y:Str}{p px apos pos pos':Pos}{es:List Expr}{ms:MA}{pl:Sem Bool}
  (cx:Ctx X T W kk) (U:Sup X.K C f) (G:FnOk X.prog X.w X.K X.mg X.base (CXP X.prog X.w) k f fd ps (spI T ps.length m)) (hk:k ≤ kk) (hg:Gl X x) (hm:X.mg x=some (.ref C)) (hb:Binds X.K fd ps [])
  (hN:X.N[0]?=some y) (hv:Vis X.env.scope y) (hn:LenA ms n) (hps:n+1=ps.length) (ha:SA X T W es ms)
  (hdb:(x == ("__debug__" : Str))=false:=by decide) (hdy:(y == ("__debug__" : Str))=false:=by decide) (hcy:(y == ("__classdict__" : Str))=false:=by decide)
  (hst:starEach (.Name y px::es) X.env=(false,eval (.Name y px) X.env)::starEach es X.env:=by rfl) (hpl:(backTo pos (starEach es X.env)).any (·.1)=false:=by rfl)
  (ht:eval (.Call (.Attribute (.Name x p) "__init__" apos) (.Name y px::es) [] pos) X.env=(do
   let ov ← eval (.Name x p) X.env
   standAt apos.atName
   let (f,first) ← holding [ov] (getMethod ov "__init__" pl)
   callWith pos f first (backTo pos (starEach (.Name y px::es) X.env)) (backToKw pos (keywordEach [] X.env))):=by rfl)
  (hs:swapsWith (.Call (.Attribute (.Name x p) "__init__" apos) (.Name y px::es) [] pos) none pos'.line X.env=pure false:=by rfl) :
  SS X T W (.Expr (.Call (.Attribute (.Name x p) "__init__" apos) (.Name y px::es) [] pos) pos') (mSup m ms):=by
 have pe:PE X (.Call (.Attribute (.Name x p) "__init__" apos) (.Name y px::es) [] pos) (fun σ H Q=>∃ Z F env fp,StRel T Z F H σ env fp∧(match mSup m ms env with
   | .next e=>∀ F' H' fp',StRel T Z F' H' σ e fp'→Q .non H'
   | .exc c e=>∀ F' H' fp',StRel T Z F' H' σ e fp'→W c σ H'
   | _=>False)):=by
  intro pins s σ H Q I h
  obtain ⟨Z,F,env,fp,S,q⟩:=h
  refine PySem.W.methodCall_KW (pl:=pl) (ld_glob I hg hm ?_ hdb) ht
  refine PySem.W.method_cls I.kIn U.ga (PySem.W.cls_value I.kIn U.rd U.fc rfl ?_)
  have I':=I.tok (s.toks+1)
  unfold mSup at q
  cases e0:env[0]? with
  | none=>rw [e0] at q;exact q.elim
  | some o0 =>
  cases o0 with
  | none=>rw [e0] at q;exact q.elim
  | some ov =>
  obtain ⟨v0,hv0,r0⟩:=S.rel 0 ov e0
  have hl0:0 < env.length:=(List.getElem?_eq_some_iff.mp e0).1
  rw [e0] at q
  by_cases hob:∃ c ks vs,ov=.obj .own c ks vs
  case neg =>
   exfalso
   cases ov with
   | obj fl c ks vs =>
    cases fl with
    | own=>exact hob ⟨_,_,_,rfl⟩
    | _=>exact q
   | _=>exact q
  obtain ⟨c,ks,vs0,rfl⟩:=hob
  dsimp only at q
  have pa:=pa_cons (X:=X) (pe_var (pos:=px) hN hv hdy hcy) ha hst
  refine PySem.W.callWith_K (first:=[]) (h₀:=X.base) I'.ok.mod.kin U.kp (thn (pa pos pins _ σ H (fun vs H1=>∀ us s1,L2.Inv X pins σ H1 s1→Vals vs us→wpAny (model X.prog X.w) X.A (call (.ref f) us) (EP X pins σ Q) X.xe s1) I'
   ⟨v0,hv0,tA.bind S (fun c e=>?_) (fun e=>by rw [e] at q;exact q) fun xs vs H1 F1 f1 e1 g1 r1 n1 d1 w1 us s1 I1 rv=>?_⟩) fun us s1 ⟨vs,H1,I1,r,q1⟩=>⟨I1.kIn,q1 us s1 I1 r⟩) hst hpl
  ·rw [e] at q
   exact fun H' x=>q F H' fp (S.grow (Gr.same S.hp.ft x))
  rw [e1] at q
  dsimp only at q
  by_cases hln:hasL Fl.isLnt xs=true
  ·rw [if_pos hln] at q;exact q.elim
  rw [if_neg hln] at q
  have hln':hasL Fl.isLnt xs=false:=by simpa using hln
  have S1:=S.grow g1
  obtain ⟨v0',hv0',r0'⟩:=S1.rel 0 _ e0
  rw [hv0] at hv0'
  cases hv0'
  have xn:∀ a ∈ f1,∀ i,a ∉ fp i:=fun a ha i hi=>by
   obtain ⟨_,o,e⟩:=S.dis i a hi
   rw [w1 a ha] at e;cases e
  have xz:∀ a ∈ f1,Z.H0 a=none ∨ Z.fp0 a:=fun a ha=>by
   by_cases q:Z.fp0 a
   ·exact .inr q
   ·refine .inl ?_
    cases w:Z.H0 a with
    | none=>rfl
    | some o =>
     have:=w1 a ha
     rw [S.hp.keep a o w q] at this;cases this
  have hBo:∀ a,Z.B a→(∃ o,H1 a=some o)∧a ∉ fp 0 ++ f1:=fun a h=>by
   obtain ⟨⟨o,h1⟩,h2⟩:=S.hp.bo a h
   have h3:=S.hp.keep a o h1 h2
   refine ⟨⟨o,g1.ext a o h3⟩,fun z=>?_⟩
   rcases List.mem_append.mp z with z | z
   ·exact S.bow a h ⟨0,z⟩
   ·rw [w1 a z] at h3;cases h3
  have R:ArgR T F1 (fun a=>(∃ o,H1 a=some o)∧a ∉ fp 0 ++ f1) H1 (.obj .own c ks vs0::mapL Fl.toBor xs) (v0::vs) (fp 0 ++ f1):=by
   refine ⟨?_,List.nodup_append.mpr ⟨S.nd 0,d1,fun a ha b hb z=>by subst z;exact xn a hb 0 ha⟩,fun a ha=>?_,fun a h=>h,g1.dom⟩
   ·unfold RelL
    refine ⟨v0,vs,fp 0,f1,rfl,Rel.tr (fun _ h=>h) hBo (fun _ h=>h) (fun _ _ q _=>q) (fun _ _ _ q=>q) r0',?_,rfl⟩
    exact RelL.toBor hBo (fun _ h=>h.elim) (RelL.noL (L':=NoL) hln' r1)
   ·rcases List.mem_append.mp ha with ha | ha
    ·exact (S1.dis 0 a ha).1
    ·exact n1 a ha
  have r2:Vals (v0::vs) us:=rv
  have hl:us.length=ps.length:=by
   rw [← r2.length,List.length_cons,← r1.length,hn env xs e1]
   exact hps
  refine wpAny_call (codeAny_mono (G.run X.A X.stack s1 H1 ⟨us,[]⟩ us (v0::vs) Q (fun cls _ H'=>∃ c,cls=.ref (T.xcl c)∧W c σ H') (cx.room.mono hk) I1.env0 (by simpa using hb s1 us I1.kIn (by simpa using hl)) r2
   ⟨by rw [r2.length,hl],v0,_,F1,_,_,rfl,R,⟨.own,c,ks,vs0,rfl⟩,?_⟩) fun rs s' hq=>?_)
  ·cases e:m (.obj .own c ks vs0::mapL Fl.toBor xs) with
   | ok o =>
    rw [e] at q
    cases o with
    | obj fl c' ks' vs' =>
     dsimp only at q
     by_cases hbr:(PV.obj fl c' ks' vs').has Fl.isBor=true
     ·rw [if_pos hbr] at q;exact q.elim
     ·rw [if_neg hbr] at q
      dsimp only at q
      have hbr':(PV.obj fl c' ks' vs').has Fl.isBor=false:=by simpa using hbr
      intro F3 H3 f3 hp3 r3 nd3 nf3 new3
      exact q F3 H3 _ (S1.sup hv0 hl0 xz xn n1 r1.chg hp3 r3 hbr' nd3 nf3 new3 ⟨_,_,_,_,rfl⟩)
    | _=>exact q.elim
   | exc c=>rw [e] at q;exact q.elim
   | stuck=>rw [e] at q;exact q.elim
  ·cases rs with
   | error e =>
    obtain ⟨cls,H',fl,c,rfl,hw⟩:=hq
    exact cx.xf pins σ H1 s1 c H' e s' I1 fl hw
   | ok fl =>
    cases fl with
    | ret u=>exact I1.after hq
    | next=>exact False.elim hq
    | brk=>exact False.elim hq
    | cont=>exact False.elim hq
 exact PS.wk (ps_expr (pos:=pos') pe hs) fun D σ H ⟨Z,F,env,fp,S,q⟩=>by
  refine ⟨Z,F,env,fp,S,?_⟩
  cases e:mSup m ms env with
  | next e'=>rw [e] at q;exact fun F' H' fp' S'=>q F' H' σ fp' S'
  | exc c e'=>rw [e] at q;exact fun F' H' fp' S'=>q F' H' σ fp' S'
  | ret v =>
   exfalso
   revert e
   unfold mSup
   split
   ·split
    ·split
     ·simp
     ·split
      ·split <;> simp
      ·simp
    ·simp
    ·simp
   ·simp
  | brk e' =>
   exfalso
   revert e
   unfold mSup
   split
   ·split
    ·split
     ·simp
     ·split
      ·split <;> simp
      ·simp
    ·simp
    ·simp
   ·simp
  | cont e' =>
   exfalso
   revert e
   unfold mSup
   split
   ·split
    ·split
     ·simp
     ·split
      ·split <;> simp
      ·simp
    ·simp
    ·simp
   ·simp
  | stuck=>rw [e] at q;exact q
end
end PR
namespace PR
open PySem PySem.Spec L2
section
variable {X:Cx}{T:Tb}{W:Nat→St→Hp→Prop}
end
end PR
namespace PR
open PySem PySem.Spec L2 PyProof.Rows
section
variable {X:Cx}{T:Tb}{W:Nat→L2.St→Hp→Prop}{Z:Zn}{F F1 B L:Addr→Prop}{H H1:Hp}{σ:L2.St}{env:En}{fp:Nat→List Addr}{D:Ends}
def pShl:PV→PV→Res PV:=pInt2? (fun i j=>decide (0 ≤ j∧j ≤ 1000000∧i.natAbs < 2 ^ 64)) fun i j=>.int (i * 2 ^ j.toNat)
theorem se_shl {a b:Expr}{ma mb:ME}{pos:Pos} (ha:SE X T W a ma) (hb:SE X T W b mb):SE X T W (.BinOp a .LShift b pos) (mOp pShl ma mb):=se_op op_shl (mir_I (fun i j h=>(by simpa using h:0 ≤ j∧j ≤ 1000000∧i.natAbs < 2 ^ 64)) fun _ _ _ _ _ _=>relI) ha hb
end
end PR
namespace L2
open PySem PySem.Spec PyProof.Rows
section
variable {X:Cx}{e st:Expr}{te ts:TE}{pos p2:Pos}
end
end L2
namespace PR
open PySem PySem.Spec L2
section
variable {X:Cx}{T:Tb}{W:Nat→St→Hp→Prop}{Z:Zn}{F F1 B L:Addr→Prop}{H H1:Hp}{σ:St}{env:En}{fp:Nat→List Addr}
end
end PR
namespace PR
open PySem PySem.Spec L2
section
variable {X:Cx}{T:Tb}{W:Nat→St→Hp→Prop}
end
end PR
namespace PR
open PySem PySem.Spec L2
def blsOf:List PV→Option (List Bool)
 | []=>some []
 | .bl b::xs=>(blsOf xs).map (b::·)
 | _=>none
def pBls (f:List Bool→Bool):PV→Res PV
 | .lst _ xs=>match blsOf xs with
  | some bs=>.ok (.bl (f bs))
  | none=>.stuck
 | _=>.stuck
def allB (bs:List Bool):Bool:=bs.all id
section
variable {X:Cx}{T:Tb}{W:Nat→St→Hp→Prop}{Z:Zn}{F F1 B L:Addr→Prop}{H H1:Hp}{σ:St}{env:En}{fp:Nat→List Addr}{pins:List (Addr × Obj)}{s:Shared}
theorem blsOf_rel:∀ {xs:List PV}{vs:List V}{f:List Addr}{bs:List Bool},blsOf xs=some bs→RelL T F B L H xs vs f→vs=bs.map V.bl
 | [],_,_,_,e,h=>by
  simp only [blsOf,Option.some.injEq] at e
  subst e
  unfold RelL at h
  rw [h.1];rfl
 | .bl b::xs,_,_,bs,e,h=>by
  simp only [blsOf] at e
  cases e2:blsOf xs with
  | none=>rw [e2] at e;cases e
  | some ms =>
   rw [e2] at e
   cases e
   unfold RelL at h
   obtain ⟨v,ws,f1,f2,rfl,h1,h2,_⟩:=h
   unfold Rel at h1
   rw [h1.1,blsOf_rel e2 h2]
   rfl
 | .non::_,_,_,_,e,_=>by simp [blsOf] at e
 | .int _::_,_,_,_,e,_=>by simp [blsOf] at e
 | .str _::_,_,_,_,e,_=>by simp [blsOf] at e
 | .lst _ _::_,_,_,_,e,_=>by simp [blsOf] at e
 | .tup _::_,_,_,_,e,_=>by simp [blsOf] at e
 | .obj _ _ _ _::_,_,_,_,e,_=>by simp [blsOf] at e
 | .exc _::_,_,_,_,e,_=>by simp [blsOf] at e
theorem bls_at:∀ {bs:List Bool}{its:List Value},Vals (bs.map V.bl) its→∀ (i:Nat) (v:Value),its.toArray[i]?=some v→v=.bool (bs.getD i false)
 | [],_,r,i,v,e=>by cases r;simp at e
 | b::bs,_,r,i,v,e=>by
  cases r with
  | cons r1 r2 =>
   cases i with
   | zero =>
    simp at e
    subst e
    exact r1
   | succ i=>exact bls_at r2 i v (by simpa using e)
theorem rng_all (bs:List Bool) (n:Nat) (h:n=bs.length):(List.range n).all (fun i=>bs.getD i false)=allB bs:=by
 subst h
 unfold allB
 rw [Bool.eq_iff_iff,List.all_eq_true,List.all_eq_true]
 refine ⟨fun z x hx=>?_,fun z i hi=>?_⟩
 ·obtain ⟨i,hi,e⟩:=List.getElem_of_mem hx
  have:=z i (List.mem_range.mpr hi)
  rw [← e]
  simpa [hi] using this
 ·have hi':=List.mem_range.mp hi
  have:=z bs[i] (List.getElem_mem hi')
  simpa [hi'] using this
theorem bls_truth {A:Around}{bs:List Bool}{its:List Value} (r:Vals (bs.map V.bl) its):TruthOf X.prog X.w A (fun i v=>its.toArray[i]?=some v) (fun i=>bs.getD i false):=fun i v s Q E hP hQ=>by
 rw [bls_at r i v hP]
 exact wpAny_truthy_bool hQ
theorem call_all_seq (hc:X.calm=true):CallR X (.builtin "all") (fun xs H Q=>∃ p bs,xs=[.ref p]∧SqL X.K H p (bs.map V.bl)∧Q (.bl (allB bs)) H):=by
 intro pins s σ H xs us Q I rv h
 obtain ⟨p,bs,rfl,hq,q⟩:=h
 obtain ⟨u,rfl,rx⟩:=vals1 rv
 cases rx
 have hh:=I.ok.hd hc
 obtain ⟨its,r,pl,hz⟩:=I.list hq
 have hl:its.toArray.size=bs.length:=by
  have:=r.length
  simpa using this.symm
 obtain ⟨o,ho,hcl,n,hd⟩:=pl.isList
 have hlt:=Heap.lt_size ho
 have key:∀ {h':Heap}{tk:Nat},(∀ b o,s.heap.get? b=some o→h'.get? b=some o)→EP X pins σ Q (.bool (allB bs)) { s with heap:=h',toks:=tk }:=fun k=>⟨.bl _,H,inv_kept I k,rfl,q⟩
 refine call_all_walk (wpAny_pyIter_list pl.isList ?_)
 refine ⟨_,_,_,_,_,_,(fun i=>bs.getD i false),rfl,Walks.list (A:=X.A.in1) hh _ p (Nat.ne_of_lt hlt) its.toArray,⟨⟨_,Heap.get?_push_size _ rfl,rfl,rfl⟩,pl.isList.push _⟩,bls_truth r,fun h' tk hk=>?_⟩
 rw [rng_all bs _ hl]
 exact key (one_kept hk)
theorem mir_bls (hK:X.K=T.K) (f:List Bool→Bool):Mir T W (p1 (pBls f)) (fun xs H Q=>∃ p bs,xs=[.ref p]∧SqL X.K H p (bs.map V.bl)∧Q (.bl (f bs)) H):=by
 intro B F L σ H Q F' H' xs vs fx gr r nf nd new q
 match xs,r,q with
 | [x],r,q =>
  obtain ⟨v,rfl,rv⟩:=RelL.one r
  simp only [p1] at q
  cases x with
  | lst fl ys =>
   simp only [pBls] at q
   cases e2:blsOf ys with
   | none=>rw [e2] at q;exact q.elim
   | some bs =>
    rw [e2] at q
    dsimp only at q
    unfold Rel at rv
    obtain ⟨a,us,fp',rfl,hl,hr,_⟩:=rv
    have hu:=blsOf_rel e2 hr
    subst hu
    exact ⟨a,_,rfl,by rw [hK];exact hl.sq,q.scal gr relB⟩
  | _=>exact q.elim
 | [],_,q=>exact q.elim
 | _::_::_,_,q=>simp only [p1] at q;exact q.elim
theorem bb_all:bootBuiltins "all" = some (.builtin "all"):=by decide +kernel
theorem se_all {p pos:Pos}{e:Expr}{m:ME} (hK:X.K=T.K) (hc:X.calm=true) (hg:Gl X "all") (hm:X.mg "all" = none) (ha:SE X T W e m) (he:starEach [e] X.env=[(false,eval e X.env)]:=by rfl):SE X T W (.Call (.Name "all" p) [e] [] pos) (mCall (p1 (pBls allB)) (mCons m mNil)) :=
 se_callB (call_all_seq hc) (mir_bls hK allB) hg hm bb_all (sa_cons ha sa_nil (by rw [he];rfl)) (he:=by rw [he];rfl) (hpl:=rfl)
end
end PR
namespace PR
open PySem PySem.Spec L2
section
variable {X:Cx}{T:Tb}{W:Nat→St→Hp→Prop}{Z:Zn}{F:Addr→Prop}{H:Hp}{σ:St}{env:En}{fp:Nat→List Addr}
end
end PR
namespace L2
open PySem PySem.Spec PyProof.Rows
section
variable {X:Cx}{a b c d:Expr}{ta tb tc td:TE}{pos:Pos}
end
end L2
namespace PR
open PySem PySem.Spec L2
section
variable {X:Cx}{T:Tb}{W:Nat→St→Hp→Prop}
end
end PR
namespace PR
open PySem PySem.Spec L2
section
variable {X:Cx}{T:Tb}{W:Nat→St→Hp→Prop}
end
end PR
namespace PR
open PySem PySem.Spec L2
open AutoSeq1 (wpAny_loadPart')
section
variable {prog:Program}{w:World}{A:Around}{E:Value→Shared→Prop}{s:Shared}
theorem callTypeK {T nI iI:String}{Bn Bi:Builtin}{us:List Value}{kw:List (Str × Value)}{S:PySem.Spec}{Q Q1:Value→Shared→Prop} (ft:TypeCalled T nI iI)
  (c1:checkTypeCall T ⟨us,kw⟩=pure ()) (c2:checkBuiltinCall nI ⟨.type T::us,kw⟩=pure ()) (eN:entryFor table nI=some Bn) (eI:entryFor table iI=some Bi) (g:Meets (Bn ⟨.type T::us,kw⟩) S)
  (h:S A.in1 (wants Q1 E) s) (nx:∀ ob s1,Q1 ob s1→s1.TypeIs ob T∧argsOk iI ⟨ob::us,kw⟩∧∃ Si,Meets (Bi ⟨ob::us,kw⟩) Si∧Si A.in1 (wants (fun r s2=>r=.none∧Q ob s2) E) s1) :
  wpAny (model prog w) A (call (.type T) us kw) Q E s:=by
 obtain ⟨cc,tt,hmro⟩:=ft.mro
 have hmade:=ft.made;have hsub:=ft.sub;have h1:=ft.notType;have h2:=ft.canCreate
 refine wpAny_call (codeAny_of_tree (show wpAny _ _ (callAny (.type T) _) _ _ _ from wpAny_pure ⟨Code.quiet_builtin _ (by decide +kernel),codeAny_builtin F.entry_type_call ?_⟩))
 rw [Around.under_plain (weight_type_call_type T us kw) (units_type_call_type T us kw)]
 repeat (any_goals (first | assumption | wp_step | fail))
 refine codeAny_mono (codeAny_call_builtin ft.plain eN (wpAny_of_eq c2 (g prog w A.in1 _ s h))) fun r s1 hr=>?_
 cases r with
 | error e=>exact hr
 | ok fl =>
  cases fl with
  | ret ob =>
   obtain ⟨hT,hok,Si,gi,hsi⟩:=nx _ _ hr
   have hli:=ft.init.lookup;have hbi:=ft.init.bind ob
   repeat (any_goals (first | assumption | wp_step | fail))
   refine codeAny_mono (codeAny_call_builtin ft.init.plain eI (ft.init.check _ _ _ _ _ _ _ _ hT hok (gi prog w A.in1 _ s1 hsi))) fun r2 s2 hr2=>?_
   cases r2 with
   | error e=>exact hr2
   | ok fl2 =>
    cases fl2 with
    | ret r =>
     obtain ⟨rfl,hq⟩:=hr2
     repeat (any_goals (first | assumption | wp_step | fail))
    | _=>exact hr2.elim
  | _=>exact hr.elim
abbrev itO (n:String) (l:Addr):Obj:={ cls:=.type n,data:=.fields #[.ref l,.int 0 0] }
end
end PR
namespace PR
open PySem PySem.Spec L2
section
variable {prog:Program}{w:World}{A:Around}{E:Value→Shared→Prop}{s:Shared}
inductive InIt (h:Heap) (it l:Addr) (its:Array Value) (i:Nat):Prop
 | lst (a:h.IsListIter it l i) (b:h.IsList l its)
 | tup (a:h.IsTupleIter it l i) (b:h.IsTuple l its)
end
end PR
namespace PR
open PySem PySem.Spec L2
section
variable {X:Cx}{T:Tb}{W:Nat→St→Hp→Prop}{Z:Zn}{F F1 B L:Addr→Prop}{H H1:Hp}{σ:St}{env:En}{pins:List (Addr × Obj)}{s:Shared}
theorem inv_turnT {h':Heap}{t':Nat}{fp:List Addr}{a:Addr}{vs:List V} (I:L2.Inv X pins σ H s) (hf:∀ b ∈ fp,FpOk X pins H b) (k:∀ b o,b ∉ fp→s.heap.get? b=some o→h'.get? b=some o) (hp:s.heap.objs.size ≤ a) (new:ObjOk X.prog X.w (upd H a (.tup vs)) h' a (.tup vs)) :
  L2.Inv X pins σ (upd H a (.tup vs)) { s with heap:=h',toks:=t' }:=by
 have hn:H a=none:=I.hok.fresh hp
 have nit:∀ b u,H b=some u→b ∉ fp:=fun b u e z=>by rw [(hf b z).1] at e;cases e
 refine I.step (g':=s.gens) (d':=s.drawn) (ch:=fp) (fun b hb=>?_) (fun b o _ _ hc e _=>k b o hc e) (fun b o _ _ hc e _=>⟨o.slots,k b o hc e⟩) (fun b o _ e n=>?_) (fun b o hc e=>⟨o,k b o hc e⟩)
  (fun b xs e=>by rw [upd_ne (ne_of_none e hn)];exact e) (fun b o u e=>by rw [upd_ne (ne_of_none e hn)];exact e) (fun b ps e=>⟨#[],by rw [upd_ne (ne_of_none e hn),e];simp⟩) (fun m hm=>?_) (fun b u e=>?_) I.bare
 ·obtain ⟨_,q1,_,q3,q4,q5⟩:=hf b hb
  exact ⟨q3,q1,q4,q5⟩
 ·rw [upd_ne (Nat.ne_of_lt (Nat.lt_of_lt_of_le (Heap.lt_size e) hp))];exact n
 ·obtain ⟨o,es,ep,ho,r⟩:=hm
  exact ⟨o,es,ep,k _ o (fun z=>(hf _ z).2.1 rfl) ho,r⟩
 ·by_cases hb:b=a
  ·subst hb;rw [upd_same] at e;cases e;exact new
  ·rw [upd_ne hb] at e
   refine (I.hok b u e).stay (fun c v hc q=>k c v ?_ q) (fun c q=>by rw [upd_ne (ne_of_none q hn)];exact q) fun c xs q=>by rw [upd_ne (ne_of_none q hn)];exact q
   rcases hc with z | z
   ·rw [z];exact nit b u e
   ·exact nit c _ z
end
end PR
namespace PR
open PySem PySem.Spec L2
section
variable {X:Cx}{T:Tb}{W:Nat→St→Hp→Prop}{Z:Zn}{F F1 B L:Addr→Prop}{H H1:Hp}{σ:St}{env:En}{fp:Nat→List Addr}
end
end PR
namespace PR
open PySem PySem.Spec L2
def mAppIx (i j:Nat) (e:ME):MS:=fun env=>match env[i]?,env[j]? with
 | some (some (.lst .own xs)),some (some (.int k))=>(match ixN xs.length k with
  | some n=>(match xs[n]? with
   | some (.lst .own ys)=>(match e env with
    | .ok v=>if v.noLnt && decide (ys.length < 10000000) then .next (env.set i (some (.lst .own (xs.set n (.lst .own (ys ++ [v])))))) else .stuck
    | _=>.stuck)
   | _=>.stuck)
  | none=>.stuck)
 | _,_=>.stuck
section
variable {X:Cx}{T:Tb}{W:Nat→St→Hp→Prop}{Z:Zn}{F F1 B L:Addr→Prop}{H H1:Hp}{σ:St}{env:En}{fp:Nat→List Addr}{D:Ends}
theorem RelL.nest:∀ {xs:List PV}{ws:List V}{f:List Addr}{n:Nat}{ys:List PV},RelL T F B NoL H xs ws f→xs[n]?=some (.lst .own ys) →
  ∃ b f0 f1 f2 vs,f=f0 ++ (b::f1) ++ f2∧ws[n]?=some (.ref b)∧H b=some (.lst vs)∧RelL T F B NoL H ys vs f1 ∧
   ∀ (H':Hp) (ys':List PV) (vs':List V) (f1':List Addr),f.Nodup→H' b=some (.lst vs')→RelL T F B NoL H' ys' vs' f1'→(∀ a o,H a=some o→a ≠ b→H' a=some o)→¬ F b→¬ B b→RelL T F B NoL H' (xs.set n (.lst .own ys')) ws (f0 ++ (b::f1') ++ f2)
 | [],_,_,n,ys,_,e=>by simp at e
 | x::xs,ws,f,0,ys,h,e=>by
  simp at e
  subst e
  unfold RelL at h
  obtain ⟨v,ws',fa,fb,rfl,r1,r2,rfl⟩:=h
  unfold Rel at r1
  obtain ⟨b,vs,f1,rfl,hl,hr,hf⟩:=r1
  obtain rfl:fa=b::f1:=hf
  have hl':H b=some (.lst vs):=hl
  refine ⟨b,[],f1,fb,vs,by simp,rfl,hl',hr,fun H' ys' vs' f1' nd h1 h2 kp nF nB=>?_⟩
  have nd2:=List.nodup_append.mp nd
  have tr:RelL T F B NoL H' xs ws' fb:=by
   refine RelL.tr (fun _ h=>h) (fun _ h=>h) (fun _ h=>h) (fun a o q h=>kp a o q fun z=>?_) (fun a ha o q=>kp a o q fun z=>?_) r2
   ·subst z
    rcases h with h | h | h | h
    ·exact nF h
    ·exact nB h
    ·exact h
    ·rw [hl'] at q;cases q;exact h
   ·subst z
    exact nd2.2.2 a List.mem_cons_self a ha rfl
  rw [List.set_cons_zero]
  unfold RelL
  refine ⟨.ref b,ws',b::f1',fb,rfl,?_,tr,by simp⟩
  unfold Rel
  exact ⟨b,vs',f1',rfl,h1,h2,rfl⟩
 | x::xs,ws,f,n+1,ys,h,e=>by
  unfold RelL at h
  obtain ⟨v,ws',fa,fb,rfl,r1,r2,rfl⟩:=h
  obtain ⟨b,f0,f1,f2,vs,rfl,h1,h2,h3,h4⟩:=RelL.nest (n:=n) r2 (by simpa using e)
  refine ⟨b,fa ++ f0,f1,f2,vs,by simp,by simpa using h1,h2,h3,fun H' ys' vs' f1' nd g1 g2 kp nF nB=>?_⟩
  have nd2:=List.nodup_append.mp nd
  have tr:Rel T F B NoL H' x v fa:=by
   refine Rel.tr (fun _ h=>h) (fun _ h=>h) (fun _ h=>h) (fun a o q h=>kp a o q fun z=>?_) (fun a ha o q=>kp a o q fun z=>?_) r1
   ·subst z
    rcases h with h | h | h | h
    ·exact nF h
    ·exact nB h
    ·exact h
    ·rw [h2] at q;cases q;exact h
   ·subst z
    exact nd2.2.2 a ha a (by simp) rfl
  have:=h4 H' ys' vs' f1' nd2.2.1 g1 g2 kp nF nB
  rw [List.set_cons_succ]
  unfold RelL
  exact ⟨v,ws',fa,f0 ++ (b::f1') ++ f2,rfl,tr,this,by simp⟩
theorem ss_appIx {i j:Nat}{x y:Str}{e:Expr}{m:ME}{pos px py apos cpos spos:Pos} (hK:X.K=T.K) (hN:X.N[i]?=some x) (hv:Vis X.env.scope x) (hN2:X.N[j]?=some y) (hv2:Vis X.env.scope y) (he:SE X T W e m) (hix:PlainIx (.Name y py))
  (hs:swapsWith (.Call (.Attribute (.Subscript (.Name x px) (.Name y py) spos) "append" apos) [e] [] cpos) none pos.line X.env=pure false:=by rfl) (hst:starEach [e] X.env=[(false,eval e X.env)]:=by rfl)
  (hfew:((backTo cpos (starEach [e] X.env)).all (fun x=>!x.1) && (backToKw cpos (keywordEach [] X.env)).all (fun x=>x.1.isSome) && decide ([e].length+([]:List Keyword).length+(if ([]:List Keyword).isEmpty then 0 else 1) < 30))=true:=by rfl)
  (hline:(apos.endLine == cpos.line)=true:=by rfl) (hd:(x == ("__debug__" : Str))=false:=by decide) (hcd:(x == ("__classdict__" : Str))=false:=by decide) (hd2:(y == ("__debug__" : Str))=false:=by decide) (hcd2:(y == ("__classdict__" : Str))=false:=by decide) :
  SS X T W (.Expr (.Call (.Attribute (.Subscript (.Name x px) (.Name y py) spos) "append" apos) [e] [] cpos) pos) (mAppIx i j m) :=
 PS.wk (ps_expr (pos:=pos) (pe_bm (cpos:=cpos) (apos:=apos) PySem.F.plainAttrs_list PySem.F.slot_list_append PySem.F.type_list_append mt_append (pe_ix (pos:=spos) ix_seq (pe_var (pos:=px) hN hv hd hcd) (pe_var (pos:=py) hN2 hv2 hd2 hcd2) hix) (sa_cons he sa_nil hst) rfl hfew hline hst) hs) fun D σ H ⟨Z,F,env,fp,S,q⟩=>by
  unfold mAppIx at q
  split at q
  case h_2=>exact q.elim
  rename_i xs k eo ek
  cases en:ixN xs.length k with
  | none=>rw [en] at q;exact q.elim
  | some n =>
  rw [en] at q
  dsimp only at q
  split at q
  case h_2=>exact q.elim
  rename_i ys ey
  cases em:m env with
  | stuck=>rw [em] at q;exact q.elim
  | exc c=>rw [em] at q;exact q.elim
  | ok v =>
  rw [em] at q
  dsimp only at q
  split at q
  case isFalse=>exact q.elim
  rename_i hc
  simp only [Bool.and_eq_true,decide_eq_true_eq] at hc
  obtain ⟨a,ws,fp',h1,hl,hr,hf⟩:=S.lst eo
  obtain ⟨vk,k1,k2⟩:=S.rel j _ ek
  unfold Rel at k2
  obtain ⟨rfl,_⟩:=k2
  obtain ⟨b,f0,f1,f2,vs,efp,hb1,hb2,hb3,hb4⟩:=hr.nest ey
  have at_:atI ws k=some (.ref b):=by
   unfold atI
   rw [← hr.length,en]
   exact hb1
  refine ⟨_,h1,_,k1,.inl ⟨a,ws,k,.ref b,rfl,rfl,by rw [hK];exact SqL.of hl,at_,.inl ⟨rfl,vs,by rw [hK];exact SqL.of hb2⟩,Z,F,env,fp,S,?_⟩⟩
  unfold mCons mNil
  rw [em]
  intro us H1 F1 g1 g r n1 d1 w1
  obtain ⟨u,rfl,ru⟩:=r.one
  have S1:=S.grow g
  have hl1:=g.ext a _ hl
  have hb21:=g.ext b _ hb2
  have ndi:(a::fp').Nodup:=by rw [← hf];exact S.nd i
  have hbi:b ∈ fp i:=by rw [hf,efp];simp
  have hai:a ∈ fp i:=by rw [hf];exact List.mem_cons_self
  have nab:a ≠ b:=fun z=>(List.nodup_cons.mp ndi).1 (by rw [efp,z];simp)
  have nFb:¬ F1 b:=(S1.dis i b hbi).1
  have nBb:¬ Z.B b:=fun z=>S1.bow b z ⟨i,hbi⟩
  have hr1:=hr.ext g.ext g.mono
  obtain ⟨b',f0',f1',f2',vs',efp',c1,c2,c3,c4⟩:=hr1.nest ey
  rw [hb1] at c1
  cases c1
  rw [hb21] at c2
  cases c2
  have ndf:fp'.Nodup:=(List.nodup_cons.mp ndi).2
  have ndf':=ndf
  rw [efp'] at ndf'
  have rone:RelL T F1 Z.B NoL H1 [v] [u] g1:=by unfold RelL;exact ⟨u,[],g1,[],rfl,Rel.noL (by simpa [PV.noLnt] using hc.1) ru,by unfold RelL;exact ⟨rfl,rfl⟩,by simp⟩
  have side:=S.beside g n1 w1
  have subf:∀ c ∈ fp',c ∈ fp i:=fun c hc=>by rw [hf];exact List.mem_cons_of_mem _ hc
  have gne:∀ c ∈ g1,c ∉ fp i:=fun c hc=>(side c hc).2.2 i
  refine ⟨b,vs,u,rfl,rfl,hb21,?_,?_⟩
  ·rw [← c3.length,sizeLine_eq];omega
  ·have nf1:∀ c ∈ f1' ++ g1,c ≠ b:=fun c hc z=>by
    subst z
    rcases List.mem_append.mp hc with h | h
    ·have h2:=(List.nodup_append.mp (List.nodup_append.mp ndf').1).2.1
     exact (List.nodup_cons.mp h2).1 h
    ·exact gne _ h hbi
   have rin:RelL T F1 Z.B NoL (upd H1 b (.lst (vs ++ [u]))) (ys ++ [v]) (vs ++ [u]) (f1' ++ g1):=by
    refine RelL.tr (fun _ h=>h) (fun _ h=>h) (fun _ h=>h) (fun c o q h=>?_) (fun c hc o q=>by rw [upd_ne (nf1 c hc)];exact q) (RelL.append c3 rone)
    rw [upd_ne]
    ·exact q
    ·intro z
     subst z
     rcases h with h | h | h | h
     ·exact nFb h
     ·exact nBb h
     ·exact h
     ·rw [hb21] at q;cases q;exact h
   have rout:=c4 (upd H1 b (.lst (vs ++ [u]))) (ys ++ [v]) (vs ++ [u]) (f1' ++ g1) ndf upd_same rin (fun c o q hn=>by rw [upd_ne hn];exact q) nFb nBb
   have hil:i < env.length:=(List.getElem?_eq_some_iff.mp eo).1
   have mem:∀ c ∈ f0' ++ (b::(f1' ++ g1)) ++ f2',c ∈ fp' ∨ c ∈ g1:=fun c hc=>by
    rw [efp']
    simp only [List.mem_append,List.mem_cons] at hc ⊢
    rcases hc with (h | h | h | h) | h
    ·exact .inl (.inl (.inl h))
    ·exact .inl (.inl (.inr (.inl h)))
    ·exact .inl (.inl (.inr (.inr h)))
    ·exact .inr h
    ·exact .inl (.inr h)
   have ndn:(f0' ++ (b::(f1' ++ g1)) ++ f2').Nodup:=by
    have p:(f0' ++ (b::(f1' ++ g1)) ++ f2').Perm (f0' ++ (b::f1') ++ f2' ++ g1):=by
     simp only [List.append_assoc,List.cons_append]
     refine List.Perm.append_left _ (List.Perm.cons _ (List.Perm.append_left _ ?_))
     exact List.perm_append_comm
    refine p.symm.nodup (List.nodup_append.mpr ⟨ndf',d1,fun c hc c' hc' z=>?_⟩)
    subst z
    exact gne c hc' (subf c (by rw [efp'];exact hc))
   refine q F1 _ σ _ (S1.mut (a:=b) (f':=a::(f0' ++ (b::(f1' ++ g1)) ++ f2')) hil h1 hbi ?_ (List.nodup_cons.mpr ⟨fun z=>?_,ndn⟩) (fun c hc=>?_) (fun c hc=>?_) (fun c hc t ht=>?_) fun o0 o1=>?_)
   ·unfold Rel
    exact ⟨a,ws,_,rfl,by show upd H1 b _ a=_;rw [upd_ne nab];exact hl1,rout,rfl⟩
   ·rcases mem a z with h | h
    ·exact (List.nodup_cons.mp ndi).1 h
    ·exact gne a h hai
   ·rcases List.mem_cons.mp hc with rfl | hc
    ·exact (S1.dis i _ hai).1
    ·rcases mem c hc with h | h
     ·exact (S1.dis i c (subf c h)).1
     ·exact n1 c h
   ·rcases List.mem_cons.mp hc with rfl | hc
    ·exact S1.new i _ hai
    ·rcases mem c hc with h | h
     ·exact S1.new i c (subf c h)
     ·exact (side c h).2.1
   ·rcases List.mem_cons.mp hc with rfl | hc
    ·exact fun z=>S1.dj i t (Ne.symm ht) _ hai z
    ·rcases mem c hc with h | h
     ·exact fun z=>S1.dj i t (Ne.symm ht) c (subf c h) z
     ·exact (side c h).2.2 t
   ·subst o0
    unfold isObj0 at o1
    rw [eo] at o1
    cases o1
end
end PR
namespace PR
open PySem PySem.Spec L2
section
variable {X:Cx}{T:Tb}{W:Nat→St→Hp→Prop}{Z:Zn}{F F1 B L:Addr→Prop}{H H1:Hp}{σ:St}{env:En}{fp:Nat→List Addr}{D:Ends}
end
end PR
namespace PR
open PySem PySem.Spec L2
section
variable {X:Cx}{T:Tb}{W:Nat→St→Hp→Prop}{Z:Zn}{F F1 B L:Addr→Prop}{H H1:Hp}{σ:St}{env:En}{fp:Nat→List Addr}{D:Ends}
end
end PR
namespace PR
open PySem PySem.Spec L2
open AutoSeq1 (wpAny_loadPart')
section
variable {prog:Program}{w:World}{A:Around}{E:Value→Shared→Prop}{s:Shared}
abbrev zTI (n:Addr):Obj:={ cls:=.type "tuple", data:=.seq #[.ref n,.ref (n+1)] }
abbrev zTO:Obj:={ cls:=.type "tuple", data:=.seq #[.none,.none] }
abbrev zO (n:Addr):Obj:={ cls:=.type "zip", data:=.fields #[.none,.bool false,.bool false,.ref (n+2),.ref (n+3)] }
abbrev zHeap (h:Heap) (l1 l2:Addr):Heap:=((((h.push (itO "list_iterator" l1)).push (itO "list_iterator" l2)).push (zTI h.objs.size)).push zTO).push (zO h.objs.size)
theorem zInit {T nI:String}{self a b:Value} (hl:typeLookup (.type T) "__init__" = pure (some (.builtin "object.__init__"))) (hm:Bind.madeBy (.type T)=pure (some nI)) (hne:(some nI != some "object.__new__")=true) :
  Meets (Builtin.«object.__init__» ⟨[self,a,b],[]⟩) (fun _ R s=>s.TypeIs self T∧R (.ok (.ret .none)) s):=by
 refine Meets.of_wp fun pr w A R s0 hs=>?_
 obtain ⟨hT,hq⟩:=hs
 repeat (any_goals (first | assumption | wp_step | fail))
 exact ⟨_,rfl,hq⟩
theorem zNew (l1 l2:Addr) (xs ys:Array Value) :
  Meets (Builtin.«zip.__new__» ⟨[.type "zip", .ref l1,.ref l2],[]⟩) (fun _ R s=>s.heap.IsList l1 xs∧s.heap.IsList l2 ys∧R (.ok (.ret (.ref (s.heap.objs.size+4)))) { s with heap:=zHeap s.heap l1 l2 }) :=
 .of_wp fun pr w A R s0 h=>by
  obtain ⟨hp,g,d,tk,os⟩:=s0
  obtain ⟨h1,h2,h⟩:=h
  have hsub:=sub_zip
  have h2':(hp.push (itO "list_iterator" l1)).IsList l2 ys:=by
   obtain ⟨o,e,r⟩:=h2
   exact ⟨o,Heap.get?_push_of_some _ e,r⟩
  have hz1:(hp.push (itO "list_iterator" l1)).objs.size=hp.objs.size+1:=Heap.size_push ..
  have hJ1:∀ {Q:Value→Shared→Prop}{E:Value→Shared→Prop},Q (.ref hp.objs.size) ⟨hp.push (itO "list_iterator" l1),g,d,tk,os⟩→wpAny (model pr w) A.in1 (pyIter (.ref l1)) Q E ⟨hp,g,d,tk,os⟩:=fun {Q E} q=>wpAny_pyIter_list h1 q
  have hJ2:∀ {Q:Value→Shared→Prop}{E:Value→Shared→Prop},Q (.ref (hp.push (itO "list_iterator" l1)).objs.size) ⟨(hp.push (itO "list_iterator" l1)).push (itO "list_iterator" l2),g,d,tk,os⟩→wpAny (model pr w) A.in1 (pyIter (.ref l2)) Q E ⟨hp.push (itO "list_iterator" l1),g,d,tk,os⟩:=fun {Q E} q=>wpAny_pyIter_list h2' q
  wp_walk using hJ1,hJ2
  refine ⟨_,rfl,?_⟩
  simp only [Heap.size_push]
  exact h
theorem callZip {l1 l2:Addr}{xs ys:Array Value}{Q:Value→Shared→Prop} (h1:s.heap.IsList l1 xs) (h2:s.heap.IsList l2 ys) (h:Q (.ref (s.heap.objs.size+4)) { s with heap:=zHeap s.heap l1 l2 }) :
  wpAny (model prog w) A (call (.type "zip") [.ref l1,.ref l2] []) Q E s:=by
 have hz:((((s.heap.push (itO "list_iterator" l1)).push (itO "list_iterator" l2)).push (zTI s.heap.objs.size)).push zTO).objs.size=s.heap.objs.size+4:=by simp only [Heap.size_push]
 refine callTypeK (Q1:=fun ob s1=>s1.TypeIs ob "zip" ∧ Q ob s1) F.called_zip (F.typeCall_zip_2 _ _) (F.newCall_zip_2 _ _) F.entry_zip_new F.entry_object_init (zNew l1 l2 xs ys) ⟨h1,h2,?_⟩ fun ob s1 hq=>⟨hq.1,?_,_,zInit F.called_zip.init.lookup F.called_zip.made (by decide),hq.1,rfl,hq.2⟩
 ·have:=Heap.get?_push_size ((((s.heap.push (itO "list_iterator" l1)).push (itO "list_iterator" l2)).push (zTI s.heap.objs.size)).push zTO) (o:=zO s.heap.objs.size) rfl
  rw [hz] at this
  exact ⟨⟨_,this,rfl⟩,h⟩
 ·exact F.args_object_init_3 _ _ _
end
end PR
namespace PR
open PySem PySem.Spec L2
section
variable {X:Cx}{T:Tb}{W:Nat→St→Hp→Prop}{Z:Zn}{F F1 B L:Addr→Prop}{H H1:Hp}{σ:St}{env:En}{pins:List (Addr × Obj)}{s:Shared}
theorem inv_turnN {h':Heap}{t':Nat}{fp:List Addr} (I:L2.Inv X pins σ H s) (hf:∀ b ∈ fp,FpOk X pins H b) (k:∀ b o,b ∉ fp→s.heap.get? b=some o→h'.get? b=some o) :
  L2.Inv X pins σ H { s with heap:=h',toks:=t' }:=by
 have nit:∀ b u,H b=some u→b ∉ fp:=fun b u e z=>by rw [(hf b z).1] at e;cases e
 refine I.step (g':=s.gens) (d':=s.drawn) (ch:=fp) (fun b hb=>?_) (fun b o _ _ hc e _=>k b o hc e) (fun b o _ _ hc e _=>⟨o.slots,k b o hc e⟩) (fun _ _ _ _ n=>n) (fun b o hc e=>⟨o,k b o hc e⟩)
  (fun _ _ e=>e) (fun _ _ _ e=>e) (fun b ps e=>⟨#[],by rw [e];simp⟩) (fun m hm=>?_) (fun b u e=>?_) I.bare
 ·obtain ⟨_,q1,_,q3,q4,q5⟩:=hf b hb
  exact ⟨q3,q1,q4,q5⟩
 ·obtain ⟨o,es,ep,ho,r⟩:=hm
  exact ⟨o,es,ep,k _ o (fun z=>(hf _ z).2.1 rfl) ho,r⟩
 ·refine (I.hok b u e).stay (fun c v hc q=>k c v ?_ q) (fun _ q=>q) fun _ _ q=>q
  rcases hc with z | z
  ·rw [z];exact nit b u e
  ·exact nit c _ z
def Itz (K:PySem.W.Frag) (l1 l2:Addr):It :=
  ⟨fun i H=>∃ xs ys x y,SqL K H l1 xs∧SqL K H l2 ys∧xs[i]?=some x∧ys[i]?=some y,
   fun i H v H'=>∃ p x y,H p=none∧v=.ref p∧H'=upd H p (.tup [x,y])∧(∀ xs,SqL K H l1 xs→xs[i]?=some x)∧∀ ys,SqL K H l2 ys→ys[i]?=some y,
   fun i H=>∃ xs ys,SqL K H l1 xs∧SqL K H l2 ys∧(xs.length ≤ i ∨ ys.length ≤ i)⟩
theorem lit_keep {h h':Heap}{it l:Addr}{i:Nat} (a:h.IsListIter it l i) (k:∀ o,h.get? it=some o→h'.get? it=some o):h'.IsListIter it l i:=by
 obtain ⟨o,e,r⟩:=a
 exact ⟨o,k o e,r⟩
theorem turn_zip {P:Program}{w:World}{K:PySem.W.Frag}{els:List Expr}{x1}{tpos:Pos} (l1 l2 z ti to i1 i2:Addr) (D:ZipApart z ti to i1 i2 l1 l2) :
  Turn P w K (.Tuple els x1 tpos) (Itz K l1 l2) [z,ti,to,i1,i2] z (fun i h=>IsZip h z ti to .none∧IsPair h ti (.ref i1) (.ref i2)∧(∃ a b,IsPair h to a b)∧h.IsListIter i1 l1 i∧h.IsListIter i2 l2 i) where
 mem:=by simp
 obj:=fun i h st b hb=>by
  obtain ⟨hz,ht,⟨a',b',ho⟩,h1,h2⟩:=st
  simp only [List.mem_cons,List.not_mem_nil,or_false] at hb
  rcases hb with rfl | rfl | rfl | rfl | rfl
  ·exact ⟨_,hz,fun v z=>by cases z⟩
  ·exact ⟨_,ht,fun v z=>by cases z⟩
  ·exact ⟨_,ho,fun v z=>by cases z⟩
  ·obtain ⟨o,e,c,d⟩:=id h1
   exact ⟨o,e,fun v z=>by rw [d] at z;cases z⟩
  ·obtain ⟨o,e,c,d⟩:=id h2
   exact ⟨o,e,fun v z=>by rw [d] at z;cases z⟩
 keep:=fun i h h' st k=>by
  obtain ⟨hz,ht,⟨a',b',ho⟩,h1,h2⟩:=st
  exact ⟨k z (by simp) _ hz,k ti (by simp) _ ht,⟨a',b',k to (by simp) _ ho⟩,lit_keep h1 (k i1 (by simp)),lit_keep h2 (k i2 (by simp))⟩
 item:=by
  intro X hP hw hK hc i pins s σ H E I hf stt hg
  subst hP hw hK
  obtain ⟨hz,ht,⟨a',b',ho⟩,h1,h2⟩:=stt
  obtain ⟨xs,ys,x,y,hq1,hq2,hx,hy⟩:=hg
  obtain ⟨its1,rv1,pl1,_⟩:=I.list hq1
  obtain ⟨its2,rv2,pl2,_⟩:=I.list hq2
  obtain ⟨u1,hu1,ru1⟩:=rv1.get hx
  obtain ⟨u2,hu2,ru2⟩:=rv2.get hy
  refine wpAny_pyNext_zip_item D hz ht ho h1 h2 pl1.isList pl2.isList (x:=u1) (y:=u2) (by simpa using hu1) (by simpa using hu2) fun h' z' to' i1' i2' pr sz kp=>?_
  refine ⟨_,rfl,wpAny_letOwnedTupleGo_zip z' fun h3 z3 s3=>?_⟩
  replace s3:Heap.SameBut z h' h3:=s3
  have ltz:z < s.heap.objs.size:=Heap.lt_size hz
  have kp2:∀ b o,b ∉ [z,ti,to,i1,i2]→s.heap.get? b=some o→h3.get? b=some o:=fun b o hb q=>by
   simp only [List.mem_cons,List.not_mem_nil,or_false,not_or] at hb
   exact s3.extBut b o hb.1 (kp b o hb.1 hb.2.2.1 hb.2.2.2.1 hb.2.2.2.2 q)
  have tu2:h3.get? s.heap.objs.size=some { cls:=.type "tuple", data:=.seq #[u1,u2] }:=s3.extBut _ _ (Nat.ne_of_gt ltz) pr
  refine ⟨.ref s.heap.objs.size,upd H s.heap.objs.size (.tup [x,y]),(inv_turnT (h':=h3) (t':=s.toks) (vs:=[x,y]) I hf kp2 (Nat.le_refl _) ⟨by rw [sizeLine_eq];simp,[u1,u2],.cons ru1 (.cons ru2 .nil),⟨_,tu2,rfl,_,rfl⟩⟩ :),rfl,⟨_,x,y,I.hok.fresh (Nat.le_refl _),rfl,rfl,fun zs hz=>by rw [I.list_inj hz hq1];exact hx,fun zs hz=>by rw [I.list_inj hz hq2];exact hy⟩,⟨z3,s3.extBut ti _ D.TIz (kp ti _ D.TIz D.TITO D.TIi1 D.TIi2 ht),⟨_,_,s3.extBut to _ D.TOz to'⟩,lit_keep i1' fun o q=>s3.extBut i1 o D.i1z q,lit_keep i2' fun o q=>s3.extBut i2 o D.i2z q⟩,fun b hb=>?_⟩
  have:b < s.heap.objs.size:=by
   simp only [List.mem_cons,List.not_mem_nil,or_false] at hb
   rcases hb with rfl | rfl | rfl | rfl | rfl
   ·exact ltz
   ·exact Heap.lt_size ht
   ·exact Heap.lt_size ho
   ·obtain ⟨o,e,_⟩:=id h1;exact Heap.lt_size e
   ·obtain ⟨o,e,_⟩:=id h2;exact Heap.lt_size e
  rw [upd_ne (Nat.ne_of_lt this)]
  exact (hf b hb).1
 done:=by
  intro X hP hw hK hc i pins s σ H E I hf stt hg
  subst hP hw hK
  obtain ⟨hz,ht,⟨a',b',ho⟩,h1,h2⟩:=stt
  obtain ⟨xs,ys,hq1,hq2,hx⟩:=hg
  obtain ⟨its1,rv1,pl1,_⟩:=I.list hq1
  obtain ⟨its2,rv2,pl2,_⟩:=I.list hq2
  have l1':=rv1.length
  have l2':=rv2.length
  refine wpAny_pyNext_zip_end (I.ok.hd hc) D hz ht ho h1 h2 pl1.isList pl2.isList (by simp;omega) fun h' kp=>⟨rfl,inv_turnN (t':=s.toks) I hf fun b o hb q=>?_⟩
  simp only [List.mem_cons,List.not_mem_nil,or_false,not_or] at hb
  exact kp b o hb.1 hb.2.2.1 hb.2.2.2.1 hb.2.2.2.2 q
 self:=fun _ _ _ _ _ st h=>wpAny_pyIter_zip st.1 h
theorem bb_zip:bootBuiltins "zip" = some (.type "zip"):=by decide +kernel
theorem pi_zip {els:List Expr}{x1}{tpos:Pos}{a b:Expr}{ta:TA}{p pos:Pos} (hg:Gl X "zip") (hm:X.mg "zip" = none) (ha:PA X [a,b] ta) (hs:starEach [a,b] X.env=[(false,eval a X.env),(false,eval b X.env)]:=by rfl) (hs2:starEach [b] X.env=[(false,eval b X.env)]:=by rfl) :
  PI X (.Tuple els x1 tpos) (.Call (.Name "zip" p) [a,b] [] pos) (fun σ H R=>ta σ H fun vs H1=>∃ l1 l2 xs ys,vs=[V.ref l1,V.ref l2]∧SqL X.K H1 l1 xs∧SqL X.K H1 l2 ys∧R (Itz X.K l1 l2) H1):=by
 intro pins s σ H R I h
 refine PyProof.Rows.Call_ (ld_blt I hg hm bb_zip (PyProof.Rows.callWith_type1 (thn (ha pos pins s σ H _ I h) fun us s1 ⟨vs,H1,I1,r1,q1⟩=>?_) (by rw [hs,hs2]) (by rw [hs2];rfl)))
 obtain ⟨l1,l2,xs,ys,e,hq1,hq2,q⟩:=q1
 subst e
 cases r1 with
 | cons r rr =>
  cases rr with
  | cons r' rr =>
   cases rr
   cases r
   cases r'
   obtain ⟨its1,rv1,pl1,_⟩:=I1.list hq1
   obtain ⟨its2,rv2,pl2,_⟩:=I1.list hq2
   have hl1:l1 < s1.heap.objs.size:=by obtain ⟨o,e,_⟩:=id pl1.isList;exact Heap.lt_size e
   have hl2:l2 < s1.heap.objs.size:=by obtain ⟨o,e,_⟩:=id pl2.isList;exact Heap.lt_size e
   have z1:(s1.heap.push (itO "list_iterator" l1)).objs.size=s1.heap.objs.size+1:=Heap.size_push ..
   have z2:((s1.heap.push (itO "list_iterator" l1)).push (itO "list_iterator" l2)).objs.size=s1.heap.objs.size+2:=by simp only [Heap.size_push]
   have z3:(((s1.heap.push (itO "list_iterator" l1)).push (itO "list_iterator" l2)).push (zTI s1.heap.objs.size)).objs.size=s1.heap.objs.size+3:=by simp only [Heap.size_push]
   have z4:((((s1.heap.push (itO "list_iterator" l1)).push (itO "list_iterator" l2)).push (zTI s1.heap.objs.size)).push zTO).objs.size=s1.heap.objs.size+4:=by simp only [Heap.size_push]
   have e4:=Heap.get?_push_size ((((s1.heap.push (itO "list_iterator" l1)).push (itO "list_iterator" l2)).push (zTI s1.heap.objs.size)).push zTO) (o:=zO s1.heap.objs.size) rfl
   have e3:=Heap.get?_push_size (((s1.heap.push (itO "list_iterator" l1)).push (itO "list_iterator" l2)).push (zTI s1.heap.objs.size)) (o:=zTO) rfl
   have e2:=Heap.get?_push_size ((s1.heap.push (itO "list_iterator" l1)).push (itO "list_iterator" l2)) (o:=zTI s1.heap.objs.size) rfl
   have e1:=Heap.get?_push_size (s1.heap.push (itO "list_iterator" l1)) (o:=itO "list_iterator" l2) rfl
   have e0:=Heap.get?_push_size s1.heap (o:=itO "list_iterator" l1) rfl
   rw [z4] at e4
   rw [z3] at e3
   rw [z2] at e2
   rw [z1] at e1
   refine callZip pl1.isList pl2.isList (wpAny_pyIter_zip (f0:=.none) e4 ?_)
   refine ⟨s1.heap.objs.size+4,[s1.heap.objs.size+4,s1.heap.objs.size+2,s1.heap.objs.size+3,s1.heap.objs.size,s1.heap.objs.size+1],_,_,H1,rfl,I1.kept (t':=s1.toks) fun b o e=>Heap.get?_push_of_some _ (Heap.get?_push_of_some _ (Heap.get?_push_of_some _ (Heap.get?_push_of_some _ (Heap.get?_push_of_some _ e)))),turn_zip l1 l2 _ _ _ _ _ (PyProof.Rows.zipApart_new hl1 hl2),⟨e4,Heap.get?_push_of_some _ (Heap.get?_push_of_some _ e2),⟨.none,.none,Heap.get?_push_of_some _ e3⟩,⟨_,Heap.get?_push_of_some _ (Heap.get?_push_of_some _ (Heap.get?_push_of_some _ (Heap.get?_push_of_some _ e0))),rfl,rfl⟩,⟨_,Heap.get?_push_of_some _ (Heap.get?_push_of_some _ (Heap.get?_push_of_some _ e1)),rfl,rfl⟩⟩,fun b hb=>?_,q⟩
   simp only [List.mem_cons,List.not_mem_nil,or_false] at hb
   have hb':s1.heap.objs.size ≤ b:=by rcases hb with rfl | rfl | rfl | rfl | rfl <;> omega
   exact I1.fpOk hb' (I1.hok.fresh hb')
end
end PR
namespace PR
open PySem PySem.Spec L2
def zipP:List PV→List PV→List PV
 | x::xs,y::ys=>.tup [x,y]::zipP xs ys
 | _,_=>[]
theorem zipP_get:∀ (xs ys:List PV) (i:Nat) {p:PV},(zipP xs ys)[i]?=some p→∃ x y,xs[i]?=some x∧ys[i]?=some y∧p=.tup [x,y]
 | [],_,i,_,h=>by simp [zipP] at h
 | _::_,[],i,_,h=>by simp [zipP] at h
 | x::xs,y::ys,0,p,h=>by
  simp only [zipP,List.getElem?_cons_zero] at h
  exact ⟨x,y,rfl,rfl,(Option.some.inj h).symm⟩
 | x::xs,y::ys,i+1,p,h=>by
  simp only [zipP,List.getElem?_cons_succ] at h
  exact zipP_get xs ys i h
theorem zipP_len:∀ (xs ys:List PV),(zipP xs ys).length=min xs.length ys.length
 | [],_=>by simp [zipP]
 | _::_,[]=>by simp [zipP]
 | _::xs,_::ys=>by simp only [zipP,List.length_cons,zipP_len xs ys];omega
def mZipI (ms:MA):MI:=fun env=>(ms env).bind fun zs=>match zs with
 | [.lst f xs,.lst g ys]=>if !f.isLnt && !g.isLnt && noOL xs && noOL ys then .ok (zipP xs ys) else .stuck
 | _=>.stuck
def mZipC (ms:MA):MI:=fun env=>(ms env).bind fun zs=>match zs with
 | [.lst _ xs,.lst _ ys]=>if noOL xs && noOL ys then .ok (zipP xs ys) else .stuck
 | _=>.stuck
section
variable {X:Cx}{T:Tb}{W:Nat→St→Hp→Prop}{Z:Zn}{F F1 B L:Addr→Prop}{H H1:Hp}{σ:St}{env:En}{fp:Nat→List Addr}
theorem rel_pair2 {H2:Hp}{x y:PV}{v u:V}{p:Addr} (hp:H2 p=none) (r:Rel T F B L H2 x v []) (r':Rel T F B L H2 y u []):Rel T F B L (upd H2 p (.tup [v,u])) (.tup [x,y]) (.ref p) []:=by
 unfold Rel
 refine ⟨p,_,rfl,SqT.of upd_same,?_⟩
 have r1:Rel T F B L (upd H2 p (.tup [v,u])) x v []:=r.ext (Ext.upd hp) fun _ h=>h
 have r2:Rel T F B L (upd H2 p (.tup [v,u])) y u []:=r'.ext (Ext.upd hp) fun _ h=>h
 unfold RelL
 refine ⟨v,[u],[],[],rfl,r1,?_,rfl⟩
 unfold RelL
 exact ⟨u,[],[],[],rfl,r2,by unfold RelL;exact ⟨rfl,rfl⟩,by simp⟩
theorem get_rel {xs:List PV}{vs:List V}{i:Nat}{x:PV} (h:RelL T F B L H xs vs []) (e:xs[i]?=some x):∃ v,vs[i]?=some v∧Rel T F B L H x v []:=by
 obtain ⟨v,f,ev,rv,sl⟩:=h.get e
 have:f=[]:=List.eq_nil_of_sublist_nil sl
 subst this
 exact ⟨v,ev,rv⟩
theorem sic_zip {els:List Expr}{x1}{tpos p pos:Pos}{a b:Expr}{ms:MA} (hK:X.K=T.K) (hg:Gl X "zip") (hm:X.mg "zip" = none) (ha:SA X T W [a,b] ms) (hs:starEach [a,b] X.env=[(false,eval a X.env),(false,eval b X.env)]:=by rfl) (hs2:starEach [b] X.env=[(false,eval b X.env)]:=by rfl) :
  SIc X T W (.Tuple els x1 tpos) (.Call (.Name "zip" p) [a,b] [] pos) (mZipC ms):=fun pins s σ H R I h=>pi_zip hg hm ha hs hs2 pins s σ H R I (by
 obtain ⟨Z,F,env,fp,S,q⟩:=h
 unfold mZipC at q
 refine tA.bind S (fun c e=>by rw [e] at q;exact q) (fun e=>by rw [e] at q;exact q) fun zs vs H1 F1 f1 e1 g1 r1 n1 d1 w1=>?_
 rw [e1] at q
 simp only [Res.ok_bind] at q
 split at q
 ·rename_i f xs g ys
  split at q
  ·rename_i hc
   rw [Bool.and_eq_true] at hc
   unfold RelL at r1
   obtain ⟨v1,ws,f2,f3,rfl,ra,rb,_⟩:=r1
   obtain ⟨v2,rfl,rc⟩:=rb.one
   unfold Rel at ra rc
   obtain ⟨a1,us,fp1,rfl,hl1,hr1,_⟩:=ra
   obtain ⟨a2,ws,fp2,rfl,hl2,hr2,_⟩:=rc
   obtain ⟨rfl,_⟩:=noOL_rel hc.1 hr1
   obtain ⟨rfl,_⟩:=noOL_rel hc.2 hr2
   rw [hK]
   refine ⟨a1,a2,us,ws,rfl,hl1.sq,hl2.sq,q _ H1 F1 g1 fun H2 hx=>?_⟩
   have up:∀ {a:Addr}{us:List V},SqL T.K H1 a us→SqL T.K H2 a us:=fun {a us} hs=>by
    rcases hs with z | z
    ·exact .inl (Rd.tr (fun o q=>hx a o q) z)
    ·exact .inr z
   have s1:=up hl1.sq
   have s2:=up hl2.sq
   have ln1:=hr1.length
   have ln2:=hr2.length
   refine ⟨fun i x ex=>?_,⟨us,ws,s1,s2,by rw [zipP_len];omega⟩⟩
   obtain ⟨x1,y1,ex1,ey1,rfl⟩:=zipP_get xs ys i ex
   obtain ⟨v,ev,rv⟩:=get_rel hr1 ex1
   obtain ⟨u,eu,ru⟩:=get_rel hr2 ey1
   refine ⟨⟨us,ws,v,u,s1,s2,ev,eu⟩,fun w H3 hy=>?_⟩
   obtain ⟨p,v',u',hp,rfl,rfl,hall1,hall2⟩:=hy
   have q1:=hall1 us s1
   have q2:=hall2 ws s2
   rw [ev] at q1
   rw [eu] at q2
   cases q1
   cases q2
   exact ⟨Ext.upd hp,[],fun b hb=>(nomatch hb),rel_pair2 hp (rv.ext hx fun _ h=>h) (ru.ext hx fun _ h=>h)⟩
  ·exact q.elim
 ·exact q.elim)
theorem si_zip {els:List Expr}{x1}{tpos p pos:Pos}{a b:Expr}{ms:MA} (hK:X.K=T.K) (hg:Gl X "zip") (hm:X.mg "zip" = none) (ha:SA X T W [a,b] ms) (hs:starEach [a,b] X.env=[(false,eval a X.env),(false,eval b X.env)]:=by rfl) (hs2:starEach [b] X.env=[(false,eval b X.env)]:=by rfl) :
  SI X T W (.Tuple els x1 tpos) (.Call (.Name "zip" p) [a,b] [] pos) (mZipI ms):=fun pins s σ H R I h=>pi_zip hg hm ha hs hs2 pins s σ H R I (by
 obtain ⟨Z,F,env,fp,S,q⟩:=h
 unfold mZipI at q
 refine tA.bind S (fun c e=>by rw [e] at q;exact q) (fun e=>by rw [e] at q;exact q) fun zs vs H1 F1 f1 e1 g1 r1 n1 d1 w1=>?_
 rw [e1] at q
 simp only [Res.ok_bind] at q
 have S1:=S.grow g1
 split at q
 ·rename_i f xs g ys
  split at q
  ·rename_i hc
   simp only [Bool.and_eq_true] at hc
   obtain ⟨⟨⟨c1,c2⟩,c3⟩,c4⟩:=hc
   unfold RelL at r1
   obtain ⟨v1,ws,f2,f3,rfl,ra,rb,e1⟩:=r1
   obtain ⟨v2,rfl,rc⟩:=rb.one
   unfold Rel at ra rc
   obtain ⟨a1,us,fp1,rfl,hl1,hr1,hf1⟩:=ra
   obtain ⟨a2,ws,fp2,rfl,hl2,hr2,hf2⟩:=rc
   obtain ⟨rfl,hr1'⟩:=noOL_rel c3 hr1
   obtain ⟨rfl,hr2'⟩:=noOL_rel c4 hr2
   rw [hK]
   refine ⟨a1,a2,us,ws,rfl,hl1.sq,hl2.sq,q _ H1 F1 g1 fun H2 hk=>?_⟩
   have na1:f ≠ .mod→∀ o,H1 a1=some o→H2 a1=some o:=fun hn o ho=>by
    refine hk a1 o ho ?_
    cases f with
    | own =>
     rintro ⟨i,hi⟩
     obtain ⟨_,o',ho'⟩:=S.dis i a1 hi
     obtain rfl:f2=[a1]:=hf1
     rw [w1 a1 (by rw [e1];simp)] at ho';cases ho'
    | frz=>exact S1.fow a1 hl1.1
    | bor=>exact S1.bow a1 hl1.1
    | lnt=>exact absurd c1 (by decide)
    | mod=>exact absurd rfl hn
   have na2:g ≠ .mod→∀ o,H1 a2=some o→H2 a2=some o:=fun hn o ho=>by
    refine hk a2 o ho ?_
    cases g with
    | own =>
     rintro ⟨i,hi⟩
     obtain ⟨_,o',ho'⟩:=S.dis i a2 hi
     obtain rfl:f3=[a2]:=hf2
     rw [w1 a2 (by rw [e1];simp)] at ho';cases ho'
    | frz=>exact S1.fow a2 hl2.1
    | bor=>exact S1.bow a2 hl2.1
    | lnt=>exact absurd c2 (by decide)
    | mod=>exact absurd rfl hn
   have s1:SqL T.K H2 a1 us:=by
    by_cases hn:f=.mod
    ·subst hn;exact .inr hl1
    ·exact .inl (Rd.tr (na1 hn) (hl1.rd hn))
   have s2:SqL T.K H2 a2 ws:=by
    by_cases hn:g=.mod
    ·subst hn;exact .inr hl2
    ·exact .inl (Rd.tr (na2 hn) (hl2.rd hn))
   have ln1:=hr1.length
   have ln2:=hr2.length
   refine ⟨fun i x ex=>?_,⟨us,ws,s1,s2,by rw [zipP_len];omega⟩⟩
   obtain ⟨x1,y1,ex1,ey1,rfl⟩:=zipP_get xs ys i ex
   obtain ⟨v,ev,rv⟩:=get_rel hr1' ex1
   obtain ⟨u,eu,ru⟩:=get_rel hr2' ey1
   refine ⟨⟨us,ws,v,u,s1,s2,ev,eu⟩,fun w H3 hy=>?_⟩
   obtain ⟨p,v',u',hp,rfl,rfl,hall1,hall2⟩:=hy
   have q1:=hall1 us s1
   have q2:=hall2 ws s2
   rw [ev] at q1
   rw [eu] at q2
   cases q1
   cases q2
   exact ⟨Ext.upd hp,rel_pair2 hp (items_stay S1.fow S1.bow S1.oow hk hr1' ex1 ev) (items_stay S1.fow S1.bow S1.oow hk hr2' ey1 eu)⟩
  ·exact q.elim
 ·exact q.elim)
end
end PR
namespace PR
open PySem PySem.Spec L2
section
variable {X:Cx}{T:Tb}{W:Nat→St→Hp→Prop}{F B L:Addr→Prop}{H:Hp}
end
end PR
namespace PR
open PySem PySem.Spec L2
section
variable {prog:Program}{w:World}{A:Around}{R:Result→Shared→Prop}{ia:Addr}{fps wrs:List Addr}{len:Nat}{Pv:Nat→Value→Prop}{Sv:Nat→Heap→Prop}
abbrev seqO (xs:Array Value) (c:Nat):Obj:={ cls:=.type "list", dict:=none,data:=.seq xs c,slots:=#[] }
theorem loopName:(toString "min" ++ toString ".loop" : String) = "min.loop" := by decide
theorem mdLoop (kw:List (Str × Value)) (Wk:Walks prog w A.in1 ia fps wrs len Pv Sv) (lt:Nat→Nat→Bool) (hc:CmpOf prog w A.in1 .Lt Pv lt) (best:Addr) (nb:best ∉ fps) :
  ∀ (left j:Nat) (sh:Shared) (u:Value) (cap:Nat),len - (j+1)=left→j+1 ≤ len→Sv (j+1) sh.heap→Pv (argBest lt j) u→sh.heap.get? best=some (seqO #[u,u] cap) →
   (∀ v h' tk,Pv (argBest lt (len - 1)) v→(∀ b o,b ∉ wrs→b ≠ best→sh.heap.get? b=some o→h'.get? b=some o)→R (.ok (.ret v)) { sh with heap:=h',toks:=tk })→codeAny (model prog w) A (.builtin "min.loop" ⟨[.ref ia,.none,.ref best],kw⟩) R sh
 | 0,j,sh,u,cap,e1,e2,st,pu,ob,fin=>by
  have nw:best ∉ wrs:=fun z=>nb (Wk.sub _ z)
  have ej:j+1=len:=by omega
  refine codeAny_builtin F.entry_min_loop ?_;rw [Around.under_plainId F.plain_min_loop _];refine (show wpAny _ A.in1 (seqItems? (.ref best) >>= _) _ _ sh from wpAny_bind (wpAny_seqItems ob rfl ?_))
  refine (show wpAny _ A.in1 (tryCatch (pyNext (.ref ia)) _ >>= _) _ _ sh from wpAny_bind (wpAny_tryCatch (Wk.done sh _ _ (ej ▸ st) fun h' tk kp=>?_)))
  refine (show wpAny _ A.in1 (updateSeq best (fun _=>#[]) >>= _) _ _ _ from wpAny_bind (wpAny_updateSeq (kp best _ nw ob) rfl (wpAny_bind (wpAny_letGo (wpAny_pure ?_)))))
  exact fin u _ tk (by rw [← ej];exact pu) fun b o q1 q2 e=>(Heap.get?_update_other _ _ (Ne.symm q2)).trans (kp b o q1 e)
 | left+1,j,sh,u,cap,e1,e2,st,pu,ob,fin=>by
  have nw:best ∉ wrs:=fun z=>nb (Wk.sub _ z)
  have lj:j+1 < len:=by omega
  refine codeAny_builtin F.entry_min_loop ?_;rw [Around.under_plainId F.plain_min_loop _];refine (show wpAny _ A.in1 (seqItems? (.ref best) >>= _) _ _ sh from wpAny_bind (wpAny_seqItems ob rfl ?_))
  refine (show wpAny _ A.in1 (tryCatch (pyNext (.ref ia)) _ >>= _) _ _ sh from wpAny_bind (wpAny_tryCatch (Wk.item (j+1) sh _ _ lj st fun v h' tk pv st' kp=>?_)))
  have ob':=kp best _ nw ob
  refine (show wpAny _ A.in1 (tryCatch (holding [v,v] (richCompare .Lt v u >>= _)) _ >>= _) _ _ _ from wpAny_bind (wpAny_tryCatch (wpAny_holding (wpAny_bind (hc (j+1) (argBest lt j) v u _ _ _ pv pu (wpAny_bind (wpAny_holding (wpAny_truthy_bool (wpAny_bind (wpAny_letGo (wpAny_pure ?_)))))))))))
  by_cases yes:lt (j+1) (argBest lt j)=true
  ·rw [yes];simp only [if_true]
   refine wpAny_bind (wpAny_updateSeq ob' rfl (wpAny_bind (wpAny_letGo ?_)));rw [loopName]
   refine wpAny_pure ⟨plainId_quiet F.plain_min_loop _,mdLoop kw Wk lt hc best nb left (j+1) _ v _ (by omega) lj (Wk.frame _ _ _ st' fun b hb o e=>(Heap.get?_update_other _ _ (fun z:best=b=>nb (z ▸ hb))).trans e) (by simp only [argBest,yes,if_true];exact pv) (Heap.get?_update_self _ ob' rfl) fun v' h2 t2 pv' kp2=>?_⟩
   exact fin v' h2 t2 pv' fun b o q1 q2 e=>kp2 b o q1 q2 ((Heap.get?_update_other _ _ (Ne.symm q2)).trans (kp b o q1 e))
  ·have no:lt (j+1) (argBest lt j)=false:=by simpa using yes
   rw [no];simp only [Bool.false_eq_true,if_false]
   refine wpAny_bind (wpAny_letGo ?_);rw [loopName]
   refine wpAny_pure ⟨plainId_quiet F.plain_min_loop _,mdLoop kw Wk lt hc best nb left (j+1) _ u cap (by omega) lj st' (by simp only [argBest,no,Bool.false_eq_true,if_false];exact pu) ob' fun v' h2 t2 pv' kp2=>?_⟩
   exact fin v' h2 t2 pv' fun b o q1 q2 e=>kp2 b o q1 q2 (kp b o q1 e)
theorem mdFirst (kw:List (Str × Value)) (Wk:Walks prog w A.in1 ia fps wrs len Pv Sv) (lt:Nat→Nat→Bool) (hc:CmpOf prog w A.in1 .Lt Pv lt) (best:Addr) (nb:best ∉ fps) (pos:0 < len) {sh:Shared}{cap:Nat} (st:Sv 0 sh.heap) (ob:sh.heap.get? best=some (seqO #[] cap))
  (fin:∀ v h' tk,Pv (argBest lt (len - 1)) v→(∀ b o,b ∉ wrs→b ≠ best→sh.heap.get? b=some o→h'.get? b=some o)→R (.ok (.ret v)) { sh with heap:=h',toks:=tk }):codeAny (model prog w) A (.builtin "min.loop" ⟨[.ref ia,.none,.ref best],kw⟩) R sh:=by
 have nw:best ∉ wrs:=fun z=>nb (Wk.sub _ z)
 refine codeAny_builtin F.entry_min_loop ?_;rw [Around.under_plainId F.plain_min_loop _];refine (show wpAny _ A.in1 (seqItems? (.ref best) >>= _) _ _ sh from wpAny_bind (wpAny_seqItems ob rfl ?_))
 refine (show wpAny _ A.in1 (tryCatch (pyNext (.ref ia)) _ >>= _) _ _ sh from wpAny_bind (wpAny_tryCatch (Wk.item 0 sh _ _ pos st fun v h' tk pv st' kp=>?_)))
 have ob':=kp best _ nw ob
 refine (show wpAny _ A.in1 (updateSeq best (fun _=>#[v,v]) >>= _) _ _ _ from wpAny_bind (wpAny_updateSeq ob' rfl ?_));rw [loopName]
 refine wpAny_pure ⟨plainId_quiet F.plain_min_loop _,mdLoop kw Wk lt hc best nb _ 0 _ v _ rfl pos (Wk.frame _ _ _ st' fun b hb o e=>(Heap.get?_update_other _ _ (fun z:best=b=>nb (z ▸ hb))).trans e) pv (Heap.get?_update_self _ ob' rfl) fun v' h2 t2 pv' kp2=>?_⟩
 exact fin v' h2 t2 pv' fun b o q1 q2 e=>kp2 b o q1 q2 ((Heap.get?_update_other _ _ (Ne.symm q2)).trans (kp b o q1 e))
theorem mdNone {dn:Str}{d:Value} (Wk:Walks prog w A.in1 ia fps wrs 0 Pv Sv) (best:Addr) (nb:best ∉ fps) {sh:Shared}{cap:Nat} (st:Sv 0 sh.heap) (ob:sh.heap.get? best=some (seqO #[] cap))
  (fin:∀ h' tk,(∀ b o,b ∉ wrs→sh.heap.get? b=some o→h'.get? b=some o)→R (.ok (.ret d)) { sh with heap:=h',toks:=tk }):codeAny (model prog w) A (.builtin "min.loop" ⟨[.ref ia,.none,.ref best],[(dn,d)]⟩) R sh:=by
 refine codeAny_builtin F.entry_min_loop ?_;rw [Around.under_plainId F.plain_min_loop _];refine (show wpAny _ A.in1 (seqItems? (.ref best) >>= _) _ _ sh from wpAny_bind (wpAny_seqItems ob rfl ?_))
 refine (show wpAny _ A.in1 (tryCatch (pyNext (.ref ia)) _ >>= _) _ _ sh from wpAny_bind (wpAny_tryCatch (Wk.done sh _ _ st fun h' tk kp=>?_)))
 exact wpAny_bind (wpAny_rule (wpAny_pure (fin h' tk kp)))
end
section
variable {prog:Program}{w:World}{A:Around}{E:Value→Shared→Prop}{s:Shared}
theorem argsMinD (y d:Value):argsOk "min" ⟨[y],[(Str.ofString "default", d)]⟩:=by
 unfold argsOk
 kernel_rfl
theorem callMinD {x d:Value}{Q:Value→Shared→Prop}
  (h:wpAny (model prog w) A.in1 (pyIter x) (fun it s2=>∃ ia fps wrs len Pv Sv lt,it=.ref ia∧Walks prog w A.in1 ia fps wrs len Pv Sv∧Sv 0 s2.heap∧(∀ b ∈ fps,b < s2.heap.objs.size)∧CmpOf prog w A.in1 .Lt Pv lt ∧
   ∀ v h' tk,(len=0∧v=d ∨ 0 < len∧Pv (argBest lt (len - 1)) v)→(∀ b o,b ∉ wrs→s2.heap.get? b=some o→h'.get? b=some o)→Q v { s2 with heap:=h',toks:=tk }) E s) :
  wpAny (model prog w) A (call (.builtin "min") [x] [(Str.ofString "default", d)]) Q E s:=by
 refine PyProof.Rows.kmk_tree F.kind_min F.plain_min F.entry_min (argsMinD _ _) ?_
 refine (show wpAny _ A.in1 (Builtin.Builtins.bindParams "min" ["key", "default"] 0 ⟨[],[(Str.ofString "default", d)]⟩ >>= _) _ _ s from wpAny_bind (wpAny_of_eq (a:=[none,some d]) (by kernel_rfl) (wpAny_bind (wpAny_pure (wpAny_bind (wpAny_mono h (fun it s2 q=>?_) fun _ _ e=>e))))))
 obtain ⟨ia,fps,wrs,len,Pv,Sv,lt,rfl,Wk,st,hf,hc,fin⟩:=q
 refine wpAny_bind (wpAny_newObj_type ?_);rw [loopName]
 have nb:s2.heap.objs.size ∉ fps:=fun z=>Nat.lt_irrefl _ (hf _ z)
 have st':=Wk.frame _ _ (s2.heap.push (seqO #[] 0)) st fun b _ o e=>Heap.get?_push_of_some _ e
 refine wpAny_pure ⟨plainId_quiet F.plain_min_loop _,?_⟩
 by_cases pos:0 < len
 ·exact mdFirst _ Wk lt hc s2.heap.objs.size nb pos st' (Heap.get?_push_size _ rfl) fun v h' tk pv kp=>fin v h' tk (.inr ⟨pos,pv⟩) fun b o q e=>kp b o q (Nat.ne_of_lt (Heap.lt_size e)) (Heap.get?_push_of_some _ e)
 ·have z:len=0:=by omega
  subst z
  exact mdNone Wk s2.heap.objs.size nb st' (Heap.get?_push_size _ rfl) fun h' tk kp=>fin d h' tk (.inl ⟨rfl,rfl⟩) fun b o q e=>kp b o q (Heap.get?_push_of_some _ e)
end
end PR
namespace PR
open PySem PySem.Spec L2
section
variable {X:Cx}{T:Tb}{W:Nat→St→Hp→Prop}{Z:Zn}{F F1 B L:Addr→Prop}{H H1:Hp}{σ:St}{env:En}{fp:Nat→List Addr}{pins:List (Addr × Obj)}{s:Shared}
theorem callWith_vK {M:Model}{A:Around}{E:Value→Shared→Prop}{s:Shared}{env:Env}{pos:Pos}{id:String}{e:Expr}{rest:List Expr}{kws:List Keyword}{Q:Value→Shared→Prop}
  (h:wpAny M A (spliced (backTo pos (starEach (e::rest) env))) (fun vs s1=>wpAny M A (evalAll ((backToKw pos (keywordEach kws env)).map (·.2))) (fun ks s2=>wpAny M A (call (.builtin id) vs (((backToKw pos (keywordEach kws env)).filterMap (·.1)).zip ks)) Q E s2) E s1) E s)
  (hall:(backToKw pos (keywordEach kws env)).all (·.1.isSome)=true:=by rfl) (hkw:(backToKw pos (keywordEach kws env)).any (·.1.isNone)=false:=by rfl)
  (he:starEach (e::rest) env=(false,eval e env)::starEach rest env:=by rfl) (hpl:(backTo pos (starEach (e::rest) env)).any (·.1)=false:=by rfl) :
  wpAny M A (callWith pos (.builtin id) [] (backTo pos (starEach (e::rest) env)) (backToKw pos (keywordEach kws env))) Q E s:=by
 unfold callWith
 refine wpAny_bind (wpAny_holding (wpAny_mono (PyProof.Rows.evalArgs_kw2 (Q:=fun a s1=>wpAny M A (call (.builtin id) ([] ++ a.pos) a.kw) Q E s1) hall h he) (fun a s1 h1=>wpAny_bind (wpAny_standAt ?_)) fun _ _ x=>x))
 simp only [hpl,hkw,Bool.or_false]
 exact wpAny_bind (wpAny_pure (wpAny_bind (wpAny_mono h1 (fun r s2 hr=>wpAny_bind (wpAny_holding (wpAny_point (wpAny_pure hr)))) fun _ _ x=>x)))
def oneV (vs:List V) (P:V→Prop):Prop:=match vs with
 | [v]=>P v
 | _=>False
theorem oneV_is {vs:List V}{P:V→Prop} (h:oneV vs P):∃ v,vs=[v]∧P v:=by
 match vs,h with
 | [v],h=>exact ⟨v,rfl,h⟩
def minV (ns:List Int):V:=if ns.isEmpty then .non else .int (minI ns)
def rMinD (K:PySem.W.Frag):V→Hp→VK→Prop:=fun v H Q=>∃ p ns,v=.ref p∧(SqL K H p (ns.map V.int) ∨ SqT K H p (ns.map V.int))∧Q (minV ns) H
theorem call_minD (hc:X.calm=true) {p:Addr}{ns:List Int}{Q:VK} (I:L2.Inv X pins σ H s) (hq:SqL X.K H p (ns.map V.int) ∨ SqT X.K H p (ns.map V.int)) (q:Q (minV ns) H):wpAny (model X.prog X.w) X.A (call (.builtin "min") [.ref p] [(Str.ofString "default", .none)]) (EP X pins σ Q) X.xe s:=by
 have hh:=I.ok.hd hc
 have key:∀ {its:List Value},Vals (ns.map V.int) its→∀ {v:Value}{h':Heap}{tk:Nat},(its.toArray.size=0∧v=.none ∨ 0 < its.toArray.size∧its.toArray[argBest (fun i j=>decide (ns.getD i 0 < ns.getD j 0)) (its.toArray.size - 1)]?=some v)→(∀ b o,s.heap.get? b=some o→h'.get? b=some o)→EP X pins σ Q v { s with heap:=h',toks:=tk }:=by
  intro its r v h' tk hv k
  have hl:its.toArray.size=ns.length:=by
   have:=r.length
   simpa using this.symm
  rw [hl] at hv
  rcases hv with ⟨h0,rfl⟩ | ⟨hn,hv⟩
  ·have e:ns=[]:=List.length_eq_zero_iff.mp h0
   subst e
   exact ⟨.non,H,inv_kept I k,rfl,q⟩
  ·obtain ⟨t,rfl⟩:=ints_at r _ _ hv
   rw [best_min hn]
   have e:minV ns=.int (minI ns):=by
    unfold minV
    rw [if_neg]
    intro z
    have:ns=[]:=by simpa using z
    rw [this] at hn
    exact absurd hn (by decide)
   rw [e] at q
   exact ⟨.int _,H,inv_kept I k,⟨t,rfl⟩,q⟩
 rcases hq with hq | hq
 ·obtain ⟨its,r,pl,hz⟩:=I.list hq
  obtain ⟨o,ho,hcl,n,hd⟩:=pl.isList
  have hlt:=Heap.lt_size ho
  refine callMinD (wpAny_pyIter_list pl.isList ?_)
  refine ⟨_,_,_,_,_,_,_,rfl,Walks.list (A:=X.A.in1) hh _ p (Nat.ne_of_lt hlt) its.toArray,⟨⟨_,Heap.get?_push_size _ rfl,rfl,rfl⟩,pl.isList.push _⟩,fun b hb=>?_,CmpOf.ints_lt (fun i=>ns.getD i 0) (ints_at r),fun v h' tk hP hk=>key r hP (one_kept hk)⟩
  show b < (s.heap.push _).objs.size
  rw [Heap.size_push]
  exact two_lt hlt rfl b hb
 ·obtain ⟨its,r,pl,hz⟩:=I.tuple hq
  have pt:s.heap.IsTuple p its.toArray:=pl
  obtain ⟨o,ho,hcl,n,hd⟩:=pl
  have hlt:=Heap.lt_size ho
  refine callMinD (wpAny_pyIter_tuple pt ?_)
  refine ⟨_,_,_,_,_,_,_,rfl,Walks.tuple (A:=X.A.in1) hh _ p (Nat.ne_of_lt hlt) its.toArray,⟨⟨_,Heap.get?_push_size _ rfl,rfl,rfl⟩,pt.push _⟩,fun b hb=>?_,CmpOf.ints_lt (fun i=>ns.getD i 0) (ints_at r),fun v h' tk hP hk=>key r hP (one_kept hk)⟩
  show b < (s.heap.push _).objs.size
  rw [Heap.size_push]
  exact two_lt hlt rfl b hb
abbrev mdE (e:Expr) (p pos kp cp:Pos) (j:Nat):Expr:=.Call (.Name "min" p) [e] [⟨some "default", .Constant .none j cp,kp⟩] pos
theorem pe_minD {e:Expr}{te:TE}{p pos kp cp:Pos}{j:Nat} (hc:X.calm=true) (hg:Gl X "min") (hm:X.mg "min" = none) (he:PE X e te) (hs:starEach [e] X.env=[(false,eval e X.env)]:=by rfl):PE X (mdE e p pos kp cp j) (tUn (rMinD X.K) te):=by
 intro pins s σ H Q I h
 refine wpAny_Call_Name_kw (ld_blt I hg hm bb_min ?_ (by decide) (by decide))
 refine callWith_vK ?_ rfl rfl hs (by rw [hs];rfl)
 refine thn (pa_cons (te:=te) he pa_nil (by rw [hs];rfl) pos pins s σ H (fun vs H1=>oneV vs fun v=>rMinD X.K v H1 Q) I h) fun us s1 ⟨vs,H1,I1,r1,q1⟩=>?_
 obtain ⟨v,rfl,a,ns,rfl,hq,q⟩:=oneV_is q1
 obtain ⟨u,rfl,rx⟩:=vals1 r1
 cases rx
 refine thn (pk_cons (nm:=some "default") (kpos:=kp) (pe_non (j:=j) (pos:=cp)) pk_nil pos pins s1 σ H1 (fun zs H2=>zs=[.non]∧H2=H1) I1 ⟨rfl,rfl⟩) fun ws s2 ⟨zs,H2,I2,r2,ez,eh⟩=>?_
 subst ez
 rw [eh] at I2
 clear eh
 obtain ⟨u2,rfl,rx2⟩:=vals1 r2
 cases rx2
 exact call_minD hc I2 hq q
def pMinD (x:PV):Res PV:=match seqOf x with
 | some xs=>(match intsOf xs with
  | some ns=>.ok (if ns.isEmpty then .non else .int (minI ns))
  | none=>.stuck)
 | none=>.stuck
theorem mir_minD (hK:X.K=T.K):Mir1 T W pMinD (rMinD X.K):=by
 intro B F L σ H Q F' H' x v fx g rx nf nd new q
 unfold pMinD at q
 cases e:seqOf x with
 | none=>rw [e] at q;exact q.elim
 | some xs =>
  rw [e] at q
  dsimp only at q
  cases e2:intsOf xs with
  | none=>rw [e2] at q;exact q.elim
  | some ns =>
   rw [e2] at q
   dsimp only at q
   obtain ⟨a,us,fx',rfl,hs,hr,_⟩:=rx.seq e
   have hu:=intsOf_rel e2 hr
   subst hu
   refine ⟨a,ns,rfl,by rw [hK];exact hs,q.scal g ?_⟩
   unfold minV
   split
   ·unfold Rel;exact ⟨rfl,rfl⟩
   ·exact relI
theorem se_minD {e:Expr}{m:ME}{p pos kp cp:Pos}{j:Nat} (hK:X.K=T.K) (hc:X.calm=true) (hg:Gl X "min") (hm:X.mg "min" = none) (he:SE X T W e m) (hs:starEach [e] X.env=[(false,eval e X.env)]:=by rfl):SE X T W (mdE e p pos kp cp j) (mUn pMinD m) :=
 PE.wk (pe_minD hc hg hm he hs) fun _ _ _ h=>tE.mir1 (mir_minD hK) h
end
end PR
namespace PR
open PySem PySem.Spec L2
def mAppIxC (i:Nat) (k:Int) (e:ME):MS:=fun env=>match env[i]? with
 | some (some (.lst .own xs))=>(match ixN xs.length k with
  | some n=>(match xs[n]? with
   | some (.lst .own ys)=>(match e env with
    | .ok v=>if v.noLnt && decide (ys.length < 10000000) then .next (env.set i (some (.lst .own (xs.set n (.lst .own (ys ++ [v])))))) else .stuck
    | _=>.stuck)
   | _=>.stuck)
  | none=>.stuck)
 | _=>.stuck
def pLtT (x y:PV):Res PV:=match x,y with
 | .tup xs,.tup ys=>(match intsOf xs,intsOf ys with
  | some ns,some ms=>.ok (.bl (HT.lexLt ns ms))
  | _,_=>.stuck)
 | _,_=>.stuck
section
variable {X:Cx}{T:Tb}{W:Nat→St→Hp→Prop}{Z:Zn}{F F1 B L:Addr→Prop}{H H1:Hp}{σ:St}{env:En}{fp:Nat→List Addr}{D:Ends}
theorem mir_ltT (hK:X.K=T.K):Mir2 T W pLtT (rLtT X.K):=by
 intro B F L σ H Q F' H' x y v u fx fy gr rx ry _ _ _ q
 unfold pLtT at q
 split at q
 case h_2=>exact q.elim
 rename_i xs ys
 split at q
 case h_2=>exact q.elim
 rename_i ns ms e1 e2
 unfold Rel at rx ry
 obtain ⟨a,vs,rfl,hs,hr⟩:=rx
 obtain ⟨b,us,rfl,ht,hq⟩:=ry
 have z1:=intsOf_rel e1 hr
 have z2:=intsOf_rel e2 hq
 subst z1 z2
 exact ⟨a,b,ns,ms,rfl,rfl,by rw [hK];exact hs,by rw [hK];exact ht,q.scal gr relB⟩
theorem se_ltT {a b:Expr}{ma mb:ME}{pos:Pos} (hK:X.K=T.K) (hu:X.A.units+64 < cLine) (ha:SE X T W a ma) (hb:SE X T W b mb):SE X T W (.Compare a [.Lt] [b] pos) (mOp pLtT ma mb):=se_cmp (op_ltT (by omega)) (mir_ltT hK) ha hb (nomark _)
theorem st_ltT {a b:Expr}{ma mb:ME}{pos:Pos} (hK:X.K=T.K) (hu:X.A.units+64 < cLine) (ha:SE X T W a ma) (hb:SE X T W b mb):ST X T W (.Compare a [.Lt] [b] pos) (mTest (mOp pLtT ma mb)):=st_cmp (op_ltT (by omega)) (mir_ltT hK) ha hb (nomark _)
theorem ss_appIxC {i jj:Nat}{k:Int}{x:Str}{e:Expr}{m:ME}{pos px py apos cpos spos:Pos} (hK:X.K=T.K) (hN:X.N[i]?=some x) (hv:Vis X.env.scope x) (he:SE X T W e m) (hix:PlainIx (.Constant (.int k) jj py))
  (hs:swapsWith (.Call (.Attribute (.Subscript (.Name x px) (.Constant (.int k) jj py) spos) "append" apos) [e] [] cpos) none pos.line X.env=pure false:=by rfl) (hst:starEach [e] X.env=[(false,eval e X.env)]:=by rfl)
  (hfew:((backTo cpos (starEach [e] X.env)).all (fun x=>!x.1) && (backToKw cpos (keywordEach [] X.env)).all (fun x=>x.1.isSome) && decide ([e].length+([]:List Keyword).length+(if ([]:List Keyword).isEmpty then 0 else 1) < 30))=true:=by rfl)
  (hline:(apos.endLine == cpos.line)=true:=by rfl) (hd:(x == ("__debug__" : Str))=false:=by decide) (hcd:(x == ("__classdict__" : Str))=false:=by decide) :
  SS X T W (.Expr (.Call (.Attribute (.Subscript (.Name x px) (.Constant (.int k) jj py) spos) "append" apos) [e] [] cpos) pos) (mAppIxC i k m) :=
 PS.wk (ps_expr (pos:=pos) (pe_bm (cpos:=cpos) (apos:=apos) PySem.F.plainAttrs_list PySem.F.slot_list_append PySem.F.type_list_append mt_append (pe_ix (pos:=spos) ix_seq (pe_var (pos:=px) hN hv hd hcd) pe_int hix) (sa_cons he sa_nil hst) rfl hfew hline hst) hs) fun D σ H ⟨Z,F,env,fp,S,q⟩=>by
  unfold mAppIxC at q
  split at q
  case h_2=>exact q.elim
  rename_i xs eo
  cases en:ixN xs.length k with
  | none=>rw [en] at q;exact q.elim
  | some n =>
  rw [en] at q
  dsimp only at q
  split at q
  case h_2=>exact q.elim
  rename_i ys ey
  cases em:m env with
  | stuck=>rw [em] at q;exact q.elim
  | exc c=>rw [em] at q;exact q.elim
  | ok v =>
  rw [em] at q
  dsimp only at q
  split at q
  case isFalse=>exact q.elim
  rename_i hc
  simp only [Bool.and_eq_true,decide_eq_true_eq] at hc
  obtain ⟨a,ws,fp',h1,hl,hr,hf⟩:=S.lst eo
  obtain ⟨b,f0,f1,f2,vs,efp,hb1,hb2,hb3,hb4⟩:=hr.nest ey
  have at_:atI ws k=some (.ref b):=by
   unfold atI
   rw [← hr.length,en]
   exact hb1
  refine ⟨_,h1,.inl ⟨a,ws,k,.ref b,rfl,rfl,by rw [hK];exact SqL.of hl,at_,.inl ⟨rfl,vs,by rw [hK];exact SqL.of hb2⟩,Z,F,env,fp,S,?_⟩⟩
  unfold mCons mNil
  rw [em]
  intro us H1 F1 g1 g r n1 d1 w1
  obtain ⟨u,rfl,ru⟩:=r.one
  have S1:=S.grow g
  have hl1:=g.ext a _ hl
  have hb21:=g.ext b _ hb2
  have ndi:(a::fp').Nodup:=by rw [← hf];exact S.nd i
  have hbi:b ∈ fp i:=by rw [hf,efp];simp
  have hai:a ∈ fp i:=by rw [hf];exact List.mem_cons_self
  have nab:a ≠ b:=fun z=>(List.nodup_cons.mp ndi).1 (by rw [efp,z];simp)
  have nFb:¬ F1 b:=(S1.dis i b hbi).1
  have nBb:¬ Z.B b:=fun z=>S1.bow b z ⟨i,hbi⟩
  have hr1:=hr.ext g.ext g.mono
  obtain ⟨b',f0',f1',f2',vs',efp',c1,c2,c3,c4⟩:=hr1.nest ey
  rw [hb1] at c1
  cases c1
  rw [hb21] at c2
  cases c2
  have ndf:fp'.Nodup:=(List.nodup_cons.mp ndi).2
  have ndf':=ndf
  rw [efp'] at ndf'
  have rone:RelL T F1 Z.B NoL H1 [v] [u] g1:=by unfold RelL;exact ⟨u,[],g1,[],rfl,Rel.noL (by simpa [PV.noLnt] using hc.1) ru,by unfold RelL;exact ⟨rfl,rfl⟩,by simp⟩
  have side:=S.beside g n1 w1
  have subf:∀ c ∈ fp',c ∈ fp i:=fun c hc=>by rw [hf];exact List.mem_cons_of_mem _ hc
  have gne:∀ c ∈ g1,c ∉ fp i:=fun c hc=>(side c hc).2.2 i
  refine ⟨b,vs,u,rfl,rfl,hb21,?_,?_⟩
  ·rw [← c3.length,sizeLine_eq];omega
  ·have nf1:∀ c ∈ f1' ++ g1,c ≠ b:=fun c hc z=>by
    subst z
    rcases List.mem_append.mp hc with h | h
    ·have h2:=(List.nodup_append.mp (List.nodup_append.mp ndf').1).2.1
     exact (List.nodup_cons.mp h2).1 h
    ·exact gne _ h hbi
   have rin:RelL T F1 Z.B NoL (upd H1 b (.lst (vs ++ [u]))) (ys ++ [v]) (vs ++ [u]) (f1' ++ g1):=by
    refine RelL.tr (fun _ h=>h) (fun _ h=>h) (fun _ h=>h) (fun c o q h=>?_) (fun c hc o q=>by rw [upd_ne (nf1 c hc)];exact q) (RelL.append c3 rone)
    rw [upd_ne]
    ·exact q
    ·intro z
     subst z
     rcases h with h | h | h | h
     ·exact nFb h
     ·exact nBb h
     ·exact h
     ·rw [hb21] at q;cases q;exact h
   have rout:=c4 (upd H1 b (.lst (vs ++ [u]))) (ys ++ [v]) (vs ++ [u]) (f1' ++ g1) ndf upd_same rin (fun c o q hn=>by rw [upd_ne hn];exact q) nFb nBb
   have hil:i < env.length:=(List.getElem?_eq_some_iff.mp eo).1
   have mem:∀ c ∈ f0' ++ (b::(f1' ++ g1)) ++ f2',c ∈ fp' ∨ c ∈ g1:=fun c hc=>by
    rw [efp']
    simp only [List.mem_append,List.mem_cons] at hc ⊢
    rcases hc with (h | h | h | h) | h
    ·exact .inl (.inl (.inl h))
    ·exact .inl (.inl (.inr (.inl h)))
    ·exact .inl (.inl (.inr (.inr h)))
    ·exact .inr h
    ·exact .inl (.inr h)
   have ndn:(f0' ++ (b::(f1' ++ g1)) ++ f2').Nodup:=by
    have p:(f0' ++ (b::(f1' ++ g1)) ++ f2').Perm (f0' ++ (b::f1') ++ f2' ++ g1):=by
     simp only [List.append_assoc,List.cons_append]
     refine List.Perm.append_left _ (List.Perm.cons _ (List.Perm.append_left _ ?_))
     exact List.perm_append_comm
    refine p.symm.nodup (List.nodup_append.mpr ⟨ndf',d1,fun c hc c' hc' z=>?_⟩)
    subst z
    exact gne c hc' (subf c (by rw [efp'];exact hc))
   refine q F1 _ σ _ (S1.mut (a:=b) (f':=a::(f0' ++ (b::(f1' ++ g1)) ++ f2')) hil h1 hbi ?_ (List.nodup_cons.mpr ⟨fun z=>?_,ndn⟩) (fun c hc=>?_) (fun c hc=>?_) (fun c hc t ht=>?_) fun o0 o1=>?_)
   ·unfold Rel
    exact ⟨a,ws,_,rfl,by show upd H1 b _ a=_;rw [upd_ne nab];exact hl1,rout,rfl⟩
   ·rcases mem a z with h | h
    ·exact (List.nodup_cons.mp ndi).1 h
    ·exact gne a h hai
   ·rcases List.mem_cons.mp hc with rfl | hc
    ·exact (S1.dis i _ hai).1
    ·rcases mem c hc with h | h
     ·exact (S1.dis i c (subf c h)).1
     ·exact n1 c h
   ·rcases List.mem_cons.mp hc with rfl | hc
    ·exact S1.new i _ hai
    ·rcases mem c hc with h | h
     ·exact S1.new i c (subf c h)
     ·exact (side c h).2.1
   ·rcases List.mem_cons.mp hc with rfl | hc
    ·exact fun z=>S1.dj i t (Ne.symm ht) _ hai z
    ·rcases mem c hc with h | h
     ·exact fun z=>S1.dj i t (Ne.symm ht) c (subf c h) z
     ·exact (side c h).2.2 t
   ·subst o0
    unfold isObj0 at o1
    rw [eo] at o1
    cases o1
end
end PR
namespace PR
open PySem PySem.Spec L2
open AutoSeq1 (wpAny_loadPart')
section
variable {prog:Program}{w:World}{A:Around}{E:Value→Shared→Prop}{s:Shared}
end
section
variable {X:Cx}{T:Tb}{W:Nat→St→Hp→Prop}{Z:Zn}{F F1 B L:Addr→Prop}{H H1:Hp}{σ:St}{env:En}{fp:Nat→List Addr}{pins:List (Addr × Obj)}{s:Shared}
end
end PR
namespace PR
open PySem PySem.Spec L2
section
variable {P:Program}{w:World}{mg:Str→Option Value}{base:Heap}{T:Tb}
theorem fn_okC {x qual:Str}{st:Stmt}{f:Addr}{fd:FuncData}{N ps:List Str}{k:Nat}{m:MS} (F:Fun T.K x qual st f fd) (S:FnScope N ps (defScope st))
  (body:∀ (cdv:Value) (A:Around) (outer:List Env) (s:Shared) (H:Hp) (E:XK),Ctx (cxOf (CXP P w) P w T.K mg base N qual (defScope st) f cdv A outer s H E) T (WD T E) k →
   SSs (cxOf (CXP P w) P w T.K mg base N qual (defScope st) f cdv A outer s H E) T (WD T E) (defBody st) m):FnOk P w T.K mg base (CXP P w) (k+1) f fd ps (spM T ps.length (runB N.length m)) :=
 fn_ok F S fun cdv A outer s H E hr=>body cdv A outer s H E (ctx_def hr)
theorem fnI_okC {x qual:Str}{st:Stmt}{f:Addr}{fd:FuncData}{N ps:List Str}{k:Nat}{m:MS} (F:Fun T.K x qual st f fd) (S:FnScope N ps (defScope st))
  (body:∀ (cdv:Value) (A:Around) (outer:List Env) (s:Shared) (H:Hp) (E:XK),Ctx (cxOf (CXP P w) P w T.K mg base N qual (defScope st) f cdv A outer s H E) T (WD T E) k →
   SSs (cxOf (CXP P w) P w T.K mg base N qual (defScope st) f cdv A outer s H E) T (WD T E) (defBody st) m):FnOk P w T.K mg base (CXP P w) (k+1) f fd ps (spI T ps.length (runI N.length m)) :=
 fnI_ok F S fun cdv A outer s H E hr=>body cdv A outer s H E (ctx_def hr)
end
end PR
namespace PR
open PySem PySem.Spec L2
section
variable {env e e':En}{v:PV}{i:Nat}{r:Out}
@[simp] theorem ev_C:mC v env=.ok v:=rfl
@[simp] theorem ev_Nil:mNil env=.ok []:=rfl
@[simp] theorem ev_Cons {a:ME}{m:MA}:mCons a m env=(a env).bind fun x=>(m env).bind fun xs=>.ok (x::xs):=rfl
@[simp] theorem ev_Un {f:PV→Res PV}{a:ME}:mUn f a env=(a env).bind f:=rfl
@[simp] theorem ev_Op {f:PV→PV→Res PV}{a b:ME}:mOp f a b env=(a env).bind fun x=>(b env).bind fun y=>f x y:=rfl
@[simp] theorem ev_Call {f:List PV→Res PV}{m:MA}:mCall f m env=(m env).bind f:=rfl
@[simp] theorem ev_Lst {m:MA}:mLst m env=(m env).bind fun xs=>.ok (.lst .own xs):=rfl
@[simp] theorem ev_Tup {m:MA}:mTup m env=(m env).bind fun xs=>.ok (.tup xs):=rfl
@[simp] theorem ev_NotT {a:MT}:mNotT a env=(a env).bind fun b=>.ok (!b):=rfl
@[simp] theorem ev_Truth {a:ME}:mTruth a env=(a env).bind pTruth:=rfl
@[simp] theorem ev_Isi {a:ME}{c:String}:tIsi a c env=(a env).bind (pIsi c):=rfl
@[simp] theorem ev_NoPart:mNoPart env=.ok none:=rfl
@[simp] theorem ev_True:mTrue env=.ok true:=rfl
def pOpt:Option (Option PV)→Res PV
 | some (some v)=>.ok (v.mapF Fl.lend)
 | _=>.stuck
@[simp] theorem pOpt_some (v:PV):pOpt (some (some v))=.ok (v.mapF Fl.lend):=rfl
@[simp] theorem ev_Var:mVar i env=pOpt env[i]?:=by
 unfold mVar
 cases env[i]? with
 | none=>rfl
 | some w=>cases w <;> rfl
def pBl:PV→Res Bool
 | .bl b=>.ok b
 | _=>.stuck
@[simp] theorem pBl_bl (b:Bool):pBl (.bl b)=.ok b:=rfl
@[simp] theorem ev_Test {a:ME}:mTest a env=(a env).bind pBl:=by
 rfl
def pNot:PV→Res PV
 | .bl b=>.ok (.bl (!b))
 | _=>.stuck
@[simp] theorem pNot_bl (b:Bool):pNot (.bl b)=.ok (.bl (!b)):=rfl
@[simp] theorem ev_NotE {a:ME}:mNotE a env=(a env).bind pNot:=by
 rfl
def pAnd (r:Res PV):PV→Res PV
 | .bl b=>if b then r else .ok (.bl false)
 | _=>.stuck
@[simp] theorem pAnd_bl (r:Res PV) (b:Bool):pAnd r (.bl b)=if b then r else .ok (.bl false):=rfl
@[simp] theorem ev_AndE {a b:ME}:mAndE a b env=(a env).bind (pAnd (b env)):=by
 unfold mAndE
 congr 1
 funext x
 cases x with
 | bl b=>cases b <;> rfl
 | _=>rfl
def pOr (r:Res PV):PV→Res PV
 | .bl b=>if b then .ok (.bl true) else r
 | _=>.stuck
@[simp] theorem pOr_bl (r:Res PV) (b:Bool):pOr r (.bl b)=if b then .ok (.bl true) else r:=rfl
@[simp] theorem ev_OrE {a b:ME}:mOrE a b env=(a env).bind (pOr (b env)):=by
 unfold mOrE
 congr 1
 funext x
 cases x with
 | bl b=>cases b <;> rfl
 | _=>rfl
@[simp] theorem ev_Chain {f g:PV→PV→Res PV}{a b c:ME}:mChain f g a b c env=(a env).bind fun x=>(b env).bind fun y=>(f x y).bind (pAnd ((c env).bind fun z=>g y z)):=by
 unfold mChain
 congr 1
 funext x
 congr 1
 funext y
 congr 1
 funext z
 cases z with
 | bl b=>cases b <;> rfl
 | _=>rfl
@[simp] theorem int2_int (g:Int→Int→PV) (i j:Int):pInt2 g (.int i) (.int j)=.ok (g i j):=rfl
def pSome:PV→Res (Option Int)
 | .int i=>.ok (some i)
 | _=>.stuck
@[simp] theorem pSome_int (i:Int):pSome (.int i)=.ok (some i):=rfl
@[simp] theorem ev_Part {a:ME}:mPart a env=(a env).bind pSome:=by
 rfl
def pCut (l h:Option Int):PV→Res PV
 | .lst _ xs=>.ok (.lst .own (cutP xs l h))
 | _=>.stuck
@[simp] theorem pCut_lst (l h:Option Int) (f:Fl) (xs:List PV):pCut l h (.lst f xs)=.ok (.lst .own (cutP xs l h)):=rfl
@[simp] theorem ev_Slice {o:ME}{lo hi:MO}:mSlice o lo hi env=(o env).bind fun x=>(lo env).bind fun l=>(hi env).bind fun h=>pCut l h x:=by
 rfl
def noBor (v:PV):Res PV:=if v.has Fl.isBor then .stuck else .ok v
@[simp] theorem callR_eq {f:List PV→Res PV}{xs:List PV}:callR f xs=(f (mapL Fl.toBor xs)).bind noBor:=by
 unfold callR
 cases f (mapL Fl.toBor xs) <;> rfl
def pMet (disp:Nat→Option (List PV→Res PV)) (r:Res (List PV)):PV→Res PV
 | .obj fl c ks vs=>match disp c with
  | some m=>r.bind fun xs=>callR m (.obj fl c ks vs::xs)
  | none=>.stuck
 | _=>.stuck
@[simp] theorem pMet_obj (disp:Nat→Option (List PV→Res PV)) (r:Res (List PV)) (fl:Fl) (c:Nat) (ks:List Nat) (vs:List PV):pMet disp r (.obj fl c ks vs)=match disp c with
  | some m=>r.bind fun xs=>callR m (.obj fl c ks vs::xs)
  | none=>.stuck:=rfl
@[simp] theorem ev_Met {disp:Nat→Option (List PV→Res PV)}{o:ME}{ms:MA}:mMet disp o ms env=(o env).bind (pMet disp (ms env)):=by
 unfold mMet
 congr 1
 funext x
 cases x <;> rfl
@[simp] theorem ev_SeqI {m:ME}:mSeqI m env=(m env).bind fun x=>match x with
 | .lst f xs=>if !f.isLnt && noOL xs then .ok xs else .stuck
 | .tup xs=>if noOL xs then .ok xs else .stuck
 | _=>.stuck:=rfl
def pSeqC (x:PV):Res (List PV):=match seqOf x with
 | some xs=>.ok xs
 | none=>.stuck
@[simp] theorem pSeqC_lst (f:Fl) (xs:List PV):pSeqC (.lst f xs)=.ok xs:=rfl
@[simp] theorem pSeqC_tup (xs:List PV):pSeqC (.tup xs)=.ok xs:=rfl
@[simp] theorem ev_SeqC {m:ME}:mSeqC m env=(m env).bind pSeqC:=rfl
@[simp] theorem ev_AndT {a b:MT}:mAndT a b env=(a env).bind fun x=>if x then b env else .ok false:=rfl
@[simp] theorem ev_OrT {a b:MT}:mOrT a b env=(a env).bind fun x=>if x then .ok true else b env:=rfl
@[simp] theorem ev_IfE {c:MT}{a b:ME}:mIfE c a b env=(c env).bind fun x=>if x then a env else b env:=rfl
@[simp] theorem ev_New {c:Nat}{f:List PV→Res PV}{m:MA}:mNew c f m env=(m env).bind fun xs=>callR f (.obj .own c [] []::xs):=rfl
theorem seq_next {a b:MS} (h1:a env=.next e) (h2:b e=r):mSeq a b env=r:=by unfold mSeq;rw [h1];exact h2
theorem seq_ret {a b:MS} (h1:a env=.ret v):mSeq a b env=.ret v:=by unfold mSeq;rw [h1]
theorem br_t {c:MT}{a b:MS} (h:c env=.ok true) (h2:a env=r):mBr c a b env=r:=by unfold mBr;rw [h];exact h2
theorem br_f {c:MT}{a b:MS} (h:c env=.ok false) (h2:b env=r):mBr c a b env=r:=by unfold mBr;rw [h];exact h2
theorem br_if {c:MT}{a b:MS}{x:Bool} (h:c env=.ok x):mBr c a b env=if x then a env else b env:=by unfold mBr;rw [h];cases x <;> rfl
theorem set_nx {m:ME} (h:m env=.ok v) (hl:v.noLnt=true) (ho:okSlot i env=true):mSet i m env=.next (env.set i (some v)):=by
 unfold mSet;rw [h];simp [hl,ho]
theorem ret_v {m:ME} (h:m env=.ok v) (hl:v.noLnt=true):mRet m env=.ret v:=by unfold mRet;rw [h];simp [hl]
theorem retV_v (h:env[i]?=some (some v)):mRetV i env=.ret v:=by unfold mRetV;rw [h]
theorem drop_nx {m:ME} (h:m env=.ok v):mDrop m env=.next env:=by unfold mDrop;rw [h]
theorem next_nx:mNext env=.next env:=rfl
theorem fld_nx {m:ME}{k c:Nat}{ks:List Nat}{vs:List PV} (h:m env=.ok v) (ho:env[i]?=some (some (.obj .own c ks vs))) (hl:v.noLnt=true) (hk:ks.contains k=false) (hn:ks.length < 900) :
  mFld i k m env=.next (env.set i (some (.obj .own c (ks ++ [k]) (vs ++ [v])))):=by
 unfold mFld;rw [h,ho];simp only [hl,hk];simp [hn]
theorem append_nx {m:ME}{xs:List PV} (h:m env=.ok v) (ho:env[i]?=some (some (.lst .own xs))) (hl:v.noLnt=true) (hn:xs.length < 10000000):mAppend i m env=.next (env.set i (some (.lst .own (xs ++ [v])))):=by
 unfold mAppend;rw [h,ho];simp [hl,hn]
theorem setIx_nx {mk m:ME}{xs:List PV}{j:Int}{n:Nat} (h:m env=.ok v) (ho:env[i]?=some (some (.lst .own xs))) (hk:mk env=.ok (.int j)) (hj:ixN xs.length j=some n) (hl:v.noLnt=true) :
  mSetIx i mk m env=.next (env.set i (some (.lst .own (xs.set n v)))):=by
 unfold mSetIx;rw [h,ho,hk];simp [hj,hl]
theorem frz_nx (h:env[i]?=some (some v)):mFrz i env=.next (env.set i (some (v.mapF Fl.freeze))):=by unfold mFrz;rw [h]
theorem runB_ret {n:Nat}{m:MS}{args:List PV} (h:m (args.map some ++ List.replicate (n - args.length) none)=.ret v):runB n m args=.ok v:=by unfold runB;rw [h]
theorem runB_next {n:Nat}{m:MS}{args:List PV} (h:m (args.map some ++ List.replicate (n - args.length) none)=.next e):runB n m args=.ok .non:=by unfold runB;rw [h]
theorem runI_ok {n:Nat}{m:MS}{args:List PV} (h:m (args.map some ++ List.replicate (n - args.length) none)=.next e) (ho:e[0]?=some (some v)):runI n m args=.ok v:=by unfold runI;rw [h];simp [ho]
theorem for_inv {it:MI}{g:TgM}{body:MS}{xs:List PV} (P:Nat→En→Prop) (h:it env=.ok xs) (h0:P 0 env)
  (step:∀ (k:Nat) (x:PV) (e:En),xs[k]?=some x→P k e→∃ e1 e2,g x e=some e1∧(body e1=.next e2 ∨ body e1=.cont e2)∧P (k+1) e2):∃ e2,mFor it g body env=.next e2∧P xs.length e2:=by
 unfold mFor
 rw [h]
 dsimp only
 have key:∀ (ys pre:List PV) (e:En),pre ++ ys=xs→P pre.length e→∃ e2,forL (fun x e=>match g x e with
  | some e'=>body e'
  | none=>.stuck) ys e=.next e2∧P xs.length e2:=by
  intro ys
  induction ys with
  | nil=>intro pre e hp hP;simp at hp;subst hp;exact ⟨e,rfl,hP⟩
  | cons y ys ih =>
   intro pre e hp hP
   obtain ⟨e1,e2,h1,h2,h3⟩:=step pre.length y e (by rw [← hp];simp) hP
   obtain ⟨e3,h4,h5⟩:=ih (pre ++ [y]) e2 (by rw [← hp];simp) (by simpa using h3)
   refine ⟨e3,?_,h5⟩
   unfold forL
   simp only [h1]
   rcases h2 with h2 | h2 <;> rw [h2] <;> exact h4
 exact key xs [] env rfl h0
theorem for_out {it:MI}{g:TgM}{body:MS}{xs:List PV} (P:Nat→En→Prop) (R:Out→Prop) (h:it env=.ok xs) (h0:P 0 env)
  (step:∀ (k:Nat) (x:PV) (e:En),xs[k]?=some x→P k e→∃ e1,g x e=some e1∧((∃ e2,(body e1=.next e2 ∨ body e1=.cont e2)∧P (k+1) e2) ∨ (∃ e2,body e1=.brk e2∧R (.next e2)) ∨ (∃ v,body e1=.ret v∧R (.ret v)) ∨ ∃ c e2,body e1=.exc c e2∧R (.exc c e2)))
  (fin:∀ e,P xs.length e→R (.next e)):R (mFor it g body env):=by
 unfold mFor
 rw [h]
 dsimp only
 have key:∀ (ys pre:List PV) (e:En),pre ++ ys=xs→P pre.length e→R (forL (fun x e=>match g x e with
  | some e'=>body e'
  | none=>.stuck) ys e):=by
  intro ys
  induction ys with
  | nil=>intro pre e hp hP;simp at hp;subst hp;exact fin e hP
  | cons y ys ih =>
   intro pre e hp hP
   obtain ⟨e1,h1,h2⟩:=step pre.length y e (by rw [← hp];simp) hP
   unfold forL
   simp only [h1]
   rcases h2 with ⟨e2,h2,h3⟩ | ⟨e2,h2,h3⟩ | ⟨v,h2,h3⟩ | ⟨c,e2,h2,h3⟩
   ·have:=ih (pre ++ [y]) e2 (by rw [← hp];simp) (by simpa using h3)
    rcases h2 with h2 | h2 <;> rw [h2] <;> exact this
   ·rw [h2];exact h3
   ·rw [h2];exact h3
   ·rw [h2];exact h3
 exact key xs [] env rfl h0
theorem comp_ok {caps:List Nat}{k:Nat}{mi:MI}{g:TgM}{mc:MT}{me:ME}{xs ys:List PV} (h:mi env=.ok xs) (hl:xs.length ≤ 10000000) (hc:compL g mc me (capE caps k env) xs=.ok ys):mComp caps k mi g mc me env=.ok (.lst .own ys):=by
 unfold mComp;rw [h];simp only [Res.ok_bind,hl,if_true,hc]
theorem compL_map {g:TgM}{me:ME}{α:Type}{a:α→PV}{f:α→PV}:∀ (xs:List α),(∀ x ∈ xs,∃ e1,g (a x).borrow env=some e1∧me e1=.ok (f x)∧(f x).has Fl.isBor=false∧(f x).has Fl.isLnt=false) →
  compL g mTrue me env (xs.map a)=.ok (xs.map f)
 | [],_=>rfl
 | x::xs,h=>by
  obtain ⟨e1,h1,h2,h3,h4⟩:=h x List.mem_cons_self
  rw [List.map_cons,compL,h1]
  simp only [ev_True,Res.ok_bind,if_true,h2,h3,h4,Bool.or_self,Bool.false_eq_true,if_false,compL_map xs fun y hy=>h y (List.mem_cons_of_mem _ hy)]
  rfl
theorem compL_filter {g:TgM}{mc:MT}{me:ME}{α:Type}{a:α→PV}{f:α→PV}{p:α→Bool}:∀ (xs:List α),(∀ x ∈ xs,∃ e1,g (a x).borrow env=some e1∧mc e1=.ok (p x)∧(p x=true→me e1=.ok (f x)∧(f x).has Fl.isBor=false∧(f x).has Fl.isLnt=false)) →
  compL g mc me env (xs.map a)=.ok ((xs.filter p).map f)
 | [],_=>rfl
 | x::xs,h=>by
  obtain ⟨e1,h1,h2,h3⟩:=h x List.mem_cons_self
  have ih:=compL_filter (g:=g) (mc:=mc) (me:=me) (a:=a) (f:=f) (p:=p) xs fun y hy=>h y (List.mem_cons_of_mem _ hy)
  rw [List.map_cons,compL,h1]
  cases hp:p x with
  | true =>
   obtain ⟨h4,h5,h6⟩:=h3 hp
   simp only [h2,hp,Res.ok_bind,if_true,h4,h5,h6,Bool.or_self,Bool.false_eq_true,if_false,ih]
   rw [List.filter_cons_of_pos hp]
   rfl
  | false =>
   simp only [h2,hp,Res.ok_bind,Bool.false_eq_true,if_false,ih]
   rw [List.filter_cons_of_neg (by simp [hp])]
end
def iL (ns:List Int):List PV:=ns.map .int
theorem ints_def (ns:List Int):ns.map PV.int=iL ns:=rfl
section
variable (ns ms:List Int) (g:Fl→Fl) (p:Fl→Bool)
@[simp] theorem ints_nil:iL []=[]:=rfl
@[simp] theorem ints_cons (n:Int):iL (n::ns)=.int n::iL ns:=rfl
@[simp] theorem ints_len:(iL ns).length=ns.length:=by simp [iL]
@[simp] theorem ints_app:iL ns ++ iL ms=iL (ns ++ ms):=by simp [iL]
@[simp] theorem ints_drop (k:Nat):(iL ns).drop k=iL (ns.drop k):=by simp [iL]
@[simp] theorem ints_take (k:Nat):(iL ns).take k=iL (ns.take k):=by simp [iL]
@[simp] theorem ints_get (k:Nat):(iL ns)[k]?=(ns[k]?).map .int:=by simp [iL]
@[simp] theorem ints_set (k:Nat) (n:Int):(iL ns).set k (.int n)=iL (ns.set k n):=by simp [iL,List.map_set]
@[simp] theorem mapL_ints:mapL g (iL ns)=iL ns:=by
 induction ns with
 | nil=>rfl
 | cons n ns ih=>simp [mapL,PV.mapF,ih]
@[simp] theorem hasL_ints:hasL p (iL ns)=false:=by
 induction ns with
 | nil=>rfl
 | cons n ns ih=>simp [hasL,PV.has,ih]
@[simp] theorem canL_ints:PyData.canLayAll0 (dataL (iL ns))=true:=by
 induction ns with
 | nil=>rfl
 | cons n ns ih=>simp only [ints_cons,dataL,PV.data,PyData.canLayAll0,ih];rfl
@[simp] theorem depL_ints:PyData.depthAll (dataL (iL ns))=0:=by
 induction ns with
 | nil=>rfl
 | cons n ns ih=>simp only [ints_cons,dataL,PV.data,PyData.depthAll,ih];rfl
@[simp] theorem shp_int (i:Int):shp (.int i)=true:=rfl
@[simp] theorem shp_bl (b:Bool):shp (.bl b)=true:=rfl
@[simp] theorem shp_non:shp .non=true:=rfl
@[simp] theorem shp_ints (f:Fl):shp (.lst f (iL ns))=true:=by
 simp [shp,SeqAt.shaped,PV.data,PyData.canLay0,PyData.depth]
@[simp] theorem shpL_ints:(iL ns).all shp=true:=by
 induction ns with
 | nil=>rfl
 | cons n ns ih=>simp only [ints_cons,List.all_cons,shp_int,ih];rfl
mutual
theorem eqv_self:∀ d:PyData,d.canLay0=true→PyData.eqv d d=true
 | .none,_=>rfl
 | .bool b,_=>by simp [PyData.eqv]
 | .int b,_=>by simp [PyData.eqv]
 | .str b,_=>by simp [PyData.eqv]
 | .list xs,h=>by
  simp only [PyData.canLay0] at h
  simp only [PyData.eqv]
  exact eqvL_self xs h
 | .tuple xs,h=>by
  simp only [PyData.canLay0] at h
  simp only [PyData.eqv]
  exact eqvL_self xs h
 | .dict xs,h=>by simp [PyData.canLay0] at h
theorem eqvL_self:∀ ds:List PyData,PyData.canLayAll0 ds=true→PyData.eqvAll ds ds=true
 | [],_=>rfl
 | d::ds,h=>by
  simp only [PyData.canLayAll0,Bool.and_eq_true] at h
  simp only [PyData.eqvAll,eqv_self d h.1,eqvL_self ds h.2]
  rfl
end
theorem eq_same {x y:PV} (h:x.data=y.data) (hs:shp x=true):pEq x y=.ok (.bl true):=by
 have hy:shp y=true:=by unfold shp at hs ⊢;rw [← h];exact hs
 have hc:=SeqAt.canLay_of_shaped hs
 unfold pEq
 rw [hs,hy,← h,eqv_self _ hc]
 rfl
@[simp] theorem eq_int (i j:Int):pEq (.int i) (.int j)=.ok (.bl (decide (i=j))):=by
 unfold pEq
 simp only [shp_int,Bool.and_self,if_true,PV.data,PyData.eqv]
 congr 2
@[simp] theorem ne_int (i j:Int):pNe (.int i) (.int j)=.ok (.bl (!decide (i=j))):=by
 unfold pNe
 simp only [shp_int,Bool.and_self,if_true,PV.data,PyData.eqv]
 congr 2
@[simp] theorem eq_bl (i j:Bool):pEq (.bl i) (.bl j)=.ok (.bl (decide (i=j))):=by cases i <;> cases j <;> rfl
@[simp] theorem ne_bl (i j:Bool):pNe (.bl i) (.bl j)=.ok (.bl (!decide (i=j))):=by cases i <;> cases j <;> rfl
theorem eqvL_ints:PyData.eqvAll (dataL (iL ns)) (dataL (iL ms))=decide (ns=ms):=by
 induction ns generalizing ms with
 | nil=>cases ms <;> simp [dataL,PyData.eqvAll]
 | cons n ns ih =>
  cases ms with
  | nil=>simp [dataL,PyData.eqvAll]
  | cons m ms=>simp only [ints_cons,dataL,PV.data,PyData.eqvAll,PyData.eqv,ih];by_cases h:n=m <;> simp [h]
@[simp] theorem eq_ints (f f':Fl):pEq (.lst f (iL ns)) (.lst f' (iL ms))=.ok (.bl (decide (ns=ms))):=by
 unfold pEq
 simp only [shp_ints,Bool.and_self,if_true,PV.data,PyData.eqv,eqvL_ints]
@[simp] theorem ne_ints (f f':Fl):pNe (.lst f (iL ns)) (.lst f' (iL ms))=.ok (.bl (!decide (ns=ms))):=by
 unfold pNe
 simp only [shp_ints,Bool.and_self,if_true,PV.data,PyData.eqv,eqvL_ints]
@[simp] theorem lt_int (i j:Int):pLt (.int i) (.int j)=.ok (.bl (decide (i < j))):=rfl
@[simp] theorem le_int (i j:Int):pLe (.int i) (.int j)=.ok (.bl (decide (i ≤ j))):=rfl
@[simp] theorem gt_int (i j:Int):pGt (.int i) (.int j)=.ok (.bl (decide (j < i))):=rfl
@[simp] theorem ge_int (i j:Int):pGe (.int i) (.int j)=.ok (.bl (decide (j ≤ i))):=rfl
@[simp] theorem plus_int (i j:Int):pPlus (.int i) (.int j)=.ok (.int (i+j)):=rfl
@[simp] theorem sub_int (i j:Int):pSub (.int i) (.int j)=.ok (.int (i - j)):=rfl
@[simp] theorem neg_int (i:Int):pNeg (.int i)=.ok (.int (-i)):=rfl
theorem mod_ok {i j:Int} (h:0 < j):pMod (.int i) (.int j)=.ok (.int (i % j)):=by simp [pMod,pInt2?,h]
theorem div_ok {i j:Int} (h:0 < j) (h2:j < 1073741824):pDiv (.int i) (.int j)=.ok (.int (i / j)):=by simp [pDiv,pInt2?,h,h2]
theorem mul_ok {i j:Int} (h:(-(2 ^ 64) < i∧i < 2 ^ 64) ∨ (-(2 ^ 64) < j∧j < 2 ^ 64)):pMul (.int i) (.int j)=.ok (.int (i * j)):=by
 unfold pMul pInt2?
 dsimp only
 rw [if_pos (by simpa using h)]
theorem pow_ok {i j:Int} (h0:0 ≤ j) (h1:j ≤ 1000000) (h2:i.natAbs < 2 ^ 64):pPow (.int i) (.int j)=.ok (.int (i ^ j.toNat)):=by
 unfold pPow pInt2?
 dsimp only
 rw [if_pos (by simp only [decide_eq_true_eq];exact ⟨h0,h1,h2⟩)]
@[simp] theorem pow60:pPow (.int 10) (.int 60)=.ok (.int (10 ^ 60)):=pow_ok (by decide) (by decide) (by decide)
@[simp] theorem len_lst (f:Fl) (xs:List PV):pLen (.lst f xs)=.ok (.int xs.length):=rfl
@[simp] theorem len_tup (xs:List PV):pLen (.tup xs)=.ok (.int xs.length):=rfl
@[simp] theorem list_lst (f:Fl) (xs:List PV):pList (.lst f xs)=.ok (.lst .own xs):=rfl
@[simp] theorem p1_one (f:PV→Res PV) (x:PV):p1 f [x]=f x:=by simp only [p1]
@[simp] theorem isi_int (c:String) (i:Int):pIsi c (.int i)=.ok (.bl (isiB "int" c)):=rfl
@[simp] theorem isi_bl (c:String) (i:Bool):pIsi c (.bl i)=.ok (.bl (isiB "bool" c)):=rfl
@[simp] theorem isi_non (c:String):pIsi c .non=.ok (.bl (isiB "NoneType" c)):=rfl
@[simp] theorem isi_lst (c:String) (f:Fl) (xs:List PV):pIsi c (.lst f xs)=.ok (.bl (isiB "list" c)):=rfl
@[simp] theorem isi_tup (c:String) (xs:List PV):pIsi c (.tup xs)=.ok (.bl (isiB "tuple" c)):=rfl
@[simp] theorem truth_bl (b:Bool):pTruth (.bl b)=.ok b:=rfl
@[simp] theorem truth_int (i:Int):pTruth (.int i)=.ok (i != 0):=rfl
@[simp] theorem mapF_int (i:Int):(PV.int i).mapF g=.int i:=by simp [PV.mapF]
@[simp] theorem mapF_bl (b:Bool):(PV.bl b).mapF g=.bl b:=by simp [PV.mapF]
@[simp] theorem mapF_non:PV.non.mapF g=.non:=by simp [PV.mapF]
@[simp] theorem mapF_str (x:Str):(PV.str x).mapF g=.str x:=by simp [PV.mapF]
@[simp] theorem mapF_exc (x:Nat):(PV.exc x).mapF g=.exc x:=by simp [PV.mapF]
@[simp] theorem mapF_lst (f:Fl) (xs:List PV):(PV.lst f xs).mapF g=.lst (g f) (mapL g xs):=by simp [PV.mapF]
@[simp] theorem mapF_tup (xs:List PV):(PV.tup xs).mapF g=.tup (mapL g xs):=by simp [PV.mapF]
@[simp] theorem mapF_obj (f:Fl) (c:Nat) (ks:List Nat) (xs:List PV):(PV.obj f c ks xs).mapF g=.obj (g f) c ks (mapL g xs):=by simp [PV.mapF]
@[simp] theorem mapL_nil:mapL g []=[]:=by simp [mapL]
@[simp] theorem mapL_cons (x:PV) (xs:List PV):mapL g (x::xs)=x.mapF g::mapL g xs:=by simp [mapL]
@[simp] theorem has_int (i:Int):(PV.int i).has p=false:=by simp [PV.has]
@[simp] theorem has_bl (b:Bool):(PV.bl b).has p=false:=by simp [PV.has]
@[simp] theorem has_non:PV.non.has p=false:=by simp [PV.has]
@[simp] theorem has_str (x:Str):(PV.str x).has p=false:=by simp [PV.has]
@[simp] theorem has_exc (x:Nat):(PV.exc x).has p=false:=by simp [PV.has]
@[simp] theorem has_lst (f:Fl) (xs:List PV):(PV.lst f xs).has p=(p f || hasL p xs):=by simp [PV.has]
@[simp] theorem has_tup (xs:List PV):(PV.tup xs).has p=hasL p xs:=by simp [PV.has]
@[simp] theorem has_obj (f:Fl) (c:Nat) (ks:List Nat) (xs:List PV):(PV.obj f c ks xs).has p=(p f || hasL p xs):=by simp [PV.has]
@[simp] theorem hasL_nil:hasL p []=false:=by simp [hasL]
@[simp] theorem hasL_cons (x:PV) (xs:List PV):hasL p (x::xs)=(x.has p || hasL p xs):=by simp [hasL]
@[simp] theorem noLnt_eq (x:PV):x.noLnt=!x.has Fl.isLnt:=rfl
@[simp] theorem borrow_eq (x:PV):x.borrow=x.mapF Fl.borrow:=rfl
@[simp] theorem lend_own:Fl.own.lend=.lnt:=rfl
@[simp] theorem lend_frz:Fl.frz.lend=.frz:=rfl
@[simp] theorem lend_bor:Fl.bor.lend=.bor:=rfl
@[simp] theorem lend_lnt:Fl.lnt.lend=.lnt:=rfl
@[simp] theorem toBor_own:Fl.own.toBor=.own:=rfl
@[simp] theorem toBor_frz:Fl.frz.toBor=.frz:=rfl
@[simp] theorem toBor_bor:Fl.bor.toBor=.bor:=rfl
@[simp] theorem toBor_lnt:Fl.lnt.toBor=.bor:=rfl
@[simp] theorem borrow_own':Fl.own.borrow=.bor:=rfl
@[simp] theorem borrow_frz:Fl.frz.borrow=.frz:=rfl
@[simp] theorem borrow_bor:Fl.bor.borrow=.bor:=rfl
@[simp] theorem borrow_lnt:Fl.lnt.borrow=.bor:=rfl
@[simp] theorem isOwn_own:Fl.own.isOwn=true:=rfl
@[simp] theorem isOwn_frz:Fl.frz.isOwn=false:=rfl
@[simp] theorem isOwn_bor:Fl.bor.isOwn=false:=rfl
@[simp] theorem isOwn_lnt:Fl.lnt.isOwn=false:=rfl
@[simp] theorem isLnt_own:Fl.own.isLnt=false:=rfl
@[simp] theorem isLnt_frz:Fl.frz.isLnt=false:=rfl
@[simp] theorem isLnt_bor:Fl.bor.isLnt=false:=rfl
@[simp] theorem isLnt_lnt:Fl.lnt.isLnt=true:=rfl
@[simp] theorem isBor_own:Fl.own.isBor=false:=rfl
@[simp] theorem isBor_frz:Fl.frz.isBor=false:=rfl
@[simp] theorem isBor_bor:Fl.bor.isBor=true:=rfl
@[simp] theorem isBor_lnt:Fl.lnt.isBor=false:=rfl
@[simp] theorem freeze_own:Fl.own.freeze=.frz:=rfl
@[simp] theorem freeze_frz:Fl.frz.freeze=.frz:=rfl
@[simp] theorem freeze_bor:Fl.bor.freeze=.bor:=rfl
@[simp] theorem freeze_lnt:Fl.lnt.freeze=.lnt:=rfl
theorem idx_ints {f:Fl}{i:Int}{n:Int} (h0:0 ≤ i) (h:ns[i.toNat]?=some n):pIdx (.lst f (iL ns)) (.int i)=.ok (.int n):=by
 have hl:i.toNat < ns.length:=(List.getElem?_eq_some_iff.mp h).1
 unfold pIdx
 simp only [seqOf,atI,ixN,ints_len,h0,if_true]
 rw [if_pos (by omega)]
 simp [h]
end
section
variable {env:En}{r:Out}
def Goes (o:Out) (Q:En→Prop):Prop:=∃ e,(o=.next e ∨ o=.cont e)∧Q e
theorem goes_seq {a b:MS}{e:En}{Q:En→Prop} (h1:a env=.next e) (h2:Goes (b e) Q):Goes (mSeq a b env) Q:=by
 obtain ⟨e2,h3,h4⟩:=h2
 refine ⟨e2,?_,h4⟩
 unfold mSeq
 rw [h1]
 exact h3
theorem goes_last {o:Out}{e:En}{Q:En→Prop} (h1:o=.next e) (h2:Q e):Goes o Q:=⟨e,.inl h1,h2⟩
theorem goes_for {it:MI}{g:TgM}{body rest:MS}{xs:List PV} (P:Nat→En→Prop) {Q:En→Prop} (h:it env=.ok xs) (h0:P 0 env)
  (step:∀ (k:Nat) (x:PV) (e:En),xs[k]?=some x→P k e→∃ e1,g x e=some e1∧Goes (body e1) (P (k+1))) (fin:∀ e,P xs.length e→Goes (rest e) Q):Goes (mSeq (mFor it g body) rest env) Q:=by
 obtain ⟨e2,h1,h2⟩:=for_inv P h h0 fun k x e h1 h2=>by
  obtain ⟨e1,h3,e2,h4,h5⟩:=step k x e h1 h2
  exact ⟨e1,e2,h3,h4,h5⟩
 exact goes_seq h1 (fin e2 h2)
theorem goes_forl {it:MI}{g:TgM}{body:MS}{xs:List PV} (P:Nat→En→Prop) {Q:En→Prop} (h:it env=.ok xs) (h0:P 0 env)
  (step:∀ (k:Nat) (x:PV) (e:En),xs[k]?=some x→P k e→∃ e1,g x e=some e1∧Goes (body e1) (P (k+1))) (fin:∀ e,P xs.length e→Q e):Goes (mFor it g body env) Q:=by
 obtain ⟨e2,h1,h2⟩:=for_inv P h h0 fun k x e h1 h2=>by
  obtain ⟨e1,h3,e2,h4,h5⟩:=step k x e h1 h2
  exact ⟨e1,e2,h3,h4,h5⟩
 exact ⟨e2,.inl h1,fin e2 h2⟩
theorem seq_for {it:MI}{g:TgM}{body rest:MS}{xs:List PV} (P:Nat→En→Prop) (h:it env=.ok xs) (h0:P 0 env)
  (step:∀ (k:Nat) (x:PV) (e:En),xs[k]?=some x→P k e→∃ e1,g x e=some e1∧Goes (body e1) (P (k+1))) (fin:∀ e,P xs.length e→rest e=r):mSeq (mFor it g body) rest env=r:=by
 obtain ⟨e2,h1,h2⟩:=for_inv P h h0 fun k x e h1 h2=>by
  obtain ⟨e1,h3,e2,h4,h5⟩:=step k x e h1 h2
  exact ⟨e1,e2,h3,h4,h5⟩
 exact seq_next h1 (fin e2 h2)
theorem inR_ok {i:Int} (h:-1000000 ≤ i∧i ≤ 1000000):inR i=true:=by
 have e:(2:Int) ^ 62=4611686018427387904:=by decide
 unfold inR
 rw [decide_eq_true_eq,e]
 omega
theorem rng1_in {n:Int} (hi:inR n=true) {ms:MA} (h:ms env=.ok [.int n]):mRng1 ms env=.ok (rngP 0 n.toNat):=by
 unfold mRng1
 rw [h,Res.ok_bind]
 dsimp only
 rw [if_pos hi]
theorem rng1_nat {n:Nat} (hi:inR (n:Int)=true) {ms:MA} (h:ms env=.ok [.int n]):mRng1 ms env=.ok (rngP 0 n):=by
 have:=rng1_in hi h
 rw [Int.toNat_natCast] at this
 exact this
theorem nat_in {n:Nat} (hn:n ≤ 1000000):-1000000 ≤ (n:Int)∧(n:Int) ≤ 1000000:=by omega
theorem rng1_ok {ms:MA}{n:Nat} (h:ms env=.ok [.int n]) (hn:n ≤ 1000000):mRng1 ms env=.ok (rngP 0 n):=rng1_nat (inR_ok (nat_in hn)) h
theorem rng2_in {lo hi:Int} (hh:(inR lo && inR hi)=true) {ms:MA} (h:ms env=.ok [.int lo,.int hi]):mRng2 ms env=.ok (rngP lo (hi - lo).toNat):=by
 unfold mRng2
 rw [h,Res.ok_bind]
 dsimp only
 rw [if_pos hh]
theorem rng2_ok {ms:MA}{lo hi:Int} (h:ms env=.ok [.int lo,.int hi]) (hl:-1000000 ≤ lo∧lo ≤ 1000000) (hh:-1000000 ≤ hi∧hi ≤ 1000000):mRng2 ms env=.ok (rngP lo (hi - lo).toNat) :=
 rng2_in (by rw [inR_ok hl,inR_ok hh];rfl) h
theorem rngP_len (lo:Int) (n:Nat):(rngP lo n).length=n:=by simp [rngP]
theorem rngP_get {lo:Int}{n k:Nat}{x:PV} (h:(rngP lo n)[k]?=some x):k < n∧x=.int (lo+k):=by
 have hk:k < n:=by
  have:=(List.getElem?_eq_some_iff.mp h).1
  rwa [rngP_len] at this
 refine ⟨hk,?_⟩
 simp [rngP,hk] at h
 exact h.symm
theorem iL_get {ns:List Int}{k:Nat}{x:PV} (h:(iL ns)[k]?=some x):∃ n,ns[k]?=some n∧x=.int n:=by
 simp at h
 obtain ⟨n,h1,h2⟩:=h
 exact ⟨n,h1,h2.symm⟩
theorem tgN_ok {i:Nat}{v:PV}{e:En} (h:okSlot i e=true):tgN i v e=some (e.set i (some v)):=by simp [tgN,h]
end
theorem cut_iL (ns:List Int) (lo hi:Nat) {l h:Int} (hl:l=lo) (hh:h=hi):cutP (iL ns) (some l) (some h)=iL ((ns.take hi).drop lo):=by
 subst hl hh
 unfold cutP
 rw [HT.sIx_nat,HT.sIx_nat]
 simp only [ints_len,ints_drop,ints_take]
 congr 1
 rw [List.drop_take]
 rcases Nat.le_total lo ns.length with h1 | h1
 ·rw [Nat.min_eq_left h1]
  rcases Nat.le_total hi ns.length with h2 | h2
  ·rw [Nat.min_eq_left h2]
  ·rw [Nat.min_eq_right h2,List.take_of_length_le (by simp),List.take_of_length_le (by simp;omega)]
 ·rw [Nat.min_eq_right h1,List.drop_eq_nil_of_le (Nat.le_refl _),List.drop_eq_nil_of_le h1]
  simp
theorem plus_lst {f g:Fl}{xs ys:List PV} (hf:f ≠ .mod) (hg:g ≠ .mod) (h:xs.length+ys.length ≤ 10000000):pPlus (.lst f xs) (.lst g ys)=.ok (.lst .own (xs ++ ys)):=by
 unfold pPlus
 dsimp only
 rw [if_neg (by simp only [hf,hg,h,not_true_eq_false,or_self,not_false_eq_true])]
theorem ixN_nat {n k:Nat} (h:k < n):ixN n (k:Int)=some k:=by
 unfold ixN
 rw [if_pos (by omega),if_pos (by omega),Int.toNat_natCast]
end PR
namespace PR
open PySem PySem.Spec L2
def llL (f:Fl) (xss:List (List Int)):List PV:=xss.map fun xs=>.lst f (iL xs)
section
variable (xss yss:List (List Int)) (g:Fl→Fl) (p:Fl→Bool) (f:Fl)
@[simp] theorem llL_nil:llL f []=[]:=rfl
@[simp] theorem llL_cons (xs:List Int):llL f (xs::xss)=.lst f (iL xs)::llL f xss:=rfl
@[simp] theorem llL_len:(llL f xss).length=xss.length:=by simp [llL]
@[simp] theorem llL_app:llL f xss ++ llL f yss=llL f (xss ++ yss):=by simp [llL]
@[simp] theorem mapL_llL:mapL g (llL f xss)=llL (g f) xss:=by
 induction xss with
 | nil=>rfl
 | cons n ns ih=>simp [ih]
theorem hasL_llL (h:p f=false):hasL p (llL f xss)=false:=by
 induction xss with
 | nil=>rfl
 | cons n ns ih=>simp [ih,h]
end
theorem rng_iL (lo:Int) (n:Nat):rngP lo n=iL ((List.range n).map fun k=>lo+(k:Nat)):=by simp [rngP,iL]
def upto (n:Nat):List Int:=(List.range n).map fun (k:Nat)=>(k:Int)
@[simp] theorem upto_len (n:Nat):(upto n).length=n:=by simp [upto]
theorem rng_upto (n:Nat):rngP 0 n=iL (upto n):=by rw [rng_iL];simp [upto]
@[simp] theorem listR1_ok {n:Nat} (h:n ≤ 1000000):pListR1 [.int n]=.ok (.lst .own (iL (upto n))):=by
 unfold pListR1
 dsimp only
 rw [if_pos (by simp;omega),Int.toNat_natCast,rng_upto]
@[simp] theorem isB_bl (b c:Bool):pIsB (.bl b) (.bl c)=.ok (.bl (b == c)):=rfl
@[simp] theorem notB_bl (b c:Bool):pNotB (.bl b) (.bl c)=.ok (.bl (!(b == c))):=rfl
@[simp] theorem intsOf_iL (ns:List Int):intsOf (iL ns)=some ns:=by
 induction ns with
 | nil=>rfl
 | cons n ns ih=>simp [intsOf,ih]
theorem inL_int (i:Int) (ns:List Int):inL (.int i) (iL ns)=ns.contains i:=by
 induction ns with
 | nil=>rfl
 | cons n ns ih =>
  have e:inL (.int i) (iL (n::ns))=(PyData.eqv (PV.int n).data (PV.int i).data || inL (.int i) (iL ns)):=rfl
  rw [e,ih,List.contains_cons]
  congr 1
  simp only [PV.data,PyData.eqv]
  exact Bool.beq_comm
@[simp] theorem in_ok (i:Int) (ns:List Int) (f:Fl):pIn (.int i) (.lst f (iL ns))=.ok (.bl (ns.contains i)):=by
 unfold pIn
 simp only [seqOf,shp_int,shpL_ints,Bool.and_self,if_true,inL_int]
@[simp] theorem notIn_ok (i:Int) (ns:List Int) (f:Fl):pNotIn (.int i) (.lst f (iL ns))=.ok (.bl (!ns.contains i)):=by
 unfold pNotIn
 simp only [seqOf,shp_int,shpL_ints,Bool.and_self,if_true,inL_int]
def Ends (o:Out):Prop:=∃ e,o=.next e
section
variable {env e:En}
theorem runB_ends {n:Nat}{m:MS}{args:List PV} (h:Ends (m (args.map some ++ List.replicate (n - args.length) none))):runB n m args=.ok .non:=by
 obtain ⟨e,h⟩:=h
 exact runB_next h
theorem ends_seq {a b:MS} (h1:a env=.next e) (h2:Ends (b e)):Ends (mSeq a b env):=by
 obtain ⟨e2,h2⟩:=h2
 exact ⟨e2,seq_next h1 h2⟩
end
theorem seqI_lst {m:ME}{env:En}{f:Fl}{xs:List PV} (h:m env=.ok (.lst f xs)) (hf:f.isLnt=false) (h1:hasL Fl.isOwn xs=false) (h2:hasL Fl.isLnt xs=false):mSeqI m env=.ok xs:=by
 unfold mSeqI
 rw [h]
 simp [hf,noOL,h1,h2]
end PR
namespace PR
section
variable {n r s k o:Nat}{adj:Nat→Nat→Prop}{far:List Int}
def gt (far:List Int) (i:Nat):Int:=far.getD i 0
theorem gt_set {far:List Int}{o:Nat} (x:Int) (h:o < far.length) (i:Nat):gt (far.set o x) i=if i=o then x else gt far i:=by
 simp only [gt,List.getD_eq_getElem?_getD,List.getElem?_set]
 by_cases e:o=i
 ·subst e;simp [h]
 ·rw [if_neg e,if_neg (Ne.symm e)]
structure Far (n r:Nat) (adj:Nat→Nat→Prop) (s k:Nat) (d:Nat→Prop) (far:List Int):Prop where
 len:far.length=n
 rt:gt far r=0
 rng:∀ i < n,0 ≤ gt far i∧(gt far i ≤ s+1 ∨ gt far i=n)
 top:∀ i < n,gt far i ≤ n
 up:∀ i < n,∀ j < n,gt far i < s→adj i j→gt far j ≤ gt far i+1
 upk:∀ i < k,∀ j < n,gt far i=s→adj i j→gt far j ≤ s+1
 upd:∀ j < n,d j→gt far j ≤ s+1
 dn:∀ i < n,i ≠ r→gt far i < n→1 ≤ gt far i∧∃ j < n,adj i j∧gt far j=gt far i - 1
theorem Far.start (hr:r < n) (h:∀ i < n,gt far i=if i=r then 0 else (n:Int)) (hl:far.length=n):Far n r adj 0 0 (fun _=>False) far where
 len:=hl
 rt:=by rw [h r hr,if_pos rfl]
 rng:=fun i hi=>by rw [h i hi];split <;> omega
 top:=fun i hi=>by rw [h i hi];split <;> omega
 up:=fun i hi j _ hv _=>by
  have:=h i hi
  split at this <;> omega
 upk:=fun i hi=>absurd hi (Nat.not_lt_zero _)
 upd:=fun _ _ z=>z.elim
 dn:=fun i hi hn hv=>by
  rw [h i hi,if_neg hn] at hv
  omega
theorem Far.skip (F:Far n r adj s k (fun _=>False) far) (hk:gt far k ≠ s):Far n r adj s (k+1) (fun _=>False) far where
 len:=F.len
 rt:=F.rt
 rng:=F.rng
 top:=F.top
 up:=F.up
 upk:=fun i hi j hj e a=>by
  rcases Nat.lt_or_ge i k with h | h
  ·exact F.upk i h j hj e a
  ·have:i=k:=by omega
   subst this
   exact absurd e hk
 upd:=F.upd
 dn:=F.dn
theorem Far.close {d:Nat→Prop} (F:Far n r adj s k d far) (hd:∀ j,j < n→adj k j→d j):Far n r adj s (k+1) (fun _=>False) far where
 len:=F.len
 rt:=F.rt
 rng:=F.rng
 top:=F.top
 up:=F.up
 upk:=fun i hi j hj e a=>by
  rcases Nat.lt_or_ge i k with h | h
  ·exact F.upk i h j hj e a
  ·have:i=k:=by omega
   subst this
   exact F.upd j hj (hd j hj a)
 upd:=fun _ _ z=>z.elim
 dn:=F.dn
theorem Far.none {d:Nat→Prop} (F:Far n r adj s k (fun _=>False) far) (hd:∀ j,¬ d j):Far n r adj s k d far where
 len:=F.len
 rt:=F.rt
 rng:=F.rng
 top:=F.top
 up:=F.up
 upk:=F.upk
 upd:=fun j _ z=>absurd z (hd j)
 dn:=F.dn
theorem Far.relax {d:Nat→Prop} (F:Far n r adj s k d far) (hk:k < n) (ek:gt far k=s) (ho:o < n) (a:adj o k) (hs:s < n) :
  Far n r adj s k (fun j=>d j ∨ j=o) (far.set o (min (gt far o) (s+1)))∧gt (far.set o (min (gt far o) (s+1))) k=s:=by
 have hol:o < far.length:=by rw [F.len];exact ho
 have g:=gt_set (min (gt far o) ((s:Int)+1)) hol
 by_cases hw:gt far o ≤ s+1
 ·have e:∀ i,gt (far.set o (min (gt far o) ((s:Int)+1))) i=gt far i:=fun i=>by
   rw [g i]
   split
   ·rename_i z;subst z;omega
   ·rfl
  refine ⟨⟨by rw [List.length_set];exact F.len,by rw [e];exact F.rt,fun i hi=>by rw [e];exact F.rng i hi,fun i hi=>by rw [e];exact F.top i hi,fun i hi j hj=>by rw [e,e];exact F.up i hi j hj,fun i hi j hj=>by rw [e,e];exact F.upk i hi j hj,fun j hj z=>?_,fun i hi hn=>?_⟩,by rw [e];exact ek⟩
  ·rw [e]
   rcases z with z | z
   ·exact F.upd j hj z
   ·subst z;exact hw
  ·rw [e]
   intro hv
   obtain ⟨h1,j,hj,aj,ej⟩:=F.dn i hi hn hv
   exact ⟨h1,j,hj,aj,by rw [e];exact ej⟩
 ·have hn:gt far o=n:=by have:=(F.rng o ho).2;omega
  have hm:min (gt far o) ((s:Int)+1)=s+1:=by omega
  rw [hm] at g ⊢
  have hlt:(s:Int)+1 < n:=by omega
  have ko:k ≠ o:=fun z=>by subst z;omega
  have ro:r ≠ o:=fun z=>by subst z;have:=F.rt;omega
  have le:∀ i,gt (far.set o ((s:Int)+1)) i ≤ gt far i:=fun i=>by
   rw [g i];split
   ·rename_i z;subst z;omega
   ·exact Int.le_refl _
  have ne:∀ i,i ≠ o→gt (far.set o ((s:Int)+1)) i=gt far i:=fun i z=>by rw [g i,if_neg z]
  have eo:gt (far.set o ((s:Int)+1)) o=s+1:=by rw [g o,if_pos rfl]
  refine ⟨⟨by rw [List.length_set];exact F.len,by rw [ne r ro];exact F.rt,fun i hi=>?_,fun i hi=>Int.le_trans (le i) (F.top i hi),fun i hi j hj hv aj=>?_,fun i hi j hj hv aj=>?_,fun j hj z=>?_,fun i hi hn' hv=>?_⟩,by rw [ne k ko];exact ek⟩
  ·by_cases z:i=o
   ·subst z;rw [eo];omega
   ·rw [ne i z];exact F.rng i hi
  ·have z:i ≠ o:=fun z=>by subst z;rw [eo] at hv;omega
   rw [ne i z] at hv ⊢
   exact Int.le_trans (le j) (F.up i hi j hj hv aj)
  ·have z:i ≠ o:=fun z=>by subst z;rw [eo] at hv;omega
   rw [ne i z] at hv
   exact Int.le_trans (le j) (F.upk i hi j hj hv aj)
  ·rcases z with z | z
   ·exact Int.le_trans (le j) (F.upd j hj z)
   ·subst z;rw [eo];exact Int.le_refl _
  ·by_cases z:i=o
   ·subst z
    rw [eo]
    exact ⟨by omega,k,hk,a,by rw [ne k ko];omega⟩
   ·rw [ne i z] at hv ⊢
    obtain ⟨h1,j,hj,aj,ej⟩:=F.dn i hi hn' hv
    refine ⟨h1,j,hj,aj,?_⟩
    rw [ne j fun q=>by subst q;omega]
    exact ej
theorem Far.next (F:Far n r adj s n (fun _=>False) far):Far n r adj (s+1) 0 (fun _=>False) far where
 len:=F.len
 rt:=F.rt
 rng:=fun i hi=>by have:=F.rng i hi;omega
 top:=F.top
 up:=fun i hi j hj hv a=>by
  by_cases h:gt far i < s
  ·exact F.up i hi j hj h a
  ·have e:gt far i=s:=by omega
   have:=F.upk i hi j hj e a
   omega
 upk:=fun i hi=>absurd hi (Nat.not_lt_zero _)
 upd:=fun _ _ z=>z.elim
 dn:=F.dn
structure Dist (n r:Nat) (adj:Nat→Nat→Prop) (far:List Int):Prop where
 len:far.length=n
 rt:gt far r=0
 rng:∀ i < n,0 ≤ gt far i∧gt far i ≤ n
 up:∀ i < n,∀ j < n,adj i j→gt far j ≤ gt far i+1
 dn:∀ i < n,i ≠ r→gt far i < n→1 ≤ gt far i∧∃ j < n,adj i j∧gt far j=gt far i - 1
theorem Far.dist (F:Far n r adj n 0 (fun _=>False) far):Dist n r adj far where
 len:=F.len
 rt:=F.rt
 rng:=fun i hi=>⟨(F.rng i hi).1,F.top i hi⟩
 up:=fun i hi j hj a=>by
  by_cases h:gt far i < n
  ·exact F.up i hi j hj h a
  ·have:=F.top j hj;omega
 dn:=F.dn
theorem nd_le:∀ {l l':List Int},l.Nodup→(∀ x ∈ l,x ∈ l')→l.length ≤ l'.length
 | [],_,_,_=>Nat.zero_le _
 | x::l,l',nd,sub=>by
  obtain ⟨h1,h2⟩:=List.nodup_cons.mp nd
  have hx:=sub x List.mem_cons_self
  have:=nd_le (l':=l'.erase x) h2 fun y hy=>(List.mem_erase_of_ne (show y ≠ x from fun z=>h1 (z ▸ hy))).mpr (sub y (List.mem_cons_of_mem _ hy))
  rw [List.length_erase_of_mem hx] at this
  have:=List.length_pos_of_mem hx
  rw [List.length_cons]
  omega
theorem Dist.below (D:Dist n r adj far) (hr:r < n):∀ (m:Nat),(∃ i < n,gt far i=m)→m < n→∀ v,v ≤ m→∃ i < n,gt far i=v
 | 0,h,_,v,hv=>by
  have:v=0:=by omega
  subst this;exact h
 | m+1,⟨i,hi,e⟩,hm,v,hv=>by
  rcases Nat.lt_or_ge v (m+1) with h | h
  ·have hir:i ≠ r:=fun z=>by subst z;have:=D.rt;omega
   obtain ⟨_,j,hj,_,ej⟩:=D.dn i hi hir (by omega)
   exact D.below hr m ⟨j,hj,by omega⟩ (by omega) v (by omega)
  ·have:v=m+1:=by omega
   subst this
   exact ⟨i,hi,e⟩
theorem gt_mem {far:List Int}{i:Nat} (h:i < far.length):gt far i ∈ far:=by
 simp [gt,h]
theorem Dist.all (D:Dist n r adj far) (hr:r < n) (conn:∀ S:Nat→Prop,S r→(∀ i < n,∀ j < n,adj i j→S i→S j)→∀ i < n,S i):∀ i < n,gt far i < n:=by
 refine conn (fun i=>gt far i < n) (by show gt far r < n;rw [D.rt];omega) fun i hi j hj a hv=>?_
 show gt far j < n
 rcases Int.lt_or_le (gt far j) n with h | h
 ·exact h
 exfalso
 have h1:=D.up i hi j hj a
 have h2:=(D.rng j hj).2
 have e:gt far i=((n - 1:Nat):Int):=by omega
 have all:∀ v:Nat,v < n+1→(v:Int) ∈ far:=fun v hv=>by
  rcases Nat.lt_or_ge v n with h | h
  ·obtain ⟨x,hx,ex⟩:=D.below hr (n - 1) ⟨i,hi,e⟩ (by omega) v (by omega)
   rw [← ex]
   exact gt_mem (by rw [D.len];exact hx)
  ·have:(v:Int)=gt far j:=by omega
   rw [this]
   exact gt_mem (by rw [D.len];exact hj)
 have:=nd_le (l:=(List.range (n+1)).map fun k:Nat=>(k:Int)) (l':=far) (List.Pairwise.map _ (fun a b h z=>h (by omega)) List.nodup_range) fun x hx=>by
  obtain ⟨v,hv,rfl⟩:=List.mem_map.mp hx
  exact all v (List.mem_range.mp hv)
 rw [List.length_map,List.length_range,D.len] at this
 omega
end
end PR
namespace PR
open PySem PySem.Spec L2
def prL (ps:List (Int × Int)):List PV:=ps.map prV
section
variable {ps qs:List (Int × Int)}{x:Int × Int}{f:Fl}{g:Fl→Fl}{p:Fl→Bool}
@[simp] theorem prL_nil:prL []=[]:=rfl
@[simp] theorem prL_cons:prL (x::ps)=prV x::prL ps:=rfl
@[simp] theorem prL_len:(prL ps).length=ps.length:=by simp [prL]
@[simp] theorem prL_app:prL ps ++ prL qs=prL (ps ++ qs):=by simp [prL]
@[simp] theorem prL_get (k:Nat):(prL ps)[k]?=(ps[k]?).map prV:=by simp [prL]
@[simp] theorem prV_map:PV.mapF g (prV x)=prV x:=rfl
@[simp] theorem prV_has:(prV x).has p=false:=rfl
@[simp] theorem mapL_prL:mapL g (prL ps)=prL ps:=by
 induction ps with
 | nil=>rfl
 | cons n ns ih=>simp [mapL,ih]
@[simp] theorem hasL_prL:hasL p (prL ps)=false:=by
 induction ps with
 | nil=>rfl
 | cons n ns ih=>simp [hasL,ih]
@[simp] theorem shp_pr:shp (prV x)=true:=rfl
@[simp] theorem shpL_prL:(prL ps).all shp=true:=by
 induction ps with
 | nil=>rfl
 | cons n ns ih=>simp only [prL_cons,List.all_cons,shp_pr,ih];rfl
theorem eqv_pr (x y:Int × Int):PyData.eqv (prV x).data (prV y).data=decide (x=y):=by
 obtain ⟨a,b⟩:=x
 obtain ⟨c,d⟩:=y
 simp only [prV,PV.data,dataL,PyData.eqv,PyData.eqvAll]
 by_cases h1:a=c <;> by_cases h2:b=d <;> simp [h1,h2]
theorem inL_pr:inL (prV x) (prL ps)=ps.contains x:=by
 induction ps with
 | nil=>rfl
 | cons n ns ih =>
  have e:inL (prV x) (prL (n::ns))=(PyData.eqv (prV n).data (prV x).data || inL (prV x) (prL ns)):=rfl
  rw [e,ih,List.contains_cons,eqv_pr]
  congr 1
  by_cases h:n=x
  ·subst h;simp
  ·rw [decide_eq_false h]
   exact (beq_eq_false_iff_ne.mpr (Ne.symm h)).symm
@[simp] theorem in_pr:pIn (prV x) (.lst f (prL ps))=.ok (.bl (ps.contains x)):=by
 unfold pIn
 simp only [seqOf,shp_pr,shpL_prL,Bool.and_self,if_true,inL_pr]
@[simp] theorem notIn_pr:pNotIn (prV x) (.lst f (prL ps))=.ok (.bl (!ps.contains x)):=by
 unfold pNotIn
 simp only [seqOf,shp_pr,shpL_prL,Bool.and_self,if_true,inL_pr]
@[simp] theorem idx_pr0:pIdx (prV x) (.int 0)=.ok (.int x.1):=rfl
@[simp] theorem idx_pr1:pIdx (prV x) (.int 1)=.ok (.int x.2):=rfl
theorem tup_pr (a b:Int):PV.tup [.int a,.int b]=prV (a,b):=rfl
@[simp] theorem min_pr:pInts minI (prV x)=.ok (.int (min x.1 x.2)):=rfl
@[simp] theorem max_pr:pInts maxI (prV x)=.ok (.int (max x.1 x.2)):=rfl
@[simp] theorem pairsP_prL:pairsP (prL ps)=some ps:=by
 induction ps with
 | nil=>rfl
 | cons n ns ih =>
  have:pairOf (prV n)=some n:=rfl
  simp [pairsP,ih,this]
theorem sorted_iL (ns:List Int) (h:ns.length < 64):pSorted (.lst f (iL ns))=.ok (.lst .own (iL (sortI ns))):=by
 simp [pSorted,h,intsOf_iL]
 rfl
theorem sorted_prL (h:ps.length < 64) (hd:ps.Nodup):pSorted (.lst f (prL ps))=.ok (.lst .own (prL (sortP ps))):=by
 cases ps with
 | nil=>rfl
 | cons n ns =>
  have e:intsOf (prL (n::ns))=none:=rfl
  simp only [pSorted,e,pairsP_prL,prL_len]
  rw [if_pos (decide_eq_true h),if_pos (decide_eq_true hd)]
  rfl
theorem put_iL (n:Nat) (i:Int) (ns:List Int):putAt n (.int i) (iL ns)=iL (putAt n i ns):=by simp [putAt,iL]
theorem put_mem {α:Type}{n:Nat}{y z:α}{l:List α}:z ∈ putAt n y l ↔ z=y ∨ z ∈ l:=by
 unfold putAt
 rw [List.mem_append,List.mem_cons]
 constructor
 ·rintro (h | h | h)
  ·exact .inr (List.mem_of_mem_take h)
  ·exact .inl h
  ·exact .inr (List.mem_of_mem_drop h)
 ·rintro (h | h)
  ·exact .inr (.inl h)
  ·rw [← List.take_append_drop n l] at h
   rcases List.mem_append.mp h with h | h
   ·exact .inl h
   ·exact .inr (.inr h)
theorem put_perm {α:Type} (n:Nat) (y:α) (l:List α):(putAt n y l).Perm (y::l):=by
 unfold putAt
 refine List.perm_middle.trans ?_
 rw [List.take_append_drop]
theorem insert_nx {i n:Nat}{mk m:ME}{env:En}{xs:List PV}{v:PV}{j:Int} (hk:mk env=.ok (.int j)) (h:m env=.ok v) (ho:env[i]?=some (some (.lst .own xs))) (hf:flatB v=true) (hl:v.noLnt=true) (hj:j=n) (hn:n ≤ xs.length) (hx:xs.length < 10000000) :
  mInsert i mk m env=.next (env.set i (some (.lst .own (putAt n v xs)))):=by
 subst hj
 unfold mInsert
 rw [hk,h,ho]
 simp only [hf,hl]
 simp [hx,hn]
end
theorem idx_at {x:PV}{xs:List PV}{k:Nat}{y:PV} (hs:seqOf x=some xs) (h:xs[k]?=some y) (ho:y.has Fl.isOwn=false):pIdx x (.int k)=.ok y:=by
 have hl:k < xs.length:=(List.getElem?_eq_some_iff.mp h).1
 unfold pIdx
 simp only [hs,atI]
 rw [ixN_nat hl]
 simp [h,ho]
def nbL (ps:List (Int × Int)) (at_:Int):List Int:=sortI ((ps.filter fun x=>decide (x.2=at_)).map (·.1) ++ (ps.filter fun x=>decide (x.1=at_)).map (·.2))
theorem nb_mem {ps:List (Int × Int)}{a o:Int}:o ∈ nbL ps a ↔ (o,a) ∈ ps ∨ (a,o) ∈ ps:=by
 unfold nbL
 rw [(sortI_perm _).mem_iff,List.mem_append]
 simp only [List.mem_map,List.mem_filter,decide_eq_true_eq]
 constructor
 ·rintro (⟨⟨x,y⟩,⟨h1,h2⟩,h3⟩ | ⟨⟨x,y⟩,⟨h1,h2⟩,h3⟩)
  ·dsimp only at h2 h3;subst h2 h3;exact .inl h1
  ·dsimp only at h2 h3;subst h2 h3;exact .inr h1
 ·rintro (h | h)
  ·exact .inl ⟨_,⟨h,rfl⟩,rfl⟩
  ·exact .inr ⟨_,⟨h,rfl⟩,rfl⟩
def mm (w:Int × Int):Int × Int:=(min w.1 w.2,max w.1 w.2)
structure Good (n:Nat) (ws:List (Int × Int)):Prop where
 rg:∀ w ∈ ws,0 ≤ w.1∧w.1 < n∧0 ≤ w.2∧w.2 < n∧w.1 ≠ w.2
 nd:(ws.map mm).Nodup
 sz:ws.length < 64
end PR
namespace PR
theorem mm_eq {w u:Int × Int} (h:mm w=mm u):w=u ∨ w=(u.2,u.1):=by
 obtain ⟨a,b⟩:=w
 obtain ⟨c,d⟩:=u
 simp only [mm,Prod.mk.injEq] at h ⊢
 omega
theorem mm_ends {w u:Int × Int} (h:mm w=mm u):(w.1=u.1∧w.2=u.2) ∨ (w.1=u.2∧w.2=u.1):=by
 rcases mm_eq h with rfl | rfl
 ·exact .inl ⟨rfl,rfl⟩
 ·exact .inr ⟨rfl,rfl⟩
structure Tree (n:Nat) (od:List Int) (k:Nat) (ws:List (Int × Int)):Prop where
 rg:∀ w ∈ ws,w.1 ∈ od.take k∧w.2 ∈ od.take k∧w.1 ≠ w.2
 nd:(ws.map mm).Nodup
 ln:ws.length+1=k
 cn:∀ S:Int→Prop,(∀ w ∈ ws,(S w.1 ↔ S w.2))→∀ a ∈ od.take k,(S a ↔ S (od.getD 0 0))
theorem Tree.start {n:Nat}{od:List Int} (h:od.length=n) (hn:1 ≤ n):Tree n od 1 [] where
 rg:=fun w hw=>by cases hw
 nd:=.nil
 ln:=rfl
 cn:=fun S _ a ha=>by
  cases od with
  | nil=>simp at h;omega
  | cons x l =>
   have:a=x:=by simpa using ha
   subst this
   simp
theorem Tree.more {n:Nat}{od:List Int}{k j:Nat}{ws:List (Int × Int)}{w:Int × Int}{p:Nat} (T:Tree n od k ws) (hod:od.Nodup) (hk:k < od.length) (hj:j < k) (hw:w=(od.getD k 0,od.getD j 0) ∨ w=(od.getD j 0,od.getD k 0)):Tree n od (k+1) (putAt p w ws):=by
 have hjl:j < od.length:=by omega
 have e1:od.getD k 0=od[k]:=by simp [hk]
 have e2:od.getD j 0=od[j]:=by simp [hjl]
 rw [e1,e2] at hw
 have tk:od.take (k+1)=od.take k ++ [od[k]]:=by rw [List.take_add_one];simp [hk]
 have mj:od[j] ∈ od.take k:=List.mem_take_iff_getElem.mpr ⟨j,by omega,rfl⟩
 have nk:od[k] ∉ od.take k:=fun z=>by
  obtain ⟨i,hi,e⟩:=List.mem_take_iff_getElem.mp z
  have:=(List.getElem_inj hod).mp e
  omega
 have ne:od[k] ≠ od[j]:=fun z=>nk (z ▸ mj)
 have mem:∀ u ∈ putAt p w ws,u=w ∨ u ∈ ws:=fun u hu=>put_mem.mp hu
 refine ⟨fun u hu=>?_,?_,?_,fun S hS a ha=>?_⟩
 ·rcases mem u hu with rfl | hu
  ·rw [tk]
   rcases hw with rfl | rfl
   ·exact ⟨List.mem_append_right _ List.mem_cons_self,List.mem_append_left _ mj,ne⟩
   ·exact ⟨List.mem_append_left _ mj,List.mem_append_right _ List.mem_cons_self,ne.symm⟩
  ·obtain ⟨h1,h2,h3⟩:=T.rg u hu
   rw [tk]
   exact ⟨List.mem_append_left _ h1,List.mem_append_left _ h2,h3⟩
 ·have:((putAt p w ws).map mm).Perm (mm w::ws.map mm):=(put_perm p w ws).map mm
  refine this.symm.nodup (List.nodup_cons.mpr ⟨fun z=>?_,T.nd⟩)
  obtain ⟨u,hu,e⟩:=List.mem_map.mp z
  obtain ⟨h1,h2,_⟩:=T.rg u hu
  rcases hw with rfl | rfl
  ·rcases mm_ends e with ⟨q1,q2⟩ | ⟨q1,q2⟩
   ·exact nk (by rw [q1] at h1;exact h1)
   ·exact nk (by rw [q2] at h2;exact h2)
  ·rcases mm_ends e with ⟨q1,q2⟩ | ⟨q1,q2⟩
   ·exact nk (by rw [q2] at h2;exact h2)
   ·exact nk (by rw [q1] at h1;exact h1)
 ·rw [(put_perm p w ws).length_eq,List.length_cons,T.ln]
 ·have hw':=hS w (put_mem.mpr (.inl rfl))
  have cn:=T.cn S fun u hu=>hS u (put_mem.mpr (.inr hu))
  rw [tk] at ha
  rcases List.mem_append.mp ha with ha | ha
  ·exact cn a ha
  ·have:a=od[k]:=by simpa using ha
   subst this
   rw [← cn _ mj]
   rcases hw with rfl | rfl
   ·exact hw'
   ·exact hw'.symm
structure Whole (n m:Nat) (ws:List (Int × Int)):Prop where
 rg:∀ w ∈ ws,0 ≤ w.1∧w.1 < n∧0 ≤ w.2∧w.2 < n∧w.1 ≠ w.2
 nd:(ws.map mm).Nodup
 ln:ws.length ≤ m
 cn:∀ S:Int→Prop,(∀ w ∈ ws,(S w.1 ↔ S w.2))→∀ i j:Nat,i < n→j < n→S i→S j
theorem Tree.whole {n:Nat}{od:List Int}{ws:List (Int × Int)} (T:Tree n od n ws) (hp:od.Perm ((List.range n).map fun k:Nat=>(k:Int))):Whole n n ws:=by
 have hl:od.length=n:=by simpa using hp.length_eq
 have ht:od.take n=od:=by rw [← hl,List.take_length]
 have hm:∀ a,a ∈ od ↔ ∃ k:Nat,k < n∧(k:Int)=a:=fun a=>by rw [hp.mem_iff];simp
 refine ⟨fun w hw=>?_,T.nd,by have:=T.ln;omega,fun S hS i j hi hj hs=>?_⟩
 ·obtain ⟨h1,h2,h3⟩:=T.rg w hw
  rw [ht] at h1 h2
  obtain ⟨a,ha,ea⟩:=(hm _).mp h1
  obtain ⟨b,hb,eb⟩:=(hm _).mp h2
  omega
 ·have cn:=T.cn S hS
  rw [ht] at cn
  exact (cn j ((hm _).mpr ⟨j,hj,rfl⟩)).mpr ((cn i ((hm _).mpr ⟨i,hi,rfl⟩)).mp hs)
theorem Whole.more {n m p:Nat}{ws:List (Int × Int)}{a b:Int} (h:Whole n m ws) (ha:0 ≤ a∧a < n) (hb:0 ≤ b∧b < n) (hne:a ≠ b) (h1:(a,b) ∉ ws) (h2:(b,a) ∉ ws):Whole n (m+1) (putAt p (a,b) ws):=by
 refine ⟨fun u hu=>?_,?_,?_,fun S hS=>h.cn S fun u hu=>hS u (put_mem.mpr (.inr hu))⟩
 ·rcases put_mem.mp hu with rfl | hu
  ·exact ⟨ha.1,ha.2,hb.1,hb.2,hne⟩
  ·exact h.rg u hu
 ·have:((putAt p (a,b) ws).map mm).Perm (mm (a,b)::ws.map mm):=(put_perm p (a,b) ws).map mm
  refine this.symm.nodup (List.nodup_cons.mpr ⟨fun z=>?_,h.nd⟩)
  obtain ⟨u,hu,e⟩:=List.mem_map.mp z
  rcases mm_eq e with rfl | rfl
  ·exact h1 hu
  ·exact h2 hu
 ·rw [(put_perm p (a,b) ws).length_eq,List.length_cons];have:=h.ln;omega
theorem Whole.keep {n m:Nat}{ws:List (Int × Int)} (h:Whole n m ws):Whole n (m+1) ws:=⟨h.rg,h.nd,Nat.le_succ_of_le h.ln,h.cn⟩
theorem Whole.good {n m:Nat}{ws:List (Int × Int)} (h:Whole n m ws) (hm:m < 64):Good n ws:=⟨h.rg,h.nd,by have:=h.ln;omega⟩
open PySem L2 in
def Rets (o:Out) (Q:PV→Prop):Prop:=∃ v,o=.ret v∧Q v
section
open PySem L2
variable {env e:En}{Q:PV→Prop}
theorem rets_seq {a b:MS} (h1:a env=.next e) (h2:Rets (b e) Q):Rets (mSeq a b env) Q:=by
 obtain ⟨v,h,q⟩:=h2
 exact ⟨v,seq_next h1 h,q⟩
theorem rets_last {o:Out}{v:PV} (h:o=.ret v) (q:Q v):Rets o Q:=⟨v,h,q⟩
theorem rets_for {it:MI}{g:TgM}{body rest:MS}{xs:List PV} (P:Nat→En→Prop) (h:it env=.ok xs) (h0:P 0 env)
  (step:∀ (k:Nat) (x:PV) (e:En),xs[k]?=some x→P k e→∃ e1,g x e=some e1∧Goes (body e1) (P (k+1))) (fin:∀ e,P xs.length e→Rets (rest e) Q):Rets (mSeq (mFor it g body) rest env) Q:=by
 obtain ⟨e2,h1,h2⟩:=for_inv P h h0 fun k x e h1 h2=>by
  obtain ⟨e1,h3,e2,h4,h5⟩:=step k x e h1 h2
  exact ⟨e1,e2,h3,h4,h5⟩
 exact rets_seq h1 (fin e2 h2)
end
end PR
namespace PR
open PySem L2
section
variable {env:En}
theorem sup_nx {m:List PV→Res PV}{ms:MA}{xs:List PV}{c:Nat}{ks:List Nat}{vs:List PV}{fl:Fl}{c':Nat}{ks':List Nat}{vs':List PV} (ho:env[0]?=some (some (.obj .own c ks vs))) (ha:ms env=.ok xs) (hl:hasL Fl.isLnt xs=false)
  (hm:m (.obj .own c ks vs::mapL Fl.toBor xs)=.ok (.obj fl c' ks' vs')) (hb:(PV.obj fl c' ks' vs').has Fl.isBor=false):mSup m ms env=.next (env.set 0 (some (.obj fl c' ks' vs'))):=by
 unfold mSup
 rw [ho]
 dsimp only
 rw [ha]
 dsimp only
 rw [hl,if_neg (by decide),hm]
 dsimp only
 rw [hb,if_neg (by decide)]
end
theorem goes_br_t {c:MT}{a b:MS}{env:En}{Q:En→Prop} (h:c env=.ok true) (h2:Goes (a env) Q):Goes (mBr c a b env) Q:=by
 rw [br_if h];exact h2
theorem goes_br_f {c:MT}{a b:MS}{env:En}{Q:En→Prop} (h:c env=.ok false) (h2:Goes (b env) Q):Goes (mBr c a b env) Q:=by
 rw [br_if h];exact h2
@[simp] theorem pow59:pPow (.int 10) (.int 59)=.ok (.int (10 ^ 59)):=pow_ok (by decide) (by decide) (by decide)
section
variable {env:En}{g:TgM}{me:ME}
theorem compL_ints (f:Int→Int) (row:List Int) (h:∀ x ∈ row,∃ e1,g (.int x) env=some e1∧me e1=.ok (.int (f x))):compL g mTrue me env (iL row)=.ok (iL (row.map f)):=by
 rw [show iL (row.map f)=row.map fun x=>PV.int (f x) by simp [iL]]
 exact compL_map (a:=PV.int) (f:=fun x=>.int (f x)) row fun x hx=>let ⟨e1,h1,h2⟩:=h x hx;⟨e1,h1,h2,rfl,rfl⟩
theorem compL_rng (lo:Int) (f:Nat→Int) (n:Nat) (h:∀ k < n,∃ e1,g (.int (lo+(k:Int))) env=some e1∧me e1=.ok (.int (f k))):compL g mTrue me env (rngP lo n)=.ok (iL ((List.range n).map f)):=by
 rw [show iL ((List.range n).map f)=(List.range n).map fun k=>PV.int (f k) by simp [iL]]
 exact compL_map (a:=fun k:Nat=>PV.int (lo+(k:Int))) (f:=fun k=>.int (f k)) (List.range n) fun k hk=>let ⟨e1,h1,h2⟩:=h k (List.mem_range.mp hk);⟨e1,h1,h2,rfl,rfl⟩
theorem compL_rngF {mc:MT} (p:Nat→Bool) (f:Nat→Int) (n:Nat) (h:∀ k < n,∃ e1,g (.int (0+(k:Int))) env=some e1∧mc e1=.ok (p k)∧(p k=true→me e1=.ok (.int (f k)))):compL g mc me env (rngP 0 n)=.ok (iL (((List.range n).filter p).map f)):=by
 rw [show iL (((List.range n).filter p).map f)=((List.range n).filter p).map fun k=>PV.int (f k) by simp [iL]]
 exact compL_filter (a:=fun k:Nat=>PV.int (0+(k:Int))) (f:=fun k=>.int (f k)) (p:=p) (List.range n) fun k hk=>let ⟨e1,h1,h2,h3⟩:=h k (List.mem_range.mp hk);⟨e1,h1,h2,fun z=>⟨h3 z,rfl,rfl⟩⟩
end
theorem gt_idx {f:Fl}{cs:List Int}{i:Int} (h0:0 ≤ i) (h:i < cs.length):pIdx (.lst f (iL cs)) (.int i)=.ok (.int (gt cs i.toNat)):=by
 have:i.toNat < cs.length:=by omega
 exact idx_ints _ h0 (by simp [gt,this])
theorem shl_ok {i j:Int} (h0:0 ≤ j) (h1:j ≤ 1000000) (h2:i.natAbs < 2 ^ 64):pShl (.int i) (.int j)=.ok (.int (i * 2 ^ j.toNat)):=by
 unfold pShl pInt2?
 dsimp only
 rw [if_pos (by simp only [decide_eq_true_eq];exact ⟨h0,h1,h2⟩)]
end PR
namespace PR
open PySem L2
theorem compL_intsF {env:En}{g:TgM}{mc:MT}{me:ME} (p:Int→Bool) (f:Int→Int) (row:List Int) (h:∀ x ∈ row,∃ e1,g (.int x) env=some e1∧mc e1=.ok (p x)∧(p x=true→me e1=.ok (.int (f x)))):compL g mc me env (iL row)=.ok (iL ((row.filter p).map f)):=by
 rw [show iL ((row.filter p).map f)=(row.filter p).map fun x=>PV.int (f x) by simp [iL]]
 exact compL_filter (a:=PV.int) (f:=fun x=>.int (f x)) (p:=p) row fun x hx=>let ⟨e1,h1,h2,h3⟩:=h x hx;⟨e1,h1,h2,fun z=>⟨h3 z,rfl,rfl⟩⟩
section
variable {env:En}{r:Out}
end
theorem sum_okS {l:List Int}{f:Fl} (hl:l.length ≤ 1000) (hb:∀ x ∈ l,-1000000 ≤ x∧x ≤ 1000000):pSum (.lst f (iL l))=.ok (.int l.sum):=by
 have:smallI l=true:=by
  simp only [smallI,List.all_eq_true,decide_eq_true_eq]
  exact hb
 simp [pSum,seqOf,hl,this]
@[simp] theorem blsOf_map (bs:List Bool):blsOf (bs.map .bl)=some bs:=by
 induction bs with
 | nil=>rfl
 | cons b bs ih=>simp [blsOf,ih]
end PR
namespace PR
theorem s0_ {α:Type}{a b:α}{l:List α}:(a::l).set 0 b=b::l:=rfl
theorem s1_ {α:Type}{a b:α}{l:List α}{n:Nat}:(a::l).set (n+1) b=a::l.set n b:=rfl
end PR
namespace G
open PySem L2 PR
def b_zy:MS :=
 (mSeq (mBr (mTest (mOp pLt (mVar 1) (mCall (p1 pLen) (mCons (mVar 0) mNil))))
  (mRet (mOp pIdx (mVar 0) (mVar 1)))
  mNext)
 (mRet (mC (.int (0)))))
def f_zy:List PV→Res PV:=runB 2 b_zy
def b_zx:MS :=
 (mSeq (mSet 2 (mOp pMod (mVar 0) (mC (.int (998244353)))))
 (mSeq (mSet 3 (mLst mNil))
 (mSeq (mFor (mRng1 (mCons (mVar 1) mNil)) (tgN 4)
  (mSeq (mSet 2 (mOp pMod (mOp pPlus (mOp pPlus (mOp pMul (mVar 2) (mOp pPlus (mOp pPlus (mVar 2) (mOp pMul (mC (.int (2))) (mVar 4))) (mC (.int (40503))))) (mOp pMul (mC (.int (12553))) (mVar 4))) (mC (.int (1)))) (mC (.int (998244353)))))
 (mAppend 3 (mVar 2))))
 (mRetV 3))))
def f_zx:List PV→Res PV:=runB 5 b_zx
def b_zau:MS :=
 (mSeq (mSet 2 (mCall (callR f_zx) (mCons (mVar 1) (mCons (mVar 0) mNil))))
 (mSeq (mSet 3 (mLst mNil))
 (mSeq (mFor (mRng1 (mCons (mVar 0) mNil)) (tgN 4)
  (mInsert 3 (mOp pMod (mOp pIdx (mVar 2) (mVar 4)) (mOp pPlus (mVar 4) (mC (.int (1))))) (mVar 4)))
 (mSeq (mSet 5 (mLst mNil))
 (mSeq (mFor (mRng2 (mCons (mC (.int (1))) (mCons (mVar 0) mNil))) (tgN 4)
  (mAppend 5 (mTup (mCons (mOp pIdx (mVar 3) (mVar 4)) (mCons (mOp pIdx (mVar 3) (mOp pMod (mOp pDiv (mOp pIdx (mVar 2) (mVar 4)) (mC (.int (16)))) (mVar 4))) mNil)))))
 (mSeq (mFor (mRng1 (mCons (mVar 0) mNil)) (tgN 4)
  (mFor (mRng1 (mCons (mVar 4) mNil)) (tgN 6)
  (mSeq (mSet 7 ((mOrE (mOp pEq (mOp pMod (mVar 1) (mC (.int (7)))) (mC (.int (3)))) ((mAndE (mOp pEq (mOp pMod (mOp pPlus (mOp pDiv (mOp pIdx (mVar 2) (mVar 4)) (mC (.int (512)))) (mVar 6)) (mVar 0)) (mC (.int (1)))) (mOp pEq (mOp pMod (mOp pDiv (mOp pIdx (mVar 2) (mVar 4)) (mC (.int (8192)))) (mC (.int (3)))) (mC (.int (0)))))))))
 (mBr ((mAndT (mTruth (mVar 7)) (mAndT (mTest (mOp pNotIn (mTup (mCons (mVar 6) (mCons (mVar 4) mNil))) (mVar 5))) (mTest (mOp pNotIn (mTup (mCons (mVar 4) (mCons (mVar 6) mNil))) (mVar 5))))))
  (mAppend 5 (mTup (mCons (mVar 6) (mCons (mVar 4) mNil))))
  mNext))))
 (mRetV 5)))))))
def f_zau:List PV→Res PV:=runB 8 b_zau
def b_zas:MS :=
 (mSeq (mSet 2 (mComp [] 1 (mRng1 (mCons (mVar 0) mNil)) (tgN 0) mTrue (mLst mNil)))
 (mSeq (mFor (mSeqI (mVar 1)) (tgT 2 (tgCons (tgN 3) (tgCons (tgN 4) tgNil)))
  (mSeq (mAppIx 2 3 (mVar 4))
 (mAppIx 2 4 (mVar 3))))
 (mRet (mComp [] 1 (mSeqC (mVar 2)) (tgN 0) mTrue (mCall (p1 pSorted) (mCons (mVar 0) mNil))))))
def f_zas:List PV→Res PV:=runB 5 b_zas
def b_zz:MS :=
 (mBr ((mOrT (mTest (mOp pLt (mVar 0) (mVar 1))) (mTest (mOp pGt (mVar 0) (mC (.int (10)))))))
  (mRaiseA 1 (mCons (mC (.str "the number of machines is out of bounds")) mNil))
  mNext)
def f_zz:List PV→Res PV:=runB 2 b_zz
def b_zq:MS :=
 (mSeq (mSet 2 (mLst mNil))
 (mSeq (mFor (mSeqI (mVar 1)) (tgN 3)
  (mSeq (mSet 4 (mTup (mCons (mCall (p1 (pInts minI)) (mCons (mVar 3) mNil)) (mCons (mCall (p1 (pInts maxI)) (mCons (mVar 3) mNil)) mNil))))
 (mSeq (mBr ((mOrT (mTest (mOp pLt (mOp pIdx (mVar 4) (mC (.int (0)))) (mC (.int (0))))) (mTest (mOp pGe (mOp pIdx (mVar 4) (mC (.int (1)))) (mVar 0)))))
  (mRaiseA 1 (mCons (mC (.str "a way has a number that is no machine")) mNil))
  mNext)
 (mSeq (mBr (mTest (mOp pEq (mOp pIdx (mVar 4) (mC (.int (0)))) (mOp pIdx (mVar 4) (mC (.int (1))))))
  (mRaiseA 1 (mCons (mC (.str "a way has twice the same machine")) mNil))
  mNext)
 (mSeq (mBr (mTest (mOp pIn (mVar 4) (mVar 2)))
  (mRaiseA 1 (mCons (mC (.str "a way is told twice")) mNil))
  mNext)
 (mAppend 2 (mVar 4)))))))
 (mRet (mCall (p1 pSorted) (mCons (mVar 2) mNil)))))
def f_zq:List PV→Res PV:=runB 5 b_zq
def b_zad:MS :=
 (mSeq (mSet 2 (mComp [1] 1 (mSeqC (mVar 0)) (tgN 1) (mTest (mOp pEq (mOp pIdx (mVar 1) (mC (.int (1)))) (mVar 0))) (mOp pIdx (mVar 1) (mC (.int (0))))))
 (mSeq (mSet 3 (mComp [1] 1 (mSeqC (mVar 0)) (tgN 1) (mTest (mOp pEq (mOp pIdx (mVar 1) (mC (.int (0)))) (mVar 0))) (mOp pIdx (mVar 1) (mC (.int (1))))))
 (mRet (mCall (p1 pSorted) (mCons (mOp pPlus (mVar 2) (mVar 3)) mNil)))))
def f_zad:List PV→Res PV:=runB 4 b_zad
def b_zab:MS :=
 (mRet (mCall (p1 pList) (mCons (mOp pIdx (mUn (pAttr 2) (mVar 0)) (mVar 1)) mNil)))
def f_zab:List PV→Res PV:=runB 2 b_zab
def dsp_beside_4:Nat→Option (List PV→Res PV)
 | 4=>some f_zab
 | _=>none
def b_zao:MS :=
 (mSeq (mSet 2 (mComp [0] 1 (mRng1 (mCons (mUn (pAttr 0) (mVar 0)) mNil)) (tgN 1) mTrue (mUn (pAttr 0) (mVar 0))))
 (mSeq (mSetIx 2 (mVar 1) (mC (.int (0))))
 (mSeq (mFor (mRng1 (mCons (mUn (pAttr 0) (mVar 0)) mNil)) (tgN 3)
  (mFor (mRng1 (mCons (mUn (pAttr 0) (mVar 0)) mNil)) (tgN 4)
  (mBr (mTest (mOp pEq (mOp pIdx (mVar 2) (mVar 4)) (mVar 3)))
  (mFor (mSeqI (mMet dsp_beside_4 (mVar 0) (mCons (mVar 4) mNil))) (tgN 5)
  (mSetIx 2 (mVar 5) (mCall (pInt2L min) (mCons (mOp pIdx (mVar 2) (mVar 5)) (mCons (mOp pPlus (mVar 3) (mC (.int (1)))) mNil)))))
  mNext)))
 (mRetV 2))))
def f_zao:List PV→Res PV:=runB 6 b_zao
def b_zaq:MS :=
 (mSeq (mDrop (mCall (callR f_zz) (mCons (mVar 1) (mCons (mC (.int (1))) mNil))))
 (mSeq (mFld 0 0 (mVar 1))
 (mSeq (mFld 0 1 (mCall (p1 pTuple) (mCons (mCall (callR f_zq) (mCons (mVar 1) (mCons (mVar 2) mNil))) mNil)))
 (mSeq (mFld 0 2 (mCall (p1 pTuple) (mCons (mComp [0] 1 (mRng1 (mCons (mVar 1) mNil)) (tgN 1) mTrue (mCall (p1 pTuple) (mCons (mCall (callR f_zad) (mCons (mUn (pAttr 1) (mVar 0)) (mCons (mVar 1) mNil))) mNil))) mNil)))
 (mBr (mTest (mOp pEq (mCall (p1 (pInts maxI)) (mCons (mCall (callR f_zao) (mCons (mVar 0) (mCons (mC (.int (0))) mNil))) mNil)) (mVar 1)))
  (mRaiseA 1 (mCons (mC (.str "not every machine can be come to from machine 0")) mNil))
  mNext)))))
def f_zaq:List PV→Res PV:=runI 3 b_zaq
def b_zw:MS :=
 (mBr ((mOrT (mTest (mOp pLt (mVar 0) (mC (.int (1))))) (mTest (mOp pGt (mVar 0) (mC (.int (10)))))))
  (mRaiseA 2 (mCons (mC (.str "the stretch or the number of blocks is out of bounds")) mNil))
  mNext)
def f_zw:List PV→Res PV:=runB 1 b_zw
def b_zn:MS :=
 (mSeq (mBr (mTest (mOp pNe (mCall (p1 pLen) (mCons (mVar 1) mNil)) (mUn (pAttr 0) (mVar 0))))
  (mRaiseA 2 (mCons (mC (.str "there are not as many starts as machines")) mNil))
  mNext)
 (mFor (mSeqI (mVar 1)) (tgN 3)
  (mBr ((mAndT (mTest (mOp pNotN (mVar 3) (mC .non))) ((mOrT (mTest (mOp pLt (mVar 3) (mC (.int (0))))) (mTest (mOp pGe (mVar 3) (mVar 2)))))))
  (mRaiseA 2 (mCons (mC (.str "a start is out of bounds")) mNil))
  mNext)))
def f_zn:List PV→Res PV:=runB 4 b_zn
def b_zag:MS :=
 (mSeq (mFld 0 0 (mVar 1))
 (mSeq (mFld 0 7 (mVar 2))
 (mFld 0 8 (mVar 3))))
def f_zag:List PV→Res PV:=runI 4 b_zag
def b_zj:MS :=
 (mSeq (mDrop (mCall (callR f_zw) (mCons (mVar 3) mNil)))
 (mSeq (mDrop (mCall (callR f_zw) (mCons (mVar 4) mNil)))
 (mSeq (mFld 0 3 (mOp pMul (mVar 3) (mVar 4)))
 (mSeq (mDrop (mCall (callR f_zn) (mCons (mVar 1) (mCons (mVar 2) (mCons (mUn (pAttr 3) (mVar 0)) mNil)))))
 (mSeq (mFrz 1) (mSeq (mFld 0 4 (mVar 1))
 (mSeq (mFld 0 5 (mCall (p1 pTuple) (mCons (mVar 2) mNil)))
 (mSeq (mFld 0 6 (mVar 3))
 (mSup f_zag (mCons (mUn (pAttr 0) (mVar 1)) (mCons (mOp pPlus (mUn (pAttr 3) (mVar 0)) (mC (.int (1)))) (mCons (mC (.bl true)) mNil))))))))))))
def f_zj:List PV→Res PV:=runI 5 b_zj
def b_zt:MS :=
 (mSeq (mBr ((mOrT (mTest (mOp pLt (mVar 2) (mC (.int (0))))) (mTest (mOp pGe (mVar 2) (mUn (pAttr 0) (mVar 1))))))
  (mRaiseA 2 (mCons (mC (.str "the root is no machine")) mNil))
  mNext)
 (mSeq (mSet 3 (mComp [2] 1 (mRng1 (mCons (mUn (pAttr 0) (mVar 1)) mNil)) (tgN 1) mTrue (mIfE (mTest (mOp pEq (mVar 1) (mVar 0))) (mC (.int (0))) (mC .non))))
 (mSeq (mFrz 3) (mSup f_zj (mCons (mVar 1) (mCons (mVar 3) (mCons (mUn (pAttr 0) (mVar 1)) (mCons (mC (.int (1))) mNil))))))))
def f_zt:List PV→Res PV:=runI 4 b_zt
def b_zm:MS :=
 (mSeq (mFrz 1) (mSeq (mFld 0 9 (mNew 2 f_zt (mCons (mVar 1) (mCons (mVar 2) mNil))))
 (mSeq (mFld 0 4 (mVar 1))
 (mSeq (mFld 0 10 (mVar 2))
 (mSup f_zag (mCons (mUn (pAttr 0) (mVar 1)) (mCons (mOp pMul (mOp pPlus (mUn (pAttr 0) (mVar 1)) (mC (.int (1)))) (mOp pPlus (mUn (pAttr 0) (mVar 1)) (mC (.int (1))))) (mCons (mC (.bl true)) mNil))))))))
def f_zm:List PV→Res PV:=runI 3 b_zm
def b_zai:MS :=
 (mRaiseA 4 (mCons (mC (.str "this rule has no measure")) mNil))
def f_zai:List PV→Res PV:=runB 1 b_zai
def b_zaw:MS :=
 (mSeq (mSet 2 (mC (.int (1))))
 (mSeq (mFor (mRng1 (mCons (mVar 1) mNil)) (tgN 3)
  (mSet 2 (mOp pMul (mVar 2) (mVar 0))))
 (mRetV 2)))
def f_zaw:List PV→Res PV:=runB 4 b_zaw
def b_zg:MS :=
 (mRet (mOp pSub (mCall (callR f_zaw) (mCons (mOp pPlus (mUn (pAttr 0) (mVar 0)) (mC (.int (1)))) (mCons (mOp pMul (mC (.int (2))) (mUn (pAttr 3) (mVar 0))) mNil))) (mC (.int (1)))))
def f_zg:List PV→Res PV:=runB 1 b_zg
def dsp_most_2:Nat→Option (List PV→Res PV)
 | 2=>some f_zg
 | _=>none
def b_zo:MS :=
 (mRet (mOp pSub (mOp pMul (mOp pPlus (mMet dsp_most_2 (mUn (pAttr 9) (mVar 0)) mNil) (mC (.int (1)))) (mCall (callR f_zaw) (mCons (mC (.int (2))) (mCons (mUn (pAttr 0) (mVar 0)) mNil)))) (mC (.int (1)))))
def f_zo:List PV→Res PV:=runB 1 b_zo
def dsp_most_0_1_2_3:Nat→Option (List PV→Res PV)
 | 0=>some f_zai
 | 1=>some f_zg
 | 2=>some f_zg
 | 3=>some f_zo
 | _=>none
def b_zal:MS :=
 (mRet (mMet dsp_most_0_1_2_3 (mVar 0) mNil))
def f_zal:List PV→Res PV:=runB 2 b_zal
def dsp_soon_0_1_2_3:Nat→Option (List PV→Res PV)
 | 0=>some f_zal
 | 1=>some f_zal
 | 2=>some f_zal
 | 3=>some f_zal
 | _=>none
def b_zak:MS :=
 (mRet ((mAndE (tIsi (mVar 0) "int") (mNotE (tIsi (mVar 0) "bool")))))
def f_zak:List PV→Res PV:=runB 1 b_zak
def b_zap:MS :=
 (mRet ((mAndE (tIsi (mVar 0) "list") (mAndE (mCall (p1 (pBls allB)) (mCons (mComp [] 1 (mSeqC (mVar 0)) (tgN 0) mTrue (mCall (callR f_zak) (mCons (mVar 0) mNil))) mNil)) (mOp pEq (mVar 0) (mVar 1))))))
def f_zap:List PV→Res PV:=runB 2 b_zap
def b_zan:MS :=
 (mSeq (mBr (mTest (mOp pNe (mCall (p1 pLen) (mCons (mVar 1) mNil)) (mUn (pAttr 0) (mVar 0))))
  (mRaiseA 3 (mCons (mC (.str "there are not as many registers as machines")) mNil))
  mNext)
 (mRet (mComp [0] 1 (mSeqC (mVar 1)) (tgN 1) mTrue (mOp pMod (mVar 1) (mUn (pAttr 7) (mVar 0))))))
def f_zan:List PV→Res PV:=runB 2 b_zan
def dsp_read_0_1_2_3:Nat→Option (List PV→Res PV)
 | 0=>some f_zan
 | 1=>some f_zan
 | 2=>some f_zan
 | 3=>some f_zan
 | _=>none
def b_zam:MS :=
 (mSeq (mSet 4 (mComp [2,3] 1 (mSeqC (mOp pIdx (mVar 0) (mVar 3))) (tgN 2) (mTest (mOp pEq (mOp pPlus (mOp pIdx (mVar 0) (mVar 2)) (mC (.int (1)))) (mOp pIdx (mVar 0) (mVar 1)))) (mVar 2)))
 (mSeq (mBr ((mOrT (mTest (mOp pEq (mVar 3) (mVar 1))) (mTest (mOp pEq (mVar 4) (mLst mNil)))))
  (mRet (mC .non))
  mNext)
 (mRet (mCall (p1 (pInts minI)) (mCons (mVar 4) mNil)))))
def f_zam:List PV→Res PV:=runB 5 b_zam
def b_zaf:MS :=
 (mSeq (mSet 3 (mLst mNil))
 (mSeq (mFor (mRng1 (mCons (mVar 0) mNil)) (tgN 4)
  (mSeq (mSet 5 (mC (.int (1))))
 (mSeq (mFor (mRng1 (mCons (mVar 0) mNil)) (tgN 6)
  (mBr (mTest (mOp pEq (mOp pIdx (mVar 1) (mVar 6)) (mVar 4)))
  (mSet 5 (mOp pPlus (mVar 5) (mOp pIdx (mOp pIdx (mVar 2) (mVar 6)) (mC (.int (1))))))
  mNext))
 (mAppend 3 (mCall (pInt2L min) (mCons (mVar 0) (mCons (mVar 5) mNil)))))))
 (mRetV 3)))
def f_zaf:List PV→Res PV:=runB 7 b_zaf
def b_zi:MS :=
 (mRet (mComp [0] 1 (mSeqC (mVar 1)) (tgN 1) mTrue (mTup (mCons (mOp pDiv (mVar 1) (mOp pPlus (mUn (pAttr 0) (mVar 0)) (mC (.int (1))))) (mCons (mOp pMod (mVar 1) (mOp pPlus (mUn (pAttr 0) (mVar 0)) (mC (.int (1))))) mNil)))))
def f_zi:List PV→Res PV:=runB 2 b_zi
def dsp_parts_3:Nat→Option (List PV→Res PV)
 | 3=>some f_zi
 | _=>none
def b_zk:MS :=
 (mRet (mComp [] 1 (mSeqC (mMet dsp_parts_3 (mVar 0) (mCons (mVar 1) mNil))) (tgN 0) mTrue (mOp pIdx (mVar 0) (mC (.int (0))))))
def f_zk:List PV→Res PV:=runB 2 b_zk
def dsp_fars_3:Nat→Option (List PV→Res PV)
 | 3=>some f_zk
 | _=>none
def b_zh:MS :=
 (mSeq (mBr (mTest (mOp pEq (mVar 2) (mUn (pAttr 10) (mVar 0))))
  (mRet (mC .non))
  mNext)
 (mSeq (mSet 3 (mComp [1,2] 1 (mSeqC (mMet dsp_beside_4 (mUn (pAttr 4) (mVar 0)) (mCons (mVar 2) mNil))) (tgN 2) (mTest (mOp pEq (mOp pIdx (mVar 0) (mVar 2)) (mOp pSub (mOp pIdx (mVar 0) (mVar 1)) (mC (.int (1)))))) (mVar 2)))
 (mRet (mUn pMinD (mVar 3)))))
def f_zh:List PV→Res PV:=runB 4 b_zh
def dsp_elder_3:Nat→Option (List PV→Res PV)
 | 3=>some f_zh
 | _=>none
def b_zf:MS :=
 (mSeq (mSet 2 (mMet dsp_fars_3 (mVar 0) (mCons (mVar 1) mNil)))
 (mRet (mComp [0,2] 1 (mRng1 (mCons (mUn (pAttr 0) (mVar 0)) mNil)) (tgN 2) mTrue (mMet dsp_elder_3 (mVar 0) (mCons (mVar 1) (mCons (mVar 2) mNil))))))
def f_zf:List PV→Res PV:=runB 3 b_zf
def dsp_elders_3:Nat→Option (List PV→Res PV)
 | 3=>some f_zf
 | _=>none
def b_zac:MS :=
 (mSeq (mBr ((mOrT (mNotT (mTruth (tIsi (mVar 0) "list"))) (mTest (mOp pNe (mCall (p1 pLen) (mCons (mVar 0) mNil)) (mCall (p1 pLen) (mCons (mVar 1) mNil))))))
  (mRet (mC (.bl false)))
  mNext)
 (mSeq (mFor (mZipI (mCons (mVar 0) (mCons (mVar 1) mNil))) (tgT 2 (tgCons (tgN 2) (tgCons (tgN 3) tgNil)))
  (mSeq (mBr ((mAndT (mTest (mOp pIsN (mVar 3) (mC .non))) (mTest (mOp pNotN (mVar 2) (mC .non)))))
  (mRet (mC (.bl false)))
  mNext)
 (mBr ((mAndT (mTest (mOp pNotN (mVar 3) (mC .non))) ((mOrT (mNotT (mTruth (mCall (callR f_zak) (mCons (mVar 2) mNil)))) (mTest (mOp pNe (mVar 2) (mVar 3)))))))
  (mRet (mC (.bl false)))
  mNext)))
 (mRet (mC (.bl true)))))
def f_zac:List PV→Res PV:=runB 4 b_zac
def b_zaj:MS :=
 (mSeq (mBr ((mOrT (mNotT (mTruth (tIsi (mVar 0) "list"))) (mNotT (mTruth (mCall (p1 (pBls allB)) (mCons (mComp [] 1 (mSeqC (mVar 0)) (tgN 0) mTrue (tIsi (mVar 0) "tuple")) mNil))))))
  (mRet (mC (.bl false)))
  mNext)
 (mRet ((mAndE (mOp pEq (mVar 0) (mVar 1)) (mCall (p1 (pBls allB)) (mCons (mComp [] 1 (mSeqC (mVar 0)) (tgN 0) mTrue (mCall (callR f_zap) (mCons (mCall (p1 pList) (mCons (mVar 0) mNil)) (mCons (mCall (p1 pList) (mCons (mVar 0) mNil)) mNil)))) mNil))))))
def f_zaj:List PV→Res PV:=runB 2 b_zaj
def b_zav:MS :=
 (mSeq (mBr (mTest (mOp pEq (mVar 3) (mVar 1)))
  (mRet (mC (.int (0))))
  mNext)
 (mRet (mCall (p1 (pInts minI)) (mCons (mOp pPlus (mLst (mCons (mCall (p1 pLen) (mCons (mVar 0) mNil)) mNil)) (mComp [2,0] 1 (mSeqC (mOp pIdx (mVar 0) (mVar 3))) (tgN 2) (mTest (mOp pLt (mOp pPlus (mOp pIdx (mVar 0) (mVar 2)) (mC (.int (1)))) (mCall (p1 pLen) (mCons (mVar 1) mNil)))) (mOp pPlus (mOp pIdx (mVar 0) (mVar 2)) (mC (.int (1)))))) mNil))))
def f_zav:List PV→Res PV:=runB 4 b_zav
def b_zar:MS :=
 (mSeq (mSet 4 (mCall (p1 pLen) (mCons (mVar 0) mNil)))
 (mSeq (mSet 5 (mComp [] 1 (mSeqC (mVar 2)) (tgN 0) mTrue (mOp pIdx (mVar 0) (mC (.int (0))))))
 (mSeq (mSet 6 (mLst mNil))
 (mSeq (mFor (mRng1 (mCons (mVar 4) mNil)) (tgN 7)
  (mSeq (mSet 8 (mCall (callR f_zav) (mCons (mVar 0) (mCons (mVar 1) (mCons (mVar 5) (mCons (mVar 7) mNil))))))
 (mBr (mTest (mOp pNe (mVar 8) (mOp pIdx (mVar 5) (mVar 7))))
  (mAppend 6 (mOp pPlus (mOp pMul (mVar 8) (mOp pPlus (mVar 4) (mC (.int (1))))) (mOp pIdx (mOp pIdx (mVar 2) (mVar 7)) (mC (.int (1))))))
  (mAppend 6 (mOp pPlus (mOp pMul (mVar 8) (mOp pPlus (mVar 4) (mC (.int (1))))) (mOp pIdx (mVar 3) (mVar 7)))))))
 (mRetV 6)))))
def f_zar:List PV→Res PV:=runB 9 b_zar
def b_zat:MS :=
 (mRet (mOp pIdx (mVar 1) (mVar 2)))
def f_zat:List PV→Res PV:=runB 3 b_zat
def b_za:MS :=
 (mRet ((mAndE (mOp pNe (mVar 1) (mUn (pAttr 3) (mVar 0))) (mOp pNe (mOp pMod (mOp pPlus (mVar 1) (mC (.int (1)))) (mUn (pAttr 6) (mVar 0))) (mC (.int (0)))))))
def f_za:List PV→Res PV:=runB 2 b_za
def dsp_has_offer_1_2:Nat→Option (List PV→Res PV)
 | 1=>some f_za
 | 2=>some f_za
 | _=>none
def b_zl:MS :=
 (mSeq (mSet 3 (mComp [1] 1 (mSeqC (mMet dsp_beside_4 (mUn (pAttr 4) (mVar 0)) (mCons (mVar 2) mNil))) (tgN 1) mTrue (mOp pIdx (mVar 0) (mVar 1))))
 (mSeq (mSet 4 (mComp [0] 1 (mSeqC (mVar 3)) (tgN 1) (mTruth (mMet dsp_has_offer_1_2 (mVar 0) (mCons (mVar 1) mNil))) (mOp pPlus (mVar 1) (mC (.int (1))))))
 (mSeq (mBr (mTest (mOp pNotN (mOp pIdx (mUn (pAttr 5) (mVar 0)) (mVar 2)) (mC .non)))
  (mAppend 4 (mOp pIdx (mUn (pAttr 5) (mVar 0)) (mVar 2)))
  mNext)
 (mRet (mCall (p1 (pInts minI)) (mCons (mOp pPlus (mVar 4) (mLst (mCons (mUn (pAttr 3) (mVar 0)) mNil))) mNil))))))
def f_zl:List PV→Res PV:=runB 5 b_zl
def dsp_due_2:Nat→Option (List PV→Res PV)
 | 2=>some f_zl
 | _=>none
def b_ze:MS :=
 (mRet (mComp [] 1 (mSeqC (mMet dsp_parts_3 (mVar 0) (mCons (mVar 1) mNil))) (tgN 0) mTrue (mOp pIdx (mVar 0) (mC (.int (1))))))
def f_ze:List PV→Res PV:=runB 2 b_ze
def dsp_counts_3:Nat→Option (List PV→Res PV)
 | 3=>some f_ze
 | _=>none
def b_zb:MS :=
 (mSeq (mSet 3 (mComp [2] 2 (mZipC (mCons (mMet dsp_counts_3 (mVar 0) (mCons (mVar 1) mNil)) (mCons (mMet dsp_elders_3 (mVar 0) (mCons (mVar 1) mNil)) mNil))) (tgT 2 (tgCons (tgN 1) (tgCons (tgN 2) tgNil))) (mTest (mOp pEq (mVar 2) (mVar 0))) (mVar 1)))
 (mRet (mCall (pInt2L min) (mCons (mUn (pAttr 0) (mVar 0)) (mCons (mOp pPlus (mC (.int (1))) (mCall (p1 pSum) (mCons (mVar 3) mNil))) mNil)))))
def f_zb:List PV→Res PV:=runB 4 b_zb
def dsp_due_count_3:Nat→Option (List PV→Res PV)
 | 3=>some f_zb
 | _=>none
def b_zu:MS :=
 (mSeq (mSet 3 (mMet dsp_fars_3 (mVar 0) (mCons (mVar 1) mNil)))
 (mSeq (mSet 4 (mMet dsp_due_2 (mUn (pAttr 9) (mVar 0)) (mCons (mVar 3) (mCons (mVar 2) mNil))))
 (mSeq (mSet 5 (mOp pIdx (mMet dsp_counts_3 (mVar 0) (mCons (mVar 1) mNil)) (mVar 2)))
 (mSeq (mBr (mTest (mOp pEq (mVar 4) (mOp pIdx (mVar 3) (mVar 2))))
  (mSet 5 (mMet dsp_due_count_3 (mVar 0) (mCons (mVar 1) (mCons (mVar 2) mNil))))
  mNext)
 (mRet (mOp pPlus (mOp pMul (mVar 4) (mOp pPlus (mUn (pAttr 0) (mVar 0)) (mC (.int (1))))) (mVar 5)))))))
def f_zu:List PV→Res PV:=runB 6 b_zu
def dsp_due_0_1_2_3:Nat→Option (List PV→Res PV)
 | 0=>some f_zat
 | 1=>some f_zl
 | 2=>some f_zl
 | 3=>some f_zu
 | _=>none
def b_zr:MS :=
 (mRaiseA 4 (mCons (mC (.str "this rule has no measure")) mNil))
def f_zr:List PV→Res PV:=runB 2 b_zr
def dsp_due_0_1_2:Nat→Option (List PV→Res PV)
 | 0=>some f_zat
 | 1=>some f_zl
 | 2=>some f_zl
 | _=>none
def b_zc:MS :=
 (mSeq (mSet 2 (mComp [0,1] 1 (mRng1 (mCons (mUn (pAttr 0) (mVar 0)) mNil)) (tgN 2) mTrue (mMet dsp_due_0_1_2 (mVar 0) (mCons (mVar 1) (mCons (mVar 2) mNil)))))
 (mSeq (mSet 3 (mOp pPlus (mUn (pAttr 0) (mVar 0)) (mC (.int (1)))))
 (mSeq (mSet 4 (mC (.int (0))))
 (mSeq (mFor (mRng1 (mCons (mUn (pAttr 3) (mVar 0)) mNil)) (tgN 5)
  (mSeq (mSet 6 (mComp [5] 2 (mZipC (mCons (mVar 1) (mCons (mVar 2) mNil))) (tgT 2 (tgCons (tgN 1) (tgCons (tgN 2) tgNil))) ((mAndT (mTest (mOp pEq (mVar 1) (mVar 0))) (mTest (mOp pGt (mVar 2) (mVar 0))))) (mVar 1)))
 (mSeq (mSet 7 (mComp [5] 2 (mZipC (mCons (mVar 1) (mCons (mVar 2) mNil))) (tgT 2 (tgCons (tgN 1) (tgCons (tgN 2) tgNil))) ((mAndT (mTest (mOp pGt (mVar 1) (mVar 0))) (mTest (mOp pEq (mVar 2) (mVar 0))))) (mVar 1)))
 (mSet 4 (mOp pPlus (mOp pMul (mOp pPlus (mOp pMul (mVar 4) (mVar 3)) (mCall (p1 pLen) (mCons (mVar 6) mNil))) (mVar 3)) (mCall (p1 pLen) (mCons (mVar 7) mNil)))))))
 (mRetV 4)))))
def f_zc:List PV→Res PV:=runB 8 b_zc
def b_zaa:MS :=
 (mSeq (mSet 2 (mComp [0,1] 1 (mRng1 (mCons (mCall (p1 pLen) (mCons (mVar 0) mNil)) mNil)) (tgN 2) (mTest (mOp pLtT (mTup (mCons (mOp pIdx (mVar 0) (mVar 2)) (mCons (mVar 2) mNil))) (mTup (mCons (mOp pIdx (mVar 0) (mVar 1)) (mCons (mVar 1) mNil))))) (mVar 2)))
 (mRet (mCall (p1 pLen) (mCons (mVar 2) mNil))))
def f_zaa:List PV→Res PV:=runB 3 b_zaa
def dsp_measure_2:Nat→Option (List PV→Res PV)
 | 2=>some f_zc
 | _=>none
def b_zd:MS :=
 (mSeq (mSet 2 (mMet dsp_fars_3 (mVar 0) (mCons (mVar 1) mNil)))
 (mSeq (mSet 3 (mMet dsp_counts_3 (mVar 0) (mCons (mVar 1) mNil)))
 (mSeq (mSet 4 (mComp [3,0,1] 1 (mRng1 (mCons (mUn (pAttr 0) (mVar 0)) mNil)) (tgN 3) (mTest (mOp pNe (mOp pIdx (mVar 0) (mVar 3)) (mMet dsp_due_count_3 (mVar 1) (mCons (mVar 2) (mCons (mVar 3) mNil))))) (mVar 3)))
 (mSeq (mSet 5 (mComp [2] 1 (mSeqC (mVar 4)) (tgN 1) mTrue (mCall (callR f_zaw) (mCons (mC (.int (2))) (mCons (mCall (callR f_zaa) (mCons (mVar 0) (mCons (mVar 1) mNil))) mNil)))))
 (mRet (mOp pPlus (mOp pMul (mMet dsp_measure_2 (mUn (pAttr 9) (mVar 0)) (mCons (mVar 2) mNil)) (mCall (callR f_zaw) (mCons (mC (.int (2))) (mCons (mUn (pAttr 0) (mVar 0)) mNil)))) (mCall (p1 pSum) (mCons (mVar 5) mNil))))))))
def f_zd:List PV→Res PV:=runB 6 b_zd
def dsp_measure_0_1_2_3:Nat→Option (List PV→Res PV)
 | 0=>some f_zr
 | 1=>some f_zc
 | 2=>some f_zc
 | 3=>some f_zd
 | _=>none
def b_zv:MS :=
 (mSeq (mSet 2 (mC (.int (0))))
 (mSeq (mFor (mRng1 (mCons (mCall (p1 pLen) (mCons (mVar 0) mNil)) mNil)) (tgN 3)
  (mBr (mTest (mOp pNe (mOp pIdx (mOp pIdx (mVar 0) (mVar 3)) (mC (.int (1)))) (mOp pIdx (mVar 1) (mVar 3))))
  (mSeq (mSet 4 (mC (.int (0))))
 (mSeq (mFor (mRng1 (mCons (mCall (p1 pLen) (mCons (mVar 0) mNil)) mNil)) (tgN 5)
  (mBr ((mOrT (mTest (mOp pLt (mOp pIdx (mOp pIdx (mVar 0) (mVar 5)) (mC (.int (0)))) (mOp pIdx (mOp pIdx (mVar 0) (mVar 3)) (mC (.int (0)))))) ((mAndT (mTest (mOp pEq (mOp pIdx (mOp pIdx (mVar 0) (mVar 5)) (mC (.int (0)))) (mOp pIdx (mOp pIdx (mVar 0) (mVar 3)) (mC (.int (0)))))) (mTest (mOp pLt (mVar 5) (mVar 3)))))))
  (mSet 4 (mOp pPlus (mVar 4) (mC (.int (1)))))
  mNext))
 (mSet 2 (mOp pPlus (mVar 2) (mOp pShl (mC (.int (1))) (mVar 4))))))
  mNext))
 (mRetV 2)))
def f_zv:List PV→Res PV:=runB 6 b_zv
def b_zah:MS :=
 (mSeq (mSet 5 (mCall (p1 pLen) (mCons (mVar 1) mNil)))
 (mSeq (mSet 6 (mComp [5] 1 (mSeqC (mVar 4)) (tgN 1) mTrue (mTup (mCons (mOp pDiv (mVar 1) (mOp pPlus (mVar 0) (mC (.int (1))))) (mCons (mOp pMod (mVar 1) (mOp pPlus (mVar 0) (mC (.int (1))))) mNil)))))
 (mSeq (mSet 7 (mComp [] 1 (mSeqC (mVar 6)) (tgN 0) mTrue (mOp pIdx (mVar 0) (mC (.int (0))))))
 (mSeq (mSet 8 (mComp [1,2,7] 1 (mRng1 (mCons (mVar 5) mNil)) (tgN 3) mTrue (mCall (callR f_zam) (mCons (mVar 0) (mCons (mVar 1) (mCons (mVar 2) (mCons (mVar 3) mNil)))))))
 (mSeq (mSet 9 (mCall (callR f_zaf) (mCons (mVar 5) (mCons (mVar 8) (mCons (mVar 6) mNil)))))
 (mSeq (mSet 10 (mCall (p1 pList) (mCons (mVar 4) mNil)))
 (mSeq (mFor (mRng1 (mCons (mC (.int (2))) mNil)) (tgN 11)
  (mSeq (mSet 12 (mLst (mCons (mMet dsp_parts_3 (mVar 0) (mCons (mVar 10) mNil)) (mCons (mMet dsp_elders_3 (mVar 0) (mCons (mVar 10) mNil)) mNil))))
 (mSeq (mBr ((mOrT (mNotT (mTruth (mCall (callR f_zaj) (mCons (mOp pIdx (mVar 12) (mC (.int (0)))) (mCons (mVar 6) mNil))))) (mNotT (mTruth (mCall (callR f_zac) (mCons (mOp pIdx (mVar 12) (mC (.int (1)))) (mCons (mVar 8) mNil)))))))
  (mRet (mC (.bl false)))
  mNext)
 (mSeq (mAppIxC 12 0 (mTup (mCons (mC (.int (0))) (mCons (mC (.int (0))) mNil))))
 (mAppIxC 12 1 (mC .non))))))
 (mSeq (mBr (mNotT (mTruth (mCall (callR f_zap) (mCons (mComp [0,10] 1 (mRng1 (mCons (mVar 5) mNil)) (tgN 2) mTrue (mMet dsp_due_0_1_2_3 (mVar 0) (mCons (mVar 1) (mCons (mVar 2) mNil)))) (mCons (mCall (callR f_zar) (mCons (mVar 1) (mCons (mVar 2) (mCons (mVar 6) (mCons (mVar 9) mNil))))) mNil)))))
  (mRet (mC (.bl false)))
  mNext)
 (mSeq (mSet 13 (mOp pPlus (mOp pMul (mOp pShl (mC (.int (1))) (mVar 5)) (mMet dsp_measure_0_1_2_3 (mVar 3) (mCons (mVar 7) mNil))) (mCall (callR f_zv) (mCons (mVar 6) (mCons (mVar 9) mNil)))))
 (mRet ((mAndE (mCall (callR f_zap) (mCons (mLst (mCons (mMet dsp_measure_0_1_2_3 (mVar 0) (mCons (mVar 10) mNil)) mNil)) (mCons (mLst (mCons (mVar 13) mNil)) mNil))) (mOp pEq (mVar 10) (mVar 4))))))))))))))
def f_zah:List PV→Res PV:=runB 14 b_zah
def b_zae:MS :=
 (mRet (mCall pListR1 (mCons (mUn (pAttr 0) (mVar 0)) mNil)))
def f_zae:List PV→Res PV:=runB 2 b_zae
def dsp_reach_0_1_2_3:Nat→Option (List PV→Res PV)
 | 0=>some f_zae
 | 1=>some f_zae
 | 2=>some f_zae
 | 3=>some f_zae
 | _=>none
def b_law:MS :=
 (mSeq (mSet 1 (mCall (callR f_zy) (mCons (mVar 0) (mCons (mC (.int (0))) mNil))))
 (mSeq (mSet 2 (mOp pPlus (mC (.int (1))) (mOp pMod (mVar 1) (mC (.int (10))))))
 (mSeq (mSet 3 (mOp pMod (mOp pDiv (mVar 1) (mC (.int (48)))) (mVar 2)))
 (mSeq (mSet 4 (mCall (callR f_zau) (mCons (mVar 2) (mCons (mCall (callR f_zy) (mCons (mVar 0) (mCons (mC (.int (1))) mNil))) mNil))))
 (mSeq (mSet 5 (mCall (callR f_zas) (mCons (mVar 2) (mCons (mVar 4) mNil))))
 (mSeq (mSet 6 (mNew 4 f_zaq (mCons (mVar 2) (mCons (mVar 4) mNil))))
 (mSeq (mFrz 6) (mSeq (mSet 7 (mNew 3 f_zm (mCons (mVar 6) (mCons (mVar 3) mNil))))
 (mSeq (mSet 8 (mNew 2 f_zt (mCons (mVar 6) (mCons (mVar 3) mNil))))
 (mSeq (mSet 9 (mOp pMul (mOp pPlus (mVar 2) (mC (.int (1)))) (mOp pPlus (mVar 2) (mC (.int (1))))))
 (mSeq (mSet 10 (mOp pSub (mOp pMul (mOp pPlus (mMet dsp_most_0_1_2_3 (mVar 8) mNil) (mC (.int (1)))) (mOp pShl (mC (.int (1))) (mVar 2))) (mC (.int (1)))))
 (mSeq (mBr (mNotT (mTruth (mCall (callR f_zap) (mCons (mLst (mCons (mUn (pAttr 0) (mVar 7)) (mCons (mUn (pAttr 7) (mVar 7)) (mCons (mMet dsp_most_0_1_2_3 (mVar 7) mNil) (mCons (mMet dsp_soon_0_1_2_3 (mVar 7) (mCons (mOp pMod (mVar 1) (mC (.int (9)))) mNil)) mNil))))) (mCons (mLst (mCons (mVar 2) (mCons (mVar 9) (mCons (mVar 10) (mCons (mVar 10) mNil))))) mNil)))))
  (mRet (mC (.bl false)))
  mNext)
 (mSeq (mSet 11 (mCall (callR f_zx) (mCons (mCall (callR f_zy) (mCons (mVar 0) (mCons (mC (.int (2))) mNil))) (mCons (mVar 2) mNil))))
 (mSeq (mFor (mSeqI (mOp pPlus (mLst (mCons (mCall (callR f_zy) (mCons (mVar 0) (mCons (mC (.int (3))) mNil))) mNil)) (mSlice (mVar 0) (mPart (mC (.int (4)))) (mPart (mC (.int (84))))))) (tgN 12)
  (mSeq (mSet 13 (mOp pDiv (mVar 12) (mVar 2)))
 (mSeq (mSetIx 11 (mOp pMod (mVar 12) (mVar 2)) (mOp pMod (mOp pDiv (mVar 13) (mC (.int (4)))) (mVar 9)))
 (mSeq (mBr (mTest (mOp pEq (mOp pMod (mVar 13) (mC (.int (4)))) (mC (.int (1)))))
  (mSetIx 11 (mOp pMod (mVar 12) (mVar 2)) (mOp pSub (mOp pMod (mOp pDiv (mVar 13) (mC (.int (4)))) (mOp pSub (mOp pMul (mC (.int (2))) (mOp pPow (mC (.int (10))) (mC (.int (60))))) (mC (.int (1))))) (mOp pSub (mOp pPow (mC (.int (10))) (mC (.int (60)))) (mC (.int (1))))))
  mNext)
 (mSeq (mSet 14 (mComp [9] 1 (mSeqC (mVar 11)) (tgN 1) mTrue (mOp pMod (mVar 1) (mVar 0))))
 (mSeq (mBr (mNotT (mTruth (mCall (callR f_zap) (mCons (mMet dsp_read_0_1_2_3 (mVar 7) (mCons (mCall (p1 pList) (mCons (mVar 11) mNil)) mNil)) (mCons (mVar 14) mNil)))))
  (mRet (mC (.bl false)))
  mNext)
 (mBr (mNotT (mTruth (mCall (callR f_zah) (mCons (mVar 7) (mCons (mVar 5) (mCons (mVar 3) (mCons (mVar 8) (mCons (mVar 14) mNil))))))))
  (mRet (mC (.bl false)))
  mNext)))))))
 (mRet ((mAndE (mOp pIsB (mUn (pAttr 8) (mVar 7)) (mC (.bl true))) (mOp pEq (mMet dsp_reach_0_1_2_3 (mVar 7) (mCons (mLst (mCons (mVar 3) mNil)) mNil)) (mCall pListR1 (mCons (mVar 2) mNil))))))))))))))))))))
def f_law:List PV→Res PV:=runB 15 b_law
end G
namespace G
open PySem L2 PR
def top (i:Nat):Stmt:=PySem.Challenge.pw_calmring_k27_grow_parts_and_due.main.body.getD i (.Pass ⟨0,0,0,0⟩)
abbrev s_zy:Stmt:=top 29
theorem sc_zy:FnScope ["_law_script", "_law_k"] ["_law_script", "_law_k"] (defScope s_zy):=⟨rfl,rfl,rfl,by decide +kernel,rfl,by decide +kernel,by decide +kernel⟩
abbrev s_zx:Stmt:=top 32
theorem sc_zx:FnScope ["_law_cell", "_law_many", "_law_number", "_law_found", "_law_k"] ["_law_cell", "_law_many"] (defScope s_zx):=⟨rfl,rfl,rfl,by decide +kernel,rfl,by decide +kernel,by decide +kernel⟩
abbrev s_zau:Stmt:=top 33
theorem sc_zau:FnScope ["_law_size", "_law_cell", "_law_numbers_here", "_law_order", "_law_k", "_law_ways_here", "_law_j", "_law_more"] ["_law_size", "_law_cell"] (defScope s_zau):=⟨rfl,rfl,rfl,by decide +kernel,rfl,by decide +kernel,by decide +kernel⟩
abbrev s_zas:Stmt:=top 34
theorem sc_zas:FnScope ["_law_size", "_law_ways_here", "_law_near_here", "_law_one", "_law_other"] ["_law_size", "_law_ways_here"] (defScope s_zas):=⟨rfl,rfl,rfl,by decide +kernel,rfl,by decide +kernel,by decide +kernel⟩
abbrev s_zz:Stmt:=top 25
theorem sc_zz:FnScope ["size", "least"] ["size", "least"] (defScope s_zz):=⟨rfl,rfl,rfl,by decide +kernel,rfl,by decide +kernel,by decide +kernel⟩
abbrev s_zq:Stmt:=top 26
theorem sc_zq:FnScope ["size", "ways", "pairs", "way", "pair"] ["size", "ways"] (defScope s_zq):=⟨rfl,rfl,rfl,by decide +kernel,rfl,by decide +kernel,by decide +kernel⟩
abbrev s_zad:Stmt:=top 27
theorem sc_zad:FnScope ["pairs", "at", "lower", "higher"] ["pairs", "at"] (defScope s_zad):=⟨rfl,rfl,rfl,by decide +kernel,rfl,by decide +kernel,by decide +kernel⟩
abbrev s_zab:Stmt:=inClass (top 23) 1
theorem sc_zab:FnScope ["self", "at"] ["self", "at"] (defScope s_zab):=⟨rfl,rfl,rfl,by decide +kernel,rfl,by decide +kernel,by decide +kernel⟩
abbrev s_zao:Stmt:=top 24
theorem sc_zao:FnScope ["net", "root", "far", "steps", "at", "other"] ["net", "root"] (defScope s_zao):=⟨rfl,rfl,rfl,by decide +kernel,rfl,by decide +kernel,by decide +kernel⟩
abbrev s_zaq:Stmt:=inClass (top 23) 0
theorem sc_zaq:FnScope ["self", "size", "ways"] ["self", "size", "ways"] (defScope s_zaq):=⟨rfl,rfl,rfl,by decide +kernel,rfl,by decide +kernel,by decide +kernel⟩
abbrev s_zw:Stmt:=top 15
theorem sc_zw:FnScope ["part"] ["part"] (defScope s_zw):=⟨rfl,rfl,rfl,by decide +kernel,rfl,by decide +kernel,by decide +kernel⟩
abbrev s_zn:Stmt:=top 16
theorem sc_zn:FnScope ["net", "starts", "top", "start"] ["net", "starts", "top"] (defScope s_zn):=⟨rfl,rfl,rfl,by decide +kernel,rfl,by decide +kernel,by decide +kernel⟩
abbrev s_zag:Stmt:=inClass (top 10) 0
theorem sc_zag:FnScope ["self", "size", "span", "alone"] ["self", "size", "span", "alone"] (defScope s_zag):=⟨rfl,rfl,rfl,by decide +kernel,rfl,by decide +kernel,by decide +kernel⟩
abbrev s_zj:Stmt:=inClass (top 13) 0
theorem sc_zj:FnScope ["self", "net", "starts", "stretch", "blocks"] ["self", "net", "starts", "stretch", "blocks"] (defScope s_zj):=⟨rfl,rfl,rfl,by decide +kernel,rfl,by decide +kernel,by decide +kernel⟩
abbrev s_zt:Stmt:=inClass (top 14) 0
theorem sc_zt:FnScope ["self", "net", "root", "starts"] ["self", "net", "root"] (defScope s_zt):=⟨rfl,rfl,rfl,by decide +kernel,rfl,by decide +kernel,by decide +kernel⟩
abbrev s_zm:Stmt:=inClass (top 18) 0
theorem sc_zm:FnScope ["self", "net", "root"] ["self", "net", "root"] (defScope s_zm):=⟨rfl,rfl,rfl,by decide +kernel,rfl,by decide +kernel,by decide +kernel⟩
abbrev s_zai:Stmt:=inClass (top 10) 7
theorem sc_zai:FnScope ["self"] ["self"] (defScope s_zai):=⟨rfl,rfl,rfl,by decide +kernel,rfl,by decide +kernel,by decide +kernel⟩
abbrev s_zaw:Stmt:=top 8
theorem sc_zaw:FnScope ["base", "exponent", "product", "step"] ["base", "exponent"] (defScope s_zaw):=⟨rfl,rfl,rfl,by decide +kernel,rfl,by decide +kernel,by decide +kernel⟩
abbrev s_zg:Stmt:=inClass (top 13) 4
theorem sc_zg:FnScope ["self"] ["self"] (defScope s_zg):=⟨rfl,rfl,rfl,by decide +kernel,rfl,by decide +kernel,by decide +kernel⟩
abbrev s_zo:Stmt:=inClass (top 18) 5
theorem sc_zo:FnScope ["self"] ["self"] (defScope s_zo):=⟨rfl,rfl,rfl,by decide +kernel,rfl,by decide +kernel,by decide +kernel⟩
abbrev s_zal:Stmt:=inClass (top 10) 8
theorem sc_zal:FnScope ["self", "count"] ["self", "count"] (defScope s_zal):=⟨rfl,rfl,rfl,by decide +kernel,rfl,by decide +kernel,by decide +kernel⟩
abbrev s_zak:Stmt:=top 30
theorem sc_zak:FnScope ["_law_found"] ["_law_found"] (defScope s_zak):=⟨rfl,rfl,rfl,by decide +kernel,rfl,by decide +kernel,by decide +kernel⟩
abbrev s_zap:Stmt:=top 31
theorem sc_zap:FnScope ["_law_found", "_law_due"] ["_law_found", "_law_due"] (defScope s_zap):=⟨rfl,rfl,rfl,by decide +kernel,rfl,by decide +kernel,by decide +kernel⟩
abbrev s_zan:Stmt:=inClass (top 10) 1
theorem sc_zan:FnScope ["self", "registers"] ["self", "registers"] (defScope s_zan):=⟨rfl,rfl,rfl,by decide +kernel,rfl,by decide +kernel,by decide +kernel⟩
abbrev s_zam:Stmt:=top 35
theorem sc_zam:FnScope ["_law_near_here", "_law_root", "_law_fars", "_law_at", "_law_some"] ["_law_near_here", "_law_root", "_law_fars", "_law_at"] (defScope s_zam):=⟨rfl,rfl,rfl,by decide +kernel,rfl,by decide +kernel,by decide +kernel⟩
abbrev s_zaf:Stmt:=top 36
theorem sc_zaf:FnScope ["_law_size", "_law_elders_here", "_law_parts_here", "_law_found", "_law_at", "_law_total", "_law_kid"] ["_law_size", "_law_elders_here", "_law_parts_here"] (defScope s_zaf):=⟨rfl,rfl,rfl,by decide +kernel,rfl,by decide +kernel,by decide +kernel⟩
abbrev s_zi:Stmt:=inClass (top 18) 1
theorem sc_zi:FnScope ["self", "cells"] ["self", "cells"] (defScope s_zi):=⟨rfl,rfl,rfl,by decide +kernel,rfl,by decide +kernel,by decide +kernel⟩
abbrev s_zk:Stmt:=inClass (top 18) 6
theorem sc_zk:FnScope ["self", "cells"] ["self", "cells"] (defScope s_zk):=⟨rfl,rfl,rfl,by decide +kernel,rfl,by decide +kernel,by decide +kernel⟩
abbrev s_zh:Stmt:=inClass (top 18) 8
theorem sc_zh:FnScope ["self", "fars", "at", "nearer"] ["self", "fars", "at"] (defScope s_zh):=⟨rfl,rfl,rfl,by decide +kernel,rfl,by decide +kernel,by decide +kernel⟩
abbrev s_zf:Stmt:=inClass (top 18) 2
theorem sc_zf:FnScope ["self", "cells", "fars"] ["self", "cells"] (defScope s_zf):=⟨rfl,rfl,rfl,by decide +kernel,rfl,by decide +kernel,by decide +kernel⟩
abbrev s_zac:Stmt:=top 41
theorem sc_zac:FnScope ["_law_found", "_law_due", "_law_one", "_law_other"] ["_law_found", "_law_due"] (defScope s_zac):=⟨rfl,rfl,rfl,by decide +kernel,rfl,by decide +kernel,by decide +kernel⟩
abbrev s_zaj:Stmt:=top 40
theorem sc_zaj:FnScope ["_law_found", "_law_due"] ["_law_found", "_law_due"] (defScope s_zaj):=⟨rfl,rfl,rfl,by decide +kernel,rfl,by decide +kernel,by decide +kernel⟩
abbrev s_zav:Stmt:=top 37
theorem sc_zav:FnScope ["_law_near_here", "_law_root", "_law_fars", "_law_at"] ["_law_near_here", "_law_root", "_law_fars", "_law_at"] (defScope s_zav):=⟨rfl,rfl,rfl,by decide +kernel,rfl,by decide +kernel,by decide +kernel⟩
abbrev s_zar:Stmt:=top 38
theorem sc_zar:FnScope ["_law_near_here", "_law_root", "_law_parts_here", "_law_counts_here", "_law_size", "_law_fars", "_law_found", "_law_at", "_law_far_here"] ["_law_near_here", "_law_root", "_law_parts_here", "_law_counts_here"] (defScope s_zar):=⟨rfl,rfl,rfl,by decide +kernel,rfl,by decide +kernel,by decide +kernel⟩
abbrev s_zat:Stmt:=inClass (top 10) 2
theorem sc_zat:FnScope ["self", "cells", "at"] ["self", "cells", "at"] (defScope s_zat):=⟨rfl,rfl,rfl,by decide +kernel,rfl,by decide +kernel,by decide +kernel⟩
abbrev s_za:Stmt:=inClass (top 13) 2
theorem sc_za:FnScope ["self", "cell"] ["self", "cell"] (defScope s_za):=⟨rfl,rfl,rfl,by decide +kernel,rfl,by decide +kernel,by decide +kernel⟩
abbrev s_zl:Stmt:=inClass (top 13) 1
theorem sc_zl:FnScope ["self", "cells", "at", "near", "offers"] ["self", "cells", "at"] (defScope s_zl):=⟨rfl,rfl,rfl,by decide +kernel,rfl,by decide +kernel,by decide +kernel⟩
abbrev s_ze:Stmt:=inClass (top 18) 7
theorem sc_ze:FnScope ["self", "cells"] ["self", "cells"] (defScope s_ze):=⟨rfl,rfl,rfl,by decide +kernel,rfl,by decide +kernel,by decide +kernel⟩
abbrev s_zb:Stmt:=inClass (top 18) 9
theorem sc_zb:FnScope ["self", "cells", "at", "kids"] ["self", "cells", "at"] (defScope s_zb):=⟨rfl,rfl,rfl,by decide +kernel,rfl,by decide +kernel,by decide +kernel⟩
abbrev s_zu:Stmt:=inClass (top 18) 3
theorem sc_zu:FnScope ["self", "cells", "at", "fars", "due_far", "count"] ["self", "cells", "at"] (defScope s_zu):=⟨rfl,rfl,rfl,by decide +kernel,rfl,by decide +kernel,by decide +kernel⟩
abbrev s_zr:Stmt:=inClass (top 10) 6
theorem sc_zr:FnScope ["self", "cells"] ["self", "cells"] (defScope s_zr):=⟨rfl,rfl,rfl,by decide +kernel,rfl,by decide +kernel,by decide +kernel⟩
abbrev s_zc:Stmt:=inClass (top 13) 3
theorem sc_zc:FnScope ["self", "cells", "dues", "base", "number", "mark", "rising", "falling"] ["self", "cells"] (defScope s_zc):=⟨rfl,rfl,rfl,by decide +kernel,rfl,by decide +kernel,by decide +kernel⟩
abbrev s_zaa:Stmt:=top 19
theorem sc_zaa:FnScope ["fars", "at", "lower"] ["fars", "at"] (defScope s_zaa):=⟨rfl,rfl,rfl,by decide +kernel,rfl,by decide +kernel,by decide +kernel⟩
abbrev s_zd:Stmt:=inClass (top 18) 4
theorem sc_zd:FnScope ["self", "cells", "fars", "counts", "wrong", "weights"] ["self", "cells"] (defScope s_zd):=⟨rfl,rfl,rfl,by decide +kernel,rfl,by decide +kernel,by decide +kernel⟩
abbrev s_zv:Stmt:=top 39
theorem sc_zv:FnScope ["_law_parts_here", "_law_counts_here", "_law_total", "_law_at", "_law_rank", "_law_k"] ["_law_parts_here", "_law_counts_here"] (defScope s_zv):=⟨rfl,rfl,rfl,by decide +kernel,rfl,by decide +kernel,by decide +kernel⟩
abbrev s_zah:Stmt:=top 42
theorem sc_zah:FnScope ["_law_rule", "_law_near_here", "_law_root", "_law_lower", "_law_cells", "_law_size", "_law_parts_here", "_law_fars", "_law_elders_here", "_law_counts_here", "_law_held", "_law_turn", "_law_found", "_law_due"] ["_law_rule", "_law_near_here", "_law_root", "_law_lower", "_law_cells"] (defScope s_zah):=⟨rfl,rfl,rfl,by decide +kernel,rfl,by decide +kernel,by decide +kernel⟩
abbrev s_zae:Stmt:=inClass (top 10) 9
theorem sc_zae:FnScope ["self", "spoiled"] ["self", "spoiled"] (defScope s_zae):=⟨rfl,rfl,rfl,by decide +kernel,rfl,by decide +kernel,by decide +kernel⟩
abbrev s_law:Stmt:=top 43
theorem sc_law:FnScope ["_law_script", "_law_first", "_law_size", "_law_root", "_law_ways_here", "_law_near_here", "_law_net", "_law_rule", "_law_lower", "_law_span", "_law_most", "_law_registers", "_law_cell", "_law_number", "_law_cells"] ["_law_script"] (defScope s_law):=⟨rfl,rfl,rfl,by decide +kernel,rfl,by decide +kernel,by decide +kernel⟩
structure A where
 f_zy:Addr
 d_zy:FuncData
 f_zx:Addr
 d_zx:FuncData
 f_zau:Addr
 d_zau:FuncData
 f_zas:Addr
 d_zas:FuncData
 f_zz:Addr
 d_zz:FuncData
 f_zq:Addr
 d_zq:FuncData
 f_zad:Addr
 d_zad:FuncData
 f_zab:Addr
 d_zab:FuncData
 f_zao:Addr
 d_zao:FuncData
 f_zaq:Addr
 d_zaq:FuncData
 f_zw:Addr
 d_zw:FuncData
 f_zn:Addr
 d_zn:FuncData
 f_zag:Addr
 d_zag:FuncData
 f_zj:Addr
 d_zj:FuncData
 f_zt:Addr
 d_zt:FuncData
 f_zm:Addr
 d_zm:FuncData
 f_zai:Addr
 d_zai:FuncData
 f_zaw:Addr
 d_zaw:FuncData
 f_zg:Addr
 d_zg:FuncData
 f_zo:Addr
 d_zo:FuncData
 f_zal:Addr
 d_zal:FuncData
 f_zak:Addr
 d_zak:FuncData
 f_zap:Addr
 d_zap:FuncData
 f_zan:Addr
 d_zan:FuncData
 f_zam:Addr
 d_zam:FuncData
 f_zaf:Addr
 d_zaf:FuncData
 f_zi:Addr
 d_zi:FuncData
 f_zk:Addr
 d_zk:FuncData
 f_zh:Addr
 d_zh:FuncData
 f_zf:Addr
 d_zf:FuncData
 f_zac:Addr
 d_zac:FuncData
 f_zaj:Addr
 d_zaj:FuncData
 f_zav:Addr
 d_zav:FuncData
 f_zar:Addr
 d_zar:FuncData
 f_zat:Addr
 d_zat:FuncData
 f_za:Addr
 d_za:FuncData
 f_zl:Addr
 d_zl:FuncData
 f_ze:Addr
 d_ze:FuncData
 f_zb:Addr
 d_zb:FuncData
 f_zu:Addr
 d_zu:FuncData
 f_zr:Addr
 d_zr:FuncData
 f_zc:Addr
 d_zc:FuncData
 f_zaa:Addr
 d_zaa:FuncData
 f_zd:Addr
 d_zd:FuncData
 f_zv:Addr
 d_zv:FuncData
 f_zah:Addr
 d_zah:FuncData
 f_zae:Addr
 d_zae:FuncData
 f_law:Addr
 d_law:FuncData
 c_Rule:Addr
 c_LeastRule:Addr
 c_FarRule:Addr
 c_GrowRule:Addr
 c_Net:Addr
 x_CalmError:Addr
 x_BadNet:Addr
 x_BadRule:Addr
 x_BadState:Addr
 x_NoMeasure:Addr
def attL:List Str:=["size", "pairs", "near", "top", "net", "starts", "stretch", "span", "alone", "far_rule", "root"]
def xl (a:A):List Addr:=[a.x_CalmError,a.x_BadNet,a.x_BadRule,a.x_BadState,a.x_NoMeasure]
def T (K:PySem.W.Frag) (a:A):Tb where
 K:=K
 nc:=5
 cls:=pick [a.c_Rule,a.c_LeastRule,a.c_FarRule,a.c_GrowRule,a.c_Net]
 att:=attOf attL
 inj:=attOf_inj (by decide +kernel) (by decide +kernel)
 xcl:=pick (xl a)
theorem att_beside {K:PySem.W.Frag}{a:A} (k:Nat):(T K a).att k ≠ "beside" := attOf_ne (by decide +kernel) (by decide +kernel) k
theorem att_counts {K:PySem.W.Frag}{a:A} (k:Nat):(T K a).att k ≠ "counts" := attOf_ne (by decide +kernel) (by decide +kernel) k
theorem att_due {K:PySem.W.Frag}{a:A} (k:Nat):(T K a).att k ≠ "due" := attOf_ne (by decide +kernel) (by decide +kernel) k
theorem att_due_count {K:PySem.W.Frag}{a:A} (k:Nat):(T K a).att k ≠ "due_count" := attOf_ne (by decide +kernel) (by decide +kernel) k
theorem att_elder {K:PySem.W.Frag}{a:A} (k:Nat):(T K a).att k ≠ "elder" := attOf_ne (by decide +kernel) (by decide +kernel) k
theorem att_elders {K:PySem.W.Frag}{a:A} (k:Nat):(T K a).att k ≠ "elders" := attOf_ne (by decide +kernel) (by decide +kernel) k
theorem att_fars {K:PySem.W.Frag}{a:A} (k:Nat):(T K a).att k ≠ "fars" := attOf_ne (by decide +kernel) (by decide +kernel) k
theorem att_has_offer {K:PySem.W.Frag}{a:A} (k:Nat):(T K a).att k ≠ "has_offer" := attOf_ne (by decide +kernel) (by decide +kernel) k
theorem att_measure {K:PySem.W.Frag}{a:A} (k:Nat):(T K a).att k ≠ "measure" := attOf_ne (by decide +kernel) (by decide +kernel) k
theorem att_most {K:PySem.W.Frag}{a:A} (k:Nat):(T K a).att k ≠ "most" := attOf_ne (by decide +kernel) (by decide +kernel) k
theorem att_parts {K:PySem.W.Frag}{a:A} (k:Nat):(T K a).att k ≠ "parts" := attOf_ne (by decide +kernel) (by decide +kernel) k
theorem att_reach {K:PySem.W.Frag}{a:A} (k:Nat):(T K a).att k ≠ "reach" := attOf_ne (by decide +kernel) (by decide +kernel) k
theorem att_read {K:PySem.W.Frag}{a:A} (k:Nat):(T K a).att k ≠ "read" := attOf_ne (by decide +kernel) (by decide +kernel) k
theorem att_soon {K:PySem.W.Frag}{a:A} (k:Nat):(T K a).att k ≠ "soon" := attOf_ne (by decide +kernel) (by decide +kernel) k
def noA (K:PySem.W.Frag) (C:Addr):List (Option (Option Value)):=attL.map fun x=>PySem.W.findIn K (.ref C) x
def noR:List (Option (Option Value)):=attL.map fun _=>some none
def NoAtts (K:PySem.W.Frag) (C:Addr):Prop:=noA K C=noR
theorem NoAtts.at {K:PySem.W.Frag}{C:Addr} (h:NoAtts K C) {x:Str} (hx:x ∈ attL):NoAttr K C x:=List.map_inj_left.mp h x hx
structure Txt (w:World) (K:PySem.W.Frag) (mg:Str→Option Value) (a:A):Prop where
 F_zy:Fun K "_law_cell_at" "_law_cell_at" s_zy a.f_zy a.d_zy
 B_zy:Binds K a.d_zy ["_law_script", "_law_k"] []
 m_zy:mg "_law_cell_at" = some (.ref a.f_zy)
 F_zx:Fun K "_law_numbers" "_law_numbers" s_zx a.f_zx a.d_zx
 B_zx:Binds K a.d_zx ["_law_cell", "_law_many"] []
 m_zx:mg "_law_numbers" = some (.ref a.f_zx)
 F_zau:Fun K "_law_ways" "_law_ways" s_zau a.f_zau a.d_zau
 B_zau:Binds K a.d_zau ["_law_size", "_law_cell"] []
 m_zau:mg "_law_ways" = some (.ref a.f_zau)
 F_zas:Fun K "_law_near" "_law_near" s_zas a.f_zas a.d_zas
 B_zas:Binds K a.d_zas ["_law_size", "_law_ways_here"] []
 m_zas:mg "_law_near" = some (.ref a.f_zas)
 F_zz:Fun K "refuse_size" "refuse_size" s_zz a.f_zz a.d_zz
 B_zz:Binds K a.d_zz ["size", "least"] []
 m_zz:mg "refuse_size" = some (.ref a.f_zz)
 F_zq:Fun K "ordered_pairs" "ordered_pairs" s_zq a.f_zq a.d_zq
 B_zq:Binds K a.d_zq ["size", "ways"] []
 m_zq:mg "ordered_pairs" = some (.ref a.f_zq)
 F_zad:Fun K "neighbours" "neighbours" s_zad a.f_zad a.d_zad
 B_zad:Binds K a.d_zad ["pairs", "at"] []
 m_zad:mg "neighbours" = some (.ref a.f_zad)
 F_zab:Fun K "beside" "Net.beside" s_zab a.f_zab a.d_zab
 B_zab:Binds K a.d_zab ["self", "at"] []
 F_zao:Fun K "far_from" "far_from" s_zao a.f_zao a.d_zao
 B_zao:Binds K a.d_zao ["net", "root"] []
 m_zao:mg "far_from" = some (.ref a.f_zao)
 F_zaq:Fun K "__init__" "Net.__init__" s_zaq a.f_zaq a.d_zaq
 B_zaq:Binds K a.d_zaq ["self", "size", "ways"] []
 F_zw:Fun K "refuse_part" "refuse_part" s_zw a.f_zw a.d_zw
 B_zw:Binds K a.d_zw ["part"] []
 m_zw:mg "refuse_part" = some (.ref a.f_zw)
 F_zn:Fun K "refuse_starts" "refuse_starts" s_zn a.f_zn a.d_zn
 B_zn:Binds K a.d_zn ["net", "starts", "top"] []
 m_zn:mg "refuse_starts" = some (.ref a.f_zn)
 F_zag:Fun K "__init__" "Rule.__init__" s_zag a.f_zag a.d_zag
 B_zag:Binds K a.d_zag ["self", "size", "span", "alone"] []
 F_zj:Fun K "__init__" "LeastRule.__init__" s_zj a.f_zj a.d_zj
 B_zj:Binds K a.d_zj ["self", "net", "starts", "stretch", "blocks"] []
 F_zt:Fun K "__init__" "FarRule.__init__" s_zt a.f_zt a.d_zt
 B_zt:Binds K a.d_zt ["self", "net", "root"] []
 F_zm:Fun K "__init__" "GrowRule.__init__" s_zm a.f_zm a.d_zm
 B_zm:Binds K a.d_zm ["self", "net", "root"] []
 F_zai:Fun K "most" "Rule.most" s_zai a.f_zai a.d_zai
 B_zai:Binds K a.d_zai ["self"] []
 F_zaw:Fun K "power" "power" s_zaw a.f_zaw a.d_zaw
 B_zaw:Binds K a.d_zaw ["base", "exponent"] []
 m_zaw:mg "power" = some (.ref a.f_zaw)
 F_zg:Fun K "most" "LeastRule.most" s_zg a.f_zg a.d_zg
 B_zg:Binds K a.d_zg ["self"] []
 F_zo:Fun K "most" "GrowRule.most" s_zo a.f_zo a.d_zo
 B_zo:Binds K a.d_zo ["self"] []
 F_zal:Fun K "soon" "Rule.soon" s_zal a.f_zal a.d_zal
 B_zal:Binds K a.d_zal ["self", "count"] []
 F_zak:Fun K "_law_whole" "_law_whole" s_zak a.f_zak a.d_zak
 B_zak:Binds K a.d_zak ["_law_found"] []
 m_zak:mg "_law_whole" = some (.ref a.f_zak)
 F_zap:Fun K "_law_list" "_law_list" s_zap a.f_zap a.d_zap
 B_zap:Binds K a.d_zap ["_law_found", "_law_due"] []
 m_zap:mg "_law_list" = some (.ref a.f_zap)
 F_zan:Fun K "read" "Rule.read" s_zan a.f_zan a.d_zan
 B_zan:Binds K a.d_zan ["self", "registers"] []
 F_zam:Fun K "_law_elder" "_law_elder" s_zam a.f_zam a.d_zam
 B_zam:Binds K a.d_zam ["_law_near_here", "_law_root", "_law_fars", "_law_at"] []
 m_zam:mg "_law_elder" = some (.ref a.f_zam)
 F_zaf:Fun K "_law_counts" "_law_counts" s_zaf a.f_zaf a.d_zaf
 B_zaf:Binds K a.d_zaf ["_law_size", "_law_elders_here", "_law_parts_here"] []
 m_zaf:mg "_law_counts" = some (.ref a.f_zaf)
 F_zi:Fun K "parts" "GrowRule.parts" s_zi a.f_zi a.d_zi
 B_zi:Binds K a.d_zi ["self", "cells"] []
 F_zk:Fun K "fars" "GrowRule.fars" s_zk a.f_zk a.d_zk
 B_zk:Binds K a.d_zk ["self", "cells"] []
 F_zh:Fun K "elder" "GrowRule.elder" s_zh a.f_zh a.d_zh
 B_zh:Binds K a.d_zh ["self", "fars", "at"] []
 F_zf:Fun K "elders" "GrowRule.elders" s_zf a.f_zf a.d_zf
 B_zf:Binds K a.d_zf ["self", "cells"] []
 F_zac:Fun K "_law_elders" "_law_elders" s_zac a.f_zac a.d_zac
 B_zac:Binds K a.d_zac ["_law_found", "_law_due"] []
 m_zac:mg "_law_elders" = some (.ref a.f_zac)
 F_zaj:Fun K "_law_parts" "_law_parts" s_zaj a.f_zaj a.d_zaj
 B_zaj:Binds K a.d_zaj ["_law_found", "_law_due"] []
 m_zaj:mg "_law_parts" = some (.ref a.f_zaj)
 F_zav:Fun K "_law_far" "_law_far" s_zav a.f_zav a.d_zav
 B_zav:Binds K a.d_zav ["_law_near_here", "_law_root", "_law_fars", "_law_at"] []
 m_zav:mg "_law_far" = some (.ref a.f_zav)
 F_zar:Fun K "_law_dues" "_law_dues" s_zar a.f_zar a.d_zar
 B_zar:Binds K a.d_zar ["_law_near_here", "_law_root", "_law_parts_here", "_law_counts_here"] []
 m_zar:mg "_law_dues" = some (.ref a.f_zar)
 F_zat:Fun K "due" "Rule.due" s_zat a.f_zat a.d_zat
 B_zat:Binds K a.d_zat ["self", "cells", "at"] []
 F_za:Fun K "has_offer" "LeastRule.has_offer" s_za a.f_za a.d_za
 B_za:Binds K a.d_za ["self", "cell"] []
 F_zl:Fun K "due" "LeastRule.due" s_zl a.f_zl a.d_zl
 B_zl:Binds K a.d_zl ["self", "cells", "at"] []
 F_ze:Fun K "counts" "GrowRule.counts" s_ze a.f_ze a.d_ze
 B_ze:Binds K a.d_ze ["self", "cells"] []
 F_zb:Fun K "due_count" "GrowRule.due_count" s_zb a.f_zb a.d_zb
 B_zb:Binds K a.d_zb ["self", "cells", "at"] []
 F_zu:Fun K "due" "GrowRule.due" s_zu a.f_zu a.d_zu
 B_zu:Binds K a.d_zu ["self", "cells", "at"] []
 F_zr:Fun K "measure" "Rule.measure" s_zr a.f_zr a.d_zr
 B_zr:Binds K a.d_zr ["self", "cells"] []
 F_zc:Fun K "measure" "LeastRule.measure" s_zc a.f_zc a.d_zc
 B_zc:Binds K a.d_zc ["self", "cells"] []
 F_zaa:Fun K "rank_by_far" "rank_by_far" s_zaa a.f_zaa a.d_zaa
 B_zaa:Binds K a.d_zaa ["fars", "at"] []
 m_zaa:mg "rank_by_far" = some (.ref a.f_zaa)
 F_zd:Fun K "measure" "GrowRule.measure" s_zd a.f_zd a.d_zd
 B_zd:Binds K a.d_zd ["self", "cells"] []
 F_zv:Fun K "_law_counted" "_law_counted" s_zv a.f_zv a.d_zv
 B_zv:Binds K a.d_zv ["_law_parts_here", "_law_counts_here"] []
 m_zv:mg "_law_counted" = some (.ref a.f_zv)
 F_zah:Fun K "_law_asked" "_law_asked" s_zah a.f_zah a.d_zah
 B_zah:Binds K a.d_zah ["_law_rule", "_law_near_here", "_law_root", "_law_lower", "_law_cells"] []
 m_zah:mg "_law_asked" = some (.ref a.f_zah)
 F_zae:Fun K "reach" "Rule.reach" s_zae a.f_zae a.d_zae
 B_zae:Binds K a.d_zae ["self", "spoiled"] []
 F_law:Fun K "law" "law" s_law a.f_law a.d_law
 B_law:Binds K a.d_law ["_law_script"] []
 m_law:mg "law" = some (.ref a.f_law)
 C_Rule:Cls K a.c_Rule
 m_Rule:mg "Rule" = some (.ref a.c_Rule)
 C_LeastRule:Cls K a.c_LeastRule
 m_LeastRule:mg "LeastRule" = some (.ref a.c_LeastRule)
 C_FarRule:Cls K a.c_FarRule
 m_FarRule:mg "FarRule" = some (.ref a.c_FarRule)
 C_GrowRule:Cls K a.c_GrowRule
 m_GrowRule:mg "GrowRule" = some (.ref a.c_GrowRule)
 C_Net:Cls K a.c_Net
 m_Net:mg "Net" = some (.ref a.c_Net)
 M_FarRule:Mk K a.c_FarRule a.f_zt
 M_GrowRule:Mk K a.c_GrowRule a.f_zm
 M_Net:Mk K a.c_Net a.f_zaq
 n_Rule:NoAtts K a.c_Rule
 n_LeastRule:NoAtts K a.c_LeastRule
 n_FarRule:NoAtts K a.c_FarRule
 n_GrowRule:NoAtts K a.c_GrowRule
 n_Net:NoAtts K a.c_Net
 H_FarRule_due:Meth K a.c_FarRule "due" a.f_zl
 H_FarRule_has_offer:Meth K a.c_FarRule "has_offer" a.f_za
 H_FarRule_measure:Meth K a.c_FarRule "measure" a.f_zc
 H_FarRule_most:Meth K a.c_FarRule "most" a.f_zg
 H_FarRule_reach:Meth K a.c_FarRule "reach" a.f_zae
 H_FarRule_read:Meth K a.c_FarRule "read" a.f_zan
 H_FarRule_soon:Meth K a.c_FarRule "soon" a.f_zal
 H_ze:Meth K a.c_GrowRule "counts" a.f_ze
 H_zu:Meth K a.c_GrowRule "due" a.f_zu
 H_zb:Meth K a.c_GrowRule "due_count" a.f_zb
 H_zh:Meth K a.c_GrowRule "elder" a.f_zh
 H_zf:Meth K a.c_GrowRule "elders" a.f_zf
 H_zk:Meth K a.c_GrowRule "fars" a.f_zk
 H_zd:Meth K a.c_GrowRule "measure" a.f_zd
 H_zo:Meth K a.c_GrowRule "most" a.f_zo
 H_zi:Meth K a.c_GrowRule "parts" a.f_zi
 H_GrowRule_reach:Meth K a.c_GrowRule "reach" a.f_zae
 H_GrowRule_read:Meth K a.c_GrowRule "read" a.f_zan
 H_GrowRule_soon:Meth K a.c_GrowRule "soon" a.f_zal
 H_zl:Meth K a.c_LeastRule "due" a.f_zl
 H_za:Meth K a.c_LeastRule "has_offer" a.f_za
 H_zc:Meth K a.c_LeastRule "measure" a.f_zc
 H_zg:Meth K a.c_LeastRule "most" a.f_zg
 H_LeastRule_reach:Meth K a.c_LeastRule "reach" a.f_zae
 H_LeastRule_read:Meth K a.c_LeastRule "read" a.f_zan
 H_LeastRule_soon:Meth K a.c_LeastRule "soon" a.f_zal
 H_zab:Meth K a.c_Net "beside" a.f_zab
 H_zat:Meth K a.c_Rule "due" a.f_zat
 H_zr:Meth K a.c_Rule "measure" a.f_zr
 H_zai:Meth K a.c_Rule "most" a.f_zai
 H_zae:Meth K a.c_Rule "reach" a.f_zae
 H_zan:Meth K a.c_Rule "read" a.f_zan
 H_zal:Meth K a.c_Rule "soon" a.f_zal
 U_LeastRule:Sup K a.c_LeastRule a.f_zj
 U_Rule:Sup K a.c_Rule a.f_zag
 m_BadNet:mg "BadNet" = some (.ref a.x_BadNet)
 m_BadRule:mg "BadRule" = some (.ref a.x_BadRule)
 m_BadState:mg "BadState" = some (.ref a.x_BadState)
 m_NoMeasure:mg "NoMeasure" = some (.ref a.x_NoMeasure)
 b_len:mg "len" = none
 b_range:mg "range" = none
 b_sorted:mg "sorted" = none
 b_max:mg "max" = none
 b_min:mg "min" = none
 b_tuple:mg "tuple" = none
 b_list:mg "list" = none
 b_isinstance:mg "isinstance" = none
 b_bool:mg "bool" = none
 b_int:mg "int" = none
 b_all:mg "all" = none
 b_zip:mg "zip" = none
 b_sum:mg "sum" = none
 c_GREATEST_NET:∃ tk,mg "GREATEST_NET" = some (.int (10) tk)
 c_GREATEST_PART:∃ tk,mg "GREATEST_PART" = some (.int (10) tk)
 c_LEAST_NET:∃ tk,mg "LEAST_NET" = some (.int (1) tk)
 xs:∀ C ∈ xl a,excB K C=true
section
variable {P:Program}{w:World}{K:PySem.W.Frag}{mg:Str→Option Value}{base:Heap}{a:A}
theorem Txt.e_BadNet (t:Txt w K mg a):PySem.W.excIn K a.x_BadNet [.type "ValueError", .type "Exception", .type "BaseException", .type "object"] "ValueError.__new__" = true:=(excB_of (t.xs _ (by simp [xl]))).2
theorem Txt.e_BadRule (t:Txt w K mg a):PySem.W.excIn K a.x_BadRule [.type "ValueError", .type "Exception", .type "BaseException", .type "object"] "ValueError.__new__" = true:=(excB_of (t.xs _ (by simp [xl]))).2
theorem Txt.e_BadState (t:Txt w K mg a):PySem.W.excIn K a.x_BadState [.type "ValueError", .type "Exception", .type "BaseException", .type "object"] "ValueError.__new__" = true:=(excB_of (t.xs _ (by simp [xl]))).2
theorem Txt.e_NoMeasure (t:Txt w K mg a):PySem.W.excIn K a.x_NoMeasure [.type "ValueError", .type "Exception", .type "BaseException", .type "object"] "ValueError.__new__" = true:=(excB_of (t.xs _ (by simp [xl]))).2
theorem Txt.cls (t:Txt w K mg a):∀ c < (T K a).nc,Cls (T K a).K ((T K a).cls c):=fun c h=>match c,h with
 | 0,_=>t.C_Rule
 | 1,_=>t.C_LeastRule
 | 2,_=>t.C_FarRule
 | 3,_=>t.C_GrowRule
 | 4,_=>t.C_Net
 | k+5,h=>absurd h (by show ¬ (k+5 < 5);omega)
theorem Txt.nas (t:Txt w K mg a):∀ c < (T K a).nc,NoAtts (T K a).K ((T K a).cls c):=fun c h=>match c,h with
 | 0,_=>t.n_Rule
 | 1,_=>t.n_LeastRule
 | 2,_=>t.n_FarRule
 | 3,_=>t.n_GrowRule
 | 4,_=>t.n_Net
 | k+5,h=>absurd h (by show ¬ (k+5 < 5);omega)
theorem Txt.na_size (t:Txt w K mg a) (c:Nat) (h:c < (T K a).nc):NoAttr (T K a).K ((T K a).cls c) "size" := (t.nas c h).at (by simp [attL])
theorem Txt.na_pairs (t:Txt w K mg a) (c:Nat) (h:c < (T K a).nc):NoAttr (T K a).K ((T K a).cls c) "pairs" := (t.nas c h).at (by simp [attL])
theorem Txt.na_near (t:Txt w K mg a) (c:Nat) (h:c < (T K a).nc):NoAttr (T K a).K ((T K a).cls c) "near" := (t.nas c h).at (by simp [attL])
theorem Txt.na_top (t:Txt w K mg a) (c:Nat) (h:c < (T K a).nc):NoAttr (T K a).K ((T K a).cls c) "top" := (t.nas c h).at (by simp [attL])
theorem Txt.na_net (t:Txt w K mg a) (c:Nat) (h:c < (T K a).nc):NoAttr (T K a).K ((T K a).cls c) "net" := (t.nas c h).at (by simp [attL])
theorem Txt.na_starts (t:Txt w K mg a) (c:Nat) (h:c < (T K a).nc):NoAttr (T K a).K ((T K a).cls c) "starts" := (t.nas c h).at (by simp [attL])
theorem Txt.na_stretch (t:Txt w K mg a) (c:Nat) (h:c < (T K a).nc):NoAttr (T K a).K ((T K a).cls c) "stretch" := (t.nas c h).at (by simp [attL])
theorem Txt.na_span (t:Txt w K mg a) (c:Nat) (h:c < (T K a).nc):NoAttr (T K a).K ((T K a).cls c) "span" := (t.nas c h).at (by simp [attL])
theorem Txt.na_alone (t:Txt w K mg a) (c:Nat) (h:c < (T K a).nc):NoAttr (T K a).K ((T K a).cls c) "alone" := (t.nas c h).at (by simp [attL])
theorem Txt.na_far_rule (t:Txt w K mg a) (c:Nat) (h:c < (T K a).nc):NoAttr (T K a).K ((T K a).cls c) "far_rule" := (t.nas c h).at (by simp [attL])
theorem Txt.na_root (t:Txt w K mg a) (c:Nat) (h:c < (T K a).nc):NoAttr (T K a).K ((T K a).cls c) "root" := (t.nas c h).at (by simp [attL])
theorem ok_zy (t:Txt w K mg a) (hB:K.In base):FnOk P w K mg base (CXP P w) 1 a.f_zy a.d_zy ["_law_script", "_law_k"] (spM (T K a) 2 f_zy):=by
 refine fn_okC (k:=0) (N:=["_law_script", "_law_k"]) (ps:=["_law_script", "_law_k"]) (T:=T K a) (m:=b_zy) t.F_zy sc_zy fun _ _ _ _ _ _ cx=>?_
 exact (ss_cons (ss_if (st_lt (sv 1) (se_len cx.hK rfl t.b_len (sv 0))) (ss_one (ss_ret (se_idx cx.hK (sv 0) (sv 1) (fun _ _=>rfl)))) ss_nil)
 (ss_one (ss_ret (se_int))))
theorem ok_zx (t:Txt w K mg a) (hB:K.In base):FnOk P w K mg base (CXP P w) 1 a.f_zx a.d_zx ["_law_cell", "_law_many"] (spM (T K a) 2 f_zx):=by
 refine fn_okC (k:=0) (N:=["_law_cell", "_law_many", "_law_number", "_law_found", "_law_k"]) (ps:=["_law_cell", "_law_many"]) (T:=T K a) (m:=b_zx) t.F_zx sc_zx fun _ _ _ _ _ _ cx=>?_
 exact (ss_cons (ss_set sc_zx.nd rfl (Or.inl rfl) (se_mod (sv 0) (se_int)))
 (ss_cons (ss_set sc_zx.nd rfl (Or.inl rfl) (se_lst sa_nil lenA_nil))
 (ss_cons (ss_for cx.po cx.calm (si_range1 rfl t.b_range (sa_cons (sv 1) sa_nil)) (sg_name sc_zx.nd rfl (Or.inl rfl)) (ss_cons (ss_set sc_zx.nd rfl (Or.inl rfl) (se_mod (se_add (se_add (se_mul (sv 2) (se_add (se_add (sv 2) (se_mul (se_int) (sv 4))) (se_int))) (se_mul (se_int) (sv 4))) (se_int)) (se_int)))
 (ss_one (ss_append cx.hK rfl (Or.inl rfl) (sv 2)))))
 (ss_one (ss_retV rfl (Or.inl rfl))))))
theorem ok_zau (t:Txt w K mg a) (hB:K.In base):FnOk P w K mg base (CXP P w) 2 a.f_zau a.d_zau ["_law_size", "_law_cell"] (spM (T K a) 2 f_zau):=by
 refine fn_okC (k:=1) (N:=["_law_size", "_law_cell", "_law_numbers_here", "_law_order", "_law_k", "_law_ways_here", "_law_j", "_law_more"]) (ps:=["_law_size", "_law_cell"]) (T:=T K a) (m:=b_zau) t.F_zau sc_zau fun _ _ _ _ _ _ cx=>?_
 exact (ss_cons (ss_set sc_zau.nd rfl (Or.inl rfl) (se_callN (ok_zx t hB) cx (by decide) rfl t.m_zx t.F_zx.kp t.B_zx (lenA_cons (lenA_cons lenA_nil)) rfl (sa_cons (sv 1) (sa_cons (sv 0) sa_nil))))
 (ss_cons (ss_set sc_zau.nd rfl (Or.inl rfl) (se_lst sa_nil lenA_nil))
 (ss_cons (ss_for cx.po cx.calm (si_range1 rfl t.b_range (sa_cons (sv 0) sa_nil)) (sg_name sc_zau.nd rfl (Or.inl rfl)) (ss_one (ss_insert cx.hK rfl (Or.inl rfl) (se_mod (se_idx cx.hK (sv 2) (sv 4) (fun _ _=>rfl)) (se_add (sv 4) (se_int))) (sv 4))))
 (ss_cons (ss_set sc_zau.nd rfl (Or.inl rfl) (se_lst sa_nil lenA_nil))
 (ss_cons (ss_for cx.po cx.calm (si_range2 rfl t.b_range (sa_cons (se_int) (sa_cons (sv 0) sa_nil))) (sg_name sc_zau.nd rfl (Or.inl rfl)) (ss_one (ss_append cx.hK rfl (Or.inl rfl) (se_tup (sa_cons (se_idx cx.hK (sv 3) (sv 4) (fun _ _=>rfl)) (sa_cons (se_idx cx.hK (sv 3) (se_mod (se_div (se_idx cx.hK (sv 2) (sv 4) (fun _ _=>rfl)) (se_int)) (sv 4)) (fun _ _=>rfl)) sa_nil)) (lenA_cons (lenA_cons lenA_nil))))))
 (ss_cons (ss_for cx.po cx.calm (si_range1 rfl t.b_range (sa_cons (sv 0) sa_nil)) (sg_name sc_zau.nd rfl (Or.inl rfl)) (ss_one (ss_for cx.po cx.calm (si_range1 rfl t.b_range (sa_cons (sv 4) sa_nil)) (sg_name sc_zau.nd rfl (Or.inl rfl)) (ss_cons (ss_set sc_zau.nd rfl (Or.inl rfl) ((se_or (se_eq cx.hK cx.hu (se_mod (sv 1) (se_int)) (se_int)) (se_one ((se_and (se_eq cx.hK cx.hu (se_mod (se_add (se_div (se_idx cx.hK (sv 2) (sv 4) (fun _ _=>rfl)) (se_int)) (sv 6)) (sv 0)) (se_int)) (se_one (se_eq cx.hK cx.hu (se_mod (se_div (se_idx cx.hK (sv 2) (sv 4) (fun _ _=>rfl)) (se_int)) (se_int)) (se_int)))))))))
 (ss_one (ss_if (SW.st (sw_and (st_truth cx.hK (sv 7)) (sw_and (st_notIn cx.hK cx.hu2 (se_tup (sa_cons (sv 6) (sa_cons (sv 4) sa_nil)) (lenA_cons (lenA_cons lenA_nil))) (sv 5)) (sw_and1 (st_notIn cx.hK cx.hu2 (se_tup (sa_cons (sv 4) (sa_cons (sv 6) sa_nil)) (lenA_cons (lenA_cons lenA_nil))) (sv 5)))))) (ss_one (ss_append cx.hK rfl (Or.inl rfl) (se_tup (sa_cons (sv 6) (sa_cons (sv 4) sa_nil)) (lenA_cons (lenA_cons lenA_nil))))) ss_nil))))))
 (ss_one (ss_retV rfl (Or.inl rfl)))))))))
theorem ok_zas (t:Txt w K mg a) (hB:K.In base):FnOk P w K mg base (CXP P w) 1 a.f_zas a.d_zas ["_law_size", "_law_ways_here"] (spM (T K a) 2 f_zas):=by
 refine fn_okC (k:=0) (N:=["_law_size", "_law_ways_here", "_law_near_here", "_law_one", "_law_other"]) (ps:=["_law_size", "_law_ways_here"]) (T:=T K a) (m:=b_zas) t.F_zas sc_zas fun _ _ _ _ _ _ cx=>?_
 exact (ss_cons (ss_setC (comp_of (scD:=defScope s_zas) (NX:=["_law_size", "_law_ways_here", "_law_near_here", "_law_one", "_law_other"]) (caps:=[]) (N:=["_law_k"]) (tn:=["_law_k"]) (by decide +kernel) rfl rfl) cx.calm sc_zas.nd rfl (Or.inl rfl) (sic_range1 rfl t.b_range (sa_cons (sv 0) sa_nil)) (tgk_name (by decide)) (fun C s H ex=>⟨(sg_name (by decide:(["_law_k"]:List Str).Nodup) rfl (Or.inl rfl)),sts_nil,(se_lst sa_nil lenA_nil)⟩))
 (ss_cons (ss_for cx.po cx.calm (si_seq cx.hK (sv 1)) (sg_tup cx.hK cx.calm (sgs_cons sc_zas.nd rfl (Or.inl rfl) (sgs_cons sc_zas.nd rfl (Or.inl rfl) sgs_nil))) (ss_cons (ss_appIx cx.hK rfl (Or.inl rfl) rfl (Or.inl rfl) (sv 4) (fun _ _=>rfl))
 (ss_one (ss_appIx cx.hK rfl (Or.inl rfl) rfl (Or.inl rfl) (sv 3) (fun _ _=>rfl)))))
 (ss_one (ss_ret (se_comp (comp_of (scD:=defScope s_zas) (NX:=["_law_size", "_law_ways_here", "_law_near_here", "_law_one", "_law_other"]) (caps:=[]) (N:=["_law_row"]) (tn:=["_law_row"]) (by decide +kernel) rfl rfl) cx.calm (sic_seq cx.hK (sv 2)) (tgk_name (by decide)) (fun C s H ex=>⟨(sg_name (by decide:(["_law_row"]:List Str).Nodup) rfl (Or.inl rfl)),sts_nil,(se_sorted cx.comp.hK rfl t.b_sorted (sv 0))⟩))))))
theorem ok_zz (t:Txt w K mg a) (hB:K.In base):FnOk P w K mg base (CXP P w) 1 a.f_zz a.d_zz ["size", "least"] (spM (T K a) 2 f_zz):=by
 refine fn_okC (k:=0) (N:=["size", "least"]) (ps:=["size", "least"]) (T:=T K a) (m:=b_zz) t.F_zz sc_zz fun _ _ _ _ _ _ cx=>?_
 exact (ss_one (ss_if (SW.st (sw_or (st_lt (sv 0) (sv 1)) (sw_or1 (st_gt (sv 0) (se_globE rfl t.c_GREATEST_NET))))) (ss_one (ss_raiseN (c:=1) cx t.m_BadNet hB t.e_BadNet xm_def rfl (lenA_cons lenA_nil) (by decide) (sa_cons (se_str) sa_nil))) ss_nil))
theorem ok_zq (t:Txt w K mg a) (hB:K.In base):FnOk P w K mg base (CXP P w) 1 a.f_zq a.d_zq ["size", "ways"] (spM (T K a) 2 f_zq):=by
 refine fn_okC (k:=0) (N:=["size", "ways", "pairs", "way", "pair"]) (ps:=["size", "ways"]) (T:=T K a) (m:=b_zq) t.F_zq sc_zq fun _ _ _ _ _ _ cx=>?_
 exact (ss_cons (ss_set sc_zq.nd rfl (Or.inl rfl) (se_lst sa_nil lenA_nil))
 (ss_cons (ss_for cx.po cx.calm (si_seq cx.hK (sv 1)) (sg_name sc_zq.nd rfl (Or.inl rfl)) (ss_cons (ss_set sc_zq.nd rfl (Or.inl rfl) (se_tup (sa_cons (se_min1 cx.hK cx.calm rfl t.b_min (sv 3)) (sa_cons (se_max1 cx.hK cx.calm rfl t.b_max (sv 3)) sa_nil)) (lenA_cons (lenA_cons lenA_nil))))
 (ss_cons (ss_if (SW.st (sw_or (st_lt (se_idx cx.hK (sv 4) (se_int) (fun _ _=>rfl)) (se_int)) (sw_or1 (st_ge (se_idx cx.hK (sv 4) (se_int) (fun _ _=>rfl)) (sv 0))))) (ss_one (ss_raiseN (c:=1) cx t.m_BadNet hB t.e_BadNet xm_def rfl (lenA_cons lenA_nil) (by decide) (sa_cons (se_str) sa_nil))) ss_nil)
 (ss_cons (ss_if (st_eq cx.hK cx.hu (se_idx cx.hK (sv 4) (se_int) (fun _ _=>rfl)) (se_idx cx.hK (sv 4) (se_int) (fun _ _=>rfl))) (ss_one (ss_raiseN (c:=1) cx t.m_BadNet hB t.e_BadNet xm_def rfl (lenA_cons lenA_nil) (by decide) (sa_cons (se_str) sa_nil))) ss_nil)
 (ss_cons (ss_if (st_in cx.hK cx.hu2 (sv 4) (sv 2)) (ss_one (ss_raiseN (c:=1) cx t.m_BadNet hB t.e_BadNet xm_def rfl (lenA_cons lenA_nil) (by decide) (sa_cons (se_str) sa_nil))) ss_nil)
 (ss_one (ss_append cx.hK rfl (Or.inl rfl) (sv 4))))))))
 (ss_one (ss_ret (se_sorted cx.hK rfl t.b_sorted (sv 2))))))
theorem ok_zad (t:Txt w K mg a) (hB:K.In base):FnOk P w K mg base (CXP P w) 1 a.f_zad a.d_zad ["pairs", "at"] (spM (T K a) 2 f_zad):=by
 refine fn_okC (k:=0) (N:=["pairs", "at", "lower", "higher"]) (ps:=["pairs", "at"]) (T:=T K a) (m:=b_zad) t.F_zad sc_zad fun _ _ _ _ _ _ cx=>?_
 exact (ss_cons (ss_setC (comp_of (scD:=defScope s_zad) (NX:=["pairs", "at", "lower", "higher"]) (caps:=[1]) (N:=["at", "pair"]) (tn:=["pair"]) (by decide +kernel) rfl rfl) cx.calm sc_zad.nd rfl (Or.inl rfl) (sic_seq cx.hK (sv 0)) (tgk_name (by decide)) (fun C s H ex=>⟨(sg_name (by decide:(["at", "pair"]:List Str).Nodup) rfl (Or.inl rfl)),(sts_one (st_eq cx.comp.hK cx.comp.hu (se_idx cx.comp.hK (sv 1) (se_int) (fun _ _=>rfl)) (sv 0))),(se_idx cx.comp.hK (sv 1) (se_int) (fun _ _=>rfl))⟩))
 (ss_cons (ss_setC (comp_of (scD:=defScope s_zad) (NX:=["pairs", "at", "lower", "higher"]) (caps:=[1]) (N:=["at", "pair"]) (tn:=["pair"]) (by decide +kernel) rfl rfl) cx.calm sc_zad.nd rfl (Or.inl rfl) (sic_seq cx.hK (sv 0)) (tgk_name (by decide)) (fun C s H ex=>⟨(sg_name (by decide:(["at", "pair"]:List Str).Nodup) rfl (Or.inl rfl)),(sts_one (st_eq cx.comp.hK cx.comp.hu (se_idx cx.comp.hK (sv 1) (se_int) (fun _ _=>rfl)) (sv 0))),(se_idx cx.comp.hK (sv 1) (se_int) (fun _ _=>rfl))⟩))
 (ss_one (ss_ret (se_sorted cx.hK rfl t.b_sorted (se_add (sv 2) (sv 3)))))))
theorem ok_zab (t:Txt w K mg a) (hB:K.In base):FnOk P w K mg base (CXP P w) 1 a.f_zab a.d_zab ["self", "at"] (spM (T K a) 2 f_zab):=by
 refine fn_okC (k:=0) (N:=["self", "at"]) (ps:=["self", "at"]) (T:=T K a) (m:=b_zab) t.F_zab sc_zab fun _ _ _ _ _ _ cx=>?_
 exact (ss_one (ss_ret (se_list cx.hK rfl t.b_list bb_list (se_idx cx.hK (se_attr (k:=2) cx.hK rfl t.cls t.na_near (sv 0)) (sv 1) (fun _ _=>rfl)))))
theorem ok_dsp_beside_4 {X:Cx} (t:Txt X.w X.K X.mg a) (hB:X.K.In X.base):Disp X (T X.K a) 1 "beside" ["self", "at"] [] dsp_beside_4:=by
 intro c m hc e
 match c,hc,e with
 | 4,_,e=>cases e;exact ⟨_,_,t.H_zab,t.B_zab,(ok_zab t hB).mono (by decide)⟩
 | 0,_,e=>cases e
 | 1,_,e=>cases e
 | 2,_,e=>cases e
 | 3,_,e=>cases e
 | n+5,h,_=>exact absurd h (by show ¬ (n+5 < 5);omega)
theorem ok_zao (t:Txt w K mg a) (hB:K.In base):FnOk P w K mg base (CXP P w) 2 a.f_zao a.d_zao ["net", "root"] (spM (T K a) 2 f_zao):=by
 refine fn_okC (k:=1) (N:=["net", "root", "far", "steps", "at", "other"]) (ps:=["net", "root"]) (T:=T K a) (m:=b_zao) t.F_zao sc_zao fun _ _ _ _ _ _ cx=>?_
 exact (ss_cons (ss_setC (comp_of (scD:=defScope s_zao) (NX:=["net", "root", "far", "steps", "at", "other"]) (caps:=[0]) (N:=["net", "at"]) (tn:=["at"]) (by decide +kernel) rfl rfl) cx.calm sc_zao.nd rfl (Or.inl rfl) (sic_range1 rfl t.b_range (sa_cons (se_attr (k:=0) cx.hK rfl t.cls t.na_size (sv 0)) sa_nil)) (tgk_name (by decide)) (fun C s H ex=>⟨(sg_name (by decide:(["net", "at"]:List Str).Nodup) rfl (Or.inl rfl)),sts_nil,(se_attr (k:=0) cx.comp.hK rfl t.cls t.na_size (sv 0))⟩))
 (ss_cons (ss_setIx rfl (Or.inl rfl) (sv 1) (se_int))
 (ss_cons (ss_for cx.po cx.calm (si_range1 rfl t.b_range (sa_cons (se_attr (k:=0) cx.hK rfl t.cls t.na_size (sv 0)) sa_nil)) (sg_name sc_zao.nd rfl (Or.inl rfl)) (ss_one (ss_for cx.po cx.calm (si_range1 rfl t.b_range (sa_cons (se_attr (k:=0) cx.hK rfl t.cls t.na_size (sv 0)) sa_nil)) (sg_name sc_zao.nd rfl (Or.inl rfl)) (ss_one (ss_if (st_eq cx.hK cx.hu (se_idx cx.hK (sv 2) (sv 4) (fun _ _=>rfl)) (sv 3)) (ss_one (ss_for cx.po cx.calm (si_seq cx.hK (se_met cx t.cls att_beside (ok_dsp_beside_4 t hB) (by decide) (lenA_cons lenA_nil) rfl (sv 0) (sa_cons (sv 4) sa_nil))) (sg_name sc_zao.nd rfl (Or.inl rfl)) (ss_one (ss_setIx rfl (Or.inl rfl) (sv 5) (se_min2 cx.calm rfl t.b_min (sa_cons (se_idx cx.hK (sv 2) (sv 5) (fun _ _=>rfl)) (sa_cons (se_add (sv 3) (se_int)) sa_nil))))))) ss_nil)))))
 (ss_one (ss_retV rfl (Or.inl rfl))))))
theorem ok_zaq (t:Txt w K mg a) (hB:K.In base):FnOk P w K mg base (CXP P w) 3 a.f_zaq a.d_zaq ["self", "size", "ways"] (spI (T K a) 3 f_zaq):=by
 refine fnI_okC (k:=2) (N:=["self", "size", "ways"]) (ps:=["self", "size", "ways"]) (T:=T K a) (m:=b_zaq) t.F_zaq sc_zaq fun _ _ _ _ _ _ cx=>?_
 exact (ss_cons (ss_expr (se_callN (ok_zz t hB) cx (by decide) rfl t.m_zz t.F_zz.kp t.B_zz (lenA_cons (lenA_cons lenA_nil)) rfl (sa_cons (sv 1) (sa_cons (se_globE rfl t.c_LEAST_NET) sa_nil))))
 (ss_cons (ss_fld (k:=0) cx.hK rfl t.cls t.na_size rfl (Or.inr (Or.inl rfl)) (sv 1))
 (ss_cons (ss_fld (k:=1) cx.hK rfl t.cls t.na_pairs rfl (Or.inr (Or.inl rfl)) (se_tuple cx.hK rfl t.b_tuple bb_tuple (se_callN (ok_zq t hB) cx (by decide) rfl t.m_zq t.F_zq.kp t.B_zq (lenA_cons (lenA_cons lenA_nil)) rfl (sa_cons (sv 1) (sa_cons (sv 2) sa_nil)))))
 (ss_cons (ss_fld (k:=2) cx.hK rfl t.cls t.na_near rfl (Or.inr (Or.inl rfl)) (se_tuple cx.hK rfl t.b_tuple bb_tuple (se_comp (comp_of (scD:=defScope s_zaq) (NX:=["self", "size", "ways"]) (caps:=[0]) (N:=["self", "at"]) (tn:=["at"]) (by decide +kernel) rfl rfl) cx.calm (sic_range1 rfl t.b_range (sa_cons (sv 1) sa_nil)) (tgk_name (by decide)) (fun C s H ex=>⟨(sg_name (by decide:(["self", "at"]:List Str).Nodup) rfl (Or.inl rfl)),sts_nil,(se_tuple cx.comp.hK rfl t.b_tuple bb_tuple (se_callN (ok_zad t hB) cx.comp (by decide) rfl t.m_zad t.F_zad.kp t.B_zad (lenA_cons (lenA_cons lenA_nil)) rfl (sa_cons (se_attr (k:=1) cx.comp.hK rfl t.cls t.na_pairs (sv 0)) (sa_cons (sv 1) sa_nil))))⟩))))
 (ss_one (ss_if (st_eq cx.hK cx.hu (se_max1 cx.hK cx.calm rfl t.b_max (se_callN (ok_zao t hB) cx (by decide) rfl t.m_zao t.F_zao.kp t.B_zao (lenA_cons (lenA_cons lenA_nil)) rfl (sa_cons (sv 0) (sa_cons (se_int) sa_nil)))) (sv 1)) (ss_one (ss_raiseN (c:=1) cx t.m_BadNet hB t.e_BadNet xm_def rfl (lenA_cons lenA_nil) (by decide) (sa_cons (se_str) sa_nil))) ss_nil))))))
theorem ok_zw (t:Txt w K mg a) (hB:K.In base):FnOk P w K mg base (CXP P w) 1 a.f_zw a.d_zw ["part"] (spM (T K a) 1 f_zw):=by
 refine fn_okC (k:=0) (N:=["part"]) (ps:=["part"]) (T:=T K a) (m:=b_zw) t.F_zw sc_zw fun _ _ _ _ _ _ cx=>?_
 exact (ss_one (ss_if (SW.st (sw_or (st_lt (sv 0) (se_int)) (sw_or1 (st_gt (sv 0) (se_globE rfl t.c_GREATEST_PART))))) (ss_one (ss_raiseN (c:=2) cx t.m_BadRule hB t.e_BadRule xm_def rfl (lenA_cons lenA_nil) (by decide) (sa_cons (se_str) sa_nil))) ss_nil))
theorem ok_zn (t:Txt w K mg a) (hB:K.In base):FnOk P w K mg base (CXP P w) 1 a.f_zn a.d_zn ["net", "starts", "top"] (spM (T K a) 3 f_zn):=by
 refine fn_okC (k:=0) (N:=["net", "starts", "top", "start"]) (ps:=["net", "starts", "top"]) (T:=T K a) (m:=b_zn) t.F_zn sc_zn fun _ _ _ _ _ _ cx=>?_
 exact (ss_cons (ss_if (st_ne cx.hK cx.hu (se_len cx.hK rfl t.b_len (sv 1)) (se_attr (k:=0) cx.hK rfl t.cls t.na_size (sv 0))) (ss_one (ss_raiseN (c:=2) cx t.m_BadRule hB t.e_BadRule xm_def rfl (lenA_cons lenA_nil) (by decide) (sa_cons (se_str) sa_nil))) ss_nil)
 (ss_one (ss_for cx.po cx.calm (si_seq cx.hK (sv 1)) (sg_name sc_zn.nd rfl (Or.inl rfl)) (ss_one (ss_if (SW.st (sw_and (st_notN (sv 3) (se_non)) (sw_and1 (SW.st (sw_or (st_lt (sv 3) (se_int)) (sw_or1 (st_ge (sv 3) (sv 2)))))))) (ss_one (ss_raiseN (c:=2) cx t.m_BadRule hB t.e_BadRule xm_def rfl (lenA_cons lenA_nil) (by decide) (sa_cons (se_str) sa_nil))) ss_nil)))))
theorem ok_zag (t:Txt w K mg a) (hB:K.In base):FnOk P w K mg base (CXP P w) 1 a.f_zag a.d_zag ["self", "size", "span", "alone"] (spI (T K a) 4 f_zag):=by
 refine fnI_okC (k:=0) (N:=["self", "size", "span", "alone"]) (ps:=["self", "size", "span", "alone"]) (T:=T K a) (m:=b_zag) t.F_zag sc_zag fun _ _ _ _ _ _ cx=>?_
 exact (ss_cons (ss_fld (k:=0) cx.hK rfl t.cls t.na_size rfl (Or.inl rfl) (sv 1))
 (ss_cons (ss_fld (k:=7) cx.hK rfl t.cls t.na_span rfl (Or.inl rfl) (sv 2))
 (ss_one (ss_fld (k:=8) cx.hK rfl t.cls t.na_alone rfl (Or.inl rfl) (sv 3)))))
theorem ok_zj (t:Txt w K mg a) (hB:K.In base):FnOk P w K mg base (CXP P w) 3 a.f_zj a.d_zj ["self", "net", "starts", "stretch", "blocks"] (spI (T K a) 5 f_zj):=by
 refine fnI_okC (k:=2) (N:=["self", "net", "starts", "stretch", "blocks"]) (ps:=["self", "net", "starts", "stretch", "blocks"]) (T:=T K a) (m:=b_zj) t.F_zj sc_zj fun _ _ _ _ _ _ cx=>?_
 exact (ss_cons (ss_expr (se_callN (ok_zw t hB) cx (by decide) rfl t.m_zw t.F_zw.kp t.B_zw (lenA_cons lenA_nil) rfl (sa_cons (sv 3) sa_nil)))
 (ss_cons (ss_expr (se_callN (ok_zw t hB) cx (by decide) rfl t.m_zw t.F_zw.kp t.B_zw (lenA_cons lenA_nil) rfl (sa_cons (sv 4) sa_nil)))
 (ss_cons (ss_fld (k:=3) cx.hK rfl t.cls t.na_top rfl (Or.inl rfl) (se_mul (sv 3) (sv 4)))
 (ss_cons (ss_expr (se_callN (ok_zn t hB) cx (by decide) rfl t.m_zn t.F_zn.kp t.B_zn (lenA_cons (lenA_cons (lenA_cons lenA_nil))) rfl (sa_cons (sv 1) (sa_cons (sv 2) (sa_cons (se_attr (k:=3) cx.hK rfl t.cls t.na_top (sv 0)) sa_nil)))))
 (ss_frz (i:=1) (ss_cons (ss_fld (k:=4) cx.hK rfl t.cls t.na_net rfl (Or.inl rfl) (sv 1))
 (ss_cons (ss_fld (k:=5) cx.hK rfl t.cls t.na_starts rfl (Or.inl rfl) (se_tuple cx.hK rfl t.b_tuple bb_tuple (sv 2)))
 (ss_cons (ss_fld (k:=6) cx.hK rfl t.cls t.na_stretch rfl (Or.inl rfl) (sv 3))
 (ss_one (ss_sup cx t.U_Rule (ok_zag t hB) (by decide) rfl t.m_Rule t.B_zag rfl (Or.inl rfl) (lenA_cons (lenA_cons (lenA_cons lenA_nil))) rfl (sa_cons (se_attr (k:=0) cx.hK rfl t.cls t.na_size (sv 1)) (sa_cons (se_add (se_attr (k:=3) cx.hK rfl t.cls t.na_top (sv 0)) (se_int)) (sa_cons (se_bl) sa_nil)))))))))))))
theorem ok_zt (t:Txt w K mg a) (hB:K.In base):FnOk P w K mg base (CXP P w) 5 a.f_zt a.d_zt ["self", "net", "root"] (spI (T K a) 3 f_zt):=by
 refine fnI_okC (k:=4) (N:=["self", "net", "root", "starts"]) (ps:=["self", "net", "root"]) (T:=T K a) (m:=b_zt) t.F_zt sc_zt fun _ _ _ _ _ _ cx=>?_
 exact (ss_cons (ss_if (SW.st (sw_or (st_lt (sv 2) (se_int)) (sw_or1 (st_ge (sv 2) (se_attr (k:=0) cx.hK rfl t.cls t.na_size (sv 1)))))) (ss_one (ss_raiseN (c:=2) cx t.m_BadRule hB t.e_BadRule xm_def rfl (lenA_cons lenA_nil) (by decide) (sa_cons (se_str) sa_nil))) ss_nil)
 (ss_cons (ss_setC (comp_of (scD:=defScope s_zt) (NX:=["self", "net", "root", "starts"]) (caps:=[2]) (N:=["root", "at"]) (tn:=["at"]) (by decide +kernel) rfl rfl) cx.calm sc_zt.nd rfl (Or.inl rfl) (sic_range1 rfl t.b_range (sa_cons (se_attr (k:=0) cx.hK rfl t.cls t.na_size (sv 1)) sa_nil)) (tgk_name (by decide)) (fun C s H ex=>⟨(sg_name (by decide:(["root", "at"]:List Str).Nodup) rfl (Or.inl rfl)),sts_nil,(se_ifExp (st_eq cx.comp.hK cx.comp.hu (sv 1) (sv 0)) (se_int) (se_non))⟩))
 (ss_frz (i:=3) (ss_one (ss_sup cx t.U_LeastRule (ok_zj t hB) (by decide) rfl t.m_LeastRule t.B_zj rfl (Or.inl rfl) (lenA_cons (lenA_cons (lenA_cons (lenA_cons lenA_nil)))) rfl (sa_cons (sv 1) (sa_cons (sv 3) (sa_cons (se_attr (k:=0) cx.hK rfl t.cls t.na_size (sv 1)) (sa_cons (se_int) sa_nil)))))))))
theorem ok_zm (t:Txt w K mg a) (hB:K.In base):FnOk P w K mg base (CXP P w) 7 a.f_zm a.d_zm ["self", "net", "root"] (spI (T K a) 3 f_zm):=by
 refine fnI_okC (k:=6) (N:=["self", "net", "root"]) (ps:=["self", "net", "root"]) (T:=T K a) (m:=b_zm) t.F_zm sc_zm fun _ _ _ _ _ _ cx=>?_
 exact (ss_frz (i:=1) (ss_cons (ss_fld (k:=9) cx.hK rfl t.cls t.na_far_rule rfl (Or.inl rfl) (se_new (c:=2) t.M_FarRule (by show 2 < 5;decide) (ok_zt t hB) cx (by decide) rfl t.m_FarRule t.B_zt (lenA_cons (lenA_cons lenA_nil)) rfl (sa_cons (sv 1) (sa_cons (sv 2) sa_nil))))
 (ss_cons (ss_fld (k:=4) cx.hK rfl t.cls t.na_net rfl (Or.inl rfl) (sv 1))
 (ss_cons (ss_fld (k:=10) cx.hK rfl t.cls t.na_root rfl (Or.inl rfl) (sv 2))
 (ss_one (ss_sup cx t.U_Rule (ok_zag t hB) (by decide) rfl t.m_Rule t.B_zag rfl (Or.inl rfl) (lenA_cons (lenA_cons (lenA_cons lenA_nil))) rfl (sa_cons (se_attr (k:=0) cx.hK rfl t.cls t.na_size (sv 1)) (sa_cons (se_mul (se_add (se_attr (k:=0) cx.hK rfl t.cls t.na_size (sv 1)) (se_int)) (se_add (se_attr (k:=0) cx.hK rfl t.cls t.na_size (sv 1)) (se_int))) (sa_cons (se_bl) sa_nil)))))))))
theorem ok_zai (t:Txt w K mg a) (hB:K.In base):FnOk P w K mg base (CXP P w) 1 a.f_zai a.d_zai ["self"] (spM (T K a) 1 f_zai):=by
 refine fn_okC (k:=0) (N:=["self"]) (ps:=["self"]) (T:=T K a) (m:=b_zai) t.F_zai sc_zai fun _ _ _ _ _ _ cx=>?_
 exact (ss_one (ss_raiseN (c:=4) cx t.m_NoMeasure hB t.e_NoMeasure xm_def rfl (lenA_cons lenA_nil) (by decide) (sa_cons (se_str) sa_nil)))
theorem ok_zaw (t:Txt w K mg a) (hB:K.In base):FnOk P w K mg base (CXP P w) 1 a.f_zaw a.d_zaw ["base", "exponent"] (spM (T K a) 2 f_zaw):=by
 refine fn_okC (k:=0) (N:=["base", "exponent", "product", "step"]) (ps:=["base", "exponent"]) (T:=T K a) (m:=b_zaw) t.F_zaw sc_zaw fun _ _ _ _ _ _ cx=>?_
 exact (ss_cons (ss_set sc_zaw.nd rfl (Or.inl rfl) (se_int))
 (ss_cons (ss_for cx.po cx.calm (si_range1 rfl t.b_range (sa_cons (sv 1) sa_nil)) (sg_name sc_zaw.nd rfl (Or.inl rfl)) (ss_one (ss_set sc_zaw.nd rfl (Or.inl rfl) (se_mul (sv 2) (sv 0)))))
 (ss_one (ss_retV rfl (Or.inl rfl)))))
theorem ok_zg (t:Txt w K mg a) (hB:K.In base):FnOk P w K mg base (CXP P w) 2 a.f_zg a.d_zg ["self"] (spM (T K a) 1 f_zg):=by
 refine fn_okC (k:=1) (N:=["self"]) (ps:=["self"]) (T:=T K a) (m:=b_zg) t.F_zg sc_zg fun _ _ _ _ _ _ cx=>?_
 exact (ss_one (ss_ret (se_sub (se_callN (ok_zaw t hB) cx (by decide) rfl t.m_zaw t.F_zaw.kp t.B_zaw (lenA_cons (lenA_cons lenA_nil)) rfl (sa_cons (se_add (se_attr (k:=0) cx.hK rfl t.cls t.na_size (sv 0)) (se_int)) (sa_cons (se_mul (se_int) (se_attr (k:=3) cx.hK rfl t.cls t.na_top (sv 0))) sa_nil))) (se_int))))
theorem ok_dsp_most_2 {X:Cx} (t:Txt X.w X.K X.mg a) (hB:X.K.In X.base):Disp X (T X.K a) 2 "most" ["self"] [] dsp_most_2:=by
 intro c m hc e
 match c,hc,e with
 | 2,_,e=>cases e;exact ⟨_,_,t.H_FarRule_most,t.B_zg,(ok_zg t hB).mono (by decide)⟩
 | 0,_,e=>cases e
 | 1,_,e=>cases e
 | 3,_,e=>cases e
 | 4,_,e=>cases e
 | n+5,h,_=>exact absurd h (by show ¬ (n+5 < 5);omega)
theorem ok_zo (t:Txt w K mg a) (hB:K.In base):FnOk P w K mg base (CXP P w) 3 a.f_zo a.d_zo ["self"] (spM (T K a) 1 f_zo):=by
 refine fn_okC (k:=2) (N:=["self"]) (ps:=["self"]) (T:=T K a) (m:=b_zo) t.F_zo sc_zo fun _ _ _ _ _ _ cx=>?_
 exact (ss_one (ss_ret (se_sub (se_mul (se_add (se_met0 cx t.cls att_most (ok_dsp_most_2 t hB) (by decide) rfl (se_attr (k:=9) cx.hK rfl t.cls t.na_far_rule (sv 0))) (se_int)) (se_callN (ok_zaw t hB) cx (by decide) rfl t.m_zaw t.F_zaw.kp t.B_zaw (lenA_cons (lenA_cons lenA_nil)) rfl (sa_cons (se_int) (sa_cons (se_attr (k:=0) cx.hK rfl t.cls t.na_size (sv 0)) sa_nil)))) (se_int))))
theorem ok_dsp_most_0_1_2_3 {X:Cx} (t:Txt X.w X.K X.mg a) (hB:X.K.In X.base):Disp X (T X.K a) 3 "most" ["self"] [] dsp_most_0_1_2_3:=by
 intro c m hc e
 match c,hc,e with
 | 0,_,e=>cases e;exact ⟨_,_,t.H_zai,t.B_zai,(ok_zai t hB).mono (by decide)⟩
 | 1,_,e=>cases e;exact ⟨_,_,t.H_zg,t.B_zg,(ok_zg t hB).mono (by decide)⟩
 | 2,_,e=>cases e;exact ⟨_,_,t.H_FarRule_most,t.B_zg,(ok_zg t hB).mono (by decide)⟩
 | 3,_,e=>cases e;exact ⟨_,_,t.H_zo,t.B_zo,(ok_zo t hB).mono (by decide)⟩
 | 4,_,e=>cases e
 | n+5,h,_=>exact absurd h (by show ¬ (n+5 < 5);omega)
theorem ok_zal (t:Txt w K mg a) (hB:K.In base):FnOk P w K mg base (CXP P w) 4 a.f_zal a.d_zal ["self", "count"] (spM (T K a) 2 f_zal):=by
 refine fn_okC (k:=3) (N:=["self", "count"]) (ps:=["self", "count"]) (T:=T K a) (m:=b_zal) t.F_zal sc_zal fun _ _ _ _ _ _ cx=>?_
 exact (ss_one (ss_ret (se_met0 cx t.cls att_most (ok_dsp_most_0_1_2_3 t hB) (by decide) rfl (sv 0))))
theorem ok_dsp_soon_0_1_2_3 {X:Cx} (t:Txt X.w X.K X.mg a) (hB:X.K.In X.base):Disp X (T X.K a) 4 "soon" ["self", "count"] [] dsp_soon_0_1_2_3:=by
 intro c m hc e
 match c,hc,e with
 | 0,_,e=>cases e;exact ⟨_,_,t.H_zal,t.B_zal,(ok_zal t hB).mono (by decide)⟩
 | 1,_,e=>cases e;exact ⟨_,_,t.H_LeastRule_soon,t.B_zal,(ok_zal t hB).mono (by decide)⟩
 | 2,_,e=>cases e;exact ⟨_,_,t.H_FarRule_soon,t.B_zal,(ok_zal t hB).mono (by decide)⟩
 | 3,_,e=>cases e;exact ⟨_,_,t.H_GrowRule_soon,t.B_zal,(ok_zal t hB).mono (by decide)⟩
 | 4,_,e=>cases e
 | n+5,h,_=>exact absurd h (by show ¬ (n+5 < 5);omega)
theorem ok_zak (t:Txt w K mg a) (hB:K.In base):FnOk P w K mg base (CXP P w) 1 a.f_zak a.d_zak ["_law_found"] (spM (T K a) 1 f_zak):=by
 refine fn_okC (k:=0) (N:=["_law_found"]) (ps:=["_law_found"]) (T:=T K a) (m:=b_zak) t.F_zak sc_zak fun _ _ _ _ _ _ cx=>?_
 exact (ss_one (ss_ret ((se_and (se_isi cx.hK kit_int rfl t.b_isinstance bb_isinstance rfl t.b_int bb_int (sv 0)) (se_one (se_not (se_isi cx.hK kit_bool rfl t.b_isinstance bb_isinstance rfl t.b_bool bb_bool (sv 0))))))))
theorem ok_zap (t:Txt w K mg a) (hB:K.In base):FnOk P w K mg base (CXP P w) 2 a.f_zap a.d_zap ["_law_found", "_law_due"] (spM (T K a) 2 f_zap):=by
 refine fn_okC (k:=1) (N:=["_law_found", "_law_due"]) (ps:=["_law_found", "_law_due"]) (T:=T K a) (m:=b_zap) t.F_zap sc_zap fun _ _ _ _ _ _ cx=>?_
 exact (ss_one (ss_ret ((se_and (se_isi cx.hK kit_list rfl t.b_isinstance bb_isinstance rfl t.b_list bb_list (sv 0)) (se_and (se_all cx.hK cx.calm rfl t.b_all (se_comp (comp_of (scD:=defScope s_zap) (NX:=["_law_found", "_law_due"]) (caps:=[]) (N:=["_law_one"]) (tn:=["_law_one"]) (by decide +kernel) rfl rfl) cx.calm (sic_seq cx.hK (sv 0)) (tgk_name (by decide)) (fun C s H ex=>⟨(sg_name (by decide:(["_law_one"]:List Str).Nodup) rfl (Or.inl rfl)),sts_nil,(se_callN (ok_zak t hB) cx.comp (by decide) rfl t.m_zak t.F_zak.kp t.B_zak (lenA_cons lenA_nil) rfl (sa_cons (sv 0) sa_nil))⟩))) (se_one (se_eq cx.hK cx.hu (sv 0) (sv 1))))))))
theorem ok_zan (t:Txt w K mg a) (hB:K.In base):FnOk P w K mg base (CXP P w) 1 a.f_zan a.d_zan ["self", "registers"] (spM (T K a) 2 f_zan):=by
 refine fn_okC (k:=0) (N:=["self", "registers"]) (ps:=["self", "registers"]) (T:=T K a) (m:=b_zan) t.F_zan sc_zan fun _ _ _ _ _ _ cx=>?_
 exact (ss_cons (ss_if (st_ne cx.hK cx.hu (se_len cx.hK rfl t.b_len (sv 1)) (se_attr (k:=0) cx.hK rfl t.cls t.na_size (sv 0))) (ss_one (ss_raiseN (c:=3) cx t.m_BadState hB t.e_BadState xm_def rfl (lenA_cons lenA_nil) (by decide) (sa_cons (se_str) sa_nil))) ss_nil)
 (ss_one (ss_ret (se_comp (comp_of (scD:=defScope s_zan) (NX:=["self", "registers"]) (caps:=[0]) (N:=["self", "number"]) (tn:=["number"]) (by decide +kernel) rfl rfl) cx.calm (sic_seq cx.hK (sv 1)) (tgk_name (by decide)) (fun C s H ex=>⟨(sg_name (by decide:(["self", "number"]:List Str).Nodup) rfl (Or.inl rfl)),sts_nil,(se_mod (sv 1) (se_attr (k:=7) cx.comp.hK rfl t.cls t.na_span (sv 0)))⟩)))))
theorem ok_dsp_read_0_1_2_3 {X:Cx} (t:Txt X.w X.K X.mg a) (hB:X.K.In X.base):Disp X (T X.K a) 1 "read" ["self", "registers"] [] dsp_read_0_1_2_3:=by
 intro c m hc e
 match c,hc,e with
 | 0,_,e=>cases e;exact ⟨_,_,t.H_zan,t.B_zan,(ok_zan t hB).mono (by decide)⟩
 | 1,_,e=>cases e;exact ⟨_,_,t.H_LeastRule_read,t.B_zan,(ok_zan t hB).mono (by decide)⟩
 | 2,_,e=>cases e;exact ⟨_,_,t.H_FarRule_read,t.B_zan,(ok_zan t hB).mono (by decide)⟩
 | 3,_,e=>cases e;exact ⟨_,_,t.H_GrowRule_read,t.B_zan,(ok_zan t hB).mono (by decide)⟩
 | 4,_,e=>cases e
 | n+5,h,_=>exact absurd h (by show ¬ (n+5 < 5);omega)
theorem ok_zam (t:Txt w K mg a) (hB:K.In base):FnOk P w K mg base (CXP P w) 1 a.f_zam a.d_zam ["_law_near_here", "_law_root", "_law_fars", "_law_at"] (spM (T K a) 4 f_zam):=by
 refine fn_okC (k:=0) (N:=["_law_near_here", "_law_root", "_law_fars", "_law_at", "_law_some"]) (ps:=["_law_near_here", "_law_root", "_law_fars", "_law_at"]) (T:=T K a) (m:=b_zam) t.F_zam sc_zam fun _ _ _ _ _ _ cx=>?_
 exact (ss_cons (ss_setC (comp_of (scD:=defScope s_zam) (NX:=["_law_near_here", "_law_root", "_law_fars", "_law_at", "_law_some"]) (caps:=[2,3]) (N:=["_law_fars", "_law_at", "_law_other"]) (tn:=["_law_other"]) (by decide +kernel) rfl rfl) cx.calm sc_zam.nd rfl (Or.inl rfl) (sic_seq cx.hK (se_idx cx.hK (sv 0) (sv 3) (fun _ _=>rfl))) (tgk_name (by decide)) (fun C s H ex=>⟨(sg_name (by decide:(["_law_fars", "_law_at", "_law_other"]:List Str).Nodup) rfl (Or.inl rfl)),(sts_one (st_eq cx.comp.hK cx.comp.hu (se_add (se_idx cx.comp.hK (sv 0) (sv 2) (fun _ _=>rfl)) (se_int)) (se_idx cx.comp.hK (sv 0) (sv 1) (fun _ _=>rfl)))),(sv 2)⟩))
 (ss_cons (ss_if (SW.st (sw_or (st_eq cx.hK cx.hu (sv 3) (sv 1)) (sw_or1 (st_eq cx.hK cx.hu (sv 4) (se_lst sa_nil lenA_nil))))) (ss_one (ss_ret (se_non))) ss_nil)
 (ss_one (ss_ret (se_min1 cx.hK cx.calm rfl t.b_min (sv 4))))))
theorem ok_zaf (t:Txt w K mg a) (hB:K.In base):FnOk P w K mg base (CXP P w) 1 a.f_zaf a.d_zaf ["_law_size", "_law_elders_here", "_law_parts_here"] (spM (T K a) 3 f_zaf):=by
 refine fn_okC (k:=0) (N:=["_law_size", "_law_elders_here", "_law_parts_here", "_law_found", "_law_at", "_law_total", "_law_kid"]) (ps:=["_law_size", "_law_elders_here", "_law_parts_here"]) (T:=T K a) (m:=b_zaf) t.F_zaf sc_zaf fun _ _ _ _ _ _ cx=>?_
 exact (ss_cons (ss_set sc_zaf.nd rfl (Or.inl rfl) (se_lst sa_nil lenA_nil))
 (ss_cons (ss_for cx.po cx.calm (si_range1 rfl t.b_range (sa_cons (sv 0) sa_nil)) (sg_name sc_zaf.nd rfl (Or.inl rfl)) (ss_cons (ss_set sc_zaf.nd rfl (Or.inl rfl) (se_int))
 (ss_cons (ss_for cx.po cx.calm (si_range1 rfl t.b_range (sa_cons (sv 0) sa_nil)) (sg_name sc_zaf.nd rfl (Or.inl rfl)) (ss_one (ss_if (st_eq cx.hK cx.hu (se_idx cx.hK (sv 1) (sv 6) (fun _ _=>rfl)) (sv 4)) (ss_one (ss_set sc_zaf.nd rfl (Or.inl rfl) (se_add (sv 5) (se_idx cx.hK (se_idx cx.hK (sv 2) (sv 6) (fun _ _=>rfl)) (se_int) (fun _ _=>rfl))))) ss_nil)))
 (ss_one (ss_append cx.hK rfl (Or.inl rfl) (se_min2 cx.calm rfl t.b_min (sa_cons (sv 0) (sa_cons (sv 5) sa_nil))))))))
 (ss_one (ss_retV rfl (Or.inl rfl)))))
theorem ok_zi (t:Txt w K mg a) (hB:K.In base):FnOk P w K mg base (CXP P w) 1 a.f_zi a.d_zi ["self", "cells"] (spM (T K a) 2 f_zi):=by
 refine fn_okC (k:=0) (N:=["self", "cells"]) (ps:=["self", "cells"]) (T:=T K a) (m:=b_zi) t.F_zi sc_zi fun _ _ _ _ _ _ cx=>?_
 exact (ss_one (ss_ret (se_comp (comp_of (scD:=defScope s_zi) (NX:=["self", "cells"]) (caps:=[0]) (N:=["self", "cell"]) (tn:=["cell"]) (by decide +kernel) rfl rfl) cx.calm (sic_seq cx.hK (sv 1)) (tgk_name (by decide)) (fun C s H ex=>⟨(sg_name (by decide:(["self", "cell"]:List Str).Nodup) rfl (Or.inl rfl)),sts_nil,(se_tup (sa_cons (se_div (sv 1) (se_add (se_attr (k:=0) cx.comp.hK rfl t.cls t.na_size (sv 0)) (se_int))) (sa_cons (se_mod (sv 1) (se_add (se_attr (k:=0) cx.comp.hK rfl t.cls t.na_size (sv 0)) (se_int))) sa_nil)) (lenA_cons (lenA_cons lenA_nil)))⟩))))
theorem ok_dsp_parts_3 {X:Cx} (t:Txt X.w X.K X.mg a) (hB:X.K.In X.base):Disp X (T X.K a) 1 "parts" ["self", "cells"] [] dsp_parts_3:=by
 intro c m hc e
 match c,hc,e with
 | 3,_,e=>cases e;exact ⟨_,_,t.H_zi,t.B_zi,(ok_zi t hB).mono (by decide)⟩
 | 0,_,e=>cases e
 | 1,_,e=>cases e
 | 2,_,e=>cases e
 | 4,_,e=>cases e
 | n+5,h,_=>exact absurd h (by show ¬ (n+5 < 5);omega)
theorem ok_zk (t:Txt w K mg a) (hB:K.In base):FnOk P w K mg base (CXP P w) 2 a.f_zk a.d_zk ["self", "cells"] (spM (T K a) 2 f_zk):=by
 refine fn_okC (k:=1) (N:=["self", "cells"]) (ps:=["self", "cells"]) (T:=T K a) (m:=b_zk) t.F_zk sc_zk fun _ _ _ _ _ _ cx=>?_
 exact (ss_one (ss_ret (se_comp (comp_of (scD:=defScope s_zk) (NX:=["self", "cells"]) (caps:=[]) (N:=["part"]) (tn:=["part"]) (by decide +kernel) rfl rfl) cx.calm (sic_seq cx.hK (se_met cx t.cls att_parts (ok_dsp_parts_3 t hB) (by decide) (lenA_cons lenA_nil) rfl (sv 0) (sa_cons (sv 1) sa_nil))) (tgk_name (by decide)) (fun C s H ex=>⟨(sg_name (by decide:(["part"]:List Str).Nodup) rfl (Or.inl rfl)),sts_nil,(se_idx cx.comp.hK (sv 0) (se_int) (fun _ _=>rfl))⟩))))
theorem ok_dsp_fars_3 {X:Cx} (t:Txt X.w X.K X.mg a) (hB:X.K.In X.base):Disp X (T X.K a) 2 "fars" ["self", "cells"] [] dsp_fars_3:=by
 intro c m hc e
 match c,hc,e with
 | 3,_,e=>cases e;exact ⟨_,_,t.H_zk,t.B_zk,(ok_zk t hB).mono (by decide)⟩
 | 0,_,e=>cases e
 | 1,_,e=>cases e
 | 2,_,e=>cases e
 | 4,_,e=>cases e
 | n+5,h,_=>exact absurd h (by show ¬ (n+5 < 5);omega)
theorem ok_zh (t:Txt w K mg a) (hB:K.In base):FnOk P w K mg base (CXP P w) 2 a.f_zh a.d_zh ["self", "fars", "at"] (spM (T K a) 3 f_zh):=by
 refine fn_okC (k:=1) (N:=["self", "fars", "at", "nearer"]) (ps:=["self", "fars", "at"]) (T:=T K a) (m:=b_zh) t.F_zh sc_zh fun _ _ _ _ _ _ cx=>?_
 exact (ss_cons (ss_if (st_eq cx.hK cx.hu (sv 2) (se_attr (k:=10) cx.hK rfl t.cls t.na_root (sv 0))) (ss_one (ss_ret (se_non))) ss_nil)
 (ss_cons (ss_setC (comp_of (scD:=defScope s_zh) (NX:=["self", "fars", "at", "nearer"]) (caps:=[1,2]) (N:=["fars", "at", "other"]) (tn:=["other"]) (by decide +kernel) rfl rfl) cx.calm sc_zh.nd rfl (Or.inl rfl) (sic_seq cx.hK (se_met cx t.cls att_beside (ok_dsp_beside_4 t hB) (by decide) (lenA_cons lenA_nil) rfl (se_attr (k:=4) cx.hK rfl t.cls t.na_net (sv 0)) (sa_cons (sv 2) sa_nil))) (tgk_name (by decide)) (fun C s H ex=>⟨(sg_name (by decide:(["fars", "at", "other"]:List Str).Nodup) rfl (Or.inl rfl)),(sts_one (st_eq cx.comp.hK cx.comp.hu (se_idx cx.comp.hK (sv 0) (sv 2) (fun _ _=>rfl)) (se_sub (se_idx cx.comp.hK (sv 0) (sv 1) (fun _ _=>rfl)) (se_int)))),(sv 2)⟩))
 (ss_one (ss_ret (se_minD cx.hK cx.calm rfl t.b_min (sv 3))))))
theorem ok_dsp_elder_3 {X:Cx} (t:Txt X.w X.K X.mg a) (hB:X.K.In X.base):Disp X (T X.K a) 2 "elder" ["self", "fars", "at"] [] dsp_elder_3:=by
 intro c m hc e
 match c,hc,e with
 | 3,_,e=>cases e;exact ⟨_,_,t.H_zh,t.B_zh,(ok_zh t hB).mono (by decide)⟩
 | 0,_,e=>cases e
 | 1,_,e=>cases e
 | 2,_,e=>cases e
 | 4,_,e=>cases e
 | n+5,h,_=>exact absurd h (by show ¬ (n+5 < 5);omega)
theorem ok_zf (t:Txt w K mg a) (hB:K.In base):FnOk P w K mg base (CXP P w) 3 a.f_zf a.d_zf ["self", "cells"] (spM (T K a) 2 f_zf):=by
 refine fn_okC (k:=2) (N:=["self", "cells", "fars"]) (ps:=["self", "cells"]) (T:=T K a) (m:=b_zf) t.F_zf sc_zf fun _ _ _ _ _ _ cx=>?_
 exact (ss_cons (ss_set sc_zf.nd rfl (Or.inr rfl) (se_met cx t.cls att_fars (ok_dsp_fars_3 t hB) (by decide) (lenA_cons lenA_nil) rfl (sv 0) (sa_cons (sv 1) sa_nil)))
 (ss_one (ss_ret (se_comp (comp_of (scD:=defScope s_zf) (NX:=["self", "cells", "fars"]) (caps:=[0,2]) (N:=["self", "fars", "at"]) (tn:=["at"]) (by decide +kernel) rfl rfl) cx.calm (sic_range1 rfl t.b_range (sa_cons (se_attr (k:=0) cx.hK rfl t.cls t.na_size (sv 0)) sa_nil)) (tgk_name (by decide)) (fun C s H ex=>⟨(sg_name (by decide:(["self", "fars", "at"]:List Str).Nodup) rfl (Or.inl rfl)),sts_nil,(se_met cx.comp t.cls att_elder (ok_dsp_elder_3 t hB) (by decide) (lenA_cons (lenA_cons lenA_nil)) rfl (sv 0) (sa_cons (sv 1) (sa_cons (sv 2) sa_nil)))⟩)))))
theorem ok_dsp_elders_3 {X:Cx} (t:Txt X.w X.K X.mg a) (hB:X.K.In X.base):Disp X (T X.K a) 3 "elders" ["self", "cells"] [] dsp_elders_3:=by
 intro c m hc e
 match c,hc,e with
 | 3,_,e=>cases e;exact ⟨_,_,t.H_zf,t.B_zf,(ok_zf t hB).mono (by decide)⟩
 | 0,_,e=>cases e
 | 1,_,e=>cases e
 | 2,_,e=>cases e
 | 4,_,e=>cases e
 | n+5,h,_=>exact absurd h (by show ¬ (n+5 < 5);omega)
theorem ok_zac (t:Txt w K mg a) (hB:K.In base):FnOk P w K mg base (CXP P w) 2 a.f_zac a.d_zac ["_law_found", "_law_due"] (spM (T K a) 2 f_zac):=by
 refine fn_okC (k:=1) (N:=["_law_found", "_law_due", "_law_one", "_law_other"]) (ps:=["_law_found", "_law_due"]) (T:=T K a) (m:=b_zac) t.F_zac sc_zac fun _ _ _ _ _ _ cx=>?_
 exact (ss_cons (ss_if (SW.st (sw_or (st_not (st_truth cx.hK (se_isi cx.hK kit_list rfl t.b_isinstance bb_isinstance rfl t.b_list bb_list (sv 0)))) (sw_or1 (st_ne cx.hK cx.hu (se_len cx.hK rfl t.b_len (sv 0)) (se_len cx.hK rfl t.b_len (sv 1)))))) (ss_one (ss_ret (se_bl))) ss_nil)
 (ss_cons (ss_for cx.po cx.calm (si_zip cx.hK rfl t.b_zip (sa_cons (sv 0) (sa_cons (sv 1) sa_nil))) (sg_tup cx.hK cx.calm (sgs_cons sc_zac.nd rfl (Or.inl rfl) (sgs_cons sc_zac.nd rfl (Or.inl rfl) sgs_nil))) (ss_cons (ss_if (SW.st (sw_and (st_isN (sv 3) (se_non)) (sw_and1 (st_notN (sv 2) (se_non))))) (ss_one (ss_ret (se_bl))) ss_nil)
 (ss_one (ss_if (SW.st (sw_and (st_notN (sv 3) (se_non)) (sw_and1 (SW.st (sw_or (st_not (st_truth cx.hK (se_callN (ok_zak t hB) cx (by decide) rfl t.m_zak t.F_zak.kp t.B_zak (lenA_cons lenA_nil) rfl (sa_cons (sv 2) sa_nil)))) (sw_or1 (st_ne cx.hK cx.hu (sv 2) (sv 3)))))))) (ss_one (ss_ret (se_bl))) ss_nil))))
 (ss_one (ss_ret (se_bl)))))
theorem ok_zaj (t:Txt w K mg a) (hB:K.In base):FnOk P w K mg base (CXP P w) 3 a.f_zaj a.d_zaj ["_law_found", "_law_due"] (spM (T K a) 2 f_zaj):=by
 refine fn_okC (k:=2) (N:=["_law_found", "_law_due"]) (ps:=["_law_found", "_law_due"]) (T:=T K a) (m:=b_zaj) t.F_zaj sc_zaj fun _ _ _ _ _ _ cx=>?_
 exact (ss_cons (ss_if (SW.st (sw_or (st_not (st_truth cx.hK (se_isi cx.hK kit_list rfl t.b_isinstance bb_isinstance rfl t.b_list bb_list (sv 0)))) (sw_or1 (st_not (st_truth cx.hK (se_all cx.hK cx.calm rfl t.b_all (se_comp (comp_of (scD:=defScope s_zaj) (NX:=["_law_found", "_law_due"]) (caps:=[]) (N:=["_law_part"]) (tn:=["_law_part"]) (by decide +kernel) rfl rfl) cx.calm (sic_seq cx.hK (sv 0)) (tgk_name (by decide)) (fun C s H ex=>⟨(sg_name (by decide:(["_law_part"]:List Str).Nodup) rfl (Or.inl rfl)),sts_nil,(se_isi cx.comp.hK kit_tuple rfl t.b_isinstance bb_isinstance rfl t.b_tuple bb_tuple (sv 0))⟩)))))))) (ss_one (ss_ret (se_bl))) ss_nil)
 (ss_one (ss_ret ((se_and (se_eq cx.hK cx.hu (sv 0) (sv 1)) (se_one (se_all cx.hK cx.calm rfl t.b_all (se_comp (comp_of (scD:=defScope s_zaj) (NX:=["_law_found", "_law_due"]) (caps:=[]) (N:=["_law_part"]) (tn:=["_law_part"]) (by decide +kernel) rfl rfl) cx.calm (sic_seq cx.hK (sv 0)) (tgk_name (by decide)) (fun C s H ex=>⟨(sg_name (by decide:(["_law_part"]:List Str).Nodup) rfl (Or.inl rfl)),sts_nil,(se_callN (ok_zap t hB) cx.comp (by decide) rfl t.m_zap t.F_zap.kp t.B_zap (lenA_cons (lenA_cons lenA_nil)) rfl (sa_cons (se_list cx.comp.hK rfl t.b_list bb_list (sv 0)) (sa_cons (se_list cx.comp.hK rfl t.b_list bb_list (sv 0)) sa_nil)))⟩)))))))))
theorem ok_zav (t:Txt w K mg a) (hB:K.In base):FnOk P w K mg base (CXP P w) 1 a.f_zav a.d_zav ["_law_near_here", "_law_root", "_law_fars", "_law_at"] (spM (T K a) 4 f_zav):=by
 refine fn_okC (k:=0) (N:=["_law_near_here", "_law_root", "_law_fars", "_law_at"]) (ps:=["_law_near_here", "_law_root", "_law_fars", "_law_at"]) (T:=T K a) (m:=b_zav) t.F_zav sc_zav fun _ _ _ _ _ _ cx=>?_
 exact (ss_cons (ss_if (st_eq cx.hK cx.hu (sv 3) (sv 1)) (ss_one (ss_ret (se_int))) ss_nil)
 (ss_one (ss_ret (se_min1 cx.hK cx.calm rfl t.b_min (se_add (se_lst (sa_cons (se_len cx.hK rfl t.b_len (sv 0)) sa_nil) (lenA_cons lenA_nil)) (se_comp (comp_of (scD:=defScope s_zav) (NX:=["_law_near_here", "_law_root", "_law_fars", "_law_at"]) (caps:=[2,0]) (N:=["_law_fars", "_law_near_here", "_law_other"]) (tn:=["_law_other"]) (by decide +kernel) rfl rfl) cx.calm (sic_seq cx.hK (se_idx cx.hK (sv 0) (sv 3) (fun _ _=>rfl))) (tgk_name (by decide)) (fun C s H ex=>⟨(sg_name (by decide:(["_law_fars", "_law_near_here", "_law_other"]:List Str).Nodup) rfl (Or.inl rfl)),(sts_one (st_lt (se_add (se_idx cx.comp.hK (sv 0) (sv 2) (fun _ _=>rfl)) (se_int)) (se_len cx.comp.hK rfl t.b_len (sv 1)))),(se_add (se_idx cx.comp.hK (sv 0) (sv 2) (fun _ _=>rfl)) (se_int))⟩)))))))
theorem ok_zar (t:Txt w K mg a) (hB:K.In base):FnOk P w K mg base (CXP P w) 2 a.f_zar a.d_zar ["_law_near_here", "_law_root", "_law_parts_here", "_law_counts_here"] (spM (T K a) 4 f_zar):=by
 refine fn_okC (k:=1) (N:=["_law_near_here", "_law_root", "_law_parts_here", "_law_counts_here", "_law_size", "_law_fars", "_law_found", "_law_at", "_law_far_here"]) (ps:=["_law_near_here", "_law_root", "_law_parts_here", "_law_counts_here"]) (T:=T K a) (m:=b_zar) t.F_zar sc_zar fun _ _ _ _ _ _ cx=>?_
 exact (ss_cons (ss_set sc_zar.nd rfl (Or.inl rfl) (se_len cx.hK rfl t.b_len (sv 0)))
 (ss_cons (ss_setC (comp_of (scD:=defScope s_zar) (NX:=["_law_near_here", "_law_root", "_law_parts_here", "_law_counts_here", "_law_size", "_law_fars", "_law_found", "_law_at", "_law_far_here"]) (caps:=[]) (N:=["_law_part"]) (tn:=["_law_part"]) (by decide +kernel) rfl rfl) cx.calm sc_zar.nd rfl (Or.inl rfl) (sic_seq cx.hK (sv 2)) (tgk_name (by decide)) (fun C s H ex=>⟨(sg_name (by decide:(["_law_part"]:List Str).Nodup) rfl (Or.inl rfl)),sts_nil,(se_idx cx.comp.hK (sv 0) (se_int) (fun _ _=>rfl))⟩))
 (ss_cons (ss_set sc_zar.nd rfl (Or.inl rfl) (se_lst sa_nil lenA_nil))
 (ss_cons (ss_for cx.po cx.calm (si_range1 rfl t.b_range (sa_cons (sv 4) sa_nil)) (sg_name sc_zar.nd rfl (Or.inl rfl)) (ss_cons (ss_set sc_zar.nd rfl (Or.inl rfl) (se_callN (ok_zav t hB) cx (by decide) rfl t.m_zav t.F_zav.kp t.B_zav (lenA_cons (lenA_cons (lenA_cons (lenA_cons lenA_nil)))) rfl (sa_cons (sv 0) (sa_cons (sv 1) (sa_cons (sv 5) (sa_cons (sv 7) sa_nil))))))
 (ss_one (ss_if (st_ne cx.hK cx.hu (sv 8) (se_idx cx.hK (sv 5) (sv 7) (fun _ _=>rfl))) (ss_one (ss_append cx.hK rfl (Or.inl rfl) (se_add (se_mul (sv 8) (se_add (sv 4) (se_int))) (se_idx cx.hK (se_idx cx.hK (sv 2) (sv 7) (fun _ _=>rfl)) (se_int) (fun _ _=>rfl))))) (ss_one (ss_append cx.hK rfl (Or.inl rfl) (se_add (se_mul (sv 8) (se_add (sv 4) (se_int))) (se_idx cx.hK (sv 3) (sv 7) (fun _ _=>rfl)))))))))
 (ss_one (ss_retV rfl (Or.inl rfl)))))))
theorem ok_zat (t:Txt w K mg a) (hB:K.In base):FnOk P w K mg base (CXP P w) 1 a.f_zat a.d_zat ["self", "cells", "at"] (spM (T K a) 3 f_zat):=by
 refine fn_okC (k:=0) (N:=["self", "cells", "at"]) (ps:=["self", "cells", "at"]) (T:=T K a) (m:=b_zat) t.F_zat sc_zat fun _ _ _ _ _ _ cx=>?_
 exact (ss_one (ss_ret (se_idx cx.hK (sv 1) (sv 2) (fun _ _=>rfl))))
theorem ok_za (t:Txt w K mg a) (hB:K.In base):FnOk P w K mg base (CXP P w) 1 a.f_za a.d_za ["self", "cell"] (spM (T K a) 2 f_za):=by
 refine fn_okC (k:=0) (N:=["self", "cell"]) (ps:=["self", "cell"]) (T:=T K a) (m:=b_za) t.F_za sc_za fun _ _ _ _ _ _ cx=>?_
 exact (ss_one (ss_ret ((se_and (se_ne cx.hK cx.hu (sv 1) (se_attr (k:=3) cx.hK rfl t.cls t.na_top (sv 0))) (se_one (se_ne cx.hK cx.hu (se_mod (se_add (sv 1) (se_int)) (se_attr (k:=6) cx.hK rfl t.cls t.na_stretch (sv 0))) (se_int)))))))
theorem ok_dsp_has_offer_1_2 {X:Cx} (t:Txt X.w X.K X.mg a) (hB:X.K.In X.base):Disp X (T X.K a) 1 "has_offer" ["self", "cell"] [] dsp_has_offer_1_2:=by
 intro c m hc e
 match c,hc,e with
 | 1,_,e=>cases e;exact ⟨_,_,t.H_za,t.B_za,(ok_za t hB).mono (by decide)⟩
 | 2,_,e=>cases e;exact ⟨_,_,t.H_FarRule_has_offer,t.B_za,(ok_za t hB).mono (by decide)⟩
 | 0,_,e=>cases e
 | 3,_,e=>cases e
 | 4,_,e=>cases e
 | n+5,h,_=>exact absurd h (by show ¬ (n+5 < 5);omega)
theorem ok_zl (t:Txt w K mg a) (hB:K.In base):FnOk P w K mg base (CXP P w) 2 a.f_zl a.d_zl ["self", "cells", "at"] (spM (T K a) 3 f_zl):=by
 refine fn_okC (k:=1) (N:=["self", "cells", "at", "near", "offers"]) (ps:=["self", "cells", "at"]) (T:=T K a) (m:=b_zl) t.F_zl sc_zl fun _ _ _ _ _ _ cx=>?_
 exact (ss_cons (ss_setC (comp_of (scD:=defScope s_zl) (NX:=["self", "cells", "at", "near", "offers"]) (caps:=[1]) (N:=["cells", "other"]) (tn:=["other"]) (by decide +kernel) rfl rfl) cx.calm sc_zl.nd rfl (Or.inl rfl) (sic_seq cx.hK (se_met cx t.cls att_beside (ok_dsp_beside_4 t hB) (by decide) (lenA_cons lenA_nil) rfl (se_attr (k:=4) cx.hK rfl t.cls t.na_net (sv 0)) (sa_cons (sv 2) sa_nil))) (tgk_name (by decide)) (fun C s H ex=>⟨(sg_name (by decide:(["cells", "other"]:List Str).Nodup) rfl (Or.inl rfl)),sts_nil,(se_idx cx.comp.hK (sv 0) (sv 1) (fun _ _=>rfl))⟩))
 (ss_cons (ss_setC (comp_of (scD:=defScope s_zl) (NX:=["self", "cells", "at", "near", "offers"]) (caps:=[0]) (N:=["self", "cell"]) (tn:=["cell"]) (by decide +kernel) rfl rfl) cx.calm sc_zl.nd rfl (Or.inl rfl) (sic_seq cx.hK (sv 3)) (tgk_name (by decide)) (fun C s H ex=>⟨(sg_name (by decide:(["self", "cell"]:List Str).Nodup) rfl (Or.inl rfl)),(sts_one (st_truth cx.comp.hK (se_met cx.comp t.cls att_has_offer (ok_dsp_has_offer_1_2 t hB) (by decide) (lenA_cons lenA_nil) rfl (sv 0) (sa_cons (sv 1) sa_nil)))),(se_add (sv 1) (se_int))⟩))
 (ss_cons (ss_if (st_notN (se_idx cx.hK (se_attr (k:=5) cx.hK rfl t.cls t.na_starts (sv 0)) (sv 2) (fun _ _=>rfl)) (se_non)) (ss_one (ss_append cx.hK rfl (Or.inl rfl) (se_idx cx.hK (se_attr (k:=5) cx.hK rfl t.cls t.na_starts (sv 0)) (sv 2) (fun _ _=>rfl)))) ss_nil)
 (ss_one (ss_ret (se_min1 cx.hK cx.calm rfl t.b_min (se_add (sv 4) (se_lst (sa_cons (se_attr (k:=3) cx.hK rfl t.cls t.na_top (sv 0)) sa_nil) (lenA_cons lenA_nil)))))))))
theorem ok_dsp_due_2 {X:Cx} (t:Txt X.w X.K X.mg a) (hB:X.K.In X.base):Disp X (T X.K a) 2 "due" ["self", "cells", "at"] [] dsp_due_2:=by
 intro c m hc e
 match c,hc,e with
 | 2,_,e=>cases e;exact ⟨_,_,t.H_FarRule_due,t.B_zl,(ok_zl t hB).mono (by decide)⟩
 | 0,_,e=>cases e
 | 1,_,e=>cases e
 | 3,_,e=>cases e
 | 4,_,e=>cases e
 | n+5,h,_=>exact absurd h (by show ¬ (n+5 < 5);omega)
theorem ok_ze (t:Txt w K mg a) (hB:K.In base):FnOk P w K mg base (CXP P w) 2 a.f_ze a.d_ze ["self", "cells"] (spM (T K a) 2 f_ze):=by
 refine fn_okC (k:=1) (N:=["self", "cells"]) (ps:=["self", "cells"]) (T:=T K a) (m:=b_ze) t.F_ze sc_ze fun _ _ _ _ _ _ cx=>?_
 exact (ss_one (ss_ret (se_comp (comp_of (scD:=defScope s_ze) (NX:=["self", "cells"]) (caps:=[]) (N:=["part"]) (tn:=["part"]) (by decide +kernel) rfl rfl) cx.calm (sic_seq cx.hK (se_met cx t.cls att_parts (ok_dsp_parts_3 t hB) (by decide) (lenA_cons lenA_nil) rfl (sv 0) (sa_cons (sv 1) sa_nil))) (tgk_name (by decide)) (fun C s H ex=>⟨(sg_name (by decide:(["part"]:List Str).Nodup) rfl (Or.inl rfl)),sts_nil,(se_idx cx.comp.hK (sv 0) (se_int) (fun _ _=>rfl))⟩))))
theorem ok_dsp_counts_3 {X:Cx} (t:Txt X.w X.K X.mg a) (hB:X.K.In X.base):Disp X (T X.K a) 2 "counts" ["self", "cells"] [] dsp_counts_3:=by
 intro c m hc e
 match c,hc,e with
 | 3,_,e=>cases e;exact ⟨_,_,t.H_ze,t.B_ze,(ok_ze t hB).mono (by decide)⟩
 | 0,_,e=>cases e
 | 1,_,e=>cases e
 | 2,_,e=>cases e
 | 4,_,e=>cases e
 | n+5,h,_=>exact absurd h (by show ¬ (n+5 < 5);omega)
theorem ok_zb (t:Txt w K mg a) (hB:K.In base):FnOk P w K mg base (CXP P w) 4 a.f_zb a.d_zb ["self", "cells", "at"] (spM (T K a) 3 f_zb):=by
 refine fn_okC (k:=3) (N:=["self", "cells", "at", "kids"]) (ps:=["self", "cells", "at"]) (T:=T K a) (m:=b_zb) t.F_zb sc_zb fun _ _ _ _ _ _ cx=>?_
 exact (ss_cons (ss_setC (comp_of (scD:=defScope s_zb) (NX:=["self", "cells", "at", "kids"]) (caps:=[2]) (N:=["at", "count", "elder"]) (tn:=["count", "elder"]) (by decide +kernel) rfl rfl) cx.calm sc_zb.nd rfl (Or.inl rfl) (sic_zip cx.hK rfl t.b_zip (sa_cons (se_met cx t.cls att_counts (ok_dsp_counts_3 t hB) (by decide) (lenA_cons lenA_nil) rfl (sv 0) (sa_cons (sv 1) sa_nil)) (sa_cons (se_met cx t.cls att_elders (ok_dsp_elders_3 t hB) (by decide) (lenA_cons lenA_nil) rfl (sv 0) (sa_cons (sv 1) sa_nil)) sa_nil))) (tgk_tup (tgks_cons (tgk_name (by decide)) (tgks_cons (tgk_name (by decide)) tgks_nil))) (fun C s H ex=>⟨(sg_tup cx.comp.hK cx.comp.calm (sgs_cons (by decide:(["at", "count", "elder"]:List Str).Nodup) rfl (Or.inl rfl) (sgs_cons (by decide:(["at", "count", "elder"]:List Str).Nodup) rfl (Or.inl rfl) sgs_nil))),(sts_one (st_eq cx.comp.hK cx.comp.hu (sv 2) (sv 0))),(sv 1)⟩))
 (ss_one (ss_ret (se_min2 cx.calm rfl t.b_min (sa_cons (se_attr (k:=0) cx.hK rfl t.cls t.na_size (sv 0)) (sa_cons (se_add (se_int) (se_sum cx.hK cx.calm rfl t.b_sum (sv 3))) sa_nil))))))
theorem ok_dsp_due_count_3 {X:Cx} (t:Txt X.w X.K X.mg a) (hB:X.K.In X.base):Disp X (T X.K a) 4 "due_count" ["self", "cells", "at"] [] dsp_due_count_3:=by
 intro c m hc e
 match c,hc,e with
 | 3,_,e=>cases e;exact ⟨_,_,t.H_zb,t.B_zb,(ok_zb t hB).mono (by decide)⟩
 | 0,_,e=>cases e
 | 1,_,e=>cases e
 | 2,_,e=>cases e
 | 4,_,e=>cases e
 | n+5,h,_=>exact absurd h (by show ¬ (n+5 < 5);omega)
theorem ok_zu (t:Txt w K mg a) (hB:K.In base):FnOk P w K mg base (CXP P w) 5 a.f_zu a.d_zu ["self", "cells", "at"] (spM (T K a) 3 f_zu):=by
 refine fn_okC (k:=4) (N:=["self", "cells", "at", "fars", "due_far", "count"]) (ps:=["self", "cells", "at"]) (T:=T K a) (m:=b_zu) t.F_zu sc_zu fun _ _ _ _ _ _ cx=>?_
 exact (ss_cons (ss_set sc_zu.nd rfl (Or.inl rfl) (se_met cx t.cls att_fars (ok_dsp_fars_3 t hB) (by decide) (lenA_cons lenA_nil) rfl (sv 0) (sa_cons (sv 1) sa_nil)))
 (ss_cons (ss_set sc_zu.nd rfl (Or.inl rfl) (se_met cx t.cls att_due (ok_dsp_due_2 t hB) (by decide) (lenA_cons (lenA_cons lenA_nil)) rfl (se_attr (k:=9) cx.hK rfl t.cls t.na_far_rule (sv 0)) (sa_cons (sv 3) (sa_cons (sv 2) sa_nil))))
 (ss_cons (ss_set sc_zu.nd rfl (Or.inl rfl) (se_idx cx.hK (se_met cx t.cls att_counts (ok_dsp_counts_3 t hB) (by decide) (lenA_cons lenA_nil) rfl (sv 0) (sa_cons (sv 1) sa_nil)) (sv 2) (fun _ _=>rfl)))
 (ss_cons (ss_if (st_eq cx.hK cx.hu (sv 4) (se_idx cx.hK (sv 3) (sv 2) (fun _ _=>rfl))) (ss_one (ss_set sc_zu.nd rfl (Or.inl rfl) (se_met cx t.cls att_due_count (ok_dsp_due_count_3 t hB) (by decide) (lenA_cons (lenA_cons lenA_nil)) rfl (sv 0) (sa_cons (sv 1) (sa_cons (sv 2) sa_nil))))) ss_nil)
 (ss_one (ss_ret (se_add (se_mul (sv 4) (se_add (se_attr (k:=0) cx.hK rfl t.cls t.na_size (sv 0)) (se_int))) (sv 5))))))))
theorem ok_dsp_due_0_1_2_3 {X:Cx} (t:Txt X.w X.K X.mg a) (hB:X.K.In X.base):Disp X (T X.K a) 5 "due" ["self", "cells", "at"] [] dsp_due_0_1_2_3:=by
 intro c m hc e
 match c,hc,e with
 | 0,_,e=>cases e;exact ⟨_,_,t.H_zat,t.B_zat,(ok_zat t hB).mono (by decide)⟩
 | 1,_,e=>cases e;exact ⟨_,_,t.H_zl,t.B_zl,(ok_zl t hB).mono (by decide)⟩
 | 2,_,e=>cases e;exact ⟨_,_,t.H_FarRule_due,t.B_zl,(ok_zl t hB).mono (by decide)⟩
 | 3,_,e=>cases e;exact ⟨_,_,t.H_zu,t.B_zu,(ok_zu t hB).mono (by decide)⟩
 | 4,_,e=>cases e
 | n+5,h,_=>exact absurd h (by show ¬ (n+5 < 5);omega)
theorem ok_zr (t:Txt w K mg a) (hB:K.In base):FnOk P w K mg base (CXP P w) 1 a.f_zr a.d_zr ["self", "cells"] (spM (T K a) 2 f_zr):=by
 refine fn_okC (k:=0) (N:=["self", "cells"]) (ps:=["self", "cells"]) (T:=T K a) (m:=b_zr) t.F_zr sc_zr fun _ _ _ _ _ _ cx=>?_
 exact (ss_one (ss_raiseN (c:=4) cx t.m_NoMeasure hB t.e_NoMeasure xm_def rfl (lenA_cons lenA_nil) (by decide) (sa_cons (se_str) sa_nil)))
theorem ok_dsp_due_0_1_2 {X:Cx} (t:Txt X.w X.K X.mg a) (hB:X.K.In X.base):Disp X (T X.K a) 2 "due" ["self", "cells", "at"] [] dsp_due_0_1_2:=by
 intro c m hc e
 match c,hc,e with
 | 0,_,e=>cases e;exact ⟨_,_,t.H_zat,t.B_zat,(ok_zat t hB).mono (by decide)⟩
 | 1,_,e=>cases e;exact ⟨_,_,t.H_zl,t.B_zl,(ok_zl t hB).mono (by decide)⟩
 | 2,_,e=>cases e;exact ⟨_,_,t.H_FarRule_due,t.B_zl,(ok_zl t hB).mono (by decide)⟩
 | 3,_,e=>cases e
 | 4,_,e=>cases e
 | n+5,h,_=>exact absurd h (by show ¬ (n+5 < 5);omega)
theorem ok_zc (t:Txt w K mg a) (hB:K.In base):FnOk P w K mg base (CXP P w) 3 a.f_zc a.d_zc ["self", "cells"] (spM (T K a) 2 f_zc):=by
 refine fn_okC (k:=2) (N:=["self", "cells", "dues", "base", "number", "mark", "rising", "falling"]) (ps:=["self", "cells"]) (T:=T K a) (m:=b_zc) t.F_zc sc_zc fun _ _ _ _ _ _ cx=>?_
 exact (ss_cons (ss_setC (comp_of (scD:=defScope s_zc) (NX:=["self", "cells", "dues", "base", "number", "mark", "rising", "falling"]) (caps:=[0,1]) (N:=["self", "cells", "at"]) (tn:=["at"]) (by decide +kernel) rfl rfl) cx.calm sc_zc.nd rfl (Or.inl rfl) (sic_range1 rfl t.b_range (sa_cons (se_attr (k:=0) cx.hK rfl t.cls t.na_size (sv 0)) sa_nil)) (tgk_name (by decide)) (fun C s H ex=>⟨(sg_name (by decide:(["self", "cells", "at"]:List Str).Nodup) rfl (Or.inl rfl)),sts_nil,(se_met cx.comp t.cls att_due (ok_dsp_due_0_1_2 t hB) (by decide) (lenA_cons (lenA_cons lenA_nil)) rfl (sv 0) (sa_cons (sv 1) (sa_cons (sv 2) sa_nil)))⟩))
 (ss_cons (ss_set sc_zc.nd rfl (Or.inl rfl) (se_add (se_attr (k:=0) cx.hK rfl t.cls t.na_size (sv 0)) (se_int)))
 (ss_cons (ss_set sc_zc.nd rfl (Or.inl rfl) (se_int))
 (ss_cons (ss_for cx.po cx.calm (si_range1 rfl t.b_range (sa_cons (se_attr (k:=3) cx.hK rfl t.cls t.na_top (sv 0)) sa_nil)) (sg_name sc_zc.nd rfl (Or.inr rfl)) (ss_cons (ss_setC (comp_of (scD:=defScope s_zc) (NX:=["self", "cells", "dues", "base", "number", "mark", "rising", "falling"]) (caps:=[5]) (N:=["mark", "cell", "due"]) (tn:=["cell", "due"]) (by decide +kernel) rfl rfl) cx.calm sc_zc.nd rfl (Or.inl rfl) (sic_zip cx.hK rfl t.b_zip (sa_cons (sv 1) (sa_cons (sv 2) sa_nil))) (tgk_tup (tgks_cons (tgk_name (by decide)) (tgks_cons (tgk_name (by decide)) tgks_nil))) (fun C s H ex=>⟨(sg_tup cx.comp.hK cx.comp.calm (sgs_cons (by decide:(["mark", "cell", "due"]:List Str).Nodup) rfl (Or.inl rfl) (sgs_cons (by decide:(["mark", "cell", "due"]:List Str).Nodup) rfl (Or.inl rfl) sgs_nil))),(sts_one (SW.st (sw_and (st_eq cx.comp.hK cx.comp.hu (sv 1) (sv 0)) (sw_and1 (st_gt (sv 2) (sv 0)))))),(sv 1)⟩))
 (ss_cons (ss_setC (comp_of (scD:=defScope s_zc) (NX:=["self", "cells", "dues", "base", "number", "mark", "rising", "falling"]) (caps:=[5]) (N:=["mark", "cell", "due"]) (tn:=["cell", "due"]) (by decide +kernel) rfl rfl) cx.calm sc_zc.nd rfl (Or.inl rfl) (sic_zip cx.hK rfl t.b_zip (sa_cons (sv 1) (sa_cons (sv 2) sa_nil))) (tgk_tup (tgks_cons (tgk_name (by decide)) (tgks_cons (tgk_name (by decide)) tgks_nil))) (fun C s H ex=>⟨(sg_tup cx.comp.hK cx.comp.calm (sgs_cons (by decide:(["mark", "cell", "due"]:List Str).Nodup) rfl (Or.inl rfl) (sgs_cons (by decide:(["mark", "cell", "due"]:List Str).Nodup) rfl (Or.inl rfl) sgs_nil))),(sts_one (SW.st (sw_and (st_gt (sv 1) (sv 0)) (sw_and1 (st_eq cx.comp.hK cx.comp.hu (sv 2) (sv 0)))))),(sv 1)⟩))
 (ss_one (ss_set sc_zc.nd rfl (Or.inl rfl) (se_add (se_mul (se_add (se_mul (sv 4) (sv 3)) (se_len cx.hK rfl t.b_len (sv 6))) (sv 3)) (se_len cx.hK rfl t.b_len (sv 7))))))))
 (ss_one (ss_retV rfl (Or.inl rfl)))))))
theorem ok_zaa (t:Txt w K mg a) (hB:K.In base):FnOk P w K mg base (CXP P w) 1 a.f_zaa a.d_zaa ["fars", "at"] (spM (T K a) 2 f_zaa):=by
 refine fn_okC (k:=0) (N:=["fars", "at", "lower"]) (ps:=["fars", "at"]) (T:=T K a) (m:=b_zaa) t.F_zaa sc_zaa fun _ _ _ _ _ _ cx=>?_
 exact (ss_cons (ss_setC (comp_of (scD:=defScope s_zaa) (NX:=["fars", "at", "lower"]) (caps:=[0,1]) (N:=["fars", "at", "other"]) (tn:=["other"]) (by decide +kernel) rfl rfl) cx.calm sc_zaa.nd rfl (Or.inl rfl) (sic_range1 rfl t.b_range (sa_cons (se_len cx.hK rfl t.b_len (sv 0)) sa_nil)) (tgk_name (by decide)) (fun C s H ex=>⟨(sg_name (by decide:(["fars", "at", "other"]:List Str).Nodup) rfl (Or.inl rfl)),(sts_one (st_ltT cx.comp.hK cx.comp.hu (se_tup (sa_cons (se_idx cx.comp.hK (sv 0) (sv 2) (fun _ _=>rfl)) (sa_cons (sv 2) sa_nil)) (lenA_cons (lenA_cons lenA_nil))) (se_tup (sa_cons (se_idx cx.comp.hK (sv 0) (sv 1) (fun _ _=>rfl)) (sa_cons (sv 1) sa_nil)) (lenA_cons (lenA_cons lenA_nil))))),(sv 2)⟩))
 (ss_one (ss_ret (se_len cx.hK rfl t.b_len (sv 2)))))
theorem ok_dsp_measure_2 {X:Cx} (t:Txt X.w X.K X.mg a) (hB:X.K.In X.base):Disp X (T X.K a) 3 "measure" ["self", "cells"] [] dsp_measure_2:=by
 intro c m hc e
 match c,hc,e with
 | 2,_,e=>cases e;exact ⟨_,_,t.H_FarRule_measure,t.B_zc,(ok_zc t hB).mono (by decide)⟩
 | 0,_,e=>cases e
 | 1,_,e=>cases e
 | 3,_,e=>cases e
 | 4,_,e=>cases e
 | n+5,h,_=>exact absurd h (by show ¬ (n+5 < 5);omega)
theorem ok_zd (t:Txt w K mg a) (hB:K.In base):FnOk P w K mg base (CXP P w) 5 a.f_zd a.d_zd ["self", "cells"] (spM (T K a) 2 f_zd):=by
 refine fn_okC (k:=4) (N:=["self", "cells", "fars", "counts", "wrong", "weights"]) (ps:=["self", "cells"]) (T:=T K a) (m:=b_zd) t.F_zd sc_zd fun _ _ _ _ _ _ cx=>?_
 exact (ss_cons (ss_set sc_zd.nd rfl (Or.inr rfl) (se_met cx t.cls att_fars (ok_dsp_fars_3 t hB) (by decide) (lenA_cons lenA_nil) rfl (sv 0) (sa_cons (sv 1) sa_nil)))
 (ss_cons (ss_set sc_zd.nd rfl (Or.inr rfl) (se_met cx t.cls att_counts (ok_dsp_counts_3 t hB) (by decide) (lenA_cons lenA_nil) rfl (sv 0) (sa_cons (sv 1) sa_nil)))
 (ss_cons (ss_setC (comp_of (scD:=defScope s_zd) (NX:=["self", "cells", "fars", "counts", "wrong", "weights"]) (caps:=[3,0,1]) (N:=["counts", "self", "cells", "at"]) (tn:=["at"]) (by decide +kernel) rfl rfl) cx.calm sc_zd.nd rfl (Or.inl rfl) (sic_range1 rfl t.b_range (sa_cons (se_attr (k:=0) cx.hK rfl t.cls t.na_size (sv 0)) sa_nil)) (tgk_name (by decide)) (fun C s H ex=>⟨(sg_name (by decide:(["counts", "self", "cells", "at"]:List Str).Nodup) rfl (Or.inl rfl)),(sts_one (st_ne cx.comp.hK cx.comp.hu (se_idx cx.comp.hK (sv 0) (sv 3) (fun _ _=>rfl)) (se_met cx.comp t.cls att_due_count (ok_dsp_due_count_3 t hB) (by decide) (lenA_cons (lenA_cons lenA_nil)) rfl (sv 1) (sa_cons (sv 2) (sa_cons (sv 3) sa_nil))))),(sv 3)⟩))
 (ss_cons (ss_setC (comp_of (scD:=defScope s_zd) (NX:=["self", "cells", "fars", "counts", "wrong", "weights"]) (caps:=[2]) (N:=["fars", "at"]) (tn:=["at"]) (by decide +kernel) rfl rfl) cx.calm sc_zd.nd rfl (Or.inl rfl) (sic_seq cx.hK (sv 4)) (tgk_name (by decide)) (fun C s H ex=>⟨(sg_name (by decide:(["fars", "at"]:List Str).Nodup) rfl (Or.inl rfl)),sts_nil,(se_callN (ok_zaw t hB) cx.comp (by decide) rfl t.m_zaw t.F_zaw.kp t.B_zaw (lenA_cons (lenA_cons lenA_nil)) rfl (sa_cons (se_int) (sa_cons (se_callN (ok_zaa t hB) cx.comp (by decide) rfl t.m_zaa t.F_zaa.kp t.B_zaa (lenA_cons (lenA_cons lenA_nil)) rfl (sa_cons (sv 0) (sa_cons (sv 1) sa_nil))) sa_nil)))⟩))
 (ss_one (ss_ret (se_add (se_mul (se_met cx t.cls att_measure (ok_dsp_measure_2 t hB) (by decide) (lenA_cons lenA_nil) rfl (se_attr (k:=9) cx.hK rfl t.cls t.na_far_rule (sv 0)) (sa_cons (sv 2) sa_nil)) (se_callN (ok_zaw t hB) cx (by decide) rfl t.m_zaw t.F_zaw.kp t.B_zaw (lenA_cons (lenA_cons lenA_nil)) rfl (sa_cons (se_int) (sa_cons (se_attr (k:=0) cx.hK rfl t.cls t.na_size (sv 0)) sa_nil)))) (se_sum cx.hK cx.calm rfl t.b_sum (sv 5)))))))))
theorem ok_dsp_measure_0_1_2_3 {X:Cx} (t:Txt X.w X.K X.mg a) (hB:X.K.In X.base):Disp X (T X.K a) 5 "measure" ["self", "cells"] [] dsp_measure_0_1_2_3:=by
 intro c m hc e
 match c,hc,e with
 | 0,_,e=>cases e;exact ⟨_,_,t.H_zr,t.B_zr,(ok_zr t hB).mono (by decide)⟩
 | 1,_,e=>cases e;exact ⟨_,_,t.H_zc,t.B_zc,(ok_zc t hB).mono (by decide)⟩
 | 2,_,e=>cases e;exact ⟨_,_,t.H_FarRule_measure,t.B_zc,(ok_zc t hB).mono (by decide)⟩
 | 3,_,e=>cases e;exact ⟨_,_,t.H_zd,t.B_zd,(ok_zd t hB).mono (by decide)⟩
 | 4,_,e=>cases e
 | n+5,h,_=>exact absurd h (by show ¬ (n+5 < 5);omega)
theorem ok_zv (t:Txt w K mg a) (hB:K.In base):FnOk P w K mg base (CXP P w) 1 a.f_zv a.d_zv ["_law_parts_here", "_law_counts_here"] (spM (T K a) 2 f_zv):=by
 refine fn_okC (k:=0) (N:=["_law_parts_here", "_law_counts_here", "_law_total", "_law_at", "_law_rank", "_law_k"]) (ps:=["_law_parts_here", "_law_counts_here"]) (T:=T K a) (m:=b_zv) t.F_zv sc_zv fun _ _ _ _ _ _ cx=>?_
 exact (ss_cons (ss_set sc_zv.nd rfl (Or.inl rfl) (se_int))
 (ss_cons (ss_for cx.po cx.calm (si_range1 rfl t.b_range (sa_cons (se_len cx.hK rfl t.b_len (sv 0)) sa_nil)) (sg_name sc_zv.nd rfl (Or.inl rfl)) (ss_one (ss_if (st_ne cx.hK cx.hu (se_idx cx.hK (se_idx cx.hK (sv 0) (sv 3) (fun _ _=>rfl)) (se_int) (fun _ _=>rfl)) (se_idx cx.hK (sv 1) (sv 3) (fun _ _=>rfl))) (ss_cons (ss_set sc_zv.nd rfl (Or.inl rfl) (se_int))
 (ss_cons (ss_for cx.po cx.calm (si_range1 rfl t.b_range (sa_cons (se_len cx.hK rfl t.b_len (sv 0)) sa_nil)) (sg_name sc_zv.nd rfl (Or.inl rfl)) (ss_one (ss_if (SW.st (sw_or (st_lt (se_idx cx.hK (se_idx cx.hK (sv 0) (sv 5) (fun _ _=>rfl)) (se_int) (fun _ _=>rfl)) (se_idx cx.hK (se_idx cx.hK (sv 0) (sv 3) (fun _ _=>rfl)) (se_int) (fun _ _=>rfl))) (sw_or1 (SW.st (sw_and (st_eq cx.hK cx.hu (se_idx cx.hK (se_idx cx.hK (sv 0) (sv 5) (fun _ _=>rfl)) (se_int) (fun _ _=>rfl)) (se_idx cx.hK (se_idx cx.hK (sv 0) (sv 3) (fun _ _=>rfl)) (se_int) (fun _ _=>rfl))) (sw_and1 (st_lt (sv 5) (sv 3)))))))) (ss_one (ss_set sc_zv.nd rfl (Or.inl rfl) (se_add (sv 4) (se_int)))) ss_nil)))
 (ss_one (ss_set sc_zv.nd rfl (Or.inl rfl) (se_add (sv 2) (se_shl (se_int) (sv 4))))))) ss_nil)))
 (ss_one (ss_retV rfl (Or.inl rfl)))))
theorem ok_zah (t:Txt w K mg a) (hB:K.In base):FnOk P w K mg base (CXP P w) 6 a.f_zah a.d_zah ["_law_rule", "_law_near_here", "_law_root", "_law_lower", "_law_cells"] (spM (T K a) 5 f_zah):=by
 refine fn_okC (k:=5) (N:=["_law_rule", "_law_near_here", "_law_root", "_law_lower", "_law_cells", "_law_size", "_law_parts_here", "_law_fars", "_law_elders_here", "_law_counts_here", "_law_held", "_law_turn", "_law_found", "_law_due"]) (ps:=["_law_rule", "_law_near_here", "_law_root", "_law_lower", "_law_cells"]) (T:=T K a) (m:=b_zah) t.F_zah sc_zah fun _ _ _ _ _ _ cx=>?_
 exact (ss_cons (ss_set sc_zah.nd rfl (Or.inr rfl) (se_len cx.hK rfl t.b_len (sv 1)))
 (ss_cons (ss_setC (comp_of (scD:=defScope s_zah) (NX:=["_law_rule", "_law_near_here", "_law_root", "_law_lower", "_law_cells", "_law_size", "_law_parts_here", "_law_fars", "_law_elders_here", "_law_counts_here", "_law_held", "_law_turn", "_law_found", "_law_due"]) (caps:=[5]) (N:=["_law_size", "_law_cell"]) (tn:=["_law_cell"]) (by decide +kernel) rfl rfl) cx.calm sc_zah.nd rfl (Or.inl rfl) (sic_seq cx.hK (sv 4)) (tgk_name (by decide)) (fun C s H ex=>⟨(sg_name (by decide:(["_law_size", "_law_cell"]:List Str).Nodup) rfl (Or.inl rfl)),sts_nil,(se_tup (sa_cons (se_div (sv 1) (se_add (sv 0) (se_int))) (sa_cons (se_mod (sv 1) (se_add (sv 0) (se_int))) sa_nil)) (lenA_cons (lenA_cons lenA_nil)))⟩))
 (ss_cons (ss_set sc_zah.nd rfl (Or.inr rfl) (se_comp (comp_of (scD:=defScope s_zah) (NX:=["_law_rule", "_law_near_here", "_law_root", "_law_lower", "_law_cells", "_law_size", "_law_parts_here", "_law_fars", "_law_elders_here", "_law_counts_here", "_law_held", "_law_turn", "_law_found", "_law_due"]) (caps:=[]) (N:=["_law_part"]) (tn:=["_law_part"]) (by decide +kernel) rfl rfl) cx.calm (sic_seq cx.hK (sv 6)) (tgk_name (by decide)) (fun C s H ex=>⟨(sg_name (by decide:(["_law_part"]:List Str).Nodup) rfl (Or.inl rfl)),sts_nil,(se_idx cx.comp.hK (sv 0) (se_int) (fun _ _=>rfl))⟩)))
 (ss_cons (ss_setC (comp_of (scD:=defScope s_zah) (NX:=["_law_rule", "_law_near_here", "_law_root", "_law_lower", "_law_cells", "_law_size", "_law_parts_here", "_law_fars", "_law_elders_here", "_law_counts_here", "_law_held", "_law_turn", "_law_found", "_law_due"]) (caps:=[1,2,7]) (N:=["_law_near_here", "_law_root", "_law_fars", "_law_at"]) (tn:=["_law_at"]) (by decide +kernel) rfl rfl) cx.calm sc_zah.nd rfl (Or.inl rfl) (sic_range1 rfl t.b_range (sa_cons (sv 5) sa_nil)) (tgk_name (by decide)) (fun C s H ex=>⟨(sg_name (by decide:(["_law_near_here", "_law_root", "_law_fars", "_law_at"]:List Str).Nodup) rfl (Or.inl rfl)),sts_nil,(se_callN (ok_zam t hB) cx.comp (by decide) rfl t.m_zam t.F_zam.kp t.B_zam (lenA_cons (lenA_cons (lenA_cons (lenA_cons lenA_nil)))) rfl (sa_cons (sv 0) (sa_cons (sv 1) (sa_cons (sv 2) (sa_cons (sv 3) sa_nil)))))⟩))
 (ss_cons (ss_set sc_zah.nd rfl (Or.inl rfl) (se_callN (ok_zaf t hB) cx (by decide) rfl t.m_zaf t.F_zaf.kp t.B_zaf (lenA_cons (lenA_cons (lenA_cons lenA_nil))) rfl (sa_cons (sv 5) (sa_cons (sv 8) (sa_cons (sv 6) sa_nil)))))
 (ss_cons (ss_set sc_zah.nd rfl (Or.inr rfl) (se_list cx.hK rfl t.b_list bb_list (sv 4)))
 (ss_cons (ss_for cx.po cx.calm (si_range1 rfl t.b_range (sa_cons (se_int) sa_nil)) (sg_name sc_zah.nd rfl (Or.inl rfl)) (ss_cons (ss_set sc_zah.nd rfl (Or.inl rfl) (se_lst (sa_cons (se_met cx t.cls att_parts (ok_dsp_parts_3 t hB) (by decide) (lenA_cons lenA_nil) rfl (sv 0) (sa_cons (sv 10) sa_nil)) (sa_cons (se_met cx t.cls att_elders (ok_dsp_elders_3 t hB) (by decide) (lenA_cons lenA_nil) rfl (sv 0) (sa_cons (sv 10) sa_nil)) sa_nil)) (lenA_cons (lenA_cons lenA_nil))))
 (ss_cons (ss_if (SW.st (sw_or (st_not (st_truth cx.hK (se_callN (ok_zaj t hB) cx (by decide) rfl t.m_zaj t.F_zaj.kp t.B_zaj (lenA_cons (lenA_cons lenA_nil)) rfl (sa_cons (se_idx cx.hK (sv 12) (se_int) (fun _ _=>rfl)) (sa_cons (sv 6) sa_nil))))) (sw_or1 (st_not (st_truth cx.hK (se_callN (ok_zac t hB) cx (by decide) rfl t.m_zac t.F_zac.kp t.B_zac (lenA_cons (lenA_cons lenA_nil)) rfl (sa_cons (se_idx cx.hK (sv 12) (se_int) (fun _ _=>rfl)) (sa_cons (sv 8) sa_nil)))))))) (ss_one (ss_ret (se_bl))) ss_nil)
 (ss_cons (ss_appIxC cx.hK rfl (Or.inl rfl) (se_tup (sa_cons (se_int) (sa_cons (se_int) sa_nil)) (lenA_cons (lenA_cons lenA_nil))) (fun _ _=>rfl))
 (ss_one (ss_appIxC cx.hK rfl (Or.inl rfl) (se_non) (fun _ _=>rfl)))))))
 (ss_cons (ss_if (st_not (st_truth cx.hK (se_callN (ok_zap t hB) cx (by decide) rfl t.m_zap t.F_zap.kp t.B_zap (lenA_cons (lenA_cons lenA_nil)) rfl (sa_cons (se_comp (comp_of (scD:=defScope s_zah) (NX:=["_law_rule", "_law_near_here", "_law_root", "_law_lower", "_law_cells", "_law_size", "_law_parts_here", "_law_fars", "_law_elders_here", "_law_counts_here", "_law_held", "_law_turn", "_law_found", "_law_due"]) (caps:=[0,10]) (N:=["_law_rule", "_law_held", "_law_at"]) (tn:=["_law_at"]) (by decide +kernel) rfl rfl) cx.calm (sic_range1 rfl t.b_range (sa_cons (sv 5) sa_nil)) (tgk_name (by decide)) (fun C s H ex=>⟨(sg_name (by decide:(["_law_rule", "_law_held", "_law_at"]:List Str).Nodup) rfl (Or.inl rfl)),sts_nil,(se_met cx.comp t.cls att_due (ok_dsp_due_0_1_2_3 t hB) (by decide) (lenA_cons (lenA_cons lenA_nil)) rfl (sv 0) (sa_cons (sv 1) (sa_cons (sv 2) sa_nil)))⟩)) (sa_cons (se_callN (ok_zar t hB) cx (by decide) rfl t.m_zar t.F_zar.kp t.B_zar (lenA_cons (lenA_cons (lenA_cons (lenA_cons lenA_nil)))) rfl (sa_cons (sv 1) (sa_cons (sv 2) (sa_cons (sv 6) (sa_cons (sv 9) sa_nil))))) sa_nil))))) (ss_one (ss_ret (se_bl))) ss_nil)
 (ss_cons (ss_set sc_zah.nd rfl (Or.inl rfl) (se_add (se_mul (se_shl (se_int) (sv 5)) (se_met cx t.cls att_measure (ok_dsp_measure_0_1_2_3 t hB) (by decide) (lenA_cons lenA_nil) rfl (sv 3) (sa_cons (sv 7) sa_nil))) (se_callN (ok_zv t hB) cx (by decide) rfl t.m_zv t.F_zv.kp t.B_zv (lenA_cons (lenA_cons lenA_nil)) rfl (sa_cons (sv 6) (sa_cons (sv 9) sa_nil)))))
 (ss_one (ss_ret ((se_and (se_callN (ok_zap t hB) cx (by decide) rfl t.m_zap t.F_zap.kp t.B_zap (lenA_cons (lenA_cons lenA_nil)) rfl (sa_cons (se_lst (sa_cons (se_met cx t.cls att_measure (ok_dsp_measure_0_1_2_3 t hB) (by decide) (lenA_cons lenA_nil) rfl (sv 0) (sa_cons (sv 10) sa_nil)) sa_nil) (lenA_cons lenA_nil)) (sa_cons (se_lst (sa_cons (sv 13) sa_nil) (lenA_cons lenA_nil)) sa_nil))) (se_one (se_eq cx.hK cx.hu (sv 10) (sv 4))))))))))))))))
theorem ok_zae (t:Txt w K mg a) (hB:K.In base):FnOk P w K mg base (CXP P w) 1 a.f_zae a.d_zae ["self", "spoiled"] (spM (T K a) 2 f_zae):=by
 refine fn_okC (k:=0) (N:=["self", "spoiled"]) (ps:=["self", "spoiled"]) (T:=T K a) (m:=b_zae) t.F_zae sc_zae fun _ _ _ _ _ _ cx=>?_
 exact (ss_one (ss_ret (se_listR1 cx.calm rfl t.b_list bb_list rfl t.b_range (sa_cons (se_attr (k:=0) cx.hK rfl t.cls t.na_size (sv 0)) sa_nil))))
theorem ok_dsp_reach_0_1_2_3 {X:Cx} (t:Txt X.w X.K X.mg a) (hB:X.K.In X.base):Disp X (T X.K a) 1 "reach" ["self", "spoiled"] [] dsp_reach_0_1_2_3:=by
 intro c m hc e
 match c,hc,e with
 | 0,_,e=>cases e;exact ⟨_,_,t.H_zae,t.B_zae,(ok_zae t hB).mono (by decide)⟩
 | 1,_,e=>cases e;exact ⟨_,_,t.H_LeastRule_reach,t.B_zae,(ok_zae t hB).mono (by decide)⟩
 | 2,_,e=>cases e;exact ⟨_,_,t.H_FarRule_reach,t.B_zae,(ok_zae t hB).mono (by decide)⟩
 | 3,_,e=>cases e;exact ⟨_,_,t.H_GrowRule_reach,t.B_zae,(ok_zae t hB).mono (by decide)⟩
 | 4,_,e=>cases e
 | n+5,h,_=>exact absurd h (by show ¬ (n+5 < 5);omega)
theorem ok_law (t:Txt w K mg a) (hB:K.In base):FnOk P w K mg base (CXP P w) 9 a.f_law a.d_law ["_law_script"] (spM (T K a) 1 f_law):=by
 refine fn_okC (k:=8) (N:=["_law_script", "_law_first", "_law_size", "_law_root", "_law_ways_here", "_law_near_here", "_law_net", "_law_rule", "_law_lower", "_law_span", "_law_most", "_law_registers", "_law_cell", "_law_number", "_law_cells"]) (ps:=["_law_script"]) (T:=T K a) (m:=b_law) t.F_law sc_law fun _ _ _ _ _ _ cx=>?_
 exact (ss_cons (ss_set sc_law.nd rfl (Or.inl rfl) (se_callN (ok_zy t hB) cx (by decide) rfl t.m_zy t.F_zy.kp t.B_zy (lenA_cons (lenA_cons lenA_nil)) rfl (sa_cons (sv 0) (sa_cons (se_int) sa_nil))))
 (ss_cons (ss_set sc_law.nd rfl (Or.inl rfl) (se_add (se_int) (se_mod (sv 1) (se_int))))
 (ss_cons (ss_set sc_law.nd rfl (Or.inl rfl) (se_mod (se_div (sv 1) (se_int)) (sv 2)))
 (ss_cons (ss_set sc_law.nd rfl (Or.inl rfl) (se_callN (ok_zau t hB) cx (by decide) rfl t.m_zau t.F_zau.kp t.B_zau (lenA_cons (lenA_cons lenA_nil)) rfl (sa_cons (sv 2) (sa_cons (se_callN (ok_zy t hB) cx (by decide) rfl t.m_zy t.F_zy.kp t.B_zy (lenA_cons (lenA_cons lenA_nil)) rfl (sa_cons (sv 0) (sa_cons (se_int) sa_nil))) sa_nil))))
 (ss_cons (ss_set sc_law.nd rfl (Or.inl rfl) (se_callN (ok_zas t hB) cx (by decide) rfl t.m_zas t.F_zas.kp t.B_zas (lenA_cons (lenA_cons lenA_nil)) rfl (sa_cons (sv 2) (sa_cons (sv 4) sa_nil))))
 (ss_cons (ss_set sc_law.nd rfl (Or.inl rfl) (se_new (c:=4) t.M_Net (by show 4 < 5;decide) (ok_zaq t hB) cx (by decide) rfl t.m_Net t.B_zaq (lenA_cons (lenA_cons lenA_nil)) rfl (sa_cons (sv 2) (sa_cons (sv 4) sa_nil))))
 (ss_frz (i:=6) (ss_cons (ss_set sc_law.nd rfl (Or.inl rfl) (se_new (c:=3) t.M_GrowRule (by show 3 < 5;decide) (ok_zm t hB) cx (by decide) rfl t.m_GrowRule t.B_zm (lenA_cons (lenA_cons lenA_nil)) rfl (sa_cons (sv 6) (sa_cons (sv 3) sa_nil))))
 (ss_cons (ss_set sc_law.nd rfl (Or.inl rfl) (se_new (c:=2) t.M_FarRule (by show 2 < 5;decide) (ok_zt t hB) cx (by decide) rfl t.m_FarRule t.B_zt (lenA_cons (lenA_cons lenA_nil)) rfl (sa_cons (sv 6) (sa_cons (sv 3) sa_nil))))
 (ss_cons (ss_set sc_law.nd rfl (Or.inr rfl) (se_mul (se_add (sv 2) (se_int)) (se_add (sv 2) (se_int))))
 (ss_cons (ss_set sc_law.nd rfl (Or.inl rfl) (se_sub (se_mul (se_add (se_met0 cx t.cls att_most (ok_dsp_most_0_1_2_3 t hB) (by decide) rfl (sv 8)) (se_int)) (se_shl (se_int) (sv 2))) (se_int)))
 (ss_cons (ss_if (st_not (st_truth cx.hK (se_callN (ok_zap t hB) cx (by decide) rfl t.m_zap t.F_zap.kp t.B_zap (lenA_cons (lenA_cons lenA_nil)) rfl (sa_cons (se_lst (sa_cons (se_attr (k:=0) cx.hK rfl t.cls t.na_size (sv 7)) (sa_cons (se_attr (k:=7) cx.hK rfl t.cls t.na_span (sv 7)) (sa_cons (se_met0 cx t.cls att_most (ok_dsp_most_0_1_2_3 t hB) (by decide) rfl (sv 7)) (sa_cons (se_met cx t.cls att_soon (ok_dsp_soon_0_1_2_3 t hB) (by decide) (lenA_cons lenA_nil) rfl (sv 7) (sa_cons (se_mod (sv 1) (se_int)) sa_nil)) sa_nil)))) (lenA_cons (lenA_cons (lenA_cons (lenA_cons lenA_nil))))) (sa_cons (se_lst (sa_cons (sv 2) (sa_cons (sv 9) (sa_cons (sv 10) (sa_cons (sv 10) sa_nil)))) (lenA_cons (lenA_cons (lenA_cons (lenA_cons lenA_nil))))) sa_nil))))) (ss_one (ss_ret (se_bl))) ss_nil)
 (ss_cons (ss_set sc_law.nd rfl (Or.inl rfl) (se_callN (ok_zx t hB) cx (by decide) rfl t.m_zx t.F_zx.kp t.B_zx (lenA_cons (lenA_cons lenA_nil)) rfl (sa_cons (se_callN (ok_zy t hB) cx (by decide) rfl t.m_zy t.F_zy.kp t.B_zy (lenA_cons (lenA_cons lenA_nil)) rfl (sa_cons (sv 0) (sa_cons (se_int) sa_nil))) (sa_cons (sv 2) sa_nil))))
 (ss_cons (ss_for cx.po cx.calm (si_seq cx.hK (se_add (se_lst (sa_cons (se_callN (ok_zy t hB) cx (by decide) rfl t.m_zy t.F_zy.kp t.B_zy (lenA_cons (lenA_cons lenA_nil)) rfl (sa_cons (sv 0) (sa_cons (se_int) sa_nil))) sa_nil) (lenA_cons lenA_nil)) (se_slice cx.hK (sv 0) (so_some (se_int)) (so_some (se_int))))) (sg_name sc_law.nd rfl (Or.inl rfl)) (ss_cons (ss_set sc_law.nd rfl (Or.inl rfl) (se_div (sv 12) (sv 2)))
 (ss_cons (ss_setIx rfl (Or.inl rfl) (se_mod (sv 12) (sv 2)) (se_mod (se_div (sv 13) (se_int)) (sv 9)))
 (ss_cons (ss_if (st_eq cx.hK cx.hu (se_mod (sv 13) (se_int)) (se_int)) (ss_one (ss_setIx rfl (Or.inl rfl) (se_mod (sv 12) (sv 2)) (se_sub (se_mod (se_div (sv 13) (se_int)) (se_sub (se_mul (se_int) (se_pow (se_int) (se_int))) (se_int))) (se_sub (se_pow (se_int) (se_int)) (se_int))))) ss_nil)
 (ss_cons (ss_setC (comp_of (scD:=defScope s_law) (NX:=["_law_script", "_law_first", "_law_size", "_law_root", "_law_ways_here", "_law_near_here", "_law_net", "_law_rule", "_law_lower", "_law_span", "_law_most", "_law_registers", "_law_cell", "_law_number", "_law_cells"]) (caps:=[9]) (N:=["_law_span", "_law_one"]) (tn:=["_law_one"]) (by decide +kernel) rfl rfl) cx.calm sc_law.nd rfl (Or.inl rfl) (sic_seq cx.hK (sv 11)) (tgk_name (by decide)) (fun C s H ex=>⟨(sg_name (by decide:(["_law_span", "_law_one"]:List Str).Nodup) rfl (Or.inl rfl)),sts_nil,(se_mod (sv 1) (sv 0))⟩))
 (ss_cons (ss_if (st_not (st_truth cx.hK (se_callN (ok_zap t hB) cx (by decide) rfl t.m_zap t.F_zap.kp t.B_zap (lenA_cons (lenA_cons lenA_nil)) rfl (sa_cons (se_met cx t.cls att_read (ok_dsp_read_0_1_2_3 t hB) (by decide) (lenA_cons lenA_nil) rfl (sv 7) (sa_cons (se_list cx.hK rfl t.b_list bb_list (sv 11)) sa_nil)) (sa_cons (sv 14) sa_nil))))) (ss_one (ss_ret (se_bl))) ss_nil)
 (ss_one (ss_if (st_not (st_truth cx.hK (se_callN (ok_zah t hB) cx (by decide) rfl t.m_zah t.F_zah.kp t.B_zah (lenA_cons (lenA_cons (lenA_cons (lenA_cons (lenA_cons lenA_nil))))) rfl (sa_cons (sv 7) (sa_cons (sv 5) (sa_cons (sv 3) (sa_cons (sv 8) (sa_cons (sv 14) sa_nil)))))))) (ss_one (ss_ret (se_bl))) ss_nil))))))))
 (ss_one (ss_ret ((se_and (se_isB (se_attr (k:=8) cx.hK rfl t.cls t.na_alone (sv 7)) (se_bl)) (se_one (se_eq cx.hK cx.hu (se_met cx t.cls att_reach (ok_dsp_reach_0_1_2_3 t hB) (by decide) (lenA_cons lenA_nil) rfl (sv 7) (sa_cons (se_lst (sa_cons (sv 3) sa_nil) (lenA_cons lenA_nil)) sa_nil)) (se_listR1 cx.calm rfl t.b_list bb_list rfl t.b_range (sa_cons (sv 2) sa_nil))))))))))))))))))))))
end
end G
namespace G
open PySem L2 PR
theorem refuse_yes (n k:Int) (h1:k ≤ n) (h2:n ≤ 10):f_zz [.int n,.int k]=.ok .non:=by
 refine runB_next (e:=[some (.int n),some (.int k)]) ?_
 show b_zz [some (.int n),some (.int k)]=_
 unfold b_zz
 exact br_f (by simp;rw [if_neg (by omega),decide_eq_false (by omega)]) next_nx
theorem ordered_ok {fl:Fl}{n:Nat}{ws:List (Int × Int)} (g:Good n ws) (hf:fl.lend=fl) (hl:fl.isLnt=false):f_zq [.int n,.lst fl (prL ws)]=.ok (.lst .own (prL (sortP (ws.map mm)))):=by
 refine runB_ret (v:=.lst .own (prL (sortP (ws.map mm)))) ?_
 show b_zq [some (.int n),some (.lst fl (prL ws)),none,none,none]=_
 unfold b_zq
 refine seq_next (set_nx (v:=.lst .own []) (by simp) (by simp) rfl) ?_
 simp only [s0_,s1_]
 refine seq_for (fun k e=>∃ c d,e=[some (.int n),some (.lst fl (prL ws)),some (.lst .own (prL ((ws.take k).map mm))),c,d]) (xs:=prL ws) (seqI_lst (by simp [hf]) hl (by simp) (by simp)) ⟨_,_,rfl⟩ (fun k x e hx hP=>?_) (fun e hP=>?_)
 ·obtain ⟨c,d,rfl⟩:=hP
  rw [prL_get] at hx
  obtain ⟨w,hw,rfl⟩:∃ w,ws[k]?=some w∧x=prV w:=by
   cases e:ws[k]? with
   | none=>rw [e] at hx;cases hx
   | some w=>rw [e] at hx;cases hx;exact ⟨w,rfl,rfl⟩
  have hk:k < ws.length:=(List.getElem?_eq_some_iff.mp hw).1
  obtain ⟨r1,r2,r3,r4,r5⟩:=g.rg w (List.mem_of_getElem? hw)
  have hn:((ws.take k).map mm).contains (mm w)=false:=by
   rw [Bool.eq_false_iff]
   intro z
   have z':mm w ∈ (ws.take k).map mm:=by simpa using z
   have nd:=g.nd
   rw [← List.take_append_drop k ws,List.map_append,List.nodup_append] at nd
   refine nd.2.2 _ z' (mm w) (List.mem_map_of_mem ?_) rfl
   rw [List.drop_eq_getElem_cons hk]
   obtain ⟨_,e⟩:=List.getElem?_eq_some_iff.mp hw
   rw [e]
   exact List.mem_cons_self
  have hn':mm w ∉ (ws.map mm).take k:=by
   rw [← List.map_take]
   simpa using hn
  have ht:(ws.take (k+1)).map mm=(ws.take k).map mm ++ [mm w]:=by rw [List.take_add_one,hw];simp
  have hz:=g.sz
  refine ⟨_,tgN_ok rfl,goes_seq (set_nx (v:=prV (mm w)) (by simp [p1,tup_pr,mm]) (by simp) rfl) ?_⟩
  simp only [s0_,s1_]
  refine goes_seq (br_f (by simp [mm];rw [if_neg (by omega),decide_eq_false (by omega)]) next_nx) ?_
  refine goes_seq (br_f (by simp [mm];omega) next_nx) ?_
  refine goes_seq (br_f (by simp only [ev_Test,ev_Op,ev_Var];simp [hn']) next_nx) ?_
  refine goes_last (append_nx (v:=prV (mm w)) (xs:=prL ((ws.take k).map mm)) (by simp) rfl (by simp) (by simp;omega)) ⟨some (prV w),some (prV (mm w)),?_⟩
  simp only [s0_,s1_]
  rw [ht,← prL_app]
  rfl
 ·obtain ⟨c,d,rfl⟩:=hP
  refine ret_v ?_ (by simp)
  have e:ws.take (prL ws).length=ws:=by rw [prL_len,List.take_length]
  simp only [e]
  simp [p1,sorted_prL (f:=.lnt) (ps:=ws.map mm) (by simpa using g.sz) g.nd]
theorem two_filters (a:Int):∀ (ps:List (Int × Int)),(∀ x ∈ ps,x.1 ≠ x.2)→(ps.filter fun x=>decide (x.2=a)).length+(ps.filter fun x=>decide (x.1=a)).length ≤ ps.length
 | [],_=>Nat.le_refl _
 | x::ps,h=>by
  have:=two_filters a ps fun y hy=>h y (List.mem_cons_of_mem _ hy)
  have hx:=h x List.mem_cons_self
  rw [List.filter_cons,List.filter_cons]
  by_cases h1:x.2=a
  ·have h2:x.1 ≠ a:=fun z=>hx (z.trans h1.symm)
   simp [h1,h2];omega
  ·by_cases h2:x.1=a
   ·simp [h1,h2];omega
   ·simp [h1,h2];omega
theorem neigh_ok (ps:List (Int × Int)) (a:Int) (h:ps.length < 64) (hne:∀ x ∈ ps,x.1 ≠ x.2):f_zad [.tup (prL ps),.int a]=.ok (.lst .own (iL (nbL ps a))):=by
 refine runB_ret (v:=.lst .own (iL (nbL ps a))) ?_
 show b_zad [some (.tup (prL ps)),some (.int a),none,none]=_
 unfold b_zad
 refine seq_next (set_nx (v:=.lst .own (iL ((ps.filter fun x=>decide (x.2=a)).map (·.1)))) ?_ (by simp) rfl) ?_
 ·refine comp_ok (xs:=prL ps) (by simp) (by simp;omega) ?_
  unfold iL prL
  rw [List.map_map]
  exact compL_filter (a:=prV) (f:=PV.int ∘ Prod.fst) (p:=fun x=>decide (x.2=a)) ps fun x _=>⟨[some (.int a),some (prV x)],by simp [tgN,okSlot,capE],by simp,fun _=>⟨by simp,rfl,rfl⟩⟩
 simp only [s0_,s1_]
 refine seq_next (set_nx (v:=.lst .own (iL ((ps.filter fun x=>decide (x.1=a)).map (·.2)))) ?_ (by simp) rfl) ?_
 ·refine comp_ok (xs:=prL ps) (by simp) (by simp;omega) ?_
  rw [show iL ((ps.filter fun x=>decide (x.1=a)).map (·.2))=(ps.filter fun x=>decide (x.1=a)).map (PV.int ∘ Prod.snd) from List.map_map ..]
  exact compL_filter (a:=prV) (f:=PV.int ∘ Prod.snd) (p:=fun x=>decide (x.1=a)) ps fun x _=>⟨[some (.int a),some (prV x)],by simp [tgN,okSlot,capE],by simp,fun _=>⟨by simp,rfl,rfl⟩⟩
 simp only [s0_,s1_]
 refine ret_v ?_ (by simp)
 have h1:=two_filters a ps hne
 simp only [ev_Call,ev_Cons,ev_Op,ev_Var,ev_Nil]
 simp [p1]
 rw [plus_lst (by decide) (by decide) (by simp;omega)]
 simp
 rw [sorted_iL _ (by simp;omega)]
 rfl
abbrev net (fl:Fl) (n:Nat) (ps:List (Int × Int)):PV:=.obj fl 4 [0,1,2] [.int n,.tup (prL ps),.tup ((List.range n).map fun k:Nat=>.tup (iL (nbL ps k)))]
@[simp] theorem nbT_has {n:Nat}{ps:List (Int × Int)}{p:Fl→Bool}:hasL p ((List.range n).map fun k:Nat=>PV.tup (iL (nbL ps k)))=false:=by
 induction List.range n with
 | nil=>rfl
 | cons a l ih=>simp [hasL,PV.has,ih]
@[simp] theorem nbT_map {n:Nat}{ps:List (Int × Int)}{g:Fl→Fl}:mapL g ((List.range n).map fun k:Nat=>PV.tup (iL (nbL ps k)))=(List.range n).map fun k:Nat=>PV.tup (iL (nbL ps k)):=by
 induction List.range n with
 | nil=>rfl
 | cons a l ih=>simp [mapL,PV.mapF,ih]
theorem beside_ok {n:Nat}{ps:List (Int × Int)}{k:Nat} (hk:k < n):f_zab [net .bor n ps,.int k]=.ok (.lst .own (iL (nbL ps k))):=by
 refine runB_ret (v:=.lst .own (iL (nbL ps k))) ?_
 show b_zab [some (net .bor n ps),some (.int k)]=_
 unfold b_zab
 refine ret_v ?_ (by simp)
 have e:pIdx (.tup ((List.range n).map fun k:Nat=>PV.tup (iL (nbL ps k)))) (.int k)=.ok (.tup (iL (nbL ps k))):=by
  have hk':((List.range n).map fun k:Nat=>PV.tup (iL (nbL ps k)))[k]?=some (.tup (iL (nbL ps k))):=by simp [hk]
  exact idx_at rfl hk' (by simp [PV.has])
 simp [pAttr,getF,p1,pList,e,seqOf]
def adjP (ps:List (Int × Int)) (i j:Nat):Prop:=((i:Int),(j:Int)) ∈ ps ∨ ((j:Int),(i:Int)) ∈ ps
theorem far_ok {n r:Nat}{ps:List (Int × Int)} (hr:r < n) (hn:n ≤ 10) (g:∀ x ∈ ps,0 ≤ x.1∧x.1 < n∧0 ≤ x.2∧x.2 < n) :
  ∃ far,f_zao [net .bor n ps,.int r]=.ok (.lst .own (iL far))∧Dist n r (adjP ps) far:=by
 have a0:pAttr 0 (net .bor n ps)=.ok (.int n):=by simp [pAttr,getF]
 have end_:∀ e:En,(∃ far a b c,e=[some (net .bor n ps),some (.int r),some (.lst .own (iL far)),a,b,c]∧Far n r (adjP ps) n 0 (fun _=>False) far)→∃ far,mRetV 2 e=.ret (.lst .own (iL far))∧Dist n r (adjP ps) far:=fun e ⟨far,a,b,c,he,F⟩=>⟨far,by subst he;exact retV_v rfl,F.dist⟩
 let P:Nat→En→Prop:=fun s e=>∃ far a b c,e=[some (net .bor n ps),some (.int r),some (.lst .own (iL far)),a,b,c]∧Far n r (adjP ps) s 0 (fun _=>False) far
 have loop:∃ e2,mFor (mRng1 (mCons (mUn (pAttr 0) (mVar 0)) mNil)) (tgN 3)
   (mFor (mRng1 (mCons (mUn (pAttr 0) (mVar 0)) mNil)) (tgN 4)
   (mBr (mTest (mOp pEq (mOp pIdx (mVar 2) (mVar 4)) (mVar 3)))
   (mFor (mSeqI (mMet dsp_beside_4 (mVar 0) (mCons (mVar 4) mNil))) (tgN 5)
   (mSetIx 2 (mVar 5) (mCall (pInt2L min) (mCons (mOp pIdx (mVar 2) (mVar 5)) (mCons (mOp pPlus (mVar 3) (mC (.int (1)))) mNil)))))
   mNext)) [some (net .bor n ps),some (.int r),some (.lst .own (iL (((List.range n).map fun _=>(n:Int)).set r 0))),none,none,none]=.next e2∧P (rngP 0 n).length e2:=by
  refine for_inv P (rng1_ok (n:=n) (by simp [a0]) (by omega)) ⟨_,_,_,_,rfl,Far.start hr (fun i hi=>?_) (by simp)⟩ (fun s x e hx hP=>?_)
  ·rw [gt_set _ (by simpa using hr)]
   simp [gt,hi]
  ·obtain ⟨far,a,b,c,rfl,F⟩:=hP
   obtain ⟨hs,rfl⟩:=rngP_get hx
   suffices Goes _ _ by
    obtain ⟨e2,h1,h2⟩:=this
    exact ⟨_,e2,tgN_ok rfl,h1,h2⟩
   refine goes_forl (fun k e=>∃ far b c,e=[some (net .bor n ps),some (.int r),some (.lst .own (iL far)),some (.int (0+(s:Int))),b,c]∧Far n r (adjP ps) s k (fun _=>False) far) (rng1_ok (n:=n) (by simp [a0]) (by omega)) ⟨_,_,_,rfl,F⟩ (fun k x e hx hP=>?_) (fun e hP=>?_)
   ·obtain ⟨far,b,c,rfl,F⟩:=hP
    obtain ⟨hk,rfl⟩:=rngP_get hx
    have ix:∀ (f:Fl) (i:Nat),i < n→pIdx (.lst f (iL far)) (.int i)=.ok (.int (gt far i)):=fun f i hi=>idx_ints _ (by omega) (by
     have:i < far.length:=by rw [F.len];exact hi
     simp [gt,this])
    refine ⟨_,tgN_ok rfl,?_⟩
    simp only [s0_,s1_]
    by_cases hv:gt far k=s
    ·refine goes_br_t (by simp [ix _ k hk,hv]) ?_
     have nbs:∀ o ∈ nbL ps k,∃ j:Nat,o=j∧j < n∧adjP ps j k:=fun o ho=>by
      rcases nb_mem.mp ho with q | q
      ·have:=g _ q
       exact ⟨o.toNat,by omega,by omega,.inl (by rw [show ((o.toNat:Nat):Int)=o by omega];exact q)⟩
      ·have:=g _ q
       exact ⟨o.toNat,by omega,by omega,.inr (by rw [show ((o.toNat:Nat):Int)=o by omega];exact q)⟩
     refine goes_forl (fun q e=>∃ far c,e=[some (net .bor n ps),some (.int r),some (.lst .own (iL far)),some (.int (0+(s:Int))),some (.int (0+(k:Int))),c]∧Far n r (adjP ps) s k (fun j=>(j:Int) ∈ (nbL ps k).take q) far∧gt far k=s) (xs:=iL (nbL ps k)) ?_ ⟨far,_,rfl,F.none (by simp),hv⟩ (fun q x e hx hP=>?_) (fun e hP=>?_)
     ·have bk:=beside_ok (ps:=ps) hk
      refine seqI_lst (f:=.own) ?_ rfl (by simp) (by simp)
      simp [dsp_beside_4,bk,noBor]
     ·obtain ⟨far,c,rfl,F,hv⟩:=hP
      rw [ints_get] at hx
      obtain ⟨o,ho,rfl⟩:∃ o,(nbL ps k)[q]?=some o∧x=.int o:=by
       cases e:(nbL ps k)[q]? with
       | none=>rw [e] at hx;cases hx
       | some w=>rw [e] at hx;cases hx;exact ⟨w,rfl,rfl⟩
      obtain ⟨j,rfl,hj,aj⟩:=nbs o (List.mem_of_getElem? ho)
      have ix:∀ (f:Fl) (i:Nat),i < n→pIdx (.lst f (iL far)) (.int i)=.ok (.int (gt far i)):=fun f i hi=>idx_ints _ (by omega) (by
       have:i < far.length:=by rw [F.len];exact hi
       simp [gt,this])
      obtain ⟨F',hv'⟩:=F.relax hk hv hj aj hs
      refine ⟨_,tgN_ok rfl,goes_last (setIx_nx (v:=.int (min (gt far j) ((s:Int)+1))) (xs:=iL far) (j:=j) (n:=j) (by simp [ix _ j hj,pInt2L]) rfl (by simp) (ixN_nat (by rw [ints_len,F.len];exact hj)) (by simp)) ⟨_,some (.int j),?_,?_,hv'⟩⟩
      ·rw [ints_set];rfl
      ·have e:∀ i:Nat,((i:Int) ∈ (nbL ps k).take (q+1))=((i:Int) ∈ (nbL ps k).take q ∨ i=j):=fun i=>by
        rw [List.take_add_one,ho]
        simp
        exact or_congr_right ⟨fun h=>by omega,fun h=>by omega⟩
       simp only [e]
       exact F'
     ·obtain ⟨far,c,rfl,F,hv⟩:=hP
      refine ⟨far,_,_,rfl,F.close fun j hj a=>?_⟩
      rw [ints_len,List.take_length]
      exact nb_mem.mpr (a.elim .inr .inl)
    ·refine goes_br_f (by simp [ix _ k hk,hv]) (goes_last next_nx ⟨far,_,_,rfl,F.skip hv⟩)
   ·obtain ⟨far,b,c,rfl,F⟩:=hP
    rw [rngP_len] at F
    exact ⟨far,_,_,_,rfl,F.next⟩
 obtain ⟨e2,h1,h2⟩:=loop
 rw [rngP_len] at h2
 obtain ⟨far,h3,h4⟩:=end_ e2 h2
 refine ⟨far,runB_ret (v:=.lst .own (iL far)) ?_,h4⟩
 show b_zao [some (net .bor n ps),some (.int r),none,none,none,none]=_
 unfold b_zao
 refine seq_next (set_nx (v:=.lst .own (iL ((List.range n).map fun _=>(n:Int)))) ?_ (by simp) rfl) ?_
 ·refine comp_ok (xs:=rngP 0 n) (rng1_ok (n:=n) (by simp [a0]) (by omega)) (by rw [rngP_len];omega) ?_
  rw [show iL ((List.range n).map fun _=>(n:Int))=(List.range n).map (fun _=>PV.int n) from by simp [iL]]
  exact compL_map (a:=fun k:Nat=>PV.int (0+(k:Int))) (f:=fun _=>PV.int n) (List.range n) fun k _=>⟨[some (net .bor n ps),some (.int (0+k))],by simp [tgN,okSlot,capE,PV.borrow],by simp [a0],rfl,rfl⟩
 simp only [s0_,s1_]
 refine seq_next (setIx_nx (v:=.int 0) (xs:=iL ((List.range n).map fun _=>(n:Int))) (j:=r) (n:=r) (by simp) rfl (by simp) (ixN_nat (by simpa using hr)) (by simp)) ?_
 rw [ints_set]
 exact seq_next h1 h3
theorem max_lt {far:List Int}{b:Int} (h:far ≠ []) (hb:∀ x ∈ far,x < b):maxI far < b:=hb _ (maxI_mem h).1
theorem init_ok {fl:Fl}{n:Nat}{ws:List (Int × Int)} (g:Good n ws) (h1:1 ≤ n) (hn:n ≤ 10) (hf:fl.lend.toBor=.bor ∨ fl.lend.toBor=.frz) (conn:∀ S:Nat→Prop,S 0→(∀ i < n,∀ j < n,adjP (sortP (ws.map mm)) i j→S i→S j)→∀ i < n,S i) :
  f_zaq [.obj .own 4 [] [],.int n,.lst fl (prL ws)]=.ok (net .own n (sortP (ws.map mm))):=by
 have hfl:fl.lend.toBor.lend=fl.lend.toBor:=by rcases hf with e | e <;> rw [e] <;> rfl
 have hfi:fl.lend.toBor.isLnt=false:=by rcases hf with e | e <;> rw [e] <;> rfl
 have o1:=ordered_ok (fl:=fl.lend.toBor) g hfl hfi
 have rg:∀ x ∈ sortP (ws.map mm),0 ≤ x.1∧x.1 < n∧0 ≤ x.2∧x.2 < n∧x.1 ≠ x.2:=fun x hx=>by
  obtain ⟨w,hw,rfl⟩:=List.mem_map.mp ((sortP_perm _).mem_iff.mp hx)
  have:=g.rg w hw
  simp only [mm]
  omega
 have sz:(sortP (ws.map mm)).length < 64:=by rw [(sortP_perm _).length_eq,List.length_map];exact g.sz
 generalize hps:sortP (ws.map mm)=ps at *
 have nb:∀ k:Nat,f_zad [.tup (prL ps),.int k]=.ok (.lst .own (iL (nbL ps k))):=fun k=>neigh_ok ps k sz fun x hx=>(rg x hx).2.2.2.2
 obtain ⟨far,e1,D⟩:=far_ok (n:=n) (r:=0) (ps:=ps) (by omega) hn fun x hx=>⟨(rg x hx).1,(rg x hx).2.1,(rg x hx).2.2.1,(rg x hx).2.2.2.1⟩
 have hall:=D.all (by omega) conn
 have hne:far ≠ []:=fun z=>by have:=D.len;rw [z] at this;simp at this;omega
 have hmx:maxI far < n:=max_lt hne fun x hx=>by
  obtain ⟨i,hi,rfl⟩:=List.getElem_of_mem hx
  have:=hall i (by rw [← D.len];exact hi)
  simpa [gt,hi] using this
 refine runI_ok (e:=[some (net .own n ps),some (.int n),some (.lst fl (prL ws))]) ?_ rfl
 show b_zaq [some (.obj .own 4 [] []),some (.int n),some (.lst fl (prL ws))]=_
 unfold b_zaq
 have rf:=refuse_yes n 1 (by omega) (by omega)
 refine seq_next (drop_nx (v:=.non) (by simp [rf,noBor])) ?_
 refine seq_next (fld_nx (v:=.int n) (ks:=[]) (vs:=[]) (by simp) rfl (by simp) rfl (by decide)) ?_
 simp only [s0_,s1_]
 refine seq_next (fld_nx (v:=.tup (prL ps)) (ks:=[0]) (vs:=[.int n]) ?_ rfl (by simp) rfl (by decide)) ?_
 ·simp [o1,noBor,p1,pTuple,seqOf]
 simp only [s0_,s1_]
 refine seq_next (fld_nx (v:=.tup ((List.range n).map fun k:Nat=>.tup (iL (nbL ps k)))) (ks:=[0,1]) (vs:=[.int n,.tup (prL ps)]) ?_ rfl (by simp) rfl (by decide)) ?_
 ·simp only [ev_Call,ev_Cons,ev_Nil]
  rw [comp_ok (xs:=rngP 0 n) (ys:=(List.range n).map fun k:Nat=>.tup (iL (nbL ps k))) (rng1_ok (n:=n) (by simp) (by omega)) (by rw [rngP_len];omega)
   (compL_map (a:=fun k:Nat=>PV.int (0+(k:Int))) (f:=fun k:Nat=>.tup (iL (nbL ps k))) (List.range n) fun k _=>⟨[some (.obj .bor 4 [0,1] [.int n,.tup (prL ps)]),some (.int (0+k))],by simp [tgN,okSlot,capE],by simp [pAttr,getF,nb,noBor,p1,pTuple,seqOf],by simp [PV.has],by simp [PV.has]⟩)]
  simp [p1,pTuple,seqOf]
 simp only [s0_,s1_]
 refine br_f ?_ next_nx
 have hi:far.isEmpty=false:=by cases far with | nil=>exact absurd rfl hne | cons a l=>rfl
 have e2:f_zao [net .bor n ps,.int 0]=.ok (.lst .own (iL far)):=e1
 simp [e2,noBor,p1,pInts,seqOf,hi]
 omega
def cell (ns:List Int) (k:Nat):Int:=ns.getD k 0
theorem cell_ok {fl:Fl} (ns:List Int) (k:Nat) (h:Scr fl):f_zy [.lst fl (iL ns),.int k]=.ok (.int (cell ns k)):=by
 refine runB_ret ?_
 show b_zy [some (.lst fl (iL ns)),some (.int k)]=_
 unfold b_zy cell
 by_cases hk:k < ns.length
 ·refine seq_ret (br_t (by simp [h.lend,hk]) (ret_v ?_ (by simp)))
  simp only [ev_Op,ev_Var]
  simp [h.lend]
  rw [idx_ints ns (by omega) (n:=ns.getD k 0) (by simp [hk])]
  simp [hk]
 ·refine seq_next (br_f (by simp [h.lend,hk]) next_nx) (ret_v (by simp [List.getElem?_eq_none (Nat.le_of_not_lt hk)]) (by simp))
theorem whole_ok (n:Int):f_zak [.int n]=.ok (.bl true):=by
 refine runB_ret (v:=.bl true) ?_
 show b_zak [some (.int n)]=_
 unfold b_zak
 exact ret_v (by simp [isiB]) (by simp)
theorem beside_frz {n:Nat}{ps:List (Int × Int)}{k:Nat} (hk:k < n):f_zab [net .frz n ps,.int k]=.ok (.lst .own (iL (nbL ps k))):=by
 refine runB_ret (v:=.lst .own (iL (nbL ps k))) ?_
 show b_zab [some (net .frz n ps),some (.int k)]=_
 unfold b_zab
 refine ret_v ?_ (by simp)
 have e:pIdx (.tup ((List.range n).map fun k:Nat=>PV.tup (iL (nbL ps k)))) (.int k)=.ok (.tup (iL (nbL ps k))):=by
  have hk':((List.range n).map fun k:Nat=>PV.tup (iL (nbL ps k)))[k]?=some (.tup (iL (nbL ps k))):=by simp [hk]
  exact idx_at rfl hk' (by simp [PV.has])
 simp [pAttr,getF,p1,pList,e,seqOf]
theorem conn_of {n m r:Nat}{ws:List (Int × Int)} (Wh:Whole n m ws) (hr:r < n) (S:Nat→Prop) (h0:S r) (hc:∀ i < n,∀ j < n,adjP (sortP (ws.map mm)) i j→S i→S j):∀ i < n,S i:=fun i hi=>by
 have:=Wh.cn (fun x=>S x.toNat) (fun w hw=>?_) r i hr hi (by simpa using h0)
 ·simpa using this
 ·have rg:=Wh.rg w hw
  have hm:mm w ∈ sortP (ws.map mm):=(sortP_perm _).mem_iff.mpr (List.mem_map_of_mem hw)
  have e1:((w.1.toNat:Nat):Int)=w.1:=by omega
  have e2:((w.2.toNat:Nat):Int)=w.2:=by omega
  have ad:adjP (sortP (ws.map mm)) w.1.toNat w.2.toNat:=by
   unfold adjP
   rw [e1,e2]
   rcases Int.le_total w.1 w.2 with h | h
   ·left
    rw [show (w.1,w.2)=mm w by simp only [mm,Prod.mk.injEq];omega]
    exact hm
   ·right
    rw [show (w.2,w.1)=mm w by simp only [mm,Prod.mk.injEq];omega]
    exact hm
  exact ⟨hc _ (by omega) _ (by omega) ad,hc _ (by omega) _ (by omega) (ad.elim .inr .inl)⟩
def fnd (ws:List (Int × Int)) (a:Int):List Int:=ws.flatMap fun w=>(if w.1=a then [w.2] else []) ++ (if w.2=a then [w.1] else [])
theorem fnd_perm (a:Int):∀ (ws:List (Int × Int)),(∀ w ∈ ws,w.1 ≠ w.2)→(fnd ws a).Perm (((ws.map mm).filter fun x=>decide (x.2=a)).map (·.1) ++ ((ws.map mm).filter fun x=>decide (x.1=a)).map (·.2))
 | [],_=>.refl _
 | w::ws,h=>by
  have ih:=fnd_perm a ws fun u hu=>h u (List.mem_cons_of_mem _ hu)
  have hw:=h w List.mem_cons_self
  have e:fnd (w::ws) a=((if w.1=a then [w.2] else []) ++ (if w.2=a then [w.1] else [])) ++ fnd ws a:=rfl
  rw [e,List.map_cons,List.filter_cons,List.filter_cons]
  have lo:∀ (x:Int) (A B:List Int),(fnd ws a).Perm (A ++ B)→([x] ++ fnd ws a).Perm ((x::A) ++ B):=fun x A B p=>p.cons x
  have hi:∀ (x:Int) (A B:List Int),(fnd ws a).Perm (A ++ B)→([x] ++ fnd ws a).Perm (A ++ (x::B)):=fun x A B p=>(p.cons x).trans List.perm_middle.symm
  by_cases h1:w.1=a
  ·have h2:w.2 ≠ a:=fun z=>hw (h1.trans z.symm)
   rw [if_pos h1,if_neg h2,List.append_nil]
   rcases Int.le_total w.1 w.2 with q | q
   ·have m1:(mm w).1=a:=by simp only [mm];omega
    have m2:(mm w).2 ≠ a:=by simp only [mm];omega
    have m3:(mm w).2=w.2:=by simp only [mm];omega
    rw [if_neg (by simp [m2]),if_pos (decide_eq_true m1)];simp only [List.map_cons,m3]
    exact hi _ _ _ ih
   ·have m1:(mm w).1 ≠ a:=by simp only [mm];omega
    have m2:(mm w).2=a:=by simp only [mm];omega
    have m3:(mm w).1=w.2:=by simp only [mm];omega
    rw [if_pos (decide_eq_true m2),if_neg (by simp [m1])];simp only [List.map_cons,m3]
    exact lo _ _ _ ih
  ·by_cases h2:w.2=a
   ·rw [if_neg h1,if_pos h2,List.nil_append]
    rcases Int.le_total w.1 w.2 with q | q
    ·have m1:(mm w).1 ≠ a:=by simp only [mm];omega
     have m2:(mm w).2=a:=by simp only [mm];omega
     have m3:(mm w).1=w.1:=by simp only [mm];omega
     rw [if_pos (decide_eq_true m2),if_neg (by simp [m1])];simp only [List.map_cons,m3]
     exact lo _ _ _ ih
    ·have m1:(mm w).1=a:=by simp only [mm];omega
     have m2:(mm w).2 ≠ a:=by simp only [mm];omega
     have m3:(mm w).2=w.1:=by simp only [mm];omega
     rw [if_neg (by simp [m2]),if_pos (decide_eq_true m1)];simp only [List.map_cons,m3]
     exact hi _ _ _ ih
   ·rw [if_neg h1,if_neg h2]
    have m1:(mm w).1 ≠ a:=by simp only [mm];omega
    have m2:(mm w).2 ≠ a:=by simp only [mm];omega
    simp only [m1,m2,decide_false,Bool.false_eq_true,if_false]
    exact ih
theorem fnd_sort {ws:List (Int × Int)} (a:Int) (h:∀ w ∈ ws,w.1 ≠ w.2):sortI (fnd ws a)=nbL (sortP (ws.map mm)) a:=by
 unfold nbL
 refine sortI_only ((sortI_perm _).trans ((fnd_perm a ws h).trans ?_)) (sortI_asc _)
 have p:=(sortP_perm (ws.map mm)).symm
 exact ((p.filter _).map _).append ((p.filter _).map _)
theorem numbers_ok (c:Int) (m:Nat) (hm:m ≤ 1000):∃ l:List Int,f_zx [.int c,.int m]=.ok (.lst .own (iL l))∧l.length=m∧∀ x ∈ l,0 ≤ x∧x < 998244353:=by
 suffices hh:Rets (b_zx [some (.int c),some (.int m),none,none,none]) (fun v=>∃ l:List Int,v=.lst .own (iL l)∧l.length=m∧∀ x ∈ l,0 ≤ x∧x < 998244353) by
  obtain ⟨v,h1,l,rfl,h2⟩:=hh
  exact ⟨l,runB_ret h1,h2⟩
 unfold b_zx
 have c1:=Int.emod_nonneg c (show (998244353:Int) ≠ 0 by decide)
 have c2:=Int.emod_lt_of_pos c (show (0:Int) < 998244353 by decide)
 refine rets_seq (set_nx (v:=.int (c % 998244353)) (by simp [mod_ok]) (by simp) rfl) ?_
 simp only [s0_,s1_]
 refine rets_seq (set_nx (v:=.lst .own []) (by simp) (by simp) rfl) ?_
 simp only [s0_,s1_]
 refine rets_for (fun k e=>∃ z l x4,e=[some (.int c),some (.int m),some (.int z),some (.lst .own (iL l)),x4]∧l.length=k∧k ≤ m∧(0 ≤ z∧z < 998244353)∧∀ x ∈ l,0 ≤ x∧x < 998244353) (rng1_ok (n:=m) (by simp) (by omega)) ⟨c % 998244353,[],none,rfl,rfl,by omega,⟨c1,c2⟩,fun _ z=>nomatch z⟩ (fun k x e hx hP=>?_) (fun e hP=>?_)
 ·obtain ⟨z,l,x4,rfl,hk,_,⟨z1,z2⟩,hl⟩:=hP
  obtain ⟨hkm,rfl⟩:=rngP_get hx
  have e1:pMul (.int 2) (.int (k:Int))=.ok (.int (2 * (k:Int))):=mul_ok (.inl ⟨by decide,by decide⟩)
  have e2:pMul (.int 12553) (.int (k:Int))=.ok (.int (12553 * (k:Int))):=mul_ok (.inl ⟨by decide,by decide⟩)
  have e3:pMul (.int z) (.int (z+2 * (k:Int)+40503))=.ok (.int (z * (z+2 * (k:Int)+40503))):=mul_ok (.inl ⟨by omega,by omega⟩)
  generalize hw:(z * (z+2 * (k:Int)+40503)+12553 * (k:Int)+1) % 998244353=w
  have w1:0 ≤ w:=by rw [← hw];exact Int.emod_nonneg _ (by decide)
  have w2:w < 998244353:=by rw [← hw];exact Int.emod_lt_of_pos _ (by decide)
  refine ⟨_,tgN_ok rfl,?_⟩
  simp only [s0_,s1_]
  refine goes_seq (set_nx (v:=.int w) (by simp [e1,e2,e3,mod_ok,hw]) (by simp) rfl) ?_
  simp only [s0_,s1_]
  refine goes_last (append_nx (v:=.int w) (xs:=iL l) (by simp) rfl (by simp) (by rw [ints_len];omega)) ⟨w,l ++ [w],_,by simp [iL];rfl,by simp [hk],by omega,⟨w1,w2⟩,fun x hx=>?_⟩
  rcases List.mem_append.mp hx with hx | hx
  ·exact hl x hx
  ·simp at hx;subst hx;exact ⟨w1,w2⟩
 ·obtain ⟨z,l,x4,rfl,hk,_,_,hl⟩:=hP
  rw [rngP_len] at hk
  exact rets_last (retV_v rfl) ⟨l,rfl,hk,hl⟩
def tri:Nat→Nat
 | 0=>0
 | k+1=>tri k+k
theorem put_end {α:Type} (y:α) (xs:List α):PR.putAt xs.length y xs=xs ++ [y]:=by simp [PR.putAt]
theorem ways_ok {n:Nat} (c:Int) (n1:1 ≤ n) (n2:n ≤ 10):∃ ws:List (Int × Int),f_zau [.int n,.int c]=.ok (.lst .own (prL ws))∧Whole n 55 ws:=by
 obtain ⟨l,hl1,hl2,hl3⟩:=numbers_ok c n (by omega)
 suffices hh:Rets (b_zau [some (.int n),some (.int c),none,none,none,none,none,none]) (fun v=>∃ ws:List (Int × Int),v=.lst .own (prL ws)∧Whole n 55 ws) by
  obtain ⟨v,h1,ws,rfl,h2⟩:=hh
  exact ⟨ws,runB_ret h1,h2⟩
 unfold b_zau
 have np:(0:Int) < n:=by omega
 have gl:∀ (f:Fl) (k:Nat),k < n→pIdx (.lst f (iL l)) (.int (k:Int))=.ok (.int (gt l k)):=fun f k hk=>by simpa using gt_idx (f:=f) (cs:=l) (i:=k) (by omega) (by omega)
 refine rets_seq (set_nx (v:=.lst .own (iL l)) (by simp [hl1,noBor]) (by simp) rfl) ?_
 simp only [s0_,s1_]
 refine rets_seq (set_nx (v:=.lst .own []) (by simp) (by simp) rfl) ?_
 simp only [s0_,s1_]
 refine rets_for (fun k e=>∃ od a,e=[some (.int n),some (.int c),some (.lst .own (iL l)),some (.lst .own (iL od)),a,none,none,none]∧od.Perm ((List.range k).map fun k:Nat=>(k:Int))) (rng1_ok (n:=n) (by simp) (by omega)) ⟨[],_,rfl,.refl _⟩ (fun k x e hx hP=>?_) (fun e hP=>?_)
 ·obtain ⟨od,a,rfl,hp⟩:=hP
  obtain ⟨hk,rfl⟩:=rngP_get hx
  have hlen:od.length=k:=by simpa using hp.length_eq
  have b1:=Int.emod_nonneg (gt l k) (show (k:Int)+1 ≠ 0 by omega)
  have b2:=Int.emod_lt_of_pos (gt l k) (show (0:Int) < (k:Int)+1 by omega)
  refine ⟨_,tgN_ok rfl,goes_last (insert_nx (v:=.int k) (xs:=iL od) (j:=gt l k % ((k:Int)+1)) (n:=(gt l k % ((k:Int)+1)).toNat) ?_ (by simp) rfl rfl rfl (by omega) (by rw [ints_len,hlen];omega) (by rw [ints_len];omega)) ⟨PR.putAt (gt l k % ((k:Int)+1)).toNat (k:Int) od,some (.int (0+k)),?_,?_⟩⟩
  ·simp [gl _ k hk,mod_ok (show (0:Int) < (k:Int)+1 by omega)]
  ·rw [put_iL];rfl
  ·refine (put_perm _ _ _).trans ((hp.cons _).trans ?_)
   rw [List.range_succ,List.map_append]
   exact (List.perm_append_singleton _ _).symm
 obtain ⟨od,a,rfl,hp⟩:=hP
 rw [rngP_len] at hp
 have hlen:od.length=n:=by simpa using hp.length_eq
 have hod:od.Nodup:=hp.symm.nodup (List.Pairwise.map _ (fun a b h z=>h (by omega)) List.nodup_range)
 have ix:∀ (f:Fl) (i:Nat),i < n→pIdx (.lst f (iL od)) (.int i)=.ok (.int (od.getD i 0)):=fun f i hi=>idx_ints _ (by omega) (by
  have:i < od.length:=by rw [hlen];exact hi
  simp [this])
 refine rets_seq (set_nx (v:=.lst .own []) (by simp) (by simp) rfl) ?_
 simp only [s0_,s1_]
 refine rets_for (fun q e=>∃ ws a,e=[some (.int n),some (.int c),some (.lst .own (iL l)),some (.lst .own (iL od)),a,some (.lst .own (prL ws)),none,none]∧PR.Tree n od (q+1) ws) (xs:=rngP 1 (n - 1)) ?_ ⟨[],_,rfl,PR.Tree.start hlen n1⟩ (fun q x e hx hP=>?_) (fun e hP=>?_)
 ·rw [rng2_ok (lo:=1) (hi:=n) (by simp) (by omega) (by omega)]
  rw [show ((n:Int) - 1).toNat=n - 1 by omega]
 ·obtain ⟨ws,a,rfl,T⟩:=hP
  obtain ⟨hq,rfl⟩:=rngP_get hx
  have lt:=T.ln
  have kp:(0:Int) < 1+(q:Int):=by omega
  have g1:∀ f:Fl,pIdx (.lst f (iL l)) (.int (1+(q:Int)))=.ok (.int (gt l (q+1))):=fun f=>by
   have:=gl f (q+1) (by omega)
   rwa [show ((q+1:Nat):Int)=1+(q:Int) by omega] at this
  have d16:pDiv (.int (gt l (q+1))) (.int 16)=.ok (.int (gt l (q+1) / 16)):=div_ok (by decide) (by decide)
  generalize gt l (q+1) / 16=z at d16
  have b1:=Int.emod_nonneg z (show (1:Int)+q ≠ 0 by omega)
  have b2:=Int.emod_lt_of_pos z kp
  have i1:∀ f:Fl,pIdx (.lst f (iL od)) (.int (1+(q:Int)))=.ok (.int (od.getD (q+1) 0)):=fun f=>by
   have:=ix f (q+1) (by omega)
   rwa [show ((q+1:Nat):Int)=1+(q:Int) by omega] at this
  have i2:∀ f:Fl,pIdx (.lst f (iL od)) (.int (z % (1+(q:Int))))=.ok (.int (od.getD (z % (1+(q:Int))).toNat 0)):=fun f=>by
   have:=ix f (z % (1+(q:Int))).toNat (by omega)
   rwa [show (((z % (1+(q:Int))).toNat:Nat):Int)=z % (1+(q:Int)) by omega] at this
  refine ⟨_,tgN_ok rfl,goes_last (append_nx (v:=prV (od.getD (q+1) 0,od.getD (z % (1+(q:Int))).toNat 0)) (xs:=prL ws) (by simp [i1,i2,g1,d16,mod_ok kp,prV]) rfl (by simp) (by rw [prL_len];omega)) ⟨ws ++ [(od.getD (q+1) 0,od.getD (z % (1+(q:Int))).toNat 0)],some (.int (1+(q:Int))),by simp [prL],?_⟩⟩
  rw [← put_end]
  exact T.more (j:=(z % (1+(q:Int))).toNat) hod (by omega) (by omega) (.inl rfl)
 obtain ⟨ws,a,rfl,T⟩:=hP
 rw [rngP_len,show n - 1+1=n by omega] at T
 have Wh:=T.whole hp
 have t10:∀ k,k ≤ 10→tri k ≤ 45:=by decide
 refine rets_for (fun k e=>∃ ws a b d,e=[some (.int n),some (.int c),some (.lst .own (iL l)),some (.lst .own (iL od)),a,some (.lst .own (prL ws)),b,d]∧Whole n (10+tri k) ws) (rng1_ok (n:=n) (by simp) (by omega)) ⟨ws,_,_,_,rfl,⟨Wh.rg,Wh.nd,Nat.le_trans Wh.ln n2,Wh.cn⟩⟩ (fun k x e hx hP=>?_) (fun e hP=>?_)
 ·obtain ⟨ws,a,b,d,rfl,Wh⟩:=hP
  obtain ⟨hk,rfl⟩:=rngP_get hx
  refine ⟨_,tgN_ok rfl,?_⟩
  simp only [s0_,s1_,Int.zero_add]
  have tk:=t10 k (by omega)
  refine goes_forl (fun j e=>∃ ws b d,e=[some (.int n),some (.int c),some (.lst .own (iL l)),some (.lst .own (iL od)),some (.int k),some (.lst .own (prL ws)),b,d]∧Whole n (10+tri k+j) ws) (rng1_ok (n:=k) (by simp) (by omega)) ⟨ws,_,_,rfl,Wh⟩ (fun j y e hy hP=>?_) (fun e hP=>?_)
  ·obtain ⟨ws,b,d,rfl,Wh⟩:=hP
   obtain ⟨hj,rfl⟩:=rngP_get hy
   have wl:=Wh.ln
   have d512:pDiv (.int (gt l k)) (.int 512)=.ok (.int (gt l k / 512)):=div_ok (by decide) (by decide)
   have d8192:pDiv (.int (gt l k)) (.int 8192)=.ok (.int (gt l k / 8192)):=div_ok (by decide) (by decide)
   refine ⟨_,tgN_ok rfl,?_⟩
   simp only [s0_,s1_,Int.zero_add]
   obtain ⟨m,hm⟩:∃ m:Bool,mOrE (mOp pEq (mOp pMod (mVar 1) (mC (.int (7)))) (mC (.int (3)))) ((mAndE (mOp pEq (mOp pMod (mOp pPlus (mOp pDiv (mOp pIdx (mVar 2) (mVar 4)) (mC (.int (512)))) (mVar 6)) (mVar 0)) (mC (.int (1)))) (mOp pEq (mOp pMod (mOp pDiv (mOp pIdx (mVar 2) (mVar 4)) (mC (.int (8192)))) (mC (.int (3)))) (mC (.int (0)))))) [some (.int n),some (.int c),some (.lst .own (iL l)),some (.lst .own (iL od)),some (.int k),some (.lst .own (prL ws)),some (.int j),d]=.ok (.bl m):=by
    refine ⟨decide (c % 7=3) || (decide ((gt l k / 512+(j:Int)) % n=1) && decide (gt l k / 8192 % 3=0)),?_⟩
    by_cases h7:c % 7=3
    ·simp [mod_ok,h7,pOr]
    ·by_cases h8:(gt l k / 512+(j:Int)) % n=1
     ·simp [mod_ok,mod_ok np,h7,pOr,gl _ k hk,d512,d8192,h8,pAnd]
     ·simp [mod_ok,mod_ok np,h7,pOr,gl _ k hk,d512,d8192,h8,pAnd]
   refine goes_seq (set_nx (v:=.bl m) hm (by simp) rfl) ?_
   simp only [s0_,s1_]
   by_cases hc:m=true∧((j:Int),(k:Int)) ∉ ws∧((k:Int),(j:Int)) ∉ ws
   ·obtain ⟨c1,c2,c3⟩:=hc
    refine goes_br_t (by simp [tup_pr,c1,c2,c3]) (goes_last (append_nx (v:=prV ((j:Int),(k:Int))) (xs:=prL ws) (by simp;rfl) rfl (by simp) (by rw [prL_len];omega)) ⟨ws ++ [((j:Int),(k:Int))],some (.int j),some (.bl m),by simp [prL],?_⟩)
    rw [← put_end]
    exact Wh.more ⟨by omega,by omega⟩ ⟨by omega,by omega⟩ (by omega) c2 c3
   ·refine goes_br_f ?_ (goes_last next_nx ⟨ws,some (.int j),some (.bl m),rfl,Wh.keep⟩)
    by_cases c1:m=true
    ·by_cases c2:((j:Int),(k:Int)) ∈ ws
     ·simp [tup_pr,c1,c2]
     ·have c3:((k:Int),(j:Int)) ∈ ws:=by
       by_cases q:((k:Int),(j:Int)) ∈ ws
       ·exact q
       ·exact absurd ⟨c1,c2,q⟩ hc
      simp [tup_pr,c1,c2,c3]
    ·simp [c1]
  ·obtain ⟨ws,b,d,rfl,Wh⟩:=hP
   rw [rngP_len] at Wh
   exact ⟨ws,_,_,_,rfl,by rw [show 10+tri (k+1)=10+tri k+k by simp [tri];omega];exact Wh⟩
 ·obtain ⟨ws,a,b,d,rfl,Wh⟩:=hP
  rw [rngP_len] at Wh
  have tn:=t10 n n2
  exact rets_last (retV_v rfl) ⟨ws,rfl,⟨Wh.rg,Wh.nd,by have:=Wh.ln;omega,Wh.cn⟩⟩
theorem appIx_nx {env:En}{i j:Nat}{m:ME}{rows:List (List Int)}{k:Nat}{v:Int} (h:m env=.ok (.int v)) (ho:env[i]?=some (some (.lst .own (llL .own rows)))) (hj:env[j]?=some (some (.int k))) (hk:k < rows.length) (hl:(rows[k]).length < 1000):mAppIx i j m env=.next (env.set i (some (.lst .own (llL .own (rows.set k (rows[k] ++ [v])))))):=by
 unfold mAppIx
 rw [ho,hj]
 dsimp only
 rw [ixN_nat (by rw [llL_len];exact hk)]
 dsimp only
 have e:(llL .own rows)[k]?=some (.lst .own (iL rows[k])):=by simp [llL,hk]
 rw [e]
 dsimp only
 rw [h]
 dsimp only
 rw [if_pos (by simp [PV.noLnt,PV.has];omega)]
 congr 4
 simp [llL,iL,List.map_set]
theorem fnd_snoc (l:List (Int × Int)) (w:Int × Int) (a:Int):fnd (l ++ [w]) a=fnd l a ++ ((if w.1=a then [w.2] else []) ++ (if w.2=a then [w.1] else [])):=by simp [fnd]
theorem fnd_len (ws:List (Int × Int)) (a:Int) (h:∀ w ∈ ws,w.1 ≠ w.2):(fnd ws a).length ≤ ws.length:=by
 have e:=(fnd_perm a ws h).length_eq
 have t:=two_filters a (ws.map mm) fun x hx=>by
  obtain ⟨w,hw,rfl⟩:=List.mem_map.mp hx
  have:=h w hw
  simp only [mm];omega
 rw [e]
 simpa using t
theorem near_ok {n:Nat}{ws:List (Int × Int)} (n10:n ≤ 10) (rg:∀ w ∈ ws,0 ≤ w.1∧w.1 < n∧0 ≤ w.2∧w.2 < n∧w.1 ≠ w.2) (hl:ws.length < 64):f_zas [.int n,.lst .bor (prL ws)]=.ok (.lst .own (llL .own ((List.range n).map fun a:Nat=>nbL (sortP (ws.map mm)) a))):=by
 have ne:∀ w ∈ ws,w.1 ≠ w.2:=fun w hw=>(rg w hw).2.2.2.2
 refine runB_ret ?_
 show b_zas [some (.int n),some (.lst .bor (prL ws)),none,none,none]=_
 unfold b_zas
 refine seq_next (set_nx (v:=.lst .own (llL .own ((List.range n).map fun _:Nat=>([]:List Int)))) ?_ (by simp [PV.noLnt,PV.has,hasL_llL _ Fl.isLnt .own rfl]) rfl) ?_
 ·refine comp_ok (xs:=rngP 0 n) (rng1_ok (n:=n) (by simp) (by omega)) (by rw [rngP_len];omega) ?_
  rw [show llL .own ((List.range n).map fun _:Nat=>([]:List Int))=(List.range n).map fun _:Nat=>PV.lst .own [] by simp [llL,iL]]
  exact compL_map (a:=fun k:Nat=>PV.int (0+(k:Int))) (f:=fun _=>PV.lst .own []) (List.range n) fun k hk=>⟨[some (.int (0+k))],by simp [tgN,okSlot,capE,isObj0],by simp,by simp,by simp⟩
 simp only [s0_,s1_]
 refine seq_for (fun t e=>∃ c d,e=[some (.int n),some (.lst .bor (prL ws)),some (.lst .own (llL .own ((List.range n).map fun a:Nat=>fnd (ws.take t) a))),c,d]) (xs:=prL ws) (seqI_lst (f:=.bor) (by simp) rfl (by simp) (by simp)) ⟨none,none,by simp [fnd]⟩ (fun t x e hx hP=>?_) (fun e hP=>?_)
 ·obtain ⟨c,d,rfl⟩:=hP
  rw [prL_get] at hx
  obtain ⟨w,hw,rfl⟩:∃ w,ws[t]?=some w∧x=prV w:=by
   cases e:ws[t]? with
   | none=>rw [e] at hx;cases hx
   | some w=>rw [e] at hx;cases hx;exact ⟨w,rfl,rfl⟩
  have tk:ws.take (t+1)=ws.take t ++ [w]:=by rw [List.take_add_one,hw];rfl
  obtain ⟨a1,a2,b1,b2,ab⟩:=rg w (List.mem_of_getElem? hw)
  have lf:∀ a:Int,(fnd (ws.take t) a).length < 64:=fun a=>by
   have:=fnd_len (ws.take t) a fun w hw=>ne w (List.mem_of_mem_take hw)
   have h2:(ws.take t).length ≤ ws.length:=by rw [List.length_take];omega
   omega
  obtain ⟨a,ha⟩:∃ a:Nat,w.1=a:=⟨w.1.toNat,by omega⟩
  obtain ⟨b,hb⟩:∃ b:Nat,w.2=b:=⟨w.2.toNat,by omega⟩
  refine ⟨[some (.int n),some (.lst .bor (prL ws)),some (.lst .own (llL .own ((List.range n).map fun a:Nat=>fnd (ws.take t) a))),some (.int a),some (.int b)],by rw [← ha,← hb];rfl,?_⟩
  have s1:=appIx_nx (env:=[some (.int n),some (.lst .bor (prL ws)),some (.lst .own (llL .own ((List.range n).map fun a:Nat=>fnd (ws.take t) a))),some (.int a),some (.int b)]) (i:=2) (j:=3) (m:=mVar 4) (rows:=(List.range n).map fun a:Nat=>fnd (ws.take t) a) (k:=a) (v:=b) (by simp) rfl rfl (by simp;omega) (by simp;have:=lf a;omega)
  refine goes_seq s1 ?_
  simp only [s0_,s1_]
  obtain ⟨R,hR⟩:∃ R,R=((List.range n).map fun a:Nat=>fnd (ws.take t) a).set a (((List.range n).map fun a:Nat=>fnd (ws.take t) a)[a]'(by simp;omega) ++ [(b:Int)]):=⟨_,rfl⟩
  rw [← hR]
  have hrow:∀ k (h:k < R.length),R[k]=if a=k then fnd (ws.take t) a ++ [(b:Int)] else fnd (ws.take t) k:=by
   subst hR
   intro k h
   rw [List.getElem_set]
   simp
  have lR:R.length=n:=by rw [hR];simp
  have s2:=appIx_nx (env:=[some (.int n),some (.lst .bor (prL ws)),some (.lst .own (llL .own R)),some (.int a),some (.int b)]) (i:=2) (j:=4) (m:=mVar 3) (rows:=R) (k:=b) (v:=a) (by simp) rfl rfl (by omega) (by rw [hrow b (by omega),if_neg (by omega)];have:=lf b;omega)
  refine goes_last s2 ⟨some (.int a),some (.int b),?_⟩
  simp only [s0_,s1_]
  suffices eR:R.set b (R[b] ++ [(a:Int)])=(List.range n).map fun a:Nat=>fnd (ws.take (t+1)) a by rw [eR]
  apply List.ext_getElem (by simp [lR])
  intro k h1 h2
  simp at h2
  rw [List.getElem_set]
  have hb0:=hrow b (by omega)
  rw [if_neg (by omega)] at hb0
  simp only [List.getElem_map,List.getElem_range,hb0]
  rw [tk,fnd_snoc,ha,hb]
  by_cases e1:b=k
  ·subst e1
   rw [if_pos rfl,if_neg (by omega),if_pos rfl]
   simp
  ·rw [if_neg e1,hrow k (by omega)]
   by_cases e2:a=k
   ·subst e2
    rw [if_pos rfl,if_pos rfl,if_neg (by omega)]
    simp
   ·rw [if_neg e2,if_neg (by omega),if_neg (by omega)]
    simp
 ·obtain ⟨c,d,rfl⟩:=hP
  rw [prL_len,List.take_length]
  refine ret_v ?_ (by simp [PV.noLnt,PV.has,hasL_llL _ Fl.isLnt .own rfl])
  refine comp_ok (xs:=llL .lnt ((List.range n).map fun a:Nat=>fnd ws a)) (by simp [Fl.lend]) (by rw [llL_len];simp;omega) ?_
  rw [show llL .lnt ((List.range n).map fun a:Nat=>fnd ws a)=(List.range n).map fun a:Nat=>PV.lst .lnt (iL (fnd ws a)) by simp [llL],show llL .own ((List.range n).map fun a:Nat=>nbL (sortP (ws.map mm)) a)=(List.range n).map fun a:Nat=>PV.lst .own (iL (nbL (sortP (ws.map mm)) a)) by simp [llL]]
  refine compL_map (a:=fun a:Nat=>PV.lst .lnt (iL (fnd ws a))) (f:=fun a:Nat=>PV.lst .own (iL (nbL (sortP (ws.map mm)) a))) (List.range n) fun a ha=>⟨[some (.lst .bor (iL (fnd ws a)))],by simp [tgN,okSlot,capE,isObj0,PV.borrow,Fl.borrow],?_,by simp,by simp⟩
  have fl:=fnd_len ws a ne
  have:=fnd_sort (a:Int) ne
  simp [p1,sorted_iL (fnd ws a) (by omega),this]
def oV:Option Int→PV
 | none=>.non
 | some s=>.int s
def oL (os:List (Option Int)):List PV:=os.map oV
@[simp] theorem oL_len (os:List (Option Int)):(oL os).length=os.length:=by simp [oL]
@[simp] theorem oL_has {p:Fl→Bool}{os:List (Option Int)}:hasL p (oL os)=false:=by
 induction os with
 | nil=>rfl
 | cons o os ih=>cases o <;> simpa [oL,oV,hasL,PV.has] using ih
@[simp] theorem oL_map {g:Fl→Fl}{os:List (Option Int)}:mapL g (oL os)=oL os:=by
 induction os with
 | nil=>rfl
 | cons o os ih=>cases o <;> simpa [oL,oV,mapL,PV.mapF] using ih
@[simp] theorem oL_can {os:List (Option Int)}:PyData.canLayAll0 (dataL (oL os))=true:=by
 induction os with
 | nil=>rfl
 | cons o os ih=>cases o <;> (simp only [oL,List.map_cons,oV,dataL,PV.data,PyData.canLayAll0] at ih ⊢;rw [ih];rfl)
@[simp] theorem oL_dep {os:List (Option Int)}:PyData.depthAll (dataL (oL os))=0:=by
 induction os with
 | nil=>rfl
 | cons o os ih=>cases o <;> (simp only [oL,List.map_cons,oV,dataL,PV.data,PyData.depthAll] at ih ⊢;rw [ih];rfl)
def OkS (tp:Int) (os:List (Option Int)):Prop:=∀ s,some s ∈ os→0 ≤ s∧s < tp
abbrev lea (fl:Fl) (c:Nat) (n:Nat) (ps:List (Int × Int)) (os:List (Option Int)) (st tp:Int):PV:=.obj fl c [3,4,5,6,0,7,8] [.int tp,net .frz n ps,.tup (oL os),.int st,.int n,.int (tp+1),.bl true]
theorem part_ok {x:Int} (h1:1 ≤ x) (h2:x ≤ 10):f_zw [.int x]=.ok .non:=by
 refine runB_ends ⟨[some (.int x)],?_⟩
 show b_zw [some (.int x)]=_
 unfold b_zw
 exact br_f (by simp [show ¬ x < 1 by omega,show ¬ 10 < x by omega]) next_nx
theorem rstarts_ok {n:Nat}{ps:List (Int × Int)}{os:List (Option Int)}{tp:Int}{f gf:Fl} (hg:gf=.bor ∨ gf=.frz) (hf:f=.bor ∨ f=.frz) (hn:os.length=n) (ho:OkS tp os):f_zn [net gf n ps,.lst f (oL os),.int tp]=.ok .non:=by
 have hf1:f.lend=f:=by rcases hf with rfl | rfl <;> rfl
 have hf2:f.isLnt=false:=by rcases hf with rfl | rfl <;> rfl
 have hg1:gf.lend=gf:=by rcases hg with rfl | rfl <;> rfl
 refine runB_ends ?_
 show Ends (b_zn [some (net gf n ps),some (.lst f (oL os)),some (.int tp),none])
 unfold b_zn
 refine ends_seq (br_f (by simp [hf1,hg1,p1,pLen,seqOf,pAttr,getF,hn]) next_nx) ?_
 refine for_out (fun _ e=>∃ x,e=[some (net gf n ps),some (.lst f (oL os)),some (.int tp),x]) (fun r=>∃ e,r=.next e) (xs:=oL os) (seqI_lst (f:=f) (by simp [hf1]) hf2 (by simp) (by simp)) ⟨_,rfl⟩ (fun k x e hx hP=>?_) (fun e hP=>⟨e,rfl⟩)
 obtain ⟨y,rfl⟩:=hP
 simp only [oL,List.getElem?_map] at hx
 obtain ⟨o,ho1,rfl⟩:=Option.map_eq_some_iff.mp hx
 refine ⟨_,tgN_ok rfl,.inl ⟨_,.inl (br_f ?_ next_nx),_,rfl⟩⟩
 cases o with
 | none=>simp [oV,pNotN,PV.isNon]
 | some s =>
  have:=ho s (List.mem_of_getElem? ho1)
  simp [oV,pNotN,PV.isNon,show ¬ s < 0 by omega,show ¬ tp ≤ s by omega]
theorem rinitL_ok {cc n:Nat}{ps:List (Int × Int)}{os:List (Option Int)}{st tp:Int}:f_zag [.obj .own cc [3,4,5,6] [.int tp,net .frz n ps,.tup (oL os),.int st],.int n,.int (tp+1),.bl true]=.ok (lea .own cc n ps os st tp):=by
 refine runI_ok (e:=[some (lea .own cc n ps os st tp),some (.int n),some (.int (tp+1)),some (.bl true)]) ?_ rfl
 show b_zag [some (.obj .own cc [3,4,5,6] [.int tp,net .frz n ps,.tup (oL os),.int st]),some (.int n),some (.int (tp+1)),some (.bl true)]=_
 unfold b_zag
 refine seq_next (fld_nx (v:=.int n) (ks:=[3,4,5,6]) (vs:=[.int tp,net .frz n ps,.tup (oL os),.int st]) (by simp) rfl (by simp) rfl (by decide)) ?_
 refine seq_next (fld_nx (v:=.int (tp+1)) (ks:=[3,4,5,6,0]) (vs:=[.int tp,net .frz n ps,.tup (oL os),.int st,.int n]) (by simp) rfl (by simp) rfl (by decide)) ?_
 exact fld_nx (v:=.bl true) (ks:=[3,4,5,6,0,7]) (vs:=[.int tp,net .frz n ps,.tup (oL os),.int st,.int n,.int (tp+1)]) (by simp) rfl (by simp) rfl (by decide)
theorem linit_ok {cc n:Nat}{ps:List (Int × Int)}{os:List (Option Int)}{st bk:Int}{f:Fl} (hf:f.lend.toBor=.bor ∨ f.lend.toBor=.frz) (h1:1 ≤ st) (h2:st ≤ 10) (h3:1 ≤ bk) (h4:bk ≤ 10) (hn:os.length=n) (ho:OkS (st * bk) os):f_zj [.obj .own cc [] [],net .frz n ps,.lst f (oL os),.int st,.int bk]=.ok (lea .own cc n ps os st (st * bk)):=by
 refine runI_ok (e:=[some (lea .own cc n ps os st (st * bk)),some (net .frz n ps),some (.lst f (oL os)),some (.int st),some (.int bk)]) ?_ rfl
 show b_zj [some (.obj .own cc [] []),some (net .frz n ps),some (.lst f (oL os)),some (.int st),some (.int bk)]=_
 unfold b_zj
 have r1:=part_ok h1 h2
 have r2:=part_ok h3 h4
 have r3:=rstarts_ok (ps:=ps) (gf:=.frz) (.inr rfl) hf hn ho
 have mu:pMul (.int st) (.int bk)=.ok (.int (st * bk)):=mul_ok (.inl ⟨by omega,by omega⟩)
 generalize st * bk=tp at *
 refine seq_next (drop_nx (v:=.non) (by simp [r1,noBor])) ?_
 refine seq_next (drop_nx (v:=.non) (by simp [r2,noBor])) ?_
 refine seq_next (fld_nx (v:=.int tp) (ks:=[]) (vs:=[]) (by simp [mu]) rfl (by simp) rfl (by decide)) ?_
 simp only [s0_,s1_]
 refine seq_next (drop_nx (v:=.non) (by simp [pAttr,getF,r3,noBor])) ?_
 refine seq_next (frz_nx (v:=net .frz n ps) rfl) ?_
 simp only [s0_,s1_]
 refine seq_next (fld_nx (v:=net .frz n ps) (ks:=[3]) (vs:=[.int tp]) (by simp [PV.mapF,Fl.freeze]) rfl (by simp [PV.noLnt,PV.has]) rfl (by decide)) ?_
 simp only [s0_,s1_]
 refine seq_next (fld_nx (v:=.tup (oL os)) (ks:=[3,4]) (vs:=[.int tp,net .frz n ps]) (by simp [p1,pTuple,seqOf]) rfl (by simp [PV.noLnt,PV.has]) rfl (by decide)) ?_
 simp only [s0_,s1_]
 refine seq_next (fld_nx (v:=.int st) (ks:=[3,4,5]) (vs:=[.int tp,net .frz n ps,.tup (oL os)]) (by simp) rfl (by simp) rfl (by decide)) ?_
 simp only [s0_,s1_]
 have:=sup_nx (env:=[some (.obj .own cc [3,4,5,6] [.int tp,net .frz n ps,.tup (oL os),.int st]),some (net .frz n ps),some (.lst f (oL os)),some (.int st),some (.int bk)]) (m:=f_zag) (ms:=mCons (mUn (pAttr 0) (mVar 1)) (mCons (mOp pPlus (mUn (pAttr 3) (mVar 0)) (mC (.int (1)))) (mCons (mC (.bl true)) mNil))) (xs:=[.int n,.int (tp+1),.bl true]) rfl (by simp [pAttr,getF]) (by simp) (by simpa using rinitL_ok (cc:=cc) (n:=n) (ps:=ps) (os:=os) (st:=st) (tp:=tp)) (by simp [PV.has])
 simpa [PV.mapF,Fl.freeze] using this
def offer (st tp c:Int):Bool:=decide (c ≠ tp) && decide ((c+1) % st ≠ 0)
def offs (ps:List (Int × Int)) (st tp:Int) (cs:List Int) (i:Nat):List Int:=(((nbL ps i).map fun o=>gt cs o.toNat).filter (offer st tp)).map (· + 1)
def dueL (ps:List (Int × Int)) (os:List (Option Int)) (st tp:Int) (cs:List Int) (i:Nat):Int:=minI (offs ps st tp cs i ++ (os.getD i none).toList ++ [tp])
theorem minI_same {l l':List Int} (h:l ≠ []) (h':l' ≠ []) (hm:∀ x,x ∈ l ↔ x ∈ l'):minI l=minI l':=by
 obtain ⟨a1,a2⟩:=minI_mem h
 obtain ⟨b1,b2⟩:=minI_mem h'
 exact Int.le_antisymm (a2 _ ((hm _).mpr b1)) (b2 _ ((hm _).mp a1))
theorem pmin_ok {f:Fl}{l:List Int} (h:l ≠ []):pInts minI (.lst f (iL l))=.ok (.int (minI l)):=by
 unfold pInts
 simp only [seqOf,intsOf_iL]
 rw [if_neg (by simpa using h)]
theorem offer_ok {cc n:Nat}{ps:List (Int × Int)}{os:List (Option Int)}{st tp c:Int} (hs:0 < st):f_za [lea .bor cc n ps os st tp,.int c]=.ok (.bl (offer st tp c)):=by
 refine runB_ret ?_
 show b_za [some (lea .bor cc n ps os st tp),some (.int c)]=_
 unfold b_za offer
 refine ret_v ?_ (by simp)
 by_cases h:c=tp
 ·simp [pAttr,getF,h]
 ·simp [pAttr,getF,h,mod_ok hs]
theorem ldueG_ok {fc:Fl} (hfc:fc=.bor ∨ fc=.own) {cc n:Nat}{ps:List (Int × Int)}{os:List (Option Int)}{st tp:Int}{cs:List Int}{i:Nat} (hcc:dsp_has_offer_1_2 cc=some f_za) (hnb:∀ x ∈ nbL ps i,0 ≤ x∧x < n) (hl:(nbL ps i).length ≤ 1000) (hs:0 < st) (hn:cs.length=n) (ho:os.length=n) (hi:i < n):f_zl [lea .bor cc n ps os st tp,.lst fc (iL cs),.int i]=.ok (.int (dueL ps os st tp cs i)):=by
 refine runB_ret ?_
 show b_zl [some (lea .bor cc n ps os st tp),some (.lst fc (iL cs)),some (.int i),none,none]=_
 unfold b_zl
 have e3:fc.borrow=.bor:=by rcases hfc with rfl | rfl <;> rfl
 have be:=beside_frz (ps:=ps) hi
 have l1:((nbL ps i).map fun o=>gt cs o.toNat).length ≤ 1000:=by simpa using hl
 refine seq_next (set_nx (v:=.lst .own (iL ((nbL ps i).map fun o=>gt cs o.toNat))) ?_ (by simp) rfl) ?_
 ·refine comp_ok (xs:=iL (nbL ps i)) (by simp [pAttr,getF,dsp_beside_4,be,noBor]) (by rw [ints_len];omega) (compL_ints (fun o=>gt cs o.toNat) _ fun x hx=>⟨[some (.lst .bor (iL cs)),some (.int x)],by simp [tgN,okSlot,capE,e3],?_⟩)
  obtain ⟨h1,h2⟩:=hnb x hx
  simp [gt_idx (f:=.bor) (cs:=cs) (i:=x) (by omega) (by omega)]
 simp only [s0_,s1_]
 have l2:(offs ps st tp cs i).length ≤ 1000:=by
  unfold offs
  rw [List.length_map]
  exact Nat.le_trans (List.length_filter_le _ _) l1
 refine seq_next (set_nx (v:=.lst .own (iL (offs ps st tp cs i))) ?_ (by simp) rfl) ?_
 ·unfold offs
  exact comp_ok (xs:=iL ((nbL ps i).map fun o=>gt cs o.toNat)) (by simp) (by rw [ints_len];omega) (compL_intsF (offer st tp) (· + 1) _ fun x hx=>⟨[some (lea .bor cc n ps os st tp),some (.int x)],by simp [tgN,okSlot,capE],by simp [hcc,offer_ok hs,noBor],fun _=>by simp⟩)
 simp only [s0_,s1_]
 have hio:i < os.length:=by omega
 have ix:pIdx (.tup (oL os)) (.int (i:Int))=.ok (oV os[i]):=idx_at rfl (by simp [oL,hio]) (by cases os[i] <;> rfl)
 have eg:os.getD i none=os[i]:=by simp [hio]
 unfold dueL
 rw [eg]
 generalize os[i]=o at *
 generalize offs ps st tp cs i=of at *
 cases o with
 | none =>
  refine seq_next (br_f (by simp [pAttr,getF,ix,oV,pNotN,PV.isNon]) next_nx) (ret_v ?_ (by simp))
  have pl:pPlus (.lst .lnt (iL of)) (.lst .own [.int tp])=.ok (.lst .own (iL (of ++ [tp]))):=by
   rw [plus_lst (by decide) (by decide) (by simp;omega)]
   simp [iL]
  simp [pAttr,getF,pl,p1,pmin_ok (l:=of ++ [tp]) (by simp)]
 | some s =>
  refine seq_next (br_t (by simp [pAttr,getF,ix,oV,pNotN,PV.isNon]) (append_nx (v:=.int s) (xs:=iL of) (by simp [pAttr,getF,ix,oV]) rfl (by simp) (by rw [ints_len];omega))) ?_
  simp only [s0_,s1_]
  rw [show iL of ++ [PV.int s]=iL (of ++ [s]) by simp [iL]]
  refine ret_v ?_ (by simp)
  have pl:pPlus (.lst .lnt (iL (of ++ [s]))) (.lst .own [.int tp])=.ok (.lst .own (iL (of ++ [s] ++ [tp]))):=by
   rw [plus_lst (by decide) (by decide) (by simp;omega)]
   simp [iL]
  have pm:=pmin_ok (f:=.own) (l:=of ++ [s] ++ [tp]) (by simp)
  show _=Res.ok (PV.int (minI (of ++ [s] ++ [tp])))
  generalize of ++ [s]=of2 at *
  simp [pAttr,getF,pl,p1]
  exact pm
theorem ldueR_ok {cc n:Nat}{ps:List (Int × Int)}{os:List (Option Int)}{st tp:Int}{cs:List Int}{i:Nat} (hcc:dsp_has_offer_1_2 cc=some f_za) (hnb:∀ x ∈ nbL ps i,0 ≤ x∧x < n) (hl:(nbL ps i).length ≤ 1000) (hs:0 < st) (hn:cs.length=n) (ho:os.length=n) (hi:i < n):f_zl [lea .bor cc n ps os st tp,.lst .bor (iL cs),.int i]=.ok (.int (dueL ps os st tp cs i)):=ldueG_ok (.inl rfl) hcc hnb hl hs hn ho hi
def fs (n r:Nat):List (Option Int):=(List.range n).map fun i=>if i=r then some 0 else none
theorem fs_oL {n r:Nat}:oL (fs n r)=(List.range n).map fun i=>oV (if i=r then some 0 else none):=by simp [oL,fs]
theorem finit_ok {n r:Nat}{ps:List (Int × Int)} (n1:1 ≤ n) (n10:n ≤ 10) (hr:r < n):f_zt [.obj .own 2 [] [],net .frz n ps,.int r]=.ok (lea .own 2 n ps (fs n r) n n):=by
 refine runI_ok (e:=[some (lea .own 2 n ps (fs n r) n n),some (net .frz n ps),some (.int r),some (.lst .frz (oL (fs n r)))]) ?_ rfl
 show b_zt [some (.obj .own 2 [] []),some (net .frz n ps),some (.int r),none]=_
 unfold b_zt
 refine seq_next (br_f (by simp [pAttr,getF,show ¬ (r:Int) < 0 by omega,show ¬ (n:Int) ≤ r by omega]) next_nx) ?_
 refine seq_next (set_nx (v:=.lst .own (oL (fs n r))) ?_ (by simp [PV.noLnt,PV.has]) rfl) ?_
 ·refine comp_ok (xs:=rngP 0 n) (rng1_ok (n:=n) (by simp [pAttr,getF]) (by omega)) (by rw [rngP_len];omega) ?_
  rw [fs_oL]
  refine compL_map (a:=fun k:Nat=>PV.int (0+(k:Int))) (f:=fun i=>oV (if i=r then some 0 else none)) (List.range n) fun k hk=>⟨[some (.int r),some (.int (0+k))],by simp [tgN,okSlot,capE],?_,?_,?_⟩
  ·by_cases e:k=r
   ·simp [e,oV]
   ·simp [e,oV,show ¬ (k:Int)=r by omega]
  ·by_cases e:k=r <;> simp [e,oV,PV.has]
  ·by_cases e:k=r <;> simp [e,oV,PV.has]
 simp only [s0_,s1_]
 refine seq_next (frz_nx (v:=.lst .own (oL (fs n r))) rfl) ?_
 simp only [s0_,s1_]
 have li:=linit_ok (cc:=2) (n:=n) (ps:=ps) (os:=fs n r) (st:=n) (bk:=1) (f:=.frz) (.inr rfl) (by omega) (by omega) (by decide) (by decide) (by simp [fs]) (fun s hs=>by
  simp only [fs,List.mem_map,List.mem_range] at hs
  obtain ⟨i,_,e⟩:=hs
  split at e
  ·cases e;omega
  ·cases e)
 rw [Int.mul_one] at li
 have:=sup_nx (env:=[some (.obj .own 2 [] []),some (net .frz n ps),some (.int r),some (.lst .frz (oL (fs n r)))]) (m:=f_zj) (ms:=mCons (mVar 1) (mCons (mVar 3) (mCons (mUn (pAttr 0) (mVar 1)) (mCons (mC (.int (1))) mNil)))) (xs:=[net .frz n ps,.lst .frz (oL (fs n r)),.int n,.int 1]) rfl (by simp [pAttr,getF,Fl.lend]) (by simp [PV.has]) (by simpa [Fl.toBor] using li) (by simp [PV.has])
 simpa [PV.mapF,Fl.freeze] using this
theorem fs_get {n r i:Nat} (hi:i < n):(fs n r).getD i none=if i=r then some 0 else none:=by simp [fs,hi]
def In (n:Nat) (cs:List Int):Prop:=∀ c ∈ cs,0 ≤ c∧c ≤ n
abbrev DF (ps:List (Int × Int)) (n r:Nat) (cs:List Int) (i:Nat):Int:=dueL ps (fs n r) n n cs i
theorem offer_iff {n:Nat}{c:Int} (h0:0 ≤ c) (h1:c ≤ n) (hn:1 ≤ n):offer n n c=true ↔ c+1 < n:=by
 simp only [offer,Bool.and_eq_true,decide_eq_true_eq]
 constructor
 ·rintro ⟨h2,h3⟩
  apply Classical.byContradiction
  intro z
  have:c+1=n:=by omega
  rw [this,Int.emod_self] at h3
  exact h3 rfl
 ·intro h
  refine ⟨by omega,?_⟩
  rw [Int.emod_eq_of_lt (by omega) h]
  omega
theorem offs_mem {n:Nat}{ps:List (Int × Int)}{cs:List Int}{i:Nat}{x:Int} (n1:1 ≤ n) (hc:In n cs) (hn:cs.length=n) (hnb:∀ x ∈ nbL ps i,0 ≤ x∧x < n):x ∈ offs ps n n cs i ↔ ∃ j ∈ nbL ps i,gt cs j.toNat+1=x∧x < n:=by
 simp only [offs,List.mem_map,List.mem_filter]
 constructor
 ·rintro ⟨c,⟨⟨j,hj,rfl⟩,h⟩,rfl⟩
  obtain ⟨h1,h2⟩:=hnb j hj
  have hm:=hc _ (gt_mem (far:=cs) (i:=j.toNat) (by omega))
  exact ⟨j,hj,rfl,(offer_iff hm.1 hm.2 n1).mp h⟩
 ·rintro ⟨j,hj,rfl,h⟩
  obtain ⟨h1,h2⟩:=hnb j hj
  have hm:=hc _ (gt_mem (far:=cs) (i:=j.toNat) (by omega))
  exact ⟨gt cs j.toNat,⟨⟨j,hj,rfl⟩,(offer_iff hm.1 hm.2 n1).mpr h⟩,rfl⟩
theorem dueF_root {n r:Nat}{ps:List (Int × Int)}{cs:List Int} (n1:1 ≤ n) (hr:r < n) (hc:In n cs) (hn:cs.length=n) (hnb:∀ x ∈ nbL ps r,0 ≤ x∧x < n):DF ps n r cs r=0:=by
 unfold DF dueL
 rw [fs_get hr,if_pos rfl]
 obtain ⟨a1,a2⟩:=minI_mem (l:=offs ps n n cs r ++ (some (0:Int)).toList ++ [(n:Int)]) (by simp)
 have h1:=a2 0 (by simp)
 have h2:∀ x ∈ offs ps n n cs r ++ (some (0:Int)).toList ++ [(n:Int)],0 ≤ x:=fun x hx=>by
  simp only [List.mem_append,Option.toList,List.mem_cons,List.not_mem_nil,or_false] at hx
  rcases hx with (hx | hx) | hx
  ·obtain ⟨j,hj,h3,h4⟩:=(offs_mem n1 hc hn hnb).mp hx
   obtain ⟨h5,h6⟩:=hnb j hj
   have:=(hc _ (gt_mem (far:=cs) (i:=j.toNat) (by omega))).1
   omega
  ·omega
  ·omega
 have:=h2 _ a1
 omega
structure NetF (n r:Nat) (ps:List (Int × Int)) (F:List Int):Prop where
 n1:1 ≤ n
 n10:n ≤ 10
 hr:r < n
 D:Dist n r (adjP ps) F
 all:∀ i < n,gt F i < n
 rg:∀ x ∈ ps,0 ≤ x.1∧x.1 < n∧0 ≤ x.2∧x.2 < n
section
variable {n r:Nat}{ps:List (Int × Int)}{F:List Int}
theorem NetF.nb (N:NetF n r ps F) (i:Nat):∀ x ∈ nbL ps i,0 ≤ x∧x < n:=fun x hx=>by
 rcases nb_mem.mp hx with hx | hx
 ·have:=N.rg _ hx;omega
 ·have:=N.rg _ hx;omega
end
abbrev gro (fl:Fl) (n:Nat) (ps:List (Int × Int)) (r:Nat):PV:=.obj fl 3 [9,4,10,0,7,8] [lea fl 2 n ps (fs n r) n n,net .frz n ps,.int r,.int n,.int (((n:Int)+1) * ((n:Int)+1)),.bl true]
theorem rinitG_ok {n:Nat}{ps:List (Int × Int)}{r:Nat}:f_zag [.obj .own 3 [9,4,10] [lea .own 2 n ps (fs n r) n n,net .frz n ps,.int r],.int n,.int (((n:Int)+1) * ((n:Int)+1)),.bl true]=.ok (gro .own n ps r):=by
 refine runI_ok (e:=[some (gro .own n ps r),some (.int n),some (.int (((n:Int)+1) * ((n:Int)+1))),some (.bl true)]) ?_ rfl
 show b_zag [some (.obj .own 3 [9,4,10] [lea .own 2 n ps (fs n r) n n,net .frz n ps,.int r]),some (.int n),some (.int (((n:Int)+1) * ((n:Int)+1))),some (.bl true)]=_
 unfold b_zag
 refine seq_next (fld_nx (v:=.int n) (ks:=[9,4,10]) (vs:=[lea .own 2 n ps (fs n r) n n,net .frz n ps,.int r]) (by simp) rfl (by simp) rfl (by decide)) ?_
 refine seq_next (fld_nx (v:=.int (((n:Int)+1) * ((n:Int)+1))) (ks:=[9,4,10,0]) (vs:=[lea .own 2 n ps (fs n r) n n,net .frz n ps,.int r,.int n]) (by simp) rfl (by simp) rfl (by decide)) ?_
 exact fld_nx (v:=.bl true) (ks:=[9,4,10,0,7]) (vs:=[lea .own 2 n ps (fs n r) n n,net .frz n ps,.int r,.int n,.int (((n:Int)+1) * ((n:Int)+1))]) (by simp) rfl (by simp) rfl (by decide)
theorem ginit_ok {n:Nat}{ps:List (Int × Int)}{r:Nat}{f:Fl} (hf:f=.frz ∨ f=.own) (n1:1 ≤ n) (n10:n ≤ 10) (hr:r < n):f_zm [.obj .own 3 [] [],net f n ps,.int r]=.ok (gro .own n ps r):=by
 refine runI_ok (e:=[some (gro .own n ps r),some (net .frz n ps),some (.int r)]) ?_ rfl
 show b_zm [some (.obj .own 3 [] []),some (net f n ps),some (.int r)]=_
 unfold b_zm
 have fi:=finit_ok (ps:=ps) n1 n10 hr
 have mu:pMul (.int ((n:Int)+1)) (.int ((n:Int)+1))=.ok (.int (((n:Int)+1) * ((n:Int)+1))):=mul_ok (.inl ⟨by omega,by omega⟩)
 have ri:=rinitG_ok (n:=n) (ps:=ps) (r:=r)
 generalize ((n:Int)+1) * ((n:Int)+1)=sq at mu ri
 refine seq_next (frz_nx (v:=net f n ps) rfl) ?_
 have efz:(net f n ps).mapF Fl.freeze=net .frz n ps:=by rcases hf with rfl | rfl <;> simp [PV.mapF,Fl.freeze]
 simp only [s0_,s1_,efz]
 refine seq_next (fld_nx (v:=lea .own 2 n ps (fs n r) n n) (ks:=[]) (vs:=[]) (by simp [fi,noBor,PV.has,Fl.lend,Fl.toBor]) rfl (by simp [PV.noLnt,PV.has]) rfl (by decide)) ?_
 simp only [s0_,s1_]
 refine seq_next (fld_nx (v:=net .frz n ps) (ks:=[9]) (vs:=[lea .own 2 n ps (fs n r) n n]) (by simp [PV.mapF,Fl.lend]) rfl (by simp [PV.noLnt,PV.has]) rfl (by decide)) ?_
 simp only [s0_,s1_]
 refine seq_next (fld_nx (v:=.int r) (ks:=[9,4]) (vs:=[lea .own 2 n ps (fs n r) n n,net .frz n ps]) (by simp) rfl (by simp) rfl (by decide)) ?_
 simp only [s0_,s1_]
 have:=sup_nx (env:=[some (.obj .own 3 [9,4,10] [lea .own 2 n ps (fs n r) n n,net .frz n ps,.int r]),some (net .frz n ps),some (.int r)]) (m:=f_zag) (ms:=mCons (mUn (pAttr 0) (mVar 1)) (mCons (mOp pMul (mOp pPlus (mUn (pAttr 0) (mVar 1)) (mC (.int (1)))) (mOp pPlus (mUn (pAttr 0) (mVar 1)) (mC (.int (1))))) (mCons (mC (.bl true)) mNil))) (xs:=[.int n,.int sq,.bl true]) rfl (by simp [pAttr,getF,mu]) (by simp) (by simpa using ri) (by simp [PV.has])
 simpa using this
def PT (n:Nat) (cs:List Int):List (Int × Int):=cs.map fun c=>(c / ((n:Int)+1),c % ((n:Int)+1))
def FA (n:Nat) (cs:List Int):List Int:=cs.map (· / ((n:Int)+1))
def CN (n:Nat) (cs:List Int):List Int:=cs.map (· % ((n:Int)+1))
@[simp] theorem FA_len {n:Nat}{cs:List Int}:(FA n cs).length=cs.length:=by simp [FA]
@[simp] theorem CN_len {n:Nat}{cs:List Int}:(CN n cs).length=cs.length:=by simp [CN]
def nea (ps:List (Int × Int)) (fa:List Int) (i:Nat):List Int:=(nbL ps i).filter fun o=>decide (gt fa o.toNat=gt fa i - 1)
def eld (ps:List (Int × Int)) (r:Nat) (fa:List Int) (i:Nat):Option Int:=if i=r then none else if (nea ps fa i).isEmpty then none else some (minI (nea ps fa i))
def kidC (n:Nat) (ps:List (Int × Int)) (r:Nat) (cs:List Int) (i:Nat):List Int:=((List.range n).filter fun j=>decide (eld ps r (FA n cs) j=some (i:Int))).map (gt (CN n cs))
def dcn (n:Nat) (ps:List (Int × Int)) (r:Nat) (cs:List Int) (i:Nat):Int:=min (n:Int) (1+(kidC n ps r cs i).sum)
def dueG (n:Nat) (ps:List (Int × Int)) (r:Nat) (cs:List Int) (i:Nat):Int :=
 dueL ps (fs n r) n n (FA n cs) i * ((n:Int)+1)+(if dueL ps (fs n r) n n (FA n cs) i=gt (FA n cs) i then dcn n ps r cs i else gt (CN n cs) i)
theorem parts_ok {n:Nat}{ps:List (Int × Int)}{r:Nat}{cs:List Int}{fc:Fl} (hfc:fc=.bor ∨ fc=.own) (n10:n ≤ 10) (hn:cs.length=n):f_zi [gro .bor n ps r,.lst fc (iL cs)]=.ok (.lst .own (prL (PT n cs))):=by
 refine runB_ret ?_
 show b_zi [some (gro .bor n ps r),some (.lst fc (iL cs))]=_
 unfold b_zi
 refine ret_v ?_ (by simp [PV.noLnt,PV.has])
 have e4:fc ≠ .mod:=by rcases hfc with rfl | rfl <;> decide
 rw [show prL (PT n cs)=cs.map fun c=>prV (c / ((n:Int)+1),c % ((n:Int)+1)) by simp [prL,PT]]
 refine comp_ok (xs:=iL cs) (by rcases hfc with rfl | rfl <;> simp) (by rw [ints_len];omega) (compL_map (a:=PV.int) (f:=fun c=>prV (c / ((n:Int)+1),c % ((n:Int)+1))) cs fun c _=>⟨[some (gro .bor n ps r),some (.int c)],by simp [tgN,okSlot,capE,PV.mapF,Fl.borrow],?_,by simp,by simp⟩)
 have np:(0:Int) < (n:Int)+1:=by omega
 simp [pAttr,getF,mod_ok np,div_ok np (show (n:Int)+1 < 1073741824 by omega),prV]
theorem fars_ok {n:Nat}{ps:List (Int × Int)}{r:Nat}{cs:List Int}{fc:Fl} (hfc:fc=.bor ∨ fc=.own) (n10:n ≤ 10) (hn:cs.length=n):f_zk [gro .bor n ps r,.lst fc (iL cs)]=.ok (.lst .own (iL (FA n cs))):=by
 refine runB_ret ?_
 show b_zk [some (gro .bor n ps r),some (.lst fc (iL cs))]=_
 unfold b_zk
 refine ret_v ?_ (by simp)
 have pt:=parts_ok (ps:=ps) (r:=r) (.inl rfl) n10 hn
 rw [show iL (FA n cs)=(PT n cs).map fun x=>PV.int x.1 by simp [iL,FA,PT]]
 refine comp_ok (xs:=prL (PT n cs)) (by rcases hfc with rfl | rfl <;> simp [dsp_parts_3,pt,noBor,PV.has,Fl.lend,Fl.toBor,PV.mapF]) (by simp [PT];omega) (compL_map (a:=prV) (f:=fun x=>PV.int x.1) (PT n cs) fun x _=>⟨[some (prV x)],by simp [tgN,okSlot,capE,isObj0],?_,by simp,by simp⟩)
 simp
theorem counts_ok {n:Nat}{ps:List (Int × Int)}{r:Nat}{cs:List Int}{fc:Fl} (hfc:fc=.bor ∨ fc=.own) (n10:n ≤ 10) (hn:cs.length=n):f_ze [gro .bor n ps r,.lst fc (iL cs)]=.ok (.lst .own (iL (CN n cs))):=by
 refine runB_ret ?_
 show b_ze [some (gro .bor n ps r),some (.lst fc (iL cs))]=_
 unfold b_ze
 refine ret_v ?_ (by simp)
 have pt:=parts_ok (ps:=ps) (r:=r) (.inl rfl) n10 hn
 rw [show iL (CN n cs)=(PT n cs).map fun x=>PV.int x.2 by simp [iL,CN,PT]]
 refine comp_ok (xs:=prL (PT n cs)) (by rcases hfc with rfl | rfl <;> simp [dsp_parts_3,pt,noBor,PV.has,Fl.lend,Fl.toBor,PV.mapF]) (by simp [PT];omega) (compL_map (a:=prV) (f:=fun x=>PV.int x.2) (PT n cs) fun x _=>⟨[some (prV x)],by simp [tgN,okSlot,capE,isObj0],?_,by simp,by simp⟩)
 simp
theorem minD_ok {f:Fl}{l:List Int}:pMinD (.lst f (iL l))=.ok (if l.isEmpty then .non else .int (minI l)):=by
 unfold pMinD
 simp only [seqOf,intsOf_iL]
theorem elder_ok {n:Nat}{ps:List (Int × Int)}{r:Nat}{fa:List Int}{i:Nat} (hnb:∀ x ∈ nbL ps i,0 ≤ x∧x < n) (hl:(nbL ps i).length ≤ 1000) (hn:fa.length=n) (hi:i < n):f_zh [gro .bor n ps r,.lst .bor (iL fa),.int i]=.ok (oV (eld ps r fa i)):=by
 refine runB_ret ?_
 show b_zh [some (gro .bor n ps r),some (.lst .bor (iL fa)),some (.int i),none]=_
 unfold b_zh eld
 by_cases q:i=r
 ·rw [if_pos q]
  exact seq_ret (br_t (by simp [pAttr,getF,q]) (ret_v (by simp [oV]) (by simp [oV])))
 rw [if_neg q]
 refine seq_next (br_f (by simp [pAttr,getF,show ¬ (i:Int)=r by omega]) next_nx) ?_
 have be:=beside_frz (ps:=ps) hi
 refine seq_next (set_nx (v:=.lst .own (iL (nea ps fa i))) ?_ (by simp) rfl) ?_
 ·have hz:nea ps fa i=((nbL ps i).filter fun o=>decide (gt fa o.toNat=gt fa i - 1)).map id:=by simp [nea]
  rw [hz]
  refine comp_ok (xs:=iL (nbL ps i)) (by simp [pAttr,getF,dsp_beside_4,be,noBor]) (by rw [ints_len];omega) (compL_intsF (fun o=>decide (gt fa o.toNat=gt fa i - 1)) id _ fun x hx=>⟨[some (.lst .bor (iL fa)),some (.int i),some (.int x)],by simp [tgN,okSlot,capE,Fl.borrow],?_,fun _=>by simp⟩)
  obtain ⟨h1,h2⟩:=hnb x hx
  simp [gt_idx (f:=.bor) (cs:=fa) (i:=x) (by omega) (by omega),gt_idx (f:=.bor) (cs:=fa) (i:=i) (by omega) (by omega)]
 simp only [s0_,s1_]
 generalize nea ps fa i=l
 refine ret_v ?_ (by cases l <;> simp [oV])
 simp only [ev_Un,ev_Var,List.getElem?_cons_zero,List.getElem?_cons_succ,pOpt,Res.ok_bind,PV.mapF,Fl.lend,mapL_ints]
 rw [minD_ok]
 cases l <;> simp [oV]
abbrev ELs (n:Nat) (ps:List (Int × Int)) (r:Nat) (fa:List Int):List (Option Int):=(List.range n).map (eld ps r fa)
theorem elders_ok {n:Nat}{ps:List (Int × Int)}{r:Nat}{cs:List Int}{fc:Fl} (hfc:fc=.bor ∨ fc=.own) (n10:n ≤ 10) (hnb:∀ i:Nat,∀ x ∈ nbL ps i,0 ≤ x∧x < n) (hl:∀ i:Nat,(nbL ps i).length ≤ 1000) (hn:cs.length=n):f_zf [gro .bor n ps r,.lst fc (iL cs)]=.ok (.lst .own (oL (ELs n ps r (FA n cs)))):=by
 refine runB_ret ?_
 show b_zf [some (gro .bor n ps r),some (.lst fc (iL cs)),none]=_
 unfold b_zf
 have fo:=fars_ok (ps:=ps) (r:=r) (.inl rfl) n10 hn
 refine seq_next (set_nx (v:=.lst .own (iL (FA n cs))) (by rcases hfc with rfl | rfl <;> simp [dsp_fars_3,fo,noBor,PV.has,Fl.lend,Fl.toBor,PV.mapF]) (by simp) rfl) ?_
 simp only [s0_,s1_]
 refine ret_v ?_ (by simp [PV.noLnt,PV.has])
 rw [show oL (ELs n ps r (FA n cs))=(List.range n).map fun i=>oV (eld ps r (FA n cs) i) by simp [oL]]
 refine comp_ok (xs:=rngP 0 n) (rng1_ok (n:=n) (by simp [pAttr,getF]) (by omega)) (by rw [rngP_len];omega) (compL_map (a:=fun k:Nat=>PV.int (0+(k:Int))) (f:=fun i=>oV (eld ps r (FA n cs) i)) (List.range n) fun k hk=>⟨[some (gro .bor n ps r),some (.lst .bor (iL (FA n cs))),some (.int (0+k))],by simp [tgN,okSlot,capE,Fl.borrow,PV.mapF],?_,?_,?_⟩)
 ·have el:=elder_ok (r:=r) (hnb k) (hl k) (show (FA n cs).length=n by simpa using hn) (List.mem_range.mp hk)
  simp [dsp_elder_3,el,noBor,PV.has,Fl.lend,Fl.toBor,PV.mapF]
  cases eld ps r (FA n cs) k <;> simp [oV,PV.has]
 ·cases eld ps r (FA n cs) k <;> simp [oV,PV.has]
 ·cases eld ps r (FA n cs) k <;> simp [oV,PV.has]
theorem zipO_map (f:Nat→Int) (g:Nat→Option Int):∀ l:List Nat,zipP (iL (l.map f)) (oL (l.map g))=l.map fun i=>PV.tup [.int (f i),oV (g i)]
 | []=>rfl
 | i::l=>by
  have:=zipO_map f g l
  simp only [iL,oL,List.map_cons,zipP] at this ⊢
  rw [this]
theorem eqO (o:Option Int) (i:Int):pEq (oV o) (.int i)=.ok (.bl (decide (o=some i))):=by
 cases o with
 | none=>simp [oV,pEq,PV.data];rfl
 | some s=>simp [oV]
theorem gtR (l:List Int):(List.range l.length).map (gt l)=l:=by
 apply List.ext_getElem (by simp)
 intro i h1 h2
 simp [gt,h2]
theorem CN_rng {n:Nat}{cs:List Int} (hn:cs.length=n):∀ i,i < n→0 ≤ gt (CN n cs) i∧gt (CN n cs) i ≤ n:=fun i hi=>by
 have hm:=gt_mem (far:=CN n cs) (i:=i) (by simpa using hn ▸ hi)
 obtain ⟨c,_,e⟩:=List.mem_map.mp hm
 rw [← e]
 have:=Int.emod_nonneg c (show (n:Int)+1 ≠ 0 by omega)
 have:=Int.emod_lt_of_pos c (show (0:Int) < (n:Int)+1 by omega)
 omega
theorem kidC_mem {n:Nat}{ps:List (Int × Int)}{r:Nat}{cs:List Int}{i:Nat} (hn:cs.length=n) {x:Int} (hx:x ∈ kidC n ps r cs i):0 ≤ x∧x ≤ n:=by
 obtain ⟨j,hj,rfl⟩:=List.mem_map.mp hx
 exact CN_rng hn j (List.mem_range.mp (List.mem_filter.mp hj).1)
theorem kidC_len {n:Nat}{ps:List (Int × Int)}{r:Nat}{cs:List Int}{i:Nat}:(kidC n ps r cs i).length ≤ n:=by
 have:=List.length_filter_le (fun j=>decide (eld ps r (FA n cs) j=some (i:Int))) (List.range n)
 simpa [kidC] using this
theorem dcn_ok {n:Nat}{ps:List (Int × Int)}{r:Nat}{cs:List Int}{i:Nat}{fc:Fl} (hfc:fc=.bor ∨ fc=.own) (n10:n ≤ 10) (hnb:∀ i:Nat,∀ x ∈ nbL ps i,0 ≤ x∧x < n) (hl:∀ i:Nat,(nbL ps i).length ≤ 1000) (hn:cs.length=n):f_zb [gro .bor n ps r,.lst fc (iL cs),.int i]=.ok (.int (dcn n ps r cs i)):=by
 refine runB_ret ?_
 show b_zb [some (gro .bor n ps r),some (.lst fc (iL cs)),some (.int i),none]=_
 unfold b_zb
 have co:=counts_ok (ps:=ps) (r:=r) (.inl rfl) n10 hn
 have eo:=elders_ok (ps:=ps) (r:=r) (.inl rfl) n10 hnb hl hn
 have zp:zipP (iL (CN n cs)) (oL (ELs n ps r (FA n cs)))=(List.range n).map fun j=>PV.tup [.int (gt (CN n cs) j),oV (eld ps r (FA n cs) j)]:=by
  have:=zipO_map (gt (CN n cs)) (eld ps r (FA n cs)) (List.range n)
  rwa [show (List.range n).map (gt (CN n cs))=CN n cs by have:=gtR (CN n cs);rw [CN_len,hn] at this;exact this] at this
 refine seq_next (set_nx (v:=.lst .own (iL (kidC n ps r cs i))) ?_ (by simp) rfl) ?_
 ·rw [show iL (kidC n ps r cs i)=((List.range n).filter fun j=>decide (eld ps r (FA n cs) j=some (i:Int))).map fun j=>PV.int (gt (CN n cs) j) by simp [iL,kidC]]
  refine comp_ok (xs:=(List.range n).map fun j=>PV.tup [.int (gt (CN n cs) j),oV (eld ps r (FA n cs) j)]) ?_ (by simp;omega) (compL_filter (a:=fun j=>PV.tup [.int (gt (CN n cs) j),oV (eld ps r (FA n cs) j)]) (f:=fun j=>.int (gt (CN n cs) j)) (p:=fun j=>decide (eld ps r (FA n cs) j=some (i:Int))) (List.range n) fun j hj=>⟨[some (.int i),some (.int (gt (CN n cs) j)),some (oV (eld ps r (FA n cs) j))],?_,?_,fun _=>⟨by simp,rfl,rfl⟩⟩)
  ·unfold mZipC
   rcases hfc with rfl | rfl <;> simp [dsp_counts_3,dsp_elders_3,co,eo,noBor,PV.has,Fl.lend,Fl.toBor,PV.mapF,noOL,zp]
  ·cases eld ps r (FA n cs) j <;> rfl
  ·have ob:∀ o:Option Int,PV.mapF Fl.lend (oV o)=oV o:=fun o=>by cases o <;> rfl
   simp [ob,eqO]
 simp only [s0_,s1_]
 have sm:pSum (.lst .lnt (iL (kidC n ps r cs i)))=.ok (.int (kidC n ps r cs i).sum):=sum_okS (by have:=kidC_len (n:=n) (ps:=ps) (r:=r) (cs:=cs) (i:=i);omega) fun x hx=>by have:=kidC_mem hn hx;omega
 refine ret_v ?_ (by simp)
 simp [pAttr,getF,p1,sm,dcn,pInt2L]
theorem dueG_ok {n:Nat}{ps:List (Int × Int)}{r:Nat}{cs:List Int}{i:Nat}{fc:Fl} (hfc:fc=.bor ∨ fc=.own) (n1:1 ≤ n) (n10:n ≤ 10) (hnb:∀ i:Nat,∀ x ∈ nbL ps i,0 ≤ x∧x < n) (hl:∀ i:Nat,(nbL ps i).length ≤ 1000) (hn:cs.length=n) (hi:i < n):f_zu [gro .bor n ps r,.lst fc (iL cs),.int i]=.ok (.int (dueG n ps r cs i)):=by
 refine runB_ret ?_
 show b_zu [some (gro .bor n ps r),some (.lst fc (iL cs)),some (.int i),none,none,none]=_
 unfold b_zu
 have fo:=fars_ok (ps:=ps) (r:=r) (.inl rfl) n10 hn
 have co:=counts_ok (ps:=ps) (r:=r) (.inl rfl) n10 hn
 have dc:=dcn_ok (ps:=ps) (r:=r) (i:=i) (.inl rfl) n10 hnb hl hn
 have fl:(FA n cs).length=n:=by simpa using hn
 have cl:(CN n cs).length=n:=by simpa using hn
 have ld:=ldueR_ok (cc:=2) (os:=fs n r) (st:=n) (tp:=n) (cs:=FA n cs) rfl (hnb i) (hl i) (by omega) fl (by simp [fs]) hi
 refine seq_next (set_nx (v:=.lst .own (iL (FA n cs))) (by rcases hfc with rfl | rfl <;> simp [dsp_fars_3,fo,noBor,PV.has,Fl.lend,Fl.toBor,PV.mapF]) (by simp) rfl) ?_
 simp only [s0_,s1_]
 unfold dueG
 generalize dueL ps (fs n r) n n (FA n cs) i=df at *
 refine seq_next (set_nx (v:=.int df) (by simp [pAttr,getF,dsp_due_2,ld,noBor,PV.has,Fl.lend,Fl.toBor,PV.mapF]) (by simp) rfl) ?_
 simp only [s0_,s1_]
 have ic:∀ f,pIdx (.lst f (iL (CN n cs))) (.int (i:Int))=.ok (.int (gt (CN n cs) i)):=fun f=>by simpa using gt_idx (f:=f) (cs:=CN n cs) (i:=i) (by omega) (by omega)
 have ia:∀ f,pIdx (.lst f (iL (FA n cs))) (.int (i:Int))=.ok (.int (gt (FA n cs) i)):=fun f=>by simpa using gt_idx (f:=f) (cs:=FA n cs) (i:=i) (by omega) (by omega)
 refine seq_next (set_nx (v:=.int (gt (CN n cs) i)) (by rcases hfc with rfl | rfl <;> simp [dsp_counts_3,co,ic,noBor,PV.has,Fl.lend,Fl.toBor,PV.mapF]) (by simp) rfl) ?_
 simp only [s0_,s1_]
 have mu:pMul (.int df) (.int ((n:Int)+1))=.ok (.int (df * ((n:Int)+1))):=mul_ok (.inr ⟨by omega,by omega⟩)
 by_cases q:df=gt (FA n cs) i
 ·rw [if_pos q]
  refine seq_next (br_t (by simp [ia,q]) (set_nx (v:=.int (dcn n ps r cs i)) (by rcases hfc with rfl | rfl <;> simp [dsp_due_count_3,dc,noBor,PV.has,Fl.lend,Fl.toBor,PV.mapF]) (by simp) rfl)) ?_
  simp only [s0_,s1_]
  exact ret_v (by simp [pAttr,getF,mu]) (by simp)
 ·rw [if_neg q]
  refine seq_next (br_f (by simp [ia,q]) next_nx) ?_
  exact ret_v (by simp [pAttr,getF,mu]) (by simp)
def num (b:Int) (r f:Nat→Nat):Nat→Int
 | 0=>0
 | m+1=>(num b r f m * b+r m) * b+f m
def rise (D:Nat→Int) (cs:List Int) (m:Nat):Nat:=((List.range cs.length).filter fun i=>decide (gt cs i=m) && decide ((m:Int) < D i)).length
def fall (D:Nat→Int) (cs:List Int) (m:Nat):Nat:=((List.range cs.length).filter fun i=>decide ((m:Int) < gt cs i) && decide (D i=m)).length
theorem zipP_map (f g:Nat→Int):∀ l:List Nat,zipP (iL (l.map f)) (iL (l.map g))=l.map fun i=>prV (f i,g i)
 | []=>rfl
 | i::l=>by
  have:=zipP_map f g l
  simp only [iL,List.map_cons,zipP] at this ⊢
  rw [this]
  rfl
theorem gt_range (cs:List Int):(List.range cs.length).map (gt cs)=cs:=by
 apply List.ext_getElem (by simp)
 intro i h1 h2
 simp [gt,h2]
theorem measure_ok {cc n:Nat}{ps:List (Int × Int)}{os:List (Option Int)}{st:Int}{T:Nat}{D:Nat→Int}{cs:List Int}{fc:Fl} (hfc:fc=.bor ∨ fc=.own) (hd:∀ k < n,pMet dsp_due_0_1_2 (.ok [.lst .bor (iL cs),.int k]) (lea .bor cc n ps os st T)=.ok (.int (D k))) (hn:cs.length=n) (n10:n ≤ 10) (hT:T ≤ 1000) :
  f_zc [lea .bor cc n ps os st T,.lst fc (iL cs)]=.ok (.int (num ((n:Int)+1) (rise D cs) (fall D cs) T)):=by
 have e3:fc.borrow=.bor:=by rcases hfc with rfl | rfl <;> rfl
 have e4:fc ≠ .mod:=by rcases hfc with rfl | rfl <;> decide
 refine runB_ret ?_
 show b_zc [some (lea .bor cc n ps os st T),some (.lst fc (iL cs)),none,none,none,none,none,none]=_
 unfold b_zc
 refine seq_next (set_nx (v:=.lst .own (iL ((List.range n).map D))) ?_ (by simp) rfl) ?_
 ·refine comp_ok (xs:=rngP 0 n) (rng1_ok (n:=n) (by simp [pAttr,getF]) (by omega)) (by rw [rngP_len];omega) (compL_rng 0 D n fun k hk=>⟨[some (lea .bor cc n ps os st T),some (.lst .bor (iL cs)),some (.int (0+k))],by simp [tgN,okSlot,capE,e3],?_⟩)
  have:=hd k hk
  simp [this]
 simp only [s0_,s1_]
 refine seq_next (set_nx (v:=.int ((n:Int)+1)) (by simp [pAttr,getF]) (by simp) rfl) ?_
 simp only [s0_,s1_]
 refine seq_next (set_nx (v:=.int 0) (by simp) (by simp) rfl) ?_
 simp only [s0_,s1_]
 have zp:zipP (iL cs) (iL ((List.range n).map D))=(List.range n).map fun i=>prV (gt cs i,D i):=by
  have:=zipP_map (gt cs) D (List.range n)
  rw [← hn,gt_range] at this
  rw [← hn]
  exact this
 refine seq_for (fun k e=>∃ x5 x6 x7,e=[some (lea .bor cc n ps os st T),some (.lst fc (iL cs)),some (.lst .own (iL ((List.range n).map D))),some (.int ((n:Int)+1)),some (.int (num ((n:Int)+1) (rise D cs) (fall D cs) k)),x5,x6,x7]) (rng1_ok (n:=T) (by simp [pAttr,getF]) (by omega)) ⟨_,_,_,rfl⟩ (fun k x e hx hP=>?_) (fun e hP=>?_)
 ·obtain ⟨x5,x6,x7,rfl⟩:=hP
  obtain ⟨hk,rfl⟩:=rngP_get hx
  have mz:∀ x6 x7,mZipC (mCons (mVar 1) (mCons (mVar 2) mNil)) [some (lea .bor cc n ps os st T),some (.lst fc (iL cs)),some (.lst .own (iL ((List.range n).map D))),some (.int ((n:Int)+1)),some (.int (num ((n:Int)+1) (rise D cs) (fall D cs) k)),some (.int k),x6,x7]=.ok ((List.range n).map fun i=>prV (gt cs i,D i)):=fun x6 x7=>by
   unfold mZipC
   simp only [ev_Cons,ev_Var,ev_Nil,List.getElem?_cons_zero,List.getElem?_cons_succ,pOpt]
   simp [noOL,zp]
  refine ⟨_,tgN_ok rfl,?_⟩
  simp only [s0_,s1_,Int.zero_add]
  refine goes_seq (set_nx (v:=.lst .own (iL (((List.range n).filter fun i=>decide (gt cs i=k) && decide ((k:Int) < D i)).map (gt cs)))) ?_ (by simp) rfl) ?_
  ·rw [show iL (((List.range n).filter fun i=>decide (gt cs i=k) && decide ((k:Int) < D i)).map (gt cs))=((List.range n).filter fun i=>decide (gt cs i=k) && decide ((k:Int) < D i)).map fun i=>PV.int (gt cs i) by simp [iL]]
   refine comp_ok (mz _ _) (by simp;omega) (compL_filter (a:=fun i=>prV (gt cs i,D i)) (f:=fun i=>.int (gt cs i)) (p:=fun i=>decide (gt cs i=k) && decide ((k:Int) < D i)) (List.range n) fun i hi=>⟨[some (.int k),some (.int (gt cs i)),some (.int (D i))],rfl,?_,fun _=>⟨by simp,rfl,rfl⟩⟩)
   by_cases q:gt cs i=k <;> simp [q]
  simp only [s0_,s1_]
  refine goes_seq (set_nx (v:=.lst .own (iL (((List.range n).filter fun i=>decide ((k:Int) < gt cs i) && decide (D i=k)).map (gt cs)))) ?_ (by simp) rfl) ?_
  ·rw [show iL (((List.range n).filter fun i=>decide ((k:Int) < gt cs i) && decide (D i=k)).map (gt cs))=((List.range n).filter fun i=>decide ((k:Int) < gt cs i) && decide (D i=k)).map fun i=>PV.int (gt cs i) by simp [iL]]
   refine comp_ok (mz _ _) (by simp;omega) (compL_filter (a:=fun i=>prV (gt cs i,D i)) (f:=fun i=>.int (gt cs i)) (p:=fun i=>decide ((k:Int) < gt cs i) && decide (D i=k)) (List.range n) fun i hi=>⟨[some (.int k),some (.int (gt cs i)),some (.int (D i))],rfl,?_,fun _=>⟨by simp,rfl,rfl⟩⟩)
   by_cases q:(k:Int) < gt cs i <;> simp [q]
  simp only [s0_,s1_]
  have m1:∀ x:Int,pMul (.int x) (.int ((n:Int)+1))=.ok (.int (x * ((n:Int)+1))):=fun x=>mul_ok (.inr ⟨by omega,by omega⟩)
  refine goes_last (set_nx (v:=.int (num ((n:Int)+1) (rise D cs) (fall D cs) (k+1))) ?_ (by simp) rfl) ⟨_,_,_,rfl⟩
  simp [m1,p1,pLen,seqOf,num,rise,fall,hn]
 ·obtain ⟨x5,x6,x7,rfl⟩:=hP
  rw [rngP_len]
  exact retV_v rfl
theorem powerB_ok {e:Nat}{b:Int} (h1:0 < b) (h2:b ≤ 1000) (he:e ≤ 1000):f_zaw [.int b,.int e]=.ok (.int (b ^ e)):=by
 refine runB_ret ?_
 show b_zaw [some (.int b),some (.int e),none,none]=_
 unfold b_zaw
 refine seq_next (set_nx (v:=.int 1) (by simp) (by simp) rfl) ?_
 simp only [s0_,s1_]
 refine seq_for (fun k en=>∃ x,en=[some (.int b),some (.int e),some (.int (b ^ k)),x]) (rng1_ok (n:=e) (by simp) (by omega)) ⟨none,by simp⟩ (fun k x en hx hP=>?_) (fun en hP=>?_)
 ·obtain ⟨y,rfl⟩:=hP
  obtain ⟨hk,rfl⟩:=rngP_get hx
  have m1:pMul (.int (b ^ k)) (.int b)=.ok (.int (b ^ k * b)):=mul_ok (.inr ⟨by omega,by omega⟩)
  refine ⟨_,tgN_ok rfl,goes_last (set_nx (v:=.int (b ^ (k+1))) (by simp [m1,Int.pow_succ]) (by simp) rfl) ⟨_,rfl⟩⟩
 ·obtain ⟨y,rfl⟩:=hP
  rw [rngP_len]
  exact retV_v rfl
theorem most_ok {cc n:Nat}{ps:List (Int × Int)}{os:List (Option Int)}{st:Int}{T:Nat} (n10:n ≤ 10) (hT:T ≤ 400):f_zg [lea .bor cc n ps os st T]=.ok (.int (((n:Int)+1) ^ (2 * T) - 1)):=by
 refine runB_ret ?_
 show b_zg [some (lea .bor cc n ps os st T)]=_
 unfold b_zg
 have pw:f_zaw [.int ((n:Int)+1),.int (2 * (T:Int))]=.ok (.int (((n:Int)+1) ^ (2 * T))):=by simpa using powerB_ok (e:=2 * T) (b:=(n:Int)+1) (by omega) (by omega) (by omega)
 have m2:pMul (.int 2) (.int (T:Int))=.ok (.int (2 * (T:Int))):=mul_ok (.inl ⟨by omega,by omega⟩)
 exact ret_v (by simp [pAttr,getF,m2,pw,noBor]) (by simp)
theorem two_le {n:Nat} (h:n ≤ 10):(2:Int) ^ n ≤ 2 ^ 10:=by
 rcases Nat.lt_or_ge n 10 with q | q
 ·exact Int.le_of_lt (Int.pow_lt_pow_of_lt (by decide) q)
 ·rw [show n=10 by omega];exact Int.le_refl _
def ltF (fa:List Int) (j i:Nat):Bool:=decide (gt fa j < gt fa i) || (decide (gt fa j=gt fa i) && decide (j < i))
def rnk (fa:List Int) (i:Nat):Nat:=((List.range fa.length).filter fun j=>ltF fa j i).length
def wrg (n:Nat) (ps:List (Int × Int)) (r:Nat) (cs:List Int):List Nat:=(List.range n).filter fun i=>decide (gt (CN n cs) i ≠ dcn n ps r cs i)
def wsum (n:Nat) (ps:List (Int × Int)) (r:Nat) (cs:List Int):Int:=((wrg n ps r cs).map fun i=>(2:Int) ^ rnk (FA n cs) i).sum
theorem rnk_le {fa:List Int}{i:Nat}:rnk fa i ≤ fa.length:=by
 have:=List.length_filter_le (fun j=>ltF fa j i) (List.range fa.length)
 simpa [rnk] using this
theorem lex_ltF (fa:List Int) (j i:Nat):HT.lexLt [gt fa j,(j:Int)] [gt fa i,(i:Int)]=ltF fa j i:=by
 simp only [HT.lexLt,ltF]
 by_cases h:gt fa j=gt fa i
 ·rw [if_pos h]
  by_cases h2:j=i
  ·subst h2;simp
  ·rw [if_neg (by omega)]
   simp [h]
 ·rw [if_neg h]
  simp [h]
theorem rank_ok {fa:List Int}{i:Nat} (hl:fa.length ≤ 1000) (hi:i < fa.length):f_zaa [.lst .bor (iL fa),.int i]=.ok (.int (rnk fa i)):=by
 refine runB_ret ?_
 show b_zaa [some (.lst .bor (iL fa)),some (.int i),none]=_
 unfold b_zaa
 refine seq_next (set_nx (v:=.lst .own (iL (((List.range fa.length).filter fun j=>ltF fa j i).map fun j:Nat=>(j:Int)))) ?_ (by simp) rfl) ?_
 ·refine comp_ok (xs:=rngP 0 fa.length) (rng1_ok (n:=fa.length) (by simp [p1,pLen,seqOf]) (by omega)) (by rw [rngP_len];omega) (compL_rngF (fun j=>ltF fa j i) (fun j:Nat=>(j:Int)) fa.length fun k hk=>⟨[some (.lst .bor (iL fa)),some (.int i),some (.int (0+k))],by simp [tgN,okSlot,capE,Fl.borrow],?_,fun _=>by simp⟩)
  have a1:∀ f,pIdx (.lst f (iL fa)) (.int (k:Int))=.ok (.int (gt fa k)):=fun f=>by simpa using gt_idx (f:=f) (cs:=fa) (i:=k) (by omega) (by omega)
  have a2:∀ f,pIdx (.lst f (iL fa)) (.int (i:Int))=.ok (.int (gt fa i)):=fun f=>by simpa using gt_idx (f:=f) (cs:=fa) (i:=i) (by omega) (by omega)
  rw [← lex_ltF]
  simp [a1,a2,pLtT,intsOf]
 simp only [s0_,s1_]
 exact ret_v (by simp [p1,pLen,seqOf,rnk]) (by simp)
theorem measG_ok {n:Nat}{ps:List (Int × Int)}{r:Nat}{cs:List Int}{M:Int}{fc:Fl} (hfc:fc=.bor ∨ fc=.own) (n10:n ≤ 10) (hnb:∀ i:Nat,∀ x ∈ nbL ps i,0 ≤ x∧x < n) (hl:∀ i:Nat,(nbL ps i).length ≤ 1000) (hn:cs.length=n)
  (hM:f_zc [lea .bor 2 n ps (fs n r) n n,.lst .bor (iL (FA n cs))]=.ok (.int M)):f_zd [gro .bor n ps r,.lst fc (iL cs)]=.ok (.int (M * 2 ^ n+wsum n ps r cs)):=by
 refine runB_ret ?_
 show b_zd [some (gro .bor n ps r),some (.lst fc (iL cs)),none,none,none,none]=_
 unfold b_zd
 have fo:=fars_ok (ps:=ps) (r:=r) (.inl rfl) n10 hn
 have co:=counts_ok (ps:=ps) (r:=r) (.inl rfl) n10 hn
 have fl:(FA n cs).length=n:=by simpa using hn
 have cl:(CN n cs).length=n:=by simpa using hn
 have e3:fc.borrow=.bor:=by rcases hfc with rfl | rfl <;> rfl
 refine seq_next (set_nx (v:=.lst .own (iL (FA n cs))) (by rcases hfc with rfl | rfl <;> simp [dsp_fars_3,fo,noBor,PV.has,Fl.lend,Fl.toBor,PV.mapF]) (by simp) rfl) ?_
 simp only [s0_,s1_]
 refine seq_next (set_nx (v:=.lst .own (iL (CN n cs))) (by rcases hfc with rfl | rfl <;> simp [dsp_counts_3,co,noBor,PV.has,Fl.lend,Fl.toBor,PV.mapF]) (by simp) rfl) ?_
 simp only [s0_,s1_]
 refine seq_next (set_nx (v:=.lst .own (iL ((wrg n ps r cs).map fun j:Nat=>(j:Int)))) ?_ (by simp) rfl) ?_
 ·unfold wrg
  refine comp_ok (xs:=rngP 0 n) (rng1_ok (n:=n) (by simp [pAttr,getF]) (by omega)) (by rw [rngP_len];omega) (compL_rngF (fun i=>decide (gt (CN n cs) i ≠ dcn n ps r cs i)) (fun j:Nat=>(j:Int)) n fun k hk=>⟨[some (.lst .bor (iL (CN n cs))),some (gro .bor n ps r),some (.lst .bor (iL cs)),some (.int (0+k))],by rcases hfc with rfl | rfl <;> simp [tgN,okSlot,capE,Fl.borrow,PV.mapF],?_,fun _=>by simp⟩)
  have a1:∀ f,pIdx (.lst f (iL (CN n cs))) (.int (k:Int))=.ok (.int (gt (CN n cs) k)):=fun f=>by simpa using gt_idx (f:=f) (cs:=CN n cs) (i:=k) (by omega) (by omega)
  have dc:=dcn_ok (ps:=ps) (r:=r) (i:=k) (.inl rfl) n10 hnb hl hn
  simp [a1,dsp_due_count_3,dc,noBor,PV.has,Fl.lend,Fl.toBor,PV.mapF]
 simp only [s0_,s1_]
 have wl:(wrg n ps r cs).length ≤ n:=by
  have:=List.length_filter_le (fun i=>decide (gt (CN n cs) i ≠ dcn n ps r cs i)) (List.range n)
  simpa [wrg] using this
 have wm:∀ i ∈ wrg n ps r cs,i < n:=fun i hi=>List.mem_range.mp (List.mem_filter.mp hi).1
 refine seq_next (set_nx (v:=.lst .own (iL ((wrg n ps r cs).map fun i=>(2:Int) ^ rnk (FA n cs) i))) ?_ (by simp) rfl) ?_
 ·rw [show iL ((wrg n ps r cs).map fun i=>(2:Int) ^ rnk (FA n cs) i)=(wrg n ps r cs).map fun i=>PV.int ((2:Int) ^ rnk (FA n cs) i) by simp [iL]]
  have hx:iL ((wrg n ps r cs).map fun j:Nat=>(j:Int))=(wrg n ps r cs).map fun j:Nat=>PV.int (j:Int):=by simp [iL]
  refine comp_ok (xs:=(wrg n ps r cs).map fun j:Nat=>PV.int (j:Int)) (by rw [← hx];simp) (by simp;omega) (compL_map (a:=fun j:Nat=>PV.int (j:Int)) (f:=fun i=>PV.int ((2:Int) ^ rnk (FA n cs) i)) (wrg n ps r cs) fun k hk=>⟨[some (.lst .bor (iL (FA n cs))),some (.int k)],by simp [tgN,okSlot,capE,Fl.borrow],?_,by simp,by simp⟩)
  have rk:=rank_ok (fa:=FA n cs) (i:=k) (by omega) (by have:=wm k hk;omega)
  have rl:=rnk_le (fa:=FA n cs) (i:=k)
  have pw:=powerB_ok (e:=rnk (FA n cs) k) (b:=2) (by decide) (by decide) (by omega)
  simp [rk,pw,noBor,PV.has,Fl.lend,Fl.toBor]
 simp only [s0_,s1_]
 have pn:=powerB_ok (e:=n) (b:=2) (by decide) (by decide) (by omega)
 have p2:(2:Int) ^ n ≤ 2 ^ 10:=two_le n10
 have p0:(0:Int) < 2 ^ n:=Int.pow_pos (by decide)
 have mu:pMul (.int M) (.int (2 ^ n))=.ok (.int (M * 2 ^ n)):=mul_ok (.inr ⟨by omega,by omega⟩)
 have sm:pSum (.lst .lnt (iL ((wrg n ps r cs).map fun i=>(2:Int) ^ rnk (FA n cs) i)))=.ok (.int (wsum n ps r cs)):=sum_okS (by simp;omega) fun x hx=>by
  obtain ⟨i,_,rfl⟩:=List.mem_map.mp hx
  have rl:=rnk_le (fa:=FA n cs) (i:=i)
  have h1:(2:Int) ^ rnk (FA n cs) i ≤ 2 ^ 10:=two_le (by omega)
  have h2:(0:Int) < 2 ^ rnk (FA n cs) i:=Int.pow_pos (by decide)
  omega
 generalize (wrg n ps r cs).map (fun i=>(2:Int) ^ rnk (FA n cs) i)=WS at *
 generalize (2:Int) ^ n=PN at *
 refine ret_v ?_ (by simp)
 simp [pAttr,getF,dsp_measure_2,hM,pn,mu,p1,sm,noBor,PV.has,Fl.lend,Fl.toBor,PV.mapF]
theorem mostG_ok {n:Nat}{ps:List (Int × Int)}{r:Nat} (n10:n ≤ 10):f_zo [gro .bor n ps r]=.ok (.int (((n:Int)+1) ^ (2 * n) * 2 ^ n - 1)):=by
 refine runB_ret ?_
 show b_zo [some (gro .bor n ps r)]=_
 unfold b_zo
 have mo:=most_ok (cc:=2) (n:=n) (ps:=ps) (os:=fs n r) (st:=n) (T:=n) n10 (by omega)
 have pn:=powerB_ok (e:=n) (b:=2) (by decide) (by decide) (by omega)
 have p2:(2:Int) ^ n ≤ 2 ^ 10:=two_le n10
 have p0:(0:Int) < 2 ^ n:=Int.pow_pos (by decide)
 generalize ((n:Int)+1) ^ (2 * n)=B at *
 generalize (2:Int) ^ n=PN at *
 have mu:pMul (.int B) (.int PN)=.ok (.int (B * PN)):=mul_ok (.inr ⟨by omega,by omega⟩)
 refine ret_v ?_ (by simp)
 simp [pAttr,getF,dsp_most_2,mo,pn,mu,noBor,PV.has,Fl.lend,Fl.toBor,PV.mapF]
theorem list_ok {f g:Fl} (l:List Int) (hl:l.length ≤ 1000):f_zap [.lst f (iL l),.lst g (iL l)]=.ok (.bl true):=by
 refine runB_ret (v:=.bl true) ?_
 show b_zap [some (.lst f (iL l)),some (.lst g (iL l))]=_
 unfold b_zap
 refine ret_v ?_ (by simp)
 have hc:mComp [] 1 (mSeqC (mVar 0)) (tgN 0) mTrue (mCall (callR f_zak) (mCons (mVar 0) mNil)) [some (.lst f (iL l)),some (.lst g (iL l))]=.ok (.lst .own ((l.map fun _=>true).map .bl)):=by
  refine comp_ok (xs:=iL l) (by simp) (by rw [ints_len];omega) ?_
  rw [List.map_map]
  exact compL_map (a:=PV.int) (f:=PV.bl ∘ fun _=>true) l fun x _=>⟨[some (.int x)],by simp [tgN,okSlot,capE,isObj0],by simp [whole_ok,noBor],by simp,by simp⟩
 have hb:pBls allB (.lst .own ((l.map fun _=>true).map .bl))=.ok (.bl true):=by
  unfold pBls
  dsimp only
  rw [blsOf_map]
  simp [allB]
 simp only [ev_AndE,ev_Call,ev_Cons,ev_Nil,hc]
 simp only [Res.ok_bind,p1,hb]
 simp [isiB,pAnd]
theorem PT_idx {n:Nat}{cs:List Int}{f:Fl}{i:Nat} (hi:i < cs.length):pIdx (.lst f (prL (PT n cs))) (.int (i:Int))=.ok (prV (gt (FA n cs) i,gt (CN n cs) i)):=by
 refine idx_at rfl ?_ (by simp)
 simp [prL,PT,FA,CN,gt,hi]
theorem DC_idx {n:Nat}{D:Nat→Int}{f:Fl}{i:Nat} (hi:i < n):pIdx (.lst f (iL ((List.range n).map D))) (.int (i:Int))=.ok (.int (D i)):=idx_at rfl (by simp [iL,hi]) (by simp)
theorem EL_idx {n:Nat}{D:Nat→Option Int}{f:Fl}{i:Nat} (hi:i < n):pIdx (.lst f (oL ((List.range n).map D))) (.int (i:Int))=.ok (oV (D i)):=idx_at rfl (by simp [oL,hi]) (by cases D i <;> rfl)
theorem near_idx {n:Nat}{ps:List (Int × Int)}{i:Nat} (hi:i < n):pIdx (.lst .bor (llL .bor ((List.range n).map fun a:Nat=>nbL ps a))) (.int (i:Int))=.ok (.lst .bor (iL (nbL ps i))):=idx_at rfl (by simp [llL,hi]) (by simp)
structure NetP (n:Nat) (ps:List (Int × Int)):Prop where
 n1:1 ≤ n
 n10:n ≤ 10
 rg:∀ x ∈ ps,0 ≤ x.1∧x.1 < n∧0 ≤ x.2∧x.2 < n
 nb:∀ i:Nat,∀ x ∈ nbL ps i,0 ≤ x∧x < n
 nl:∀ i:Nat,(nbL ps i).length ≤ 1000
theorem netP_of {n:Nat}{ws:List (Int × Int)} (G:Good n ws) (n1:1 ≤ n) (n10:n ≤ 10):NetP n (sortP (ws.map mm)):=by
 have rg:∀ x ∈ sortP (ws.map mm),0 ≤ x.1∧x.1 < n∧0 ≤ x.2∧x.2 < n:=fun x hx=>by
  obtain ⟨w,hw,rfl⟩:=List.mem_map.mp ((sortP_perm _).mem_iff.mp hx)
  have:=G.rg w hw
  simp only [mm]
  omega
 refine ⟨n1,n10,rg,fun i x hx=>?_,fun i=>?_⟩
 ·rcases nb_mem.mp hx with hx | hx
  ·have:=rg _ hx;omega
  ·have:=rg _ hx;omega
 ·unfold nbL
  rw [(sortI_perm _).length_eq,List.length_append,List.length_map,List.length_map]
  have h1:=List.length_filter_le (fun x:Int × Int=>decide (x.2=(i:Int))) (sortP (ws.map mm))
  have h2:=List.length_filter_le (fun x:Int × Int=>decide (x.1=(i:Int))) (sortP (ws.map mm))
  have h3:(sortP (ws.map mm)).length < 64:=by rw [(sortP_perm _).length_eq,List.length_map];exact G.sz
  omega
theorem canL_prL {ps:List (Int × Int)}:PyData.canLayAll0 (dataL (prL ps))=true:=by
 induction ps with
 | nil=>rfl
 | cons n ns ih=>simp only [prL_cons,dataL,PyData.canLayAll0,ih];rfl
theorem depL_prL {ps:List (Int × Int)}:PyData.depthAll (dataL (prL ps)) ≤ 1:=by
 induction ps with
 | nil=>exact Nat.zero_le _
 | cons n ns ih =>
  have e:PyData.depth (prV n).data=1:=rfl
  simp only [prL_cons,dataL,PyData.depthAll,e]
  omega
theorem shp_prL {ps:List (Int × Int)}{f:Fl}:shp (.lst f (prL ps))=true:=by
 have:=depL_prL (ps:=ps)
 simp [shp,SeqAt.shaped,PV.data,PyData.canLay0,PyData.depth,canL_prL]
 omega
theorem elderW_ok {n:Nat}{ps:List (Int × Int)}{r:Nat}{fa:List Int}{i:Nat} (hnb:∀ x ∈ nbL ps i,0 ≤ x∧x < n) (hl:(nbL ps i).length ≤ 1000) (hn:fa.length=n) (hi:i < n):f_zam [.lst .bor (llL .bor ((List.range n).map fun a:Nat=>nbL ps a)),.int r,.lst .bor (iL fa),.int i]=.ok (oV (eld ps r fa i)):=by
 refine runB_ret ?_
 show b_zam [some (.lst .bor (llL .bor ((List.range n).map fun a:Nat=>nbL ps a))),some (.int r),some (.lst .bor (iL fa)),some (.int i),none]=_
 unfold b_zam
 have iy:=near_idx (ps:=ps) hi
 refine seq_next (set_nx (v:=.lst .own (iL (nea ps fa i))) ?_ (by simp) rfl) ?_
 ·have hz:nea ps fa i=((nbL ps i).filter fun o=>decide (gt fa o.toNat+1=gt fa i)).map id:=by
   rw [List.map_id]
   unfold nea
   congr 1
   funext o
   exact decide_eq_decide.mpr (by omega)
  rw [hz]
  refine comp_ok (xs:=iL (nbL ps i)) (by simp [iy]) (by rw [ints_len];omega) (compL_intsF (fun o=>decide (gt fa o.toNat+1=gt fa i)) id _ fun x hx=>⟨[some (.lst .bor (iL fa)),some (.int i),some (.int x)],by simp [tgN,okSlot,capE,Fl.borrow],?_,fun _=>by simp⟩)
  obtain ⟨h1,h2⟩:=hnb x hx
  have a2:∀ f,pIdx (.lst f (iL fa)) (.int (i:Int))=.ok (.int (gt fa i)):=fun f=>by simpa using gt_idx (f:=f) (cs:=fa) (i:=i) (by omega) (by omega)
  simp [gt_idx (f:=.bor) (cs:=fa) (i:=x) (by omega) (by omega),a2]
 simp only [s0_,s1_]
 unfold eld
 generalize nea ps fa i=l
 by_cases q:i=r
 ·rw [if_pos q]
  exact seq_ret (br_t (by simp [q]) (ret_v (by simp [oV]) (by simp [oV])))
 rw [if_neg q]
 cases l with
 | nil =>
  have e0:∀ f g,pEq (.lst f []) (.lst g [])=.ok (.bl true):=fun f g=>(eq_ints f g (ns:=[]) (ms:=[])).trans (by simp)
  exact seq_ret (br_t (by simp [show ¬ (i:Int)=r by omega,e0]) (ret_v (by simp [oV]) (by simp [oV])))
 | cons x l =>
  have pm:=pmin_ok (f:=.lnt) (l:=x::l) (by simp)
  have ne:∀ f g,pEq (.lst f (.int x::iL l)) (.lst g [])=.ok (.bl false):=fun f g=>(eq_ints f g (ns:=x::l) (ms:=[])).trans (by simp)
  refine seq_next (br_f (by simp only [ev_OrT];simp [show ¬ (i:Int)=r by omega,ne]) next_nx) (ret_v (v:=.int (minI (x::l))) ?_ (by simp))
  simp only [ev_Call,ev_Cons,ev_Nil,ev_Var]
  simpa [p1] using pm
theorem far_law {n:Nat}{ps:List (Int × Int)}{r:Nat}{fa:List Int}{i:Nat} (n1:1 ≤ n) (n10:n ≤ 10) (hnb:∀ x ∈ nbL ps i,0 ≤ x∧x < n) (hl:(nbL ps i).length ≤ 1000) (hn:fa.length=n) (hi:i < n) (hr:r < n) (hin:In n fa):f_zav [.lst .bor (llL .bor ((List.range n).map fun a:Nat=>nbL ps a)),.int r,.lst .bor (iL fa),.int i]=.ok (.int (dueL ps (fs n r) n n fa i)):=by
 refine runB_ret ?_
 show b_zav [some (.lst .bor (llL .bor ((List.range n).map fun a:Nat=>nbL ps a))),some (.int r),some (.lst .bor (iL fa)),some (.int i)]=_
 unfold b_zav
 by_cases q:i=r
 ·subst q
  have:=dueF_root (ps:=ps) n1 hr hin hn hnb
  unfold DF at this
  rw [this]
  exact seq_ret (br_t (by simp) (ret_v (by simp) (by simp)))
 refine seq_next (br_f (by simp [show ¬ (i:Int)=r by omega]) next_nx) (ret_v ?_ (by simp))
 have iy:=near_idx (ps:=ps) hi
 have hc:mComp [2,0] 1 (mSeqC (mOp pIdx (mVar 0) (mVar 3))) (tgN 2) (mTest (mOp pLt (mOp pPlus (mOp pIdx (mVar 0) (mVar 2)) (mC (.int (1)))) (mCall (p1 pLen) (mCons (mVar 1) mNil)))) (mOp pPlus (mOp pIdx (mVar 0) (mVar 2)) (mC (.int (1)))) [some (.lst .bor (llL .bor ((List.range n).map fun a:Nat=>nbL ps a))),some (.int r),some (.lst .bor (iL fa)),some (.int i)]=.ok (.lst .own (iL (((nbL ps i).filter fun o=>decide (gt fa o.toNat+1 < n)).map fun o=>gt fa o.toNat+1))):=by
  refine comp_ok (xs:=iL (nbL ps i)) (by simp [iy]) (by rw [ints_len];omega) (compL_intsF (fun o=>decide (gt fa o.toNat+1 < n)) (fun o=>gt fa o.toNat+1) _ fun x hx=>⟨[some (.lst .bor (iL fa)),some (.lst .bor (llL .bor ((List.range n).map fun a:Nat=>nbL ps a))),some (.int x)],by simp [tgN,okSlot,capE,Fl.borrow],?_,fun _=>?_⟩)
  ·obtain ⟨h1,h2⟩:=hnb x hx
   simp [gt_idx (f:=.bor) (cs:=fa) (i:=x) (by omega) (by omega),p1,pLen,seqOf]
  ·obtain ⟨h1,h2⟩:=hnb x hx
   simp [gt_idx (f:=.bor) (cs:=fa) (i:=x) (by omega) (by omega)]
 have hw:minI ((n:Int)::((nbL ps i).filter fun o=>decide (gt fa o.toNat+1 < n)).map fun o=>gt fa o.toNat+1)=dueL ps (fs n r) n n fa i:=by
  unfold dueL
  rw [fs_get hi,if_neg q]
  refine minI_same (by simp) (by simp) fun x=>?_
  simp only [List.mem_append,List.mem_cons,List.not_mem_nil,or_false,Option.toList]
  rw [offs_mem n1 hin hn hnb]
  constructor
  ·rintro (h | h)
   ·exact .inr h
   ·obtain ⟨j,hj,rfl⟩:=List.mem_map.mp h
    obtain ⟨h1,h2⟩:=List.mem_filter.mp hj
    exact .inl ⟨j,h1,rfl,by simpa using h2⟩
  ·rintro (⟨j,hj,rfl,h⟩ | h)
   ·exact .inr (List.mem_map.mpr ⟨j,List.mem_filter.mpr ⟨hj,by simpa using h⟩,rfl⟩)
   ·exact .inl h
 have ll:(((nbL ps i).filter fun o=>decide (gt fa o.toNat+1 < n)).map fun o=>gt fa o.toNat+1).length ≤ 1000:=by
  rw [List.length_map]
  exact Nat.le_trans (List.length_filter_le _ _) hl
 rw [← hw]
 generalize ((nbL ps i).filter fun o=>decide (gt fa o.toNat+1 < n)).map (fun o=>gt fa o.toNat+1)=l at *
 have pl:pPlus (.lst .own [.int (n:Int)]) (.lst .own (iL l))=.ok (.lst .own (iL ((n:Int)::l))):=by
  rw [plus_lst (by decide) (by decide) (by simp;omega)]
  rfl
 have pm:=pmin_ok (f:=.own) (l:=(n:Int)::l) (by simp)
 simp only [ev_Call,ev_Cons,ev_Nil,ev_Op,ev_Lst,hc]
 simp [p1,pLen,seqOf,pl]
 exact pm
section
variable {n:Nat}{ps:List (Int × Int)}{r:Nat}{cs:List Int}
theorem rng_step {p:Nat→Bool}{f:Nat→Int} (k:Nat):(((List.range (k+1)).filter p).map f).sum=(((List.range k).filter p).map f).sum+(if p k then f k else 0):=by
 rw [List.range_succ,List.filter_append,List.map_append,List.sum_append]
 by_cases h:p k <;> simp [h]
theorem countsW_ok (n10:n ≤ 10) (hn:cs.length=n):f_zaf [.int n,.lst .bor (oL (ELs n ps r (FA n cs))),.lst .bor (prL (PT n cs))]=.ok (.lst .own (iL ((List.range n).map (dcn n ps r cs)))):=by
 refine runB_ret ?_
 show b_zaf [some (.int n),some (.lst .bor (oL (ELs n ps r (FA n cs)))),some (.lst .bor (prL (PT n cs))),none,none,none,none]=_
 unfold b_zaf
 refine seq_next (set_nx (v:=.lst .own []) (by simp) (by simp) rfl) ?_
 simp only [s0_,s1_]
 refine seq_for (fun k e=>∃ x4 x5 x6,e=[some (.int n),some (.lst .bor (oL (ELs n ps r (FA n cs)))),some (.lst .bor (prL (PT n cs))),some (.lst .own (iL ((List.range k).map (dcn n ps r cs)))),x4,x5,x6]) (rng1_ok (n:=n) (by simp) (by omega)) ⟨_,_,_,rfl⟩ (fun k x e hx hP=>?_) (fun e hP=>?_)
 ·obtain ⟨x4,x5,x6,rfl⟩:=hP
  obtain ⟨hk,rfl⟩:=rngP_get hx
  refine ⟨_,tgN_ok rfl,?_⟩
  simp only [s0_,s1_,Int.zero_add]
  refine goes_seq (set_nx (v:=.int 1) (by simp) (by simp) rfl) ?_
  simp only [s0_,s1_]
  refine goes_for (fun j e=>∃ x6,e=[some (.int n),some (.lst .bor (oL (ELs n ps r (FA n cs)))),some (.lst .bor (prL (PT n cs))),some (.lst .own (iL ((List.range k).map (dcn n ps r cs)))),some (.int k),some (.int (1+(((List.range j).filter fun j=>decide (eld ps r (FA n cs) j=some (k:Int))).map (gt (CN n cs))).sum)),x6]) (rng1_ok (n:=n) (by simp) (by omega)) ⟨_,rfl⟩ (fun j x e hx hP=>?_) (fun e hP=>?_)
  ·obtain ⟨x6,rfl⟩:=hP
   obtain ⟨hj,rfl⟩:=rngP_get hx
   refine ⟨_,tgN_ok rfl,?_⟩
   simp only [s0_,s1_,Int.zero_add]
   have ie:∀ f,pIdx (.lst f (oL (ELs n ps r (FA n cs)))) (.int (j:Int))=.ok (oV (eld ps r (FA n cs) j)):=fun f=>EL_idx hj
   have ip:∀ f,pIdx (.lst f (prL (PT n cs))) (.int (j:Int))=.ok (prV (gt (FA n cs) j,gt (CN n cs) j)):=fun f=>PT_idx (by omega)
   rw [rng_step]
   by_cases q:eld ps r (FA n cs) j=some (k:Int)
   ·refine goes_last (br_t (by simp [ie,eqO,q]) (set_nx (v:=.int (1+(((List.range j).filter fun j=>decide (eld ps r (FA n cs) j=some (k:Int))).map (gt (CN n cs))).sum+gt (CN n cs) j)) (by simp [ip]) (by simp) rfl)) ⟨some (.int j),?_⟩
    simp only [s0_,s1_]
    simp [q,Int.add_assoc]
   ·exact goes_last (br_f (by simp [ie,eqO,q]) next_nx) ⟨some (.int j),by simp [q]⟩
  ·obtain ⟨x6,rfl⟩:=hP
   rw [rngP_len]
   refine goes_last (append_nx (v:=.int (dcn n ps r cs k)) (xs:=iL ((List.range k).map (dcn n ps r cs))) (by simp [pInt2L,dcn,kidC]) rfl (by simp) (by simp;omega)) ?_
   simp only [s0_,s1_]
   have ap:iL ((List.range k).map (dcn n ps r cs)) ++ [PV.int (dcn n ps r cs k)]=iL ((List.range (k+1)).map (dcn n ps r cs)):=by
    rw [List.range_succ,List.map_append]
    simp [iL]
   rw [ap]
   exact ⟨_,_,_,rfl⟩
 ·obtain ⟨x4,x5,x6,rfl⟩:=hP
  rw [rngP_len]
  exact retV_v rfl
theorem duesW_ok (n1:1 ≤ n) (n10:n ≤ 10) (hnb:∀ i:Nat,∀ x ∈ nbL ps i,0 ≤ x∧x < n) (hl:∀ i:Nat,(nbL ps i).length ≤ 1000) (hn:cs.length=n) (hr:r < n) (hin:In n (FA n cs)):f_zar [.lst .bor (llL .bor ((List.range n).map fun a:Nat=>nbL ps a)),.int r,.lst .bor (prL (PT n cs)),.lst .bor (iL ((List.range n).map (dcn n ps r cs)))]=.ok (.lst .own (iL ((List.range n).map (dueG n ps r cs)))):=by
 refine runB_ret ?_
 show b_zar [some (.lst .bor (llL .bor ((List.range n).map fun a:Nat=>nbL ps a))),some (.int r),some (.lst .bor (prL (PT n cs))),some (.lst .bor (iL ((List.range n).map (dcn n ps r cs)))),none,none,none,none,none]=_
 unfold b_zar
 refine seq_next (set_nx (v:=.int n) (by simp [p1,pLen,seqOf]) (by simp) rfl) ?_
 simp only [s0_,s1_]
 refine seq_next (set_nx (v:=.lst .own (iL (FA n cs))) ?_ (by simp) rfl) ?_
 ·rw [show iL (FA n cs)=(PT n cs).map fun x=>PV.int x.1 by simp [iL,FA,PT]]
  exact comp_ok (xs:=prL (PT n cs)) (by simp) (by simp [PT];omega) (compL_map (a:=prV) (f:=fun x=>PV.int x.1) (PT n cs) fun x _=>⟨[some (prV x)],by simp [tgN,okSlot,capE,isObj0],by simp,by simp,by simp⟩)
 simp only [s0_,s1_]
 refine seq_next (set_nx (v:=.lst .own []) (by simp) (by simp) rfl) ?_
 simp only [s0_,s1_]
 have fl:(FA n cs).length=n:=by simpa using hn
 refine seq_for (fun k e=>∃ x7 x8,e=[some (.lst .bor (llL .bor ((List.range n).map fun a:Nat=>nbL ps a))),some (.int r),some (.lst .bor (prL (PT n cs))),some (.lst .bor (iL ((List.range n).map (dcn n ps r cs)))),some (.int n),some (.lst .own (iL (FA n cs))),some (.lst .own (iL ((List.range k).map (dueG n ps r cs)))),x7,x8]) (rng1_ok (n:=n) (by simp) (by omega)) ⟨_,_,rfl⟩ (fun k x e hx hP=>?_) (fun e hP=>?_)
 ·obtain ⟨x7,x8,rfl⟩:=hP
  obtain ⟨hk,rfl⟩:=rngP_get hx
  refine ⟨_,tgN_ok rfl,?_⟩
  simp only [s0_,s1_,Int.zero_add]
  have fw:=far_law n1 n10 (hnb k) (hl k) fl hk hr hin
  have ia:∀ f,pIdx (.lst f (iL (FA n cs))) (.int (k:Int))=.ok (.int (gt (FA n cs) k)):=fun f=>by simpa using gt_idx (f:=f) (cs:=FA n cs) (i:=k) (by omega) (by omega)
  have ip:∀ f,pIdx (.lst f (prL (PT n cs))) (.int (k:Int))=.ok (prV (gt (FA n cs) k,gt (CN n cs) k)):=fun f=>PT_idx (by omega)
  have id:∀ f,pIdx (.lst f (iL ((List.range n).map (dcn n ps r cs)))) (.int (k:Int))=.ok (.int (dcn n ps r cs k)):=fun f=>DC_idx hk
  have hg:dueG n ps r cs k=dueL ps (fs n r) n n (FA n cs) k * ((n:Int)+1)+(if dueL ps (fs n r) n n (FA n cs) k=gt (FA n cs) k then dcn n ps r cs k else gt (CN n cs) k):=rfl
  generalize dueL ps (fs n r) n n (FA n cs) k=df at *
  have mu:pMul (.int df) (.int ((n:Int)+1))=.ok (.int (df * ((n:Int)+1))):=mul_ok (.inr ⟨by omega,by omega⟩)
  refine goes_seq (set_nx (v:=.int df) (by simp [fw,noBor,Fl.lend,Fl.toBor]) (by simp) rfl) ?_
  simp only [s0_,s1_]
  have ap:iL ((List.range k).map (dueG n ps r cs)) ++ [PV.int (dueG n ps r cs k)]=iL ((List.range (k+1)).map (dueG n ps r cs)):=by
   rw [List.range_succ,List.map_append]
   simp [iL]
  by_cases q:df=gt (FA n cs) k
  ·rw [if_pos q] at hg
   refine goes_last (br_f (by simp [ia,q]) (append_nx (v:=.int (dueG n ps r cs k)) (xs:=iL ((List.range k).map (dueG n ps r cs))) (by simp [mu,id,hg]) rfl (by simp) (by simp;omega))) ?_
   simp only [s0_,s1_,ap]
   exact ⟨_,_,rfl⟩
  ·rw [if_neg q] at hg
   refine goes_last (br_t (by simp [ia,q]) (append_nx (v:=.int (dueG n ps r cs k)) (xs:=iL ((List.range k).map (dueG n ps r cs))) (by simp [mu,ip,hg]) rfl (by simp) (by simp;omega))) ?_
   simp only [s0_,s1_,ap]
   exact ⟨_,_,rfl⟩
 ·obtain ⟨x7,x8,rfl⟩:=hP
  rw [rngP_len]
  exact retV_v rfl
theorem cnt_step {p:Nat→Bool} (k:Nat):((List.range (k+1)).filter p).length=((List.range k).filter p).length+(if p k then 1 else 0):=by
 rw [List.range_succ,List.filter_append,List.length_append]
 by_cases h:p k <;> simp [h]
theorem countedW_ok (n10:n ≤ 10) (hn:cs.length=n):f_zv [.lst .bor (prL (PT n cs)),.lst .bor (iL ((List.range n).map (dcn n ps r cs)))]=.ok (.int (wsum n ps r cs)):=by
 refine runB_ret ?_
 show b_zv [some (.lst .bor (prL (PT n cs))),some (.lst .bor (iL ((List.range n).map (dcn n ps r cs)))),none,none,none,none]=_
 unfold b_zv
 have pl:(PT n cs).length=n:=by simpa [PT] using hn
 refine seq_next (set_nx (v:=.int 0) (by simp) (by simp) rfl) ?_
 simp only [s0_,s1_]
 refine seq_for (fun k e=>∃ x3 x4 x5,e=[some (.lst .bor (prL (PT n cs))),some (.lst .bor (iL ((List.range n).map (dcn n ps r cs)))),some (.int ((((List.range k).filter fun i=>decide (gt (CN n cs) i ≠ dcn n ps r cs i)).map fun i=>(2:Int) ^ rnk (FA n cs) i).sum)),x3,x4,x5]) (rng1_ok (n:=n) (by simp [p1,pLen,seqOf,pl]) (by omega)) ⟨_,_,_,rfl⟩ (fun k x e hx hP=>?_) (fun e hP=>?_)
 ·obtain ⟨x3,x4,x5,rfl⟩:=hP
  obtain ⟨hk,rfl⟩:=rngP_get hx
  refine ⟨_,tgN_ok rfl,?_⟩
  simp only [s0_,s1_,Int.zero_add]
  have ip:∀ (j:Nat),j < n→∀ f,pIdx (.lst f (prL (PT n cs))) (.int (j:Int))=.ok (prV (gt (FA n cs) j,gt (CN n cs) j)):=fun j hj f=>PT_idx (by omega)
  have id:∀ f,pIdx (.lst f (iL ((List.range n).map (dcn n ps r cs)))) (.int (k:Int))=.ok (.int (dcn n ps r cs k)):=fun f=>DC_idx hk
  rw [rng_step]
  generalize (((List.range k).filter fun i=>decide (gt (CN n cs) i ≠ dcn n ps r cs i)).map fun i=>(2:Int) ^ rnk (FA n cs) i).sum=S
  by_cases q:gt (CN n cs) k=dcn n ps r cs k
  ·exact goes_last (br_f (by simp [ip k hk,id,q]) next_nx) ⟨some (.int k),x4,x5,by simp [q]⟩
  refine goes_br_t (by simp [ip k hk,id,q]) ?_
  refine goes_seq (set_nx (v:=.int 0) (by simp) (by simp) rfl) ?_
  simp only [s0_,s1_]
  refine goes_for (fun j e=>∃ x5,e=[some (.lst .bor (prL (PT n cs))),some (.lst .bor (iL ((List.range n).map (dcn n ps r cs)))),some (.int S),some (.int k),some (.int (((List.range j).filter fun j=>ltF (FA n cs) j k).length:Nat)),x5]) (rng1_ok (n:=n) (by simp [p1,pLen,seqOf,pl]) (by omega)) ⟨_,rfl⟩ (fun j x e hx hP=>?_) (fun e hP=>?_)
  ·obtain ⟨x5,rfl⟩:=hP
   obtain ⟨hj,rfl⟩:=rngP_get hx
   refine ⟨_,tgN_ok rfl,?_⟩
   simp only [s0_,s1_,Int.zero_add]
   rw [cnt_step]
   generalize ((List.range j).filter fun j=>ltF (FA n cs) j k).length=L
   have te:(mOrT (mTest (mOp pLt (mOp pIdx (mOp pIdx (mVar 0) (mVar 5)) (mC (.int (0)))) (mOp pIdx (mOp pIdx (mVar 0) (mVar 3)) (mC (.int (0)))))) ((mAndT (mTest (mOp pEq (mOp pIdx (mOp pIdx (mVar 0) (mVar 5)) (mC (.int (0)))) (mOp pIdx (mOp pIdx (mVar 0) (mVar 3)) (mC (.int (0)))))) (mTest (mOp pLt (mVar 5) (mVar 3)))))) [some (.lst .bor (prL (PT n cs))),some (.lst .bor (iL ((List.range n).map (dcn n ps r cs)))),some (.int S),some (.int k),some (.int (L:Nat)),some (.int j)]=.ok (ltF (FA n cs) j k):=by
    unfold ltF
    by_cases h1:gt (FA n cs) j < gt (FA n cs) k
    ·simp [ip k hk,ip j hj,h1]
    ·by_cases h2:gt (FA n cs) j=gt (FA n cs) k
     ·simp [ip k hk,ip j hj,h2]
     ·simp [ip k hk,ip j hj,h1,h2]
   cases hb:ltF (FA n cs) j k with
   | true =>
    rw [hb] at te
    refine goes_last (br_t te (set_nx (v:=.int ((L:Int)+1)) (by simp) (by simp) rfl)) ⟨some (.int j),?_⟩
    simp only [s0_,s1_]
    simp
   | false =>
    rw [hb] at te
    exact goes_last (br_f te next_nx) ⟨some (.int j),by simp⟩
  ·obtain ⟨x5,rfl⟩:=hP
   rw [rngP_len]
   have er:((List.range n).filter fun j=>ltF (FA n cs) j k).length=rnk (FA n cs) k:=by simp [rnk,hn]
   rw [er]
   have rl:=rnk_le (fa:=FA n cs) (i:=k)
   rw [FA_len] at rl
   have sh:=shl_ok (i:=1) (j:=(rnk (FA n cs) k:Nat)) (by omega) (by omega) (by decide)
   rw [Int.one_mul,Int.toNat_natCast] at sh
   refine goes_last (set_nx (v:=.int (S+2 ^ rnk (FA n cs) k)) (by simp [sh]) (by simp) rfl) ?_
   simp only [s0_,s1_]
   rw [if_pos (by simpa using q)]
   exact ⟨_,_,_,rfl⟩
 ·obtain ⟨x3,x4,x5,rfl⟩:=hP
  rw [rngP_len]
  exact retV_v rfl
end
theorem partsW_ok {P:List (Int × Int)} (hl:P.length ≤ 1000):f_zaj [.lst .bor (prL P),.lst .bor (prL P)]=.ok (.bl true):=by
 refine runB_ret (v:=.bl true) ?_
 show b_zaj [some (.lst .bor (prL P)),some (.lst .bor (prL P))]=_
 unfold b_zaj
 have hb:pBls allB (.lst .own ((P.map fun _=>true).map .bl))=.ok (.bl true):=by
  unfold pBls
  dsimp only
  rw [blsOf_map]
  simp [allB]
 have h1:mComp [] 1 (mSeqC (mVar 0)) (tgN 0) mTrue (tIsi (mVar 0) "tuple") [some (.lst .bor (prL P)),some (.lst .bor (prL P))]=.ok (.lst .own ((P.map fun _=>true).map .bl)):=by
  refine comp_ok (xs:=prL P) (by simp) (by simp;omega) ?_
  rw [List.map_map]
  exact compL_map (a:=prV) (f:=PV.bl ∘ fun _=>true) P fun x _=>⟨[some (prV x)],by simp [tgN,okSlot,capE,isObj0],by rfl,by simp,by simp⟩
 have h2:mComp [] 1 (mSeqC (mVar 0)) (tgN 0) mTrue (mCall (callR f_zap) (mCons (mCall (p1 pList) (mCons (mVar 0) mNil)) (mCons (mCall (p1 pList) (mCons (mVar 0) mNil)) mNil))) [some (.lst .bor (prL P)),some (.lst .bor (prL P))]=.ok (.lst .own ((P.map fun _=>true).map .bl)):=by
  refine comp_ok (xs:=prL P) (by simp) (by simp;omega) ?_
  rw [List.map_map]
  refine compL_map (a:=prV) (f:=PV.bl ∘ fun _=>true) P fun x _=>⟨[some (prV x)],by simp [tgN,okSlot,capE,isObj0],?_,by simp,by simp⟩
  have ll:f_zap [.lst .own [.int x.1,.int x.2],.lst .own [.int x.1,.int x.2]]=.ok (.bl true):=list_ok (f:=.own) (g:=.own) [x.1,x.2] (by simp)
  simp [p1,pList,seqOf,prV,ll,noBor,PV.mapF,mapL]
 have he:pEq (.lst .bor (prL P)) (.lst .bor (prL P))=.ok (.bl true):=eq_same rfl shp_prL
 refine seq_next (br_f ?_ next_nx) (ret_v ?_ (by simp))
 ·simp only [ev_OrT,ev_NotT,ev_Truth,ev_Call,ev_Cons,ev_Nil,h1]
  simp [-List.map_map,p1,hb,isiB]
 ·simp only [ev_AndE,ev_Call,ev_Cons,ev_Nil,h2]
  simp [-List.map_map,p1,hb,he,pAnd]
theorem zipO_self:∀ os:List (Option Int),zipP (oL os) (oL os)=os.map fun o=>PV.tup [oV o,oV o]
 | []=>rfl
 | o::os=>by
  have:=zipO_self os
  simp only [oL,List.map_cons,zipP] at this ⊢
  rw [this]
theorem eldersW_ok {os:List (Option Int)} (hl:os.length ≤ 1000):f_zac [.lst .bor (oL os),.lst .bor (oL os)]=.ok (.bl true):=by
 refine runB_ret (v:=.bl true) ?_
 show b_zac [some (.lst .bor (oL os)),some (.lst .bor (oL os)),none,none]=_
 unfold b_zac
 refine seq_next (br_f (by simp [p1,pLen,seqOf,isiB]) next_nx) ?_
 have mz:mZipI (mCons (mVar 0) (mCons (mVar 1) mNil)) [some (.lst .bor (oL os)),some (.lst .bor (oL os)),none,none]=.ok (os.map fun o=>PV.tup [oV o,oV o]):=by
  unfold mZipI
  simp [noOL,zipO_self]
 refine seq_for (fun k e=>∃ x2 x3,e=[some (.lst .bor (oL os)),some (.lst .bor (oL os)),x2,x3]) mz ⟨_,_,rfl⟩ (fun k x e hx hP=>?_) (fun e hP=>ret_v (by simp) (by simp))
 obtain ⟨x2,x3,rfl⟩:=hP
 rw [List.getElem?_map] at hx
 obtain ⟨o,_,rfl⟩:=Option.map_eq_some_iff.mp hx
 refine ⟨[some (.lst .bor (oL os)),some (.lst .bor (oL os)),some (oV o),some (oV o)],by cases o <;> rfl,?_⟩
 cases o with
 | none=>exact goes_seq (br_f (by simp [oV,pIsN,pNotN,PV.isNon]) next_nx) (goes_last (br_f (by simp [oV,pNotN,PV.isNon]) next_nx) ⟨_,_,rfl⟩)
 | some s=>exact goes_seq (br_f (by simp [oV,pIsN,pNotN,PV.isNon]) next_nx) (goes_last (br_f (by simp [oV,pNotN,PV.isNon,whole_ok,noBor]) next_nx) ⟨_,_,rfl⟩)
theorem appIxC_nx {env:En}{i:Nat}{k:Int}{m:ME}{xs ys:List PV}{v:PV}{n:Nat} (h:m env=.ok v) (ho:env[i]?=some (some (.lst .own xs))) (hk:ixN xs.length k=some n) (hx:xs[n]?=some (.lst .own ys)) (hv:v.noLnt=true) (hl:ys.length < 1000):mAppIxC i k m env=.next (env.set i (some (.lst .own (xs.set n (.lst .own (ys ++ [v])))))):=by
 unfold mAppIxC
 rw [ho]
 dsimp only
 rw [hk]
 dsimp only
 rw [hx]
 dsimp only
 rw [h]
 dsimp only
 rw [if_pos (by rw [hv,decide_eq_true (show ys.length < 10000000 by omega)];rfl)]
section
variable {n:Nat}{ps:List (Int × Int)}{r:Nat}{cs:List Int}
theorem asked_ok (N:NetP n ps) (hr:r < n) (hn:cs.length=n) (hin:In n (FA n cs)):f_zah [gro .bor n ps r,.lst .bor (llL .bor ((List.range n).map fun a:Nat=>nbL ps a)),.int r,lea .bor 2 n ps (fs n r) n n,.lst .bor (iL cs)]=.ok (.bl true):=by
 have n1:=N.n1
 have n10:=N.n10
 have np:(0:Int) < (n:Int)+1:=by omega
 have fl:(FA n cs).length=n:=by simpa using hn
 have ew:=fun k (hk:k < n)=>elderW_ok (r:=r) (N.nb k) (N.nl k) fl hk
 have cw:=countsW_ok (ps:=ps) (r:=r) n10 hn
 have po:=parts_ok (ps:=ps) (r:=r) (.inl rfl) n10 hn
 have eo:=elders_ok (ps:=ps) (r:=r) (.inl rfl) n10 N.nb N.nl hn
 have pw:=partsW_ok (P:=PT n cs) (by simp [PT];omega)
 have lw:=eldersW_ok (os:=ELs n ps r (FA n cs)) (by simp;omega)
 have dw:=duesW_ok n1 n10 N.nb N.nl hn hr hin
 have du:=fun k (hk:k < n)=>dueG_ok (r:=r) (.inl rfl) n1 n10 N.nb N.nl hn hk
 have me:f_zc [lea .bor 2 n ps (fs n r) n n,.lst .bor (iL (FA n cs))]=_:=measure_ok (fc:=.bor) (.inl rfl) (D:=dueL ps (fs n r) n n (FA n cs)) (fun k hk=>by
  have:=ldueR_ok (cc:=2) (os:=fs n r) (st:=n) (tp:=n) (cs:=FA n cs) rfl (N.nb k) (N.nl k) (by omega) fl (by simp [fs]) hk
  simp [dsp_due_0_1_2,this,noBor]) fl n10 (by omega)
 have mg:=measG_ok (.inl rfl) n10 N.nb N.nl hn me
 have cd:=countedW_ok (ps:=ps) (r:=r) n10 hn
 generalize num ((n:Int)+1) (rise (dueL ps (fs n r) n n (FA n cs)) (FA n cs)) (fall (dueL ps (fs n r) n n (FA n cs)) (FA n cs)) n=M at me mg
 have p2:(2:Int) ^ n ≤ 2 ^ 10:=two_le n10
 have p0:(0:Int) < 2 ^ n:=Int.pow_pos (by decide)
 have sh:=shl_ok (i:=1) (j:=(n:Int)) (by omega) (by omega) (by decide)
 rw [Int.one_mul,Int.toNat_natCast] at sh
 generalize (2:Int) ^ n=PN at *
 have mu:pMul (.int PN) (.int M)=.ok (.int (M * PN)):=by
  rw [mul_ok (.inl ⟨by omega,by omega⟩),Int.mul_comm]
 refine runB_ret (v:=.bl true) ?_
 show b_zah [some (gro .bor n ps r),some (.lst .bor (llL .bor ((List.range n).map fun a:Nat=>nbL ps a))),some (.int r),some (lea .bor 2 n ps (fs n r) n n),some (.lst .bor (iL cs)),none,none,none,none,none,none,none,none,none]=_
 unfold b_zah
 refine seq_next (set_nx (v:=.int n) (by simp [p1,pLen,seqOf]) (by simp) rfl) ?_
 simp only [s0_,s1_]
 refine seq_next (set_nx (v:=.lst .own (prL (PT n cs))) ?_ (by simp [PV.noLnt,PV.has]) rfl) ?_
 ·rw [show prL (PT n cs)=cs.map fun c=>prV (c / ((n:Int)+1),c % ((n:Int)+1)) by simp [prL,PT]]
  refine comp_ok (xs:=iL cs) (by simp) (by rw [ints_len];omega) (compL_map (a:=PV.int) (f:=fun c=>prV (c / ((n:Int)+1),c % ((n:Int)+1))) cs fun c _=>⟨[some (.int n),some (.int c)],by simp [tgN,okSlot,capE],?_,by simp,by simp⟩)
  simp [mod_ok np,div_ok np (show (n:Int)+1 < 1073741824 by omega),prV]
 simp only [s0_,s1_]
 refine seq_next (set_nx (v:=.lst .own (iL (FA n cs))) ?_ (by simp) rfl) ?_
 ·rw [show iL (FA n cs)=(PT n cs).map fun x=>PV.int x.1 by simp [iL,FA,PT]]
  exact comp_ok (xs:=prL (PT n cs)) (by simp) (by simp [PT];omega) (compL_map (a:=prV) (f:=fun x=>PV.int x.1) (PT n cs) fun x _=>⟨[some (prV x)],by simp [tgN,okSlot,capE,isObj0],by simp,by simp,by simp⟩)
 simp only [s0_,s1_]
 refine seq_next (set_nx (v:=.lst .own (oL (ELs n ps r (FA n cs)))) ?_ (by simp [PV.noLnt,PV.has]) rfl) ?_
 ·rw [show oL (ELs n ps r (FA n cs))=(List.range n).map fun i=>oV (eld ps r (FA n cs) i) by simp [oL]]
  refine comp_ok (xs:=rngP 0 n) (rng1_ok (n:=n) (by simp) (by omega)) (by rw [rngP_len];omega) (compL_map (a:=fun k:Nat=>PV.int (0+(k:Int))) (f:=fun i=>oV (eld ps r (FA n cs) i)) (List.range n) fun k hk=>⟨[some (.lst .bor (llL .bor ((List.range n).map fun a:Nat=>nbL ps a))),some (.int r),some (.lst .bor (iL (FA n cs))),some (.int (0+k))],by simp [tgN,okSlot,capE,Fl.borrow],?_,?_,?_⟩)
  ·have el:=ew k (List.mem_range.mp hk)
   simp [el,noBor]
   cases eld ps r (FA n cs) k <;> simp [oV,PV.has]
  ·cases eld ps r (FA n cs) k <;> simp [oV,PV.has]
  ·cases eld ps r (FA n cs) k <;> simp [oV,PV.has]
 simp only [s0_,s1_]
 refine seq_next (set_nx (v:=.lst .own (iL ((List.range n).map (dcn n ps r cs)))) (by simp [cw,noBor,Fl.lend,Fl.toBor]) (by simp) rfl) ?_
 simp only [s0_,s1_]
 refine seq_next (set_nx (v:=.lst .own (iL cs)) (by simp [p1,pList,seqOf]) (by simp) rfl) ?_
 simp only [s0_,s1_]
 generalize hNR:(List.range n).map (fun a:Nat=>nbL ps a)=NR at *
 generalize hEL:ELs n ps r (FA n cs)=EL at *
 generalize hDC:(List.range n).map (dcn n ps r cs)=DC at *
 have ell:EL.length=n:=by rw [← hEL];simp
 refine seq_for (fun k e=>∃ x11 x12,e=[some (gro .bor n ps r),some (.lst .bor (llL .bor NR)),some (.int r),some (lea .bor 2 n ps (fs n r) n n),some (.lst .bor (iL cs)),some (.int n),some (.lst .own (prL (PT n cs))),some (.lst .own (iL (FA n cs))),some (.lst .own (oL EL)),some (.lst .own (iL DC)),some (.lst .own (iL cs)),x11,x12,none]) (rng1_ok (n:=2) (by simp) (by decide)) ⟨_,_,rfl⟩ (fun k x e hx hP=>?_) (fun e hP=>?_)
 ·obtain ⟨x11,x12,rfl⟩:=hP
  obtain ⟨hk,rfl⟩:=rngP_get hx
  refine ⟨_,tgN_ok rfl,?_⟩
  simp only [s0_,s1_,Int.zero_add]
  refine goes_seq (set_nx (v:=.lst .own [.lst .own (prL (PT n cs)),.lst .own (oL EL)]) (by simp [dsp_parts_3,dsp_elders_3,po,eo,noBor,PV.has,Fl.lend,Fl.toBor,PV.mapF]) (by simp [PV.noLnt,PV.has,hasL]) rfl) ?_
  simp only [s0_,s1_]
  have i0:pIdx (.lst .lnt [.lst .lnt (prL (PT n cs)),.lst .lnt (oL EL)]) (.int 0)=.ok (.lst .lnt (prL (PT n cs))):=idx_at (k:=0) rfl rfl (by simp [PV.has])
  have i1:pIdx (.lst .lnt [.lst .lnt (prL (PT n cs)),.lst .lnt (oL EL)]) (.int 1)=.ok (.lst .lnt (oL EL)):=idx_at (k:=1) rfl rfl (by simp [PV.has])
  refine goes_seq (br_f (by simp [i0,i1,pw,lw,noBor,PV.has,Fl.lend,Fl.toBor,PV.mapF,mapL]) next_nx) ?_
  refine goes_seq (appIxC_nx (v:=prV (0,0)) (xs:=[.lst .own (prL (PT n cs)),.lst .own (oL EL)]) (ys:=prL (PT n cs)) (n:=0) (by simp [prV]) rfl rfl rfl (by simp [PV.noLnt]) (by simp [PT];omega)) ?_
  simp only [s0_,s1_]
  refine goes_last (appIxC_nx (v:=.non) (xs:=[.lst .own (prL (PT n cs) ++ [prV (0,0)]),.lst .own (oL EL)]) (ys:=oL EL) (n:=1) (by simp) rfl rfl rfl (by simp) (by simp;omega)) ?_
  simp only [s0_,s1_]
  exact ⟨_,_,rfl⟩
 obtain ⟨x11,x12,rfl⟩:=hP
 have hc:mComp [0,10] 1 (mRng1 (mCons (mVar 5) mNil)) (tgN 2) mTrue (mMet dsp_due_0_1_2_3 (mVar 0) (mCons (mVar 1) (mCons (mVar 2) mNil))) [some (gro .bor n ps r),some (.lst .bor (llL .bor NR)),some (.int r),some (lea .bor 2 n ps (fs n r) n n),some (.lst .bor (iL cs)),some (.int n),some (.lst .own (prL (PT n cs))),some (.lst .own (iL (FA n cs))),some (.lst .own (oL EL)),some (.lst .own (iL DC)),some (.lst .own (iL cs)),x11,x12,none]=.ok (.lst .own (iL ((List.range n).map (dueG n ps r cs)))):=by
  refine comp_ok (xs:=rngP 0 n) (rng1_ok (n:=n) (by simp) (by omega)) (by rw [rngP_len];omega) (compL_rng 0 (dueG n ps r cs) n fun k hk=>⟨[some (gro .bor n ps r),some (.lst .bor (iL cs)),some (.int (0+k))],by simp [tgN,okSlot,capE,Fl.borrow,PV.mapF],?_⟩)
  have:=du k hk
  simp [dsp_due_0_1_2_3,this,noBor,PV.has,Fl.lend,Fl.toBor,PV.mapF]
 have ls:=list_ok (f:=.own) (g:=.own) ((List.range n).map (dueG n ps r cs)) (by simp;omega)
 refine seq_next (br_f ?_ next_nx) ?_
 ·simp only [ev_NotT,ev_Truth,ev_Call,ev_Cons,ev_Nil,hc]
  simp [dw,ls,noBor,PV.has,Fl.lend,Fl.toBor,PV.mapF]
 refine seq_next (set_nx (v:=.int (M * PN+wsum n ps r cs)) (by simp [sh,dsp_measure_0_1_2_3,me,mu,cd,noBor,PV.has,Fl.lend,Fl.toBor,PV.mapF]) (by simp) rfl) ?_
 simp only [s0_,s1_]
 have lm:f_zap [.lst .own [.int (M * PN+wsum n ps r cs)],.lst .own [.int (M * PN+wsum n ps r cs)]]=.ok (.bl true):=list_ok (f:=.own) (g:=.own) [M * PN+wsum n ps r cs] (by simp)
 exact ret_v (by simp [dsp_measure_0_1_2_3,mg,lm,noBor,PV.has,Fl.lend,Fl.toBor,PV.mapF,pAnd]) (by simp)
theorem readG_ok {rs:List Int} (hn:rs.length=n) (h2:n ≤ 10):f_zan [gro .bor n ps r,.lst .own (iL rs)]=.ok (.lst .own (iL (rs.map (· % (((n:Int)+1) * ((n:Int)+1)))))):=by
 have hp:(0:Int) < ((n:Int)+1) * ((n:Int)+1):=Int.mul_pos (by omega) (by omega)
 refine runB_ret ?_
 show b_zan [some (gro .bor n ps r),some (.lst .own (iL rs))]=_
 unfold b_zan
 refine seq_next (br_f (by simp [p1,pLen,seqOf,pAttr,getF,hn]) next_nx) ?_
 exact ret_v (comp_ok (xs:=iL rs) (by simp) (by simp;omega) (compL_ints (· % (((n:Int)+1) * ((n:Int)+1))) rs fun x _=>⟨[some (gro .bor n ps r),some (.int x)],by simp [tgN,okSlot,capE,PV.mapF,Fl.borrow],by simp [pAttr,getF,mod_ok hp]⟩)) (by simp)
theorem FA_in (hc:∀ c ∈ cs,0 ≤ c∧c < ((n:Int)+1) * ((n:Int)+1)):In n (FA n cs):=fun c hx=>by
 obtain ⟨x,hm,rfl⟩:=List.mem_map.mp hx
 obtain ⟨h1,h2⟩:=hc x hm
 have a:=Int.ediv_nonneg h1 (show 0 ≤ (n:Int)+1 by omega)
 have b:=Int.ediv_lt_of_lt_mul (show 0 < (n:Int)+1 by omega) h2
 exact ⟨a,by omega⟩
end
theorem law_true (fl:Fl) (ns:List Int) (h:Scr fl) (hl:ns.length ≤ 63):f_law [.lst fl (ns.map .int)]=.ok (.bl true):=by
 rw [ints_def]
 have cl:∀ k:Nat,f_zy [.lst fl (iL ns),.int k]=.ok (.int (cell ns k)):=fun k=>cell_ok ns k h
 have c0:f_zy [.lst fl (iL ns),.int 0]=.ok (.int (cell ns 0)):=cl 0
 have c1:f_zy [.lst fl (iL ns),.int 1]=.ok (.int (cell ns 1)):=cl 1
 have c2:f_zy [.lst fl (iL ns),.int 2]=.ok (.int (cell ns 2)):=cl 2
 have c3:f_zy [.lst fl (iL ns),.int 3]=.ok (.int (cell ns 3)):=cl 3
 generalize cell ns 0=z0 at c0
 have d48:pDiv (.int z0) (.int 48)=.ok (.int (z0 / 48)):=div_ok (by decide) (by decide)
 obtain ⟨n,hn⟩:∃ n:Nat,1+z0 % 10=n:=⟨(1+z0 % 10).toNat,by omega⟩
 have n1:1 ≤ n:=by omega
 have n10:n ≤ 10:=by omega
 have np:(0:Int) < n:=by omega
 obtain ⟨r,hr0⟩:∃ r:Nat,z0 / 48 % (n:Int)=r:=⟨(z0 / 48 % (n:Int)).toNat,by have:=Int.emod_nonneg (z0 / 48) (show (n:Int) ≠ 0 by omega);omega⟩
 have hr:r < n:=by have:=Int.emod_lt_of_pos (z0 / 48) np;omega
 obtain ⟨ws,hw,Wh⟩:=ways_ok (n:=n) (cell ns 1) n1 n10
 have G:=Wh.good (by omega)
 have hin:=init_ok (fl:=.bor) G n1 n10 (.inl rfl) fun S h0 hc=>conn_of Wh (by omega) S h0 hc
 have hne:=near_ok n10 Wh.rg G.sz
 have N:=netP_of G n1 n10
 generalize sortP (ws.map mm)=ps at *
 obtain ⟨rs0,hr1,hr2,_⟩:=numbers_ok (cell ns 2) n (by omega)
 have gi:=ginit_ok (ps:=ps) (f:=.frz) (.inl rfl) n1 n10 hr
 have fi:=finit_ok (ps:=ps) n1 n10 hr
 have mo:=most_ok (cc:=2) (n:=n) (ps:=ps) (os:=fs n r) (st:=n) (T:=n) n10 (by omega)
 have mg:=mostG_ok (ps:=ps) (r:=r) n10
 have mq:pMul (.int ((n:Int)+1)) (.int ((n:Int)+1))=.ok (.int (((n:Int)+1) * ((n:Int)+1))):=mul_ok (.inl ⟨by omega,by omega⟩)
 have sqp:(0:Int) < ((n:Int)+1) * ((n:Int)+1):=Int.mul_pos (by omega) (by omega)
 have p2:(2:Int) ^ n ≤ 2 ^ 10:=two_le n10
 have p0:(0:Int) < 2 ^ n:=Int.pow_pos (by decide)
 have sh:=shl_ok (i:=1) (j:=(n:Int)) (by omega) (by omega) (by decide)
 rw [Int.one_mul,Int.toNat_natCast] at sh
 have ask:=fun (cs:List Int) (hc:cs.length=n) (hi:In n (FA n cs))=>asked_ok N hr hc hi
 have rdg:=fun (rs:List Int) (hc:rs.length=n)=>readG_ok (ps:=ps) (r:=r) hc n10
 have fin:=fun (cs:List Int)=>FA_in (n:=n) (cs:=cs)
 generalize hNR:(List.range n).map (fun a:Nat=>nbL ps a)=NR at *
 generalize (2:Int) ^ n=PN at *
 generalize ((n:Int)+1) ^ (2 * n)=B at *
 have mm1:pMul (.int B) (.int PN)=.ok (.int (B * PN)):=mul_ok (.inr ⟨by omega,by omega⟩)
 have sn:∀ y:Int,f_zal [gro .bor n ps r,.int y]=.ok (.int (B * PN - 1)):=fun y=>by
  refine runB_ret ?_
  show b_zal [some (gro .bor n ps r),some (.int y)]=_
  unfold b_zal
  exact ret_v (by simp [dsp_most_0_1_2_3,mg,noBor,PV.has,Fl.lend,Fl.toBor,PV.mapF]) (by simp)
 have rc:f_zae [gro .bor n ps r,.lst .own [.int r]]=.ok (.lst .own (iL (upto n))):=by
  refine runB_ret ?_
  show b_zae [some (gro .bor n ps r),some (.lst .own [.int r])]=_
  unfold b_zae
  exact ret_v (by simp [pAttr,getF,listR1_ok (n:=n) (by omega)]) (by simp)
 refine runB_ret (v:=.bl true) ?_
 show b_law [some (.lst fl (iL ns)),none,none,none,none,none,none,none,none,none,none,none,none,none,none]=_
 unfold b_law
 refine seq_next (set_nx (v:=.int z0) (by simp [h.lend,h.toBor,c0,noBor]) (by simp) rfl) ?_
 simp only [s0_,s1_]
 refine seq_next (set_nx (v:=.int n) (by simp [mod_ok,hn]) (by simp) rfl) ?_
 simp only [s0_,s1_]
 refine seq_next (set_nx (v:=.int r) (by simp [mod_ok np,d48,hr0]) (by simp) rfl) ?_
 simp only [s0_,s1_]
 refine seq_next (set_nx (v:=.lst .own (prL ws)) (by simp [h.lend,h.toBor,c1,hw,noBor]) (by simp) rfl) ?_
 simp only [s0_,s1_]
 refine seq_next (set_nx (v:=.lst .own (llL .own NR)) (by simp [hne,noBor,PV.has,hasL_llL _ Fl.isBor .own rfl]) (by simp [PV.noLnt,PV.has,hasL_llL _ Fl.isLnt .own rfl]) rfl) ?_
 simp only [s0_,s1_]
 refine seq_next (set_nx (v:=net .own n ps) (by simp [hin,noBor,PV.has]) (by simp [PV.noLnt,PV.has]) rfl) ?_
 simp only [s0_,s1_]
 refine seq_next (frz_nx (v:=net .own n ps) rfl) ?_
 have efz:(net .own n ps).mapF Fl.freeze=net .frz n ps:=by simp [PV.mapF,Fl.freeze]
 simp only [s0_,s1_,efz]
 refine seq_next (set_nx (v:=gro .own n ps r) (by simp [gi,noBor,PV.has,Fl.lend,Fl.toBor]) (by simp [PV.noLnt,PV.has]) rfl) ?_
 simp only [s0_,s1_]
 refine seq_next (set_nx (v:=lea .own 2 n ps (fs n r) n n) (by simp [fi,noBor,PV.has,Fl.lend,Fl.toBor]) (by simp [PV.noLnt,PV.has]) rfl) ?_
 simp only [s0_,s1_]
 refine seq_next (set_nx (v:=.int (((n:Int)+1) * ((n:Int)+1))) (by simp [mq]) (by simp) rfl) ?_
 simp only [s0_,s1_]
 refine seq_next (set_nx (v:=.int (B * PN - 1)) (by simp [dsp_most_0_1_2_3,mo,sh,mm1,noBor,PV.has,Fl.lend,Fl.toBor,PV.mapF]) (by simp) rfl) ?_
 simp only [s0_,s1_]
 have l4:f_zap [.lst .own [.int n,.int (((n:Int)+1) * ((n:Int)+1)),.int (B * PN - 1),.int (B * PN - 1)],.lst .own [.int n,.int (((n:Int)+1) * ((n:Int)+1)),.int (B * PN - 1),.int (B * PN - 1)]]=.ok (.bl true):=list_ok (f:=.own) (g:=.own) [(n:Int),((n:Int)+1) * ((n:Int)+1),B * PN - 1,B * PN - 1] (by simp)
 refine seq_next (br_f (by simp [pAttr,getF,dsp_most_0_1_2_3,dsp_soon_0_1_2_3,mg,sn,mod_ok,l4,noBor,PV.has,Fl.lend,Fl.toBor,PV.mapF]) next_nx) ?_
 refine seq_next (set_nx (v:=.lst .own (iL rs0)) (by simp [h.lend,h.toBor,c2,hr1,noBor]) (by simp) rfl) ?_
 simp only [s0_,s1_]
 generalize cell ns 3=z3 at c3
 have key:∀ e:En,e[0]?=some (some (.lst fl (iL ns)))→mSeqI (mOp pPlus (mLst (mCons (mCall (callR f_zy) (mCons (mVar 0) (mCons (mC (.int (3))) mNil))) mNil)) (mSlice (mVar 0) (mPart (mC (.int (4)))) (mPart (mC (.int (84)))))) e=.ok (iL (z3::(ns.take 84).drop 4)):=fun e he=>by
  refine seqI_lst (f:=.own) ?_ rfl (by simp) (by simp)
  have ec:cutP (iL ns) (some 4) (some 84)=iL ((ns.take 84).drop 4):=cut_iL ns 4 84 rfl rfl
  simp only [ev_Op,ev_Lst,ev_Cons,ev_C,ev_Nil,ev_Slice,ev_Var,ev_Part,ev_Call,he]
  simp [h.lend,h.toBor,c3,ec,noBor]
  rw [plus_lst (by decide) (by decide) (by simp;omega)]
  rfl
 generalize hsq:((n:Int)+1) * ((n:Int)+1)=sq at *
 refine seq_for (fun k e=>∃ rs x12 x13 x14,e=[some (.lst fl (iL ns)),some (.int z0),some (.int n),some (.int r),some (.lst .own (prL ws)),some (.lst .own (llL .own NR)),some (net .frz n ps),some (gro .own n ps r),some (lea .own 2 n ps (fs n r) n n),some (.int sq),some (.int (B * PN - 1)),some (.lst .own (iL rs)),x12,x13,x14]∧rs.length=n) (key _ rfl) ⟨rs0,_,_,_,rfl,hr2⟩ (fun k x e hx hP=>?_) (fun e hP=>?_)
 ·obtain ⟨rs,x12,x13,x14,rfl,hrs⟩:=hP
  obtain ⟨z,_,rfl⟩:=iL_get hx
  have dn:pDiv (.int z) (.int (n:Int))=.ok (.int (z / (n:Int))):=div_ok np (by omega)
  obtain ⟨c,hc⟩:∃ c:Nat,z % (n:Int)=c:=⟨(z % (n:Int)).toNat,by have:=Int.emod_nonneg z (show (n:Int) ≠ 0 by omega);omega⟩
  have cln:c < n:=by have:=Int.emod_lt_of_pos z np;omega
  refine ⟨_,tgN_ok rfl,?_⟩
  simp only [s0_,s1_]
  refine goes_seq (set_nx (v:=.int (z / (n:Int))) (by simp [dn]) (by simp) rfl) ?_
  simp only [s0_,s1_]
  generalize z / (n:Int)=u
  have d4:pDiv (.int u) (.int 4)=.ok (.int (u / 4)):=div_ok (by decide) (by decide)
  have sI:∀ (rs:List Int) (v:Int),(iL rs).set c (.int v)=iL (rs.set c v):=fun rs v=>by simp [iL,List.map_set]
  refine goes_seq (setIx_nx (v:=.int (u / 4 % sq)) (xs:=iL rs) (j:=c) (n:=c) (by simp [d4,mod_ok sqp]) rfl (by simp [mod_ok np,hc]) (ixN_nat (by rw [ints_len];omega)) (by simp)) ?_
  simp only [s0_,s1_,sI]
  have hl1:(rs.set c (u / 4 % sq)).length=n:=by simpa using hrs
  generalize rs.set c (u / 4 % sq)=rs1 at hl1
  obtain ⟨rs2,hB2,hl2⟩:∃ rs2:List Int,mBr (mTest (mOp pEq (mOp pMod (mVar 13) (mC (.int (4)))) (mC (.int (1))))) (mSetIx 11 (mOp pMod (mVar 12) (mVar 2)) (mOp pSub (mOp pMod (mOp pDiv (mVar 13) (mC (.int (4)))) (mOp pSub (mOp pMul (mC (.int (2))) (mOp pPow (mC (.int (10))) (mC (.int (60))))) (mC (.int (1))))) (mOp pSub (mOp pPow (mC (.int (10))) (mC (.int (60)))) (mC (.int (1)))))) mNext [some (.lst fl (iL ns)),some (.int z0),some (.int n),some (.int r),some (.lst .own (prL ws)),some (.lst .own (llL .own NR)),some (net .frz n ps),some (gro .own n ps r),some (lea .own 2 n ps (fs n r) n n),some (.int sq),some (.int (B * PN - 1)),some (.lst .own (iL rs1)),some (.int z),some (.int u),x14]=.next [some (.lst fl (iL ns)),some (.int z0),some (.int n),some (.int r),some (.lst .own (prL ws)),some (.lst .own (llL .own NR)),some (net .frz n ps),some (gro .own n ps r),some (lea .own 2 n ps (fs n r) n n),some (.int sq),some (.int (B * PN - 1)),some (.lst .own (iL rs2)),some (.int z),some (.int u),x14]∧rs2.length=n:=by
   by_cases q:u % 4=1
   ·have p60:pPow (.int 10) (.int 60)=.ok (.int (10 ^ 60)):=by rfl
    have m2:pMul (.int 2) (.int (10 ^ 60))=.ok (.int (2 * 10 ^ 60)):=mul_ok (.inl ⟨by decide,by decide⟩)
    have md:pMod (.int (u / 4)) (.int (2 * 10 ^ 60 - 1))=.ok (.int (u / 4 % (2 * 10 ^ 60 - 1))):=mod_ok (by decide)
    generalize ht:(10:Int) ^ 60=TT at p60 m2 md
    refine ⟨rs1.set c (u / 4 % (2 * TT - 1) - (TT - 1)),br_t (by simp [mod_ok,q]) ?_,by simpa using hl1⟩
    have:=setIx_nx (env:=[some (.lst fl (iL ns)),some (.int z0),some (.int n),some (.int r),some (.lst .own (prL ws)),some (.lst .own (llL .own NR)),some (net .frz n ps),some (gro .own n ps r),some (lea .own 2 n ps (fs n r) n n),some (.int sq),some (.int (B * PN - 1)),some (.lst .own (iL rs1)),some (.int z),some (.int u),x14]) (i:=11) (mk:=mOp pMod (mVar 12) (mVar 2)) (m:=mOp pSub (mOp pMod (mOp pDiv (mVar 13) (mC (.int (4)))) (mOp pSub (mOp pMul (mC (.int (2))) (mOp pPow (mC (.int (10))) (mC (.int (60))))) (mC (.int (1))))) (mOp pSub (mOp pPow (mC (.int (10))) (mC (.int (60)))) (mC (.int (1))))) (v:=.int (u / 4 % (2 * TT - 1) - (TT - 1))) (xs:=iL rs1) (j:=c) (n:=c) (by simp [p60,m2,d4,md]) rfl (by simp [mod_ok np,hc]) (ixN_nat (by rw [ints_len];omega)) (by simp)
    rw [this]
    simp only [s0_,s1_,sI]
   ·exact ⟨rs1,br_f (by simp [mod_ok,q]) next_nx,hl1⟩
  refine goes_seq hB2 ?_
  have rd:=rdg rs2 hl2
  refine goes_seq (set_nx (v:=.lst .own (iL (rs2.map (· % sq)))) ?_ (by simp) rfl) ?_
  ·exact comp_ok (xs:=iL rs2) (by simp) (by rw [ints_len];omega) (compL_ints (· % sq) rs2 fun x _=>⟨[some (.int sq),some (.int x)],by simp [tgN,okSlot,capE],by simp [mod_ok sqp]⟩)
  simp only [s0_,s1_]
  have cl2:(rs2.map (· % sq)).length=n:=by simpa using hl2
  have ci:=fin (rs2.map (· % sq)) fun c hc=>by
   obtain ⟨x,_,rfl⟩:=List.mem_map.mp hc
   exact ⟨Int.emod_nonneg x (by omega),Int.emod_lt_of_pos x sqp⟩
  generalize rs2.map (· % sq)=cs at *
  have ls:=fun f g=>list_ok (f:=f) (g:=g) cs (by omega)
  have ak:=ask cs cl2 ci
  refine goes_seq (br_f (by simp [p1,pList,seqOf,dsp_read_0_1_2_3,rd,ls,noBor,PV.has,Fl.lend,Fl.toBor,PV.mapF]) next_nx) ?_
  exact goes_last (br_f (by simp [ak,noBor,PV.has,Fl.lend,Fl.toBor,PV.mapF]) next_nx) ⟨rs2,_,_,_,rfl,hl2⟩
 obtain ⟨rs,x12,x13,x14,rfl,hrs⟩:=hP
 have eu:∀ f g:Fl,pEq (.lst f (iL (upto n))) (.lst g (iL (upto n)))=.ok (.bl true):=fun f g=>by simp
 exact ret_v (by simp [pAttr,getF,pIsB,PV.isBl,dsp_reach_0_1_2_3,rc,eu,listR1_ok (n:=n) (show n ≤ 1000000 by omega),noBor,PV.has,Fl.lend,Fl.toBor,PV.mapF,pAnd]) (by simp)
end G
namespace G
open PySem L2 PR
open PySem.W (findIn fnOf keepIn nsIn codeIn mg_of isFn mg_none_of)
abbrev fo (nm q:Str) (s:Stmt) (kV dc pm:Value) (an:Option Addr) (cd ct:Value):FuncData:=fnOf nm q (defArgs s) (defBody s) (defScope s) .none kV dc pm an cd ct
theorem txt_mk {w:World}{K:PySem.W.Frag}{h:Heap}{mg:Str→Option Value}{f_zy f_zx f_zau f_zas f_zz f_zq f_zad f_zab f_zao f_zaq f_zw f_zn f_zag f_zj f_zt f_zm f_zai f_zaw f_zg f_zo f_zal f_zak f_zap f_zan f_zam f_zaf f_zi f_zk f_zh f_zf f_zac f_zaj f_zav f_zar f_zat f_za f_zl f_ze f_zb f_zu f_zr f_zc f_zaa f_zd f_zv f_zah f_zae f_law c_Rule c_LeastRule c_FarRule c_GrowRule c_Net x_CalmError x_BadNet x_BadRule x_BadState x_NoMeasure:Addr}{oc_zy kV_zy dc_zy pm_zy cd_zy ct_zy:Value}{od_zy an_zy:Option Addr}{sl_zy:Array (Option Value)}{oc_zx kV_zx dc_zx pm_zx cd_zx ct_zx:Value}{od_zx an_zx:Option Addr}{sl_zx:Array (Option Value)}{oc_zau kV_zau dc_zau pm_zau cd_zau ct_zau:Value}{od_zau an_zau:Option Addr}{sl_zau:Array (Option Value)}{oc_zas kV_zas dc_zas pm_zas cd_zas ct_zas:Value}{od_zas an_zas:Option Addr}{sl_zas:Array (Option Value)}{oc_zz kV_zz dc_zz pm_zz cd_zz ct_zz:Value}{od_zz an_zz:Option Addr}{sl_zz:Array (Option Value)}{oc_zq kV_zq dc_zq pm_zq cd_zq ct_zq:Value}{od_zq an_zq:Option Addr}{sl_zq:Array (Option Value)}{oc_zad kV_zad dc_zad pm_zad cd_zad ct_zad:Value}{od_zad an_zad:Option Addr}{sl_zad:Array (Option Value)}{oc_zab kV_zab dc_zab pm_zab cd_zab ct_zab:Value}{od_zab an_zab:Option Addr}{sl_zab:Array (Option Value)}{oc_zao kV_zao dc_zao pm_zao cd_zao ct_zao:Value}{od_zao an_zao:Option Addr}{sl_zao:Array (Option Value)}{oc_zaq kV_zaq dc_zaq pm_zaq cd_zaq ct_zaq:Value}{od_zaq an_zaq:Option Addr}{sl_zaq:Array (Option Value)}{oc_zw kV_zw dc_zw pm_zw cd_zw ct_zw:Value}{od_zw an_zw:Option Addr}{sl_zw:Array (Option Value)}{oc_zn kV_zn dc_zn pm_zn cd_zn ct_zn:Value}{od_zn an_zn:Option Addr}{sl_zn:Array (Option Value)}{oc_zag kV_zag dc_zag pm_zag cd_zag ct_zag:Value}{od_zag an_zag:Option Addr}{sl_zag:Array (Option Value)}{oc_zj kV_zj dc_zj pm_zj cd_zj ct_zj:Value}{od_zj an_zj:Option Addr}{sl_zj:Array (Option Value)}{oc_zt kV_zt dc_zt pm_zt cd_zt ct_zt:Value}{od_zt an_zt:Option Addr}{sl_zt:Array (Option Value)}{oc_zm kV_zm dc_zm pm_zm cd_zm ct_zm:Value}{od_zm an_zm:Option Addr}{sl_zm:Array (Option Value)}{oc_zai kV_zai dc_zai pm_zai cd_zai ct_zai:Value}{od_zai an_zai:Option Addr}{sl_zai:Array (Option Value)}{oc_zaw kV_zaw dc_zaw pm_zaw cd_zaw ct_zaw:Value}{od_zaw an_zaw:Option Addr}{sl_zaw:Array (Option Value)}{oc_zg kV_zg dc_zg pm_zg cd_zg ct_zg:Value}{od_zg an_zg:Option Addr}{sl_zg:Array (Option Value)}{oc_zo kV_zo dc_zo pm_zo cd_zo ct_zo:Value}{od_zo an_zo:Option Addr}{sl_zo:Array (Option Value)}{oc_zal kV_zal dc_zal pm_zal cd_zal ct_zal:Value}{od_zal an_zal:Option Addr}{sl_zal:Array (Option Value)}{oc_zak kV_zak dc_zak pm_zak cd_zak ct_zak:Value}{od_zak an_zak:Option Addr}{sl_zak:Array (Option Value)}{oc_zap kV_zap dc_zap pm_zap cd_zap ct_zap:Value}{od_zap an_zap:Option Addr}{sl_zap:Array (Option Value)}{oc_zan kV_zan dc_zan pm_zan cd_zan ct_zan:Value}{od_zan an_zan:Option Addr}{sl_zan:Array (Option Value)}{oc_zam kV_zam dc_zam pm_zam cd_zam ct_zam:Value}{od_zam an_zam:Option Addr}{sl_zam:Array (Option Value)}{oc_zaf kV_zaf dc_zaf pm_zaf cd_zaf ct_zaf:Value}{od_zaf an_zaf:Option Addr}{sl_zaf:Array (Option Value)}{oc_zi kV_zi dc_zi pm_zi cd_zi ct_zi:Value}{od_zi an_zi:Option Addr}{sl_zi:Array (Option Value)}{oc_zk kV_zk dc_zk pm_zk cd_zk ct_zk:Value}{od_zk an_zk:Option Addr}{sl_zk:Array (Option Value)}{oc_zh kV_zh dc_zh pm_zh cd_zh ct_zh:Value}{od_zh an_zh:Option Addr}{sl_zh:Array (Option Value)}{oc_zf kV_zf dc_zf pm_zf cd_zf ct_zf:Value}{od_zf an_zf:Option Addr}{sl_zf:Array (Option Value)}{oc_zac kV_zac dc_zac pm_zac cd_zac ct_zac:Value}{od_zac an_zac:Option Addr}{sl_zac:Array (Option Value)}{oc_zaj kV_zaj dc_zaj pm_zaj cd_zaj ct_zaj:Value}{od_zaj an_zaj:Option Addr}{sl_zaj:Array (Option Value)}{oc_zav kV_zav dc_zav pm_zav cd_zav ct_zav:Value}{od_zav an_zav:Option Addr}{sl_zav:Array (Option Value)}{oc_zar kV_zar dc_zar pm_zar cd_zar ct_zar:Value}{od_zar an_zar:Option Addr}{sl_zar:Array (Option Value)}{oc_zat kV_zat dc_zat pm_zat cd_zat ct_zat:Value}{od_zat an_zat:Option Addr}{sl_zat:Array (Option Value)}{oc_za kV_za dc_za pm_za cd_za ct_za:Value}{od_za an_za:Option Addr}{sl_za:Array (Option Value)}{oc_zl kV_zl dc_zl pm_zl cd_zl ct_zl:Value}{od_zl an_zl:Option Addr}{sl_zl:Array (Option Value)}{oc_ze kV_ze dc_ze pm_ze cd_ze ct_ze:Value}{od_ze an_ze:Option Addr}{sl_ze:Array (Option Value)}{oc_zb kV_zb dc_zb pm_zb cd_zb ct_zb:Value}{od_zb an_zb:Option Addr}{sl_zb:Array (Option Value)}{oc_zu kV_zu dc_zu pm_zu cd_zu ct_zu:Value}{od_zu an_zu:Option Addr}{sl_zu:Array (Option Value)}{oc_zr kV_zr dc_zr pm_zr cd_zr ct_zr:Value}{od_zr an_zr:Option Addr}{sl_zr:Array (Option Value)}{oc_zc kV_zc dc_zc pm_zc cd_zc ct_zc:Value}{od_zc an_zc:Option Addr}{sl_zc:Array (Option Value)}{oc_zaa kV_zaa dc_zaa pm_zaa cd_zaa ct_zaa:Value}{od_zaa an_zaa:Option Addr}{sl_zaa:Array (Option Value)}{oc_zd kV_zd dc_zd pm_zd cd_zd ct_zd:Value}{od_zd an_zd:Option Addr}{sl_zd:Array (Option Value)}{oc_zv kV_zv dc_zv pm_zv cd_zv ct_zv:Value}{od_zv an_zv:Option Addr}{sl_zv:Array (Option Value)}{oc_zah kV_zah dc_zah pm_zah cd_zah ct_zah:Value}{od_zah an_zah:Option Addr}{sl_zah:Array (Option Value)}{oc_zae kV_zae dc_zae pm_zae cd_zae ct_zae:Value}{od_zae an_zae:Option Addr}{sl_zae:Array (Option Value)}{oc_law kV_law dc_law pm_law cd_law ct_law:Value}{od_law an_law:Option Addr}{sl_law:Array (Option Value)}{tk_GREATEST_NET:Tok}{tk_GREATEST_PART:Tok}{tk_LEAST_NET:Tok} (X:K.In h) (N:h.Ns mainGlobals mg)
  (q1:nsIn K mainGlobals "Rule" = some (some (.ref c_Rule)))
  (q2:nsIn K mainGlobals "LeastRule" = some (some (.ref c_LeastRule)))
  (q3:nsIn K mainGlobals "FarRule" = some (some (.ref c_FarRule)))
  (q4:nsIn K mainGlobals "GrowRule" = some (some (.ref c_GrowRule)))
  (q5:nsIn K mainGlobals "Net" = some (some (.ref c_Net)))
  (q6:nsIn K mainGlobals "CalmError" = some (some (.ref x_CalmError)))
  (q7:nsIn K mainGlobals "BadNet" = some (some (.ref x_BadNet)))
  (q8:nsIn K mainGlobals "BadRule" = some (some (.ref x_BadRule)))
  (q9:nsIn K mainGlobals "BadState" = some (some (.ref x_BadState)))
  (q10:nsIn K mainGlobals "NoMeasure" = some (some (.ref x_NoMeasure)))
  (q11:nsIn K mainGlobals "_law_cell_at" = some (some (.ref f_zy)))
  (q12:K.lookup f_zy=some ⟨oc_zy,od_zy,.func (fo "_law_cell_at" "_law_cell_at" s_zy kV_zy dc_zy pm_zy an_zy cd_zy ct_zy),sl_zy⟩)
  (q13:codeIn K cd_zy "_law_cell_at" = true)
  (q14:keepIn K (.ref f_zy)=true)
  (q15:nsIn K mainGlobals "_law_numbers" = some (some (.ref f_zx)))
  (q16:K.lookup f_zx=some ⟨oc_zx,od_zx,.func (fo "_law_numbers" "_law_numbers" s_zx kV_zx dc_zx pm_zx an_zx cd_zx ct_zx),sl_zx⟩)
  (q17:codeIn K cd_zx "_law_numbers" = true)
  (q18:keepIn K (.ref f_zx)=true)
  (q19:nsIn K mainGlobals "_law_ways" = some (some (.ref f_zau)))
  (q20:K.lookup f_zau=some ⟨oc_zau,od_zau,.func (fo "_law_ways" "_law_ways" s_zau kV_zau dc_zau pm_zau an_zau cd_zau ct_zau),sl_zau⟩)
  (q21:codeIn K cd_zau "_law_ways" = true)
  (q22:keepIn K (.ref f_zau)=true)
  (q23:nsIn K mainGlobals "_law_near" = some (some (.ref f_zas)))
  (q24:K.lookup f_zas=some ⟨oc_zas,od_zas,.func (fo "_law_near" "_law_near" s_zas kV_zas dc_zas pm_zas an_zas cd_zas ct_zas),sl_zas⟩)
  (q25:codeIn K cd_zas "_law_near" = true)
  (q26:keepIn K (.ref f_zas)=true)
  (q27:nsIn K mainGlobals "refuse_size" = some (some (.ref f_zz)))
  (q28:K.lookup f_zz=some ⟨oc_zz,od_zz,.func (fo "refuse_size" "refuse_size" s_zz kV_zz dc_zz pm_zz an_zz cd_zz ct_zz),sl_zz⟩)
  (q29:codeIn K cd_zz "refuse_size" = true)
  (q30:keepIn K (.ref f_zz)=true)
  (q31:nsIn K mainGlobals "ordered_pairs" = some (some (.ref f_zq)))
  (q32:K.lookup f_zq=some ⟨oc_zq,od_zq,.func (fo "ordered_pairs" "ordered_pairs" s_zq kV_zq dc_zq pm_zq an_zq cd_zq ct_zq),sl_zq⟩)
  (q33:codeIn K cd_zq "ordered_pairs" = true)
  (q34:keepIn K (.ref f_zq)=true)
  (q35:nsIn K mainGlobals "neighbours" = some (some (.ref f_zad)))
  (q36:K.lookup f_zad=some ⟨oc_zad,od_zad,.func (fo "neighbours" "neighbours" s_zad kV_zad dc_zad pm_zad an_zad cd_zad ct_zad),sl_zad⟩)
  (q37:codeIn K cd_zad "neighbours" = true)
  (q38:keepIn K (.ref f_zad)=true)
  (q39:findIn K (.ref c_Net) "beside" = some (some (.ref f_zab)))
  (q40:K.lookup f_zab=some ⟨oc_zab,od_zab,.func (fo "beside" "Net.beside" s_zab kV_zab dc_zab pm_zab an_zab cd_zab ct_zab),sl_zab⟩)
  (q41:codeIn K cd_zab "Net.beside" = true)
  (q42:keepIn K (.ref f_zab)=true)
  (q43:isFn K (.ref f_zab)=true)
  (q44:nsIn K mainGlobals "far_from" = some (some (.ref f_zao)))
  (q45:K.lookup f_zao=some ⟨oc_zao,od_zao,.func (fo "far_from" "far_from" s_zao kV_zao dc_zao pm_zao an_zao cd_zao ct_zao),sl_zao⟩)
  (q46:codeIn K cd_zao "far_from" = true)
  (q47:keepIn K (.ref f_zao)=true)
  (q48:findIn K (.ref c_Net) "__init__" = some (some (.ref f_zaq)))
  (q49:K.lookup f_zaq=some ⟨oc_zaq,od_zaq,.func (fo "__init__" "Net.__init__" s_zaq kV_zaq dc_zaq pm_zaq an_zaq cd_zaq ct_zaq),sl_zaq⟩)
  (q50:codeIn K cd_zaq "Net.__init__" = true)
  (q51:keepIn K (.ref f_zaq)=true)
  (q52:isFn K (.ref f_zaq)=true)
  (q53:nsIn K mainGlobals "refuse_part" = some (some (.ref f_zw)))
  (q54:K.lookup f_zw=some ⟨oc_zw,od_zw,.func (fo "refuse_part" "refuse_part" s_zw kV_zw dc_zw pm_zw an_zw cd_zw ct_zw),sl_zw⟩)
  (q55:codeIn K cd_zw "refuse_part" = true)
  (q56:keepIn K (.ref f_zw)=true)
  (q57:nsIn K mainGlobals "refuse_starts" = some (some (.ref f_zn)))
  (q58:K.lookup f_zn=some ⟨oc_zn,od_zn,.func (fo "refuse_starts" "refuse_starts" s_zn kV_zn dc_zn pm_zn an_zn cd_zn ct_zn),sl_zn⟩)
  (q59:codeIn K cd_zn "refuse_starts" = true)
  (q60:keepIn K (.ref f_zn)=true)
  (q61:findIn K (.ref c_Rule) "__init__" = some (some (.ref f_zag)))
  (q62:K.lookup f_zag=some ⟨oc_zag,od_zag,.func (fo "__init__" "Rule.__init__" s_zag kV_zag dc_zag pm_zag an_zag cd_zag ct_zag),sl_zag⟩)
  (q63:codeIn K cd_zag "Rule.__init__" = true)
  (q64:keepIn K (.ref f_zag)=true)
  (q65:isFn K (.ref f_zag)=true)
  (q66:findIn K (.ref c_LeastRule) "__init__" = some (some (.ref f_zj)))
  (q67:K.lookup f_zj=some ⟨oc_zj,od_zj,.func (fo "__init__" "LeastRule.__init__" s_zj kV_zj dc_zj pm_zj an_zj cd_zj ct_zj),sl_zj⟩)
  (q68:codeIn K cd_zj "LeastRule.__init__" = true)
  (q69:keepIn K (.ref f_zj)=true)
  (q70:isFn K (.ref f_zj)=true)
  (q71:findIn K (.ref c_FarRule) "__init__" = some (some (.ref f_zt)))
  (q72:K.lookup f_zt=some ⟨oc_zt,od_zt,.func (fo "__init__" "FarRule.__init__" s_zt kV_zt dc_zt pm_zt an_zt cd_zt ct_zt),sl_zt⟩)
  (q73:codeIn K cd_zt "FarRule.__init__" = true)
  (q74:keepIn K (.ref f_zt)=true)
  (q75:isFn K (.ref f_zt)=true)
  (q76:findIn K (.ref c_GrowRule) "__init__" = some (some (.ref f_zm)))
  (q77:K.lookup f_zm=some ⟨oc_zm,od_zm,.func (fo "__init__" "GrowRule.__init__" s_zm kV_zm dc_zm pm_zm an_zm cd_zm ct_zm),sl_zm⟩)
  (q78:codeIn K cd_zm "GrowRule.__init__" = true)
  (q79:keepIn K (.ref f_zm)=true)
  (q80:isFn K (.ref f_zm)=true)
  (q81:findIn K (.ref c_Rule) "most" = some (some (.ref f_zai)))
  (q82:K.lookup f_zai=some ⟨oc_zai,od_zai,.func (fo "most" "Rule.most" s_zai kV_zai dc_zai pm_zai an_zai cd_zai ct_zai),sl_zai⟩)
  (q83:codeIn K cd_zai "Rule.most" = true)
  (q84:keepIn K (.ref f_zai)=true)
  (q85:isFn K (.ref f_zai)=true)
  (q86:nsIn K mainGlobals "power" = some (some (.ref f_zaw)))
  (q87:K.lookup f_zaw=some ⟨oc_zaw,od_zaw,.func (fo "power" "power" s_zaw kV_zaw dc_zaw pm_zaw an_zaw cd_zaw ct_zaw),sl_zaw⟩)
  (q88:codeIn K cd_zaw "power" = true)
  (q89:keepIn K (.ref f_zaw)=true)
  (q90:findIn K (.ref c_LeastRule) "most" = some (some (.ref f_zg)))
  (q91:K.lookup f_zg=some ⟨oc_zg,od_zg,.func (fo "most" "LeastRule.most" s_zg kV_zg dc_zg pm_zg an_zg cd_zg ct_zg),sl_zg⟩)
  (q92:codeIn K cd_zg "LeastRule.most" = true)
  (q93:keepIn K (.ref f_zg)=true)
  (q94:isFn K (.ref f_zg)=true)
  (q95:findIn K (.ref c_GrowRule) "most" = some (some (.ref f_zo)))
  (q96:K.lookup f_zo=some ⟨oc_zo,od_zo,.func (fo "most" "GrowRule.most" s_zo kV_zo dc_zo pm_zo an_zo cd_zo ct_zo),sl_zo⟩)
  (q97:codeIn K cd_zo "GrowRule.most" = true)
  (q98:keepIn K (.ref f_zo)=true)
  (q99:isFn K (.ref f_zo)=true)
  (q100:findIn K (.ref c_Rule) "soon" = some (some (.ref f_zal)))
  (q101:K.lookup f_zal=some ⟨oc_zal,od_zal,.func (fo "soon" "Rule.soon" s_zal kV_zal dc_zal pm_zal an_zal cd_zal ct_zal),sl_zal⟩)
  (q102:codeIn K cd_zal "Rule.soon" = true)
  (q103:keepIn K (.ref f_zal)=true)
  (q104:isFn K (.ref f_zal)=true)
  (q105:nsIn K mainGlobals "_law_whole" = some (some (.ref f_zak)))
  (q106:K.lookup f_zak=some ⟨oc_zak,od_zak,.func (fo "_law_whole" "_law_whole" s_zak kV_zak dc_zak pm_zak an_zak cd_zak ct_zak),sl_zak⟩)
  (q107:codeIn K cd_zak "_law_whole" = true)
  (q108:keepIn K (.ref f_zak)=true)
  (q109:nsIn K mainGlobals "_law_list" = some (some (.ref f_zap)))
  (q110:K.lookup f_zap=some ⟨oc_zap,od_zap,.func (fo "_law_list" "_law_list" s_zap kV_zap dc_zap pm_zap an_zap cd_zap ct_zap),sl_zap⟩)
  (q111:codeIn K cd_zap "_law_list" = true)
  (q112:keepIn K (.ref f_zap)=true)
  (q113:findIn K (.ref c_Rule) "read" = some (some (.ref f_zan)))
  (q114:K.lookup f_zan=some ⟨oc_zan,od_zan,.func (fo "read" "Rule.read" s_zan kV_zan dc_zan pm_zan an_zan cd_zan ct_zan),sl_zan⟩)
  (q115:codeIn K cd_zan "Rule.read" = true)
  (q116:keepIn K (.ref f_zan)=true)
  (q117:isFn K (.ref f_zan)=true)
  (q118:nsIn K mainGlobals "_law_elder" = some (some (.ref f_zam)))
  (q119:K.lookup f_zam=some ⟨oc_zam,od_zam,.func (fo "_law_elder" "_law_elder" s_zam kV_zam dc_zam pm_zam an_zam cd_zam ct_zam),sl_zam⟩)
  (q120:codeIn K cd_zam "_law_elder" = true)
  (q121:keepIn K (.ref f_zam)=true)
  (q122:nsIn K mainGlobals "_law_counts" = some (some (.ref f_zaf)))
  (q123:K.lookup f_zaf=some ⟨oc_zaf,od_zaf,.func (fo "_law_counts" "_law_counts" s_zaf kV_zaf dc_zaf pm_zaf an_zaf cd_zaf ct_zaf),sl_zaf⟩)
  (q124:codeIn K cd_zaf "_law_counts" = true)
  (q125:keepIn K (.ref f_zaf)=true)
  (q126:findIn K (.ref c_GrowRule) "parts" = some (some (.ref f_zi)))
  (q127:K.lookup f_zi=some ⟨oc_zi,od_zi,.func (fo "parts" "GrowRule.parts" s_zi kV_zi dc_zi pm_zi an_zi cd_zi ct_zi),sl_zi⟩)
  (q128:codeIn K cd_zi "GrowRule.parts" = true)
  (q129:keepIn K (.ref f_zi)=true)
  (q130:isFn K (.ref f_zi)=true)
  (q131:findIn K (.ref c_GrowRule) "fars" = some (some (.ref f_zk)))
  (q132:K.lookup f_zk=some ⟨oc_zk,od_zk,.func (fo "fars" "GrowRule.fars" s_zk kV_zk dc_zk pm_zk an_zk cd_zk ct_zk),sl_zk⟩)
  (q133:codeIn K cd_zk "GrowRule.fars" = true)
  (q134:keepIn K (.ref f_zk)=true)
  (q135:isFn K (.ref f_zk)=true)
  (q136:findIn K (.ref c_GrowRule) "elder" = some (some (.ref f_zh)))
  (q137:K.lookup f_zh=some ⟨oc_zh,od_zh,.func (fo "elder" "GrowRule.elder" s_zh kV_zh dc_zh pm_zh an_zh cd_zh ct_zh),sl_zh⟩)
  (q138:codeIn K cd_zh "GrowRule.elder" = true)
  (q139:keepIn K (.ref f_zh)=true)
  (q140:isFn K (.ref f_zh)=true)
  (q141:findIn K (.ref c_GrowRule) "elders" = some (some (.ref f_zf)))
  (q142:K.lookup f_zf=some ⟨oc_zf,od_zf,.func (fo "elders" "GrowRule.elders" s_zf kV_zf dc_zf pm_zf an_zf cd_zf ct_zf),sl_zf⟩)
  (q143:codeIn K cd_zf "GrowRule.elders" = true)
  (q144:keepIn K (.ref f_zf)=true)
  (q145:isFn K (.ref f_zf)=true)
  (q146:nsIn K mainGlobals "_law_elders" = some (some (.ref f_zac)))
  (q147:K.lookup f_zac=some ⟨oc_zac,od_zac,.func (fo "_law_elders" "_law_elders" s_zac kV_zac dc_zac pm_zac an_zac cd_zac ct_zac),sl_zac⟩)
  (q148:codeIn K cd_zac "_law_elders" = true)
  (q149:keepIn K (.ref f_zac)=true)
  (q150:nsIn K mainGlobals "_law_parts" = some (some (.ref f_zaj)))
  (q151:K.lookup f_zaj=some ⟨oc_zaj,od_zaj,.func (fo "_law_parts" "_law_parts" s_zaj kV_zaj dc_zaj pm_zaj an_zaj cd_zaj ct_zaj),sl_zaj⟩)
  (q152:codeIn K cd_zaj "_law_parts" = true)
  (q153:keepIn K (.ref f_zaj)=true)
  (q154:nsIn K mainGlobals "_law_far" = some (some (.ref f_zav)))
  (q155:K.lookup f_zav=some ⟨oc_zav,od_zav,.func (fo "_law_far" "_law_far" s_zav kV_zav dc_zav pm_zav an_zav cd_zav ct_zav),sl_zav⟩)
  (q156:codeIn K cd_zav "_law_far" = true)
  (q157:keepIn K (.ref f_zav)=true)
  (q158:nsIn K mainGlobals "_law_dues" = some (some (.ref f_zar)))
  (q159:K.lookup f_zar=some ⟨oc_zar,od_zar,.func (fo "_law_dues" "_law_dues" s_zar kV_zar dc_zar pm_zar an_zar cd_zar ct_zar),sl_zar⟩)
  (q160:codeIn K cd_zar "_law_dues" = true)
  (q161:keepIn K (.ref f_zar)=true)
  (q162:findIn K (.ref c_Rule) "due" = some (some (.ref f_zat)))
  (q163:K.lookup f_zat=some ⟨oc_zat,od_zat,.func (fo "due" "Rule.due" s_zat kV_zat dc_zat pm_zat an_zat cd_zat ct_zat),sl_zat⟩)
  (q164:codeIn K cd_zat "Rule.due" = true)
  (q165:keepIn K (.ref f_zat)=true)
  (q166:isFn K (.ref f_zat)=true)
  (q167:findIn K (.ref c_LeastRule) "has_offer" = some (some (.ref f_za)))
  (q168:K.lookup f_za=some ⟨oc_za,od_za,.func (fo "has_offer" "LeastRule.has_offer" s_za kV_za dc_za pm_za an_za cd_za ct_za),sl_za⟩)
  (q169:codeIn K cd_za "LeastRule.has_offer" = true)
  (q170:keepIn K (.ref f_za)=true)
  (q171:isFn K (.ref f_za)=true)
  (q172:findIn K (.ref c_LeastRule) "due" = some (some (.ref f_zl)))
  (q173:K.lookup f_zl=some ⟨oc_zl,od_zl,.func (fo "due" "LeastRule.due" s_zl kV_zl dc_zl pm_zl an_zl cd_zl ct_zl),sl_zl⟩)
  (q174:codeIn K cd_zl "LeastRule.due" = true)
  (q175:keepIn K (.ref f_zl)=true)
  (q176:isFn K (.ref f_zl)=true)
  (q177:findIn K (.ref c_GrowRule) "counts" = some (some (.ref f_ze)))
  (q178:K.lookup f_ze=some ⟨oc_ze,od_ze,.func (fo "counts" "GrowRule.counts" s_ze kV_ze dc_ze pm_ze an_ze cd_ze ct_ze),sl_ze⟩)
  (q179:codeIn K cd_ze "GrowRule.counts" = true)
  (q180:keepIn K (.ref f_ze)=true)
  (q181:isFn K (.ref f_ze)=true)
  (q182:findIn K (.ref c_GrowRule) "due_count" = some (some (.ref f_zb)))
  (q183:K.lookup f_zb=some ⟨oc_zb,od_zb,.func (fo "due_count" "GrowRule.due_count" s_zb kV_zb dc_zb pm_zb an_zb cd_zb ct_zb),sl_zb⟩)
  (q184:codeIn K cd_zb "GrowRule.due_count" = true)
  (q185:keepIn K (.ref f_zb)=true)
  (q186:isFn K (.ref f_zb)=true)
  (q187:findIn K (.ref c_GrowRule) "due" = some (some (.ref f_zu)))
  (q188:K.lookup f_zu=some ⟨oc_zu,od_zu,.func (fo "due" "GrowRule.due" s_zu kV_zu dc_zu pm_zu an_zu cd_zu ct_zu),sl_zu⟩)
  (q189:codeIn K cd_zu "GrowRule.due" = true)
  (q190:keepIn K (.ref f_zu)=true)
  (q191:isFn K (.ref f_zu)=true)
  (q192:findIn K (.ref c_Rule) "measure" = some (some (.ref f_zr)))
  (q193:K.lookup f_zr=some ⟨oc_zr,od_zr,.func (fo "measure" "Rule.measure" s_zr kV_zr dc_zr pm_zr an_zr cd_zr ct_zr),sl_zr⟩)
  (q194:codeIn K cd_zr "Rule.measure" = true)
  (q195:keepIn K (.ref f_zr)=true)
  (q196:isFn K (.ref f_zr)=true)
  (q197:findIn K (.ref c_LeastRule) "measure" = some (some (.ref f_zc)))
  (q198:K.lookup f_zc=some ⟨oc_zc,od_zc,.func (fo "measure" "LeastRule.measure" s_zc kV_zc dc_zc pm_zc an_zc cd_zc ct_zc),sl_zc⟩)
  (q199:codeIn K cd_zc "LeastRule.measure" = true)
  (q200:keepIn K (.ref f_zc)=true)
  (q201:isFn K (.ref f_zc)=true)
  (q202:nsIn K mainGlobals "rank_by_far" = some (some (.ref f_zaa)))
  (q203:K.lookup f_zaa=some ⟨oc_zaa,od_zaa,.func (fo "rank_by_far" "rank_by_far" s_zaa kV_zaa dc_zaa pm_zaa an_zaa cd_zaa ct_zaa),sl_zaa⟩)
  (q204:codeIn K cd_zaa "rank_by_far" = true)
  (q205:keepIn K (.ref f_zaa)=true)
  (q206:findIn K (.ref c_GrowRule) "measure" = some (some (.ref f_zd)))
  (q207:K.lookup f_zd=some ⟨oc_zd,od_zd,.func (fo "measure" "GrowRule.measure" s_zd kV_zd dc_zd pm_zd an_zd cd_zd ct_zd),sl_zd⟩)
  (q208:codeIn K cd_zd "GrowRule.measure" = true)
  (q209:keepIn K (.ref f_zd)=true)
  (q210:isFn K (.ref f_zd)=true)
  (q211:nsIn K mainGlobals "_law_counted" = some (some (.ref f_zv)))
  (q212:K.lookup f_zv=some ⟨oc_zv,od_zv,.func (fo "_law_counted" "_law_counted" s_zv kV_zv dc_zv pm_zv an_zv cd_zv ct_zv),sl_zv⟩)
  (q213:codeIn K cd_zv "_law_counted" = true)
  (q214:keepIn K (.ref f_zv)=true)
  (q215:nsIn K mainGlobals "_law_asked" = some (some (.ref f_zah)))
  (q216:K.lookup f_zah=some ⟨oc_zah,od_zah,.func (fo "_law_asked" "_law_asked" s_zah kV_zah dc_zah pm_zah an_zah cd_zah ct_zah),sl_zah⟩)
  (q217:codeIn K cd_zah "_law_asked" = true)
  (q218:keepIn K (.ref f_zah)=true)
  (q219:findIn K (.ref c_Rule) "reach" = some (some (.ref f_zae)))
  (q220:K.lookup f_zae=some ⟨oc_zae,od_zae,.func (fo "reach" "Rule.reach" s_zae kV_zae dc_zae pm_zae an_zae cd_zae ct_zae),sl_zae⟩)
  (q221:codeIn K cd_zae "Rule.reach" = true)
  (q222:keepIn K (.ref f_zae)=true)
  (q223:isFn K (.ref f_zae)=true)
  (q224:nsIn K mainGlobals "law" = some (some (.ref f_law)))
  (q225:K.lookup f_law=some ⟨oc_law,od_law,.func (fo "law" "law" s_law kV_law dc_law pm_law an_law cd_law ct_law),sl_law⟩)
  (q226:codeIn K cd_law "law" = true)
  (q227:keepIn K (.ref f_law)=true)
  (q228:PySem.W.plainGet K c_Rule Str.empty=true)
  (q229:PySem.W.hasDictIn K c_Rule=true)
  (q230:PySem.W.plainOver K c_Rule=true)
  (q231:findIn K (.ref c_Rule) "__setattr__" = some (some (.builtin "object.__setattr__")))
  (q232:noA K c_Rule=noR)
  (q233:PySem.W.plainGet K c_LeastRule Str.empty=true)
  (q234:PySem.W.hasDictIn K c_LeastRule=true)
  (q235:PySem.W.plainOver K c_LeastRule=true)
  (q236:findIn K (.ref c_LeastRule) "__setattr__" = some (some (.builtin "object.__setattr__")))
  (q237:noA K c_LeastRule=noR)
  (q238:PySem.W.plainGet K c_FarRule Str.empty=true)
  (q239:PySem.W.hasDictIn K c_FarRule=true)
  (q240:PySem.W.plainOver K c_FarRule=true)
  (q241:findIn K (.ref c_FarRule) "__setattr__" = some (some (.builtin "object.__setattr__")))
  (q242:noA K c_FarRule=noR)
  (q243:PySem.W.plainGet K c_GrowRule Str.empty=true)
  (q244:PySem.W.hasDictIn K c_GrowRule=true)
  (q245:PySem.W.plainOver K c_GrowRule=true)
  (q246:findIn K (.ref c_GrowRule) "__setattr__" = some (some (.builtin "object.__setattr__")))
  (q247:noA K c_GrowRule=noR)
  (q248:PySem.W.plainGet K c_Net Str.empty=true)
  (q249:PySem.W.hasDictIn K c_Net=true)
  (q250:PySem.W.plainOver K c_Net=true)
  (q251:findIn K (.ref c_Net) "__setattr__" = some (some (.builtin "object.__setattr__")))
  (q252:noA K c_Net=noR)
  (q253:PySem.W.makesIn K c_FarRule=true)
  (q254:findIn K (.ref c_FarRule) "__init__" = some (some (.ref f_zt)))
  (q255:keepIn K (.ref c_FarRule)=true)
  (q256:PySem.W.makesIn K c_GrowRule=true)
  (q257:findIn K (.ref c_GrowRule) "__init__" = some (some (.ref f_zm)))
  (q258:keepIn K (.ref c_GrowRule)=true)
  (q259:PySem.W.makesIn K c_Net=true)
  (q260:findIn K (.ref c_Net) "__init__" = some (some (.ref f_zaq)))
  (q261:keepIn K (.ref c_Net)=true)
  (q262:findIn K (.ref c_FarRule) "due" = some (some (.ref f_zl)))
  (q263:findIn K (.ref c_FarRule) "has_offer" = some (some (.ref f_za)))
  (q264:findIn K (.ref c_FarRule) "measure" = some (some (.ref f_zc)))
  (q265:findIn K (.ref c_FarRule) "most" = some (some (.ref f_zg)))
  (q266:findIn K (.ref c_FarRule) "reach" = some (some (.ref f_zae)))
  (q267:findIn K (.ref c_FarRule) "read" = some (some (.ref f_zan)))
  (q268:findIn K (.ref c_FarRule) "soon" = some (some (.ref f_zal)))
  (q269:findIn K (.ref c_GrowRule) "counts" = some (some (.ref f_ze)))
  (q270:findIn K (.ref c_GrowRule) "due" = some (some (.ref f_zu)))
  (q271:findIn K (.ref c_GrowRule) "due_count" = some (some (.ref f_zb)))
  (q272:findIn K (.ref c_GrowRule) "elder" = some (some (.ref f_zh)))
  (q273:findIn K (.ref c_GrowRule) "elders" = some (some (.ref f_zf)))
  (q274:findIn K (.ref c_GrowRule) "fars" = some (some (.ref f_zk)))
  (q275:findIn K (.ref c_GrowRule) "measure" = some (some (.ref f_zd)))
  (q276:findIn K (.ref c_GrowRule) "most" = some (some (.ref f_zo)))
  (q277:findIn K (.ref c_GrowRule) "parts" = some (some (.ref f_zi)))
  (q278:findIn K (.ref c_GrowRule) "reach" = some (some (.ref f_zae)))
  (q279:findIn K (.ref c_GrowRule) "read" = some (some (.ref f_zan)))
  (q280:findIn K (.ref c_GrowRule) "soon" = some (some (.ref f_zal)))
  (q281:findIn K (.ref c_LeastRule) "due" = some (some (.ref f_zl)))
  (q282:findIn K (.ref c_LeastRule) "has_offer" = some (some (.ref f_za)))
  (q283:findIn K (.ref c_LeastRule) "measure" = some (some (.ref f_zc)))
  (q284:findIn K (.ref c_LeastRule) "most" = some (some (.ref f_zg)))
  (q285:findIn K (.ref c_LeastRule) "reach" = some (some (.ref f_zae)))
  (q286:findIn K (.ref c_LeastRule) "read" = some (some (.ref f_zan)))
  (q287:findIn K (.ref c_LeastRule) "soon" = some (some (.ref f_zal)))
  (q288:findIn K (.ref c_Net) "beside" = some (some (.ref f_zab)))
  (q289:findIn K (.ref c_Rule) "due" = some (some (.ref f_zat)))
  (q290:findIn K (.ref c_Rule) "measure" = some (some (.ref f_zr)))
  (q291:findIn K (.ref c_Rule) "most" = some (some (.ref f_zai)))
  (q292:findIn K (.ref c_Rule) "reach" = some (some (.ref f_zae)))
  (q293:findIn K (.ref c_Rule) "read" = some (some (.ref f_zan)))
  (q294:findIn K (.ref c_Rule) "soon" = some (some (.ref f_zal)))
  (q295:PySem.W.specialIn K (.ref c_LeastRule) "__getattribute__" = some (some (.builtin "type.__getattribute__")))
  (q296:PySem.W.readsIn K c_LeastRule (.type "type")=true)
  (q297:PySem.W.findCls K (.ref c_LeastRule) (.type "type") "__init__" = some (.val (.ref f_zj)))
  (q298:PySem.W.specialIn K (.ref c_Rule) "__getattribute__" = some (some (.builtin "type.__getattribute__")))
  (q299:PySem.W.readsIn K c_Rule (.type "type")=true)
  (q300:PySem.W.findCls K (.ref c_Rule) (.type "type") "__init__" = some (.val (.ref f_zag)))
  (q301:nsIn K mainGlobals "len" = some none)
  (q302:nsIn K mainGlobals "range" = some none)
  (q303:nsIn K mainGlobals "sorted" = some none)
  (q304:nsIn K mainGlobals "max" = some none)
  (q305:nsIn K mainGlobals "min" = some none)
  (q306:nsIn K mainGlobals "tuple" = some none)
  (q307:nsIn K mainGlobals "list" = some none)
  (q308:nsIn K mainGlobals "isinstance" = some none)
  (q309:nsIn K mainGlobals "bool" = some none)
  (q310:nsIn K mainGlobals "int" = some none)
  (q311:nsIn K mainGlobals "all" = some none)
  (q312:nsIn K mainGlobals "zip" = some none)
  (q313:nsIn K mainGlobals "sum" = some none)
  (q314:nsIn K mainGlobals "GREATEST_NET" = some (some (.int (10) tk_GREATEST_NET)))
  (q315:nsIn K mainGlobals "GREATEST_PART" = some (some (.int (10) tk_GREATEST_PART)))
  (q316:nsIn K mainGlobals "LEAST_NET" = some (some (.int (1) tk_LEAST_NET)))
  (q317:([x_CalmError,x_BadNet,x_BadRule,x_BadState,x_NoMeasure]:List Addr).all (excB K)=true) :
  Txt w K mg (⟨f_zy,(fo "_law_cell_at" "_law_cell_at" s_zy kV_zy dc_zy pm_zy an_zy cd_zy ct_zy),f_zx,(fo "_law_numbers" "_law_numbers" s_zx kV_zx dc_zx pm_zx an_zx cd_zx ct_zx),f_zau,(fo "_law_ways" "_law_ways" s_zau kV_zau dc_zau pm_zau an_zau cd_zau ct_zau),f_zas,(fo "_law_near" "_law_near" s_zas kV_zas dc_zas pm_zas an_zas cd_zas ct_zas),f_zz,(fo "refuse_size" "refuse_size" s_zz kV_zz dc_zz pm_zz an_zz cd_zz ct_zz),f_zq,(fo "ordered_pairs" "ordered_pairs" s_zq kV_zq dc_zq pm_zq an_zq cd_zq ct_zq),f_zad,(fo "neighbours" "neighbours" s_zad kV_zad dc_zad pm_zad an_zad cd_zad ct_zad),f_zab,(fo "beside" "Net.beside" s_zab kV_zab dc_zab pm_zab an_zab cd_zab ct_zab),f_zao,(fo "far_from" "far_from" s_zao kV_zao dc_zao pm_zao an_zao cd_zao ct_zao),f_zaq,(fo "__init__" "Net.__init__" s_zaq kV_zaq dc_zaq pm_zaq an_zaq cd_zaq ct_zaq),f_zw,(fo "refuse_part" "refuse_part" s_zw kV_zw dc_zw pm_zw an_zw cd_zw ct_zw),f_zn,(fo "refuse_starts" "refuse_starts" s_zn kV_zn dc_zn pm_zn an_zn cd_zn ct_zn),f_zag,(fo "__init__" "Rule.__init__" s_zag kV_zag dc_zag pm_zag an_zag cd_zag ct_zag),f_zj,(fo "__init__" "LeastRule.__init__" s_zj kV_zj dc_zj pm_zj an_zj cd_zj ct_zj),f_zt,(fo "__init__" "FarRule.__init__" s_zt kV_zt dc_zt pm_zt an_zt cd_zt ct_zt),f_zm,(fo "__init__" "GrowRule.__init__" s_zm kV_zm dc_zm pm_zm an_zm cd_zm ct_zm),f_zai,(fo "most" "Rule.most" s_zai kV_zai dc_zai pm_zai an_zai cd_zai ct_zai),f_zaw,(fo "power" "power" s_zaw kV_zaw dc_zaw pm_zaw an_zaw cd_zaw ct_zaw),f_zg,(fo "most" "LeastRule.most" s_zg kV_zg dc_zg pm_zg an_zg cd_zg ct_zg),f_zo,(fo "most" "GrowRule.most" s_zo kV_zo dc_zo pm_zo an_zo cd_zo ct_zo),f_zal,(fo "soon" "Rule.soon" s_zal kV_zal dc_zal pm_zal an_zal cd_zal ct_zal),f_zak,(fo "_law_whole" "_law_whole" s_zak kV_zak dc_zak pm_zak an_zak cd_zak ct_zak),f_zap,(fo "_law_list" "_law_list" s_zap kV_zap dc_zap pm_zap an_zap cd_zap ct_zap),f_zan,(fo "read" "Rule.read" s_zan kV_zan dc_zan pm_zan an_zan cd_zan ct_zan),f_zam,(fo "_law_elder" "_law_elder" s_zam kV_zam dc_zam pm_zam an_zam cd_zam ct_zam),f_zaf,(fo "_law_counts" "_law_counts" s_zaf kV_zaf dc_zaf pm_zaf an_zaf cd_zaf ct_zaf),f_zi,(fo "parts" "GrowRule.parts" s_zi kV_zi dc_zi pm_zi an_zi cd_zi ct_zi),f_zk,(fo "fars" "GrowRule.fars" s_zk kV_zk dc_zk pm_zk an_zk cd_zk ct_zk),f_zh,(fo "elder" "GrowRule.elder" s_zh kV_zh dc_zh pm_zh an_zh cd_zh ct_zh),f_zf,(fo "elders" "GrowRule.elders" s_zf kV_zf dc_zf pm_zf an_zf cd_zf ct_zf),f_zac,(fo "_law_elders" "_law_elders" s_zac kV_zac dc_zac pm_zac an_zac cd_zac ct_zac),f_zaj,(fo "_law_parts" "_law_parts" s_zaj kV_zaj dc_zaj pm_zaj an_zaj cd_zaj ct_zaj),f_zav,(fo "_law_far" "_law_far" s_zav kV_zav dc_zav pm_zav an_zav cd_zav ct_zav),f_zar,(fo "_law_dues" "_law_dues" s_zar kV_zar dc_zar pm_zar an_zar cd_zar ct_zar),f_zat,(fo "due" "Rule.due" s_zat kV_zat dc_zat pm_zat an_zat cd_zat ct_zat),f_za,(fo "has_offer" "LeastRule.has_offer" s_za kV_za dc_za pm_za an_za cd_za ct_za),f_zl,(fo "due" "LeastRule.due" s_zl kV_zl dc_zl pm_zl an_zl cd_zl ct_zl),f_ze,(fo "counts" "GrowRule.counts" s_ze kV_ze dc_ze pm_ze an_ze cd_ze ct_ze),f_zb,(fo "due_count" "GrowRule.due_count" s_zb kV_zb dc_zb pm_zb an_zb cd_zb ct_zb),f_zu,(fo "due" "GrowRule.due" s_zu kV_zu dc_zu pm_zu an_zu cd_zu ct_zu),f_zr,(fo "measure" "Rule.measure" s_zr kV_zr dc_zr pm_zr an_zr cd_zr ct_zr),f_zc,(fo "measure" "LeastRule.measure" s_zc kV_zc dc_zc pm_zc an_zc cd_zc ct_zc),f_zaa,(fo "rank_by_far" "rank_by_far" s_zaa kV_zaa dc_zaa pm_zaa an_zaa cd_zaa ct_zaa),f_zd,(fo "measure" "GrowRule.measure" s_zd kV_zd dc_zd pm_zd an_zd cd_zd ct_zd),f_zv,(fo "_law_counted" "_law_counted" s_zv kV_zv dc_zv pm_zv an_zv cd_zv ct_zv),f_zah,(fo "_law_asked" "_law_asked" s_zah kV_zah dc_zah pm_zah an_zah cd_zah ct_zah),f_zae,(fo "reach" "Rule.reach" s_zae kV_zae dc_zae pm_zae an_zae cd_zae ct_zae),f_law,(fo "law" "law" s_law kV_law dc_law pm_law an_law cd_law ct_law),c_Rule,c_LeastRule,c_FarRule,c_GrowRule,c_Net,x_CalmError,x_BadNet,x_BadRule,x_BadState,x_NoMeasure⟩:A) where
 F_zy:=fun_mk (st:=s_zy) q12 q13 q14
 B_zy:=(fun_mk (st:=s_zy) q12 q13 q14).binds (ps:=["_law_script", "_law_k"]) fun _ _ _ _ _ _ us hl=>match us,hl with | [_,_],_=>rfl
 m_zy:=mg_of X N q11
 F_zx:=fun_mk (st:=s_zx) q16 q17 q18
 B_zx:=(fun_mk (st:=s_zx) q16 q17 q18).binds (ps:=["_law_cell", "_law_many"]) fun _ _ _ _ _ _ us hl=>match us,hl with | [_,_],_=>rfl
 m_zx:=mg_of X N q15
 F_zau:=fun_mk (st:=s_zau) q20 q21 q22
 B_zau:=(fun_mk (st:=s_zau) q20 q21 q22).binds (ps:=["_law_size", "_law_cell"]) fun _ _ _ _ _ _ us hl=>match us,hl with | [_,_],_=>rfl
 m_zau:=mg_of X N q19
 F_zas:=fun_mk (st:=s_zas) q24 q25 q26
 B_zas:=(fun_mk (st:=s_zas) q24 q25 q26).binds (ps:=["_law_size", "_law_ways_here"]) fun _ _ _ _ _ _ us hl=>match us,hl with | [_,_],_=>rfl
 m_zas:=mg_of X N q23
 F_zz:=fun_mk (st:=s_zz) q28 q29 q30
 B_zz:=(fun_mk (st:=s_zz) q28 q29 q30).binds (ps:=["size", "least"]) fun _ _ _ _ _ _ us hl=>match us,hl with | [_,_],_=>rfl
 m_zz:=mg_of X N q27
 F_zq:=fun_mk (st:=s_zq) q32 q33 q34
 B_zq:=(fun_mk (st:=s_zq) q32 q33 q34).binds (ps:=["size", "ways"]) fun _ _ _ _ _ _ us hl=>match us,hl with | [_,_],_=>rfl
 m_zq:=mg_of X N q31
 F_zad:=fun_mk (st:=s_zad) q36 q37 q38
 B_zad:=(fun_mk (st:=s_zad) q36 q37 q38).binds (ps:=["pairs", "at"]) fun _ _ _ _ _ _ us hl=>match us,hl with | [_,_],_=>rfl
 m_zad:=mg_of X N q35
 F_zab:=fun_mk (st:=s_zab) q40 q41 q42
 B_zab:=(fun_mk (st:=s_zab) q40 q41 q42).binds (ps:=["self", "at"]) fun _ _ _ _ _ _ us hl=>match us,hl with | [_,_],_=>rfl
 F_zao:=fun_mk (st:=s_zao) q45 q46 q47
 B_zao:=(fun_mk (st:=s_zao) q45 q46 q47).binds (ps:=["net", "root"]) fun _ _ _ _ _ _ us hl=>match us,hl with | [_,_],_=>rfl
 m_zao:=mg_of X N q44
 F_zaq:=fun_mk (st:=s_zaq) q49 q50 q51
 B_zaq:=(fun_mk (st:=s_zaq) q49 q50 q51).binds (ps:=["self", "size", "ways"]) fun _ _ _ _ _ _ us hl=>match us,hl with | [_,_,_],_=>rfl
 F_zw:=fun_mk (st:=s_zw) q54 q55 q56
 B_zw:=(fun_mk (st:=s_zw) q54 q55 q56).binds (ps:=["part"]) fun _ _ _ _ _ _ us hl=>match us,hl with | [_],_=>rfl
 m_zw:=mg_of X N q53
 F_zn:=fun_mk (st:=s_zn) q58 q59 q60
 B_zn:=(fun_mk (st:=s_zn) q58 q59 q60).binds (ps:=["net", "starts", "top"]) fun _ _ _ _ _ _ us hl=>match us,hl with | [_,_,_],_=>rfl
 m_zn:=mg_of X N q57
 F_zag:=fun_mk (st:=s_zag) q62 q63 q64
 B_zag:=(fun_mk (st:=s_zag) q62 q63 q64).binds (ps:=["self", "size", "span", "alone"]) fun _ _ _ _ _ _ us hl=>match us,hl with | [_,_,_,_],_=>rfl
 F_zj:=fun_mk (st:=s_zj) q67 q68 q69
 B_zj:=(fun_mk (st:=s_zj) q67 q68 q69).binds (ps:=["self", "net", "starts", "stretch", "blocks"]) fun _ _ _ _ _ _ us hl=>match us,hl with | [_,_,_,_,_],_=>rfl
 F_zt:=fun_mk (st:=s_zt) q72 q73 q74
 B_zt:=(fun_mk (st:=s_zt) q72 q73 q74).binds (ps:=["self", "net", "root"]) fun _ _ _ _ _ _ us hl=>match us,hl with | [_,_,_],_=>rfl
 F_zm:=fun_mk (st:=s_zm) q77 q78 q79
 B_zm:=(fun_mk (st:=s_zm) q77 q78 q79).binds (ps:=["self", "net", "root"]) fun _ _ _ _ _ _ us hl=>match us,hl with | [_,_,_],_=>rfl
 F_zai:=fun_mk (st:=s_zai) q82 q83 q84
 B_zai:=(fun_mk (st:=s_zai) q82 q83 q84).binds (ps:=["self"]) fun _ _ _ _ _ _ us hl=>match us,hl with | [_],_=>rfl
 F_zaw:=fun_mk (st:=s_zaw) q87 q88 q89
 B_zaw:=(fun_mk (st:=s_zaw) q87 q88 q89).binds (ps:=["base", "exponent"]) fun _ _ _ _ _ _ us hl=>match us,hl with | [_,_],_=>rfl
 m_zaw:=mg_of X N q86
 F_zg:=fun_mk (st:=s_zg) q91 q92 q93
 B_zg:=(fun_mk (st:=s_zg) q91 q92 q93).binds (ps:=["self"]) fun _ _ _ _ _ _ us hl=>match us,hl with | [_],_=>rfl
 F_zo:=fun_mk (st:=s_zo) q96 q97 q98
 B_zo:=(fun_mk (st:=s_zo) q96 q97 q98).binds (ps:=["self"]) fun _ _ _ _ _ _ us hl=>match us,hl with | [_],_=>rfl
 F_zal:=fun_mk (st:=s_zal) q101 q102 q103
 B_zal:=(fun_mk (st:=s_zal) q101 q102 q103).binds (ps:=["self", "count"]) fun _ _ _ _ _ _ us hl=>match us,hl with | [_,_],_=>rfl
 F_zak:=fun_mk (st:=s_zak) q106 q107 q108
 B_zak:=(fun_mk (st:=s_zak) q106 q107 q108).binds (ps:=["_law_found"]) fun _ _ _ _ _ _ us hl=>match us,hl with | [_],_=>rfl
 m_zak:=mg_of X N q105
 F_zap:=fun_mk (st:=s_zap) q110 q111 q112
 B_zap:=(fun_mk (st:=s_zap) q110 q111 q112).binds (ps:=["_law_found", "_law_due"]) fun _ _ _ _ _ _ us hl=>match us,hl with | [_,_],_=>rfl
 m_zap:=mg_of X N q109
 F_zan:=fun_mk (st:=s_zan) q114 q115 q116
 B_zan:=(fun_mk (st:=s_zan) q114 q115 q116).binds (ps:=["self", "registers"]) fun _ _ _ _ _ _ us hl=>match us,hl with | [_,_],_=>rfl
 F_zam:=fun_mk (st:=s_zam) q119 q120 q121
 B_zam:=(fun_mk (st:=s_zam) q119 q120 q121).binds (ps:=["_law_near_here", "_law_root", "_law_fars", "_law_at"]) fun _ _ _ _ _ _ us hl=>match us,hl with | [_,_,_,_],_=>rfl
 m_zam:=mg_of X N q118
 F_zaf:=fun_mk (st:=s_zaf) q123 q124 q125
 B_zaf:=(fun_mk (st:=s_zaf) q123 q124 q125).binds (ps:=["_law_size", "_law_elders_here", "_law_parts_here"]) fun _ _ _ _ _ _ us hl=>match us,hl with | [_,_,_],_=>rfl
 m_zaf:=mg_of X N q122
 F_zi:=fun_mk (st:=s_zi) q127 q128 q129
 B_zi:=(fun_mk (st:=s_zi) q127 q128 q129).binds (ps:=["self", "cells"]) fun _ _ _ _ _ _ us hl=>match us,hl with | [_,_],_=>rfl
 F_zk:=fun_mk (st:=s_zk) q132 q133 q134
 B_zk:=(fun_mk (st:=s_zk) q132 q133 q134).binds (ps:=["self", "cells"]) fun _ _ _ _ _ _ us hl=>match us,hl with | [_,_],_=>rfl
 F_zh:=fun_mk (st:=s_zh) q137 q138 q139
 B_zh:=(fun_mk (st:=s_zh) q137 q138 q139).binds (ps:=["self", "fars", "at"]) fun _ _ _ _ _ _ us hl=>match us,hl with | [_,_,_],_=>rfl
 F_zf:=fun_mk (st:=s_zf) q142 q143 q144
 B_zf:=(fun_mk (st:=s_zf) q142 q143 q144).binds (ps:=["self", "cells"]) fun _ _ _ _ _ _ us hl=>match us,hl with | [_,_],_=>rfl
 F_zac:=fun_mk (st:=s_zac) q147 q148 q149
 B_zac:=(fun_mk (st:=s_zac) q147 q148 q149).binds (ps:=["_law_found", "_law_due"]) fun _ _ _ _ _ _ us hl=>match us,hl with | [_,_],_=>rfl
 m_zac:=mg_of X N q146
 F_zaj:=fun_mk (st:=s_zaj) q151 q152 q153
 B_zaj:=(fun_mk (st:=s_zaj) q151 q152 q153).binds (ps:=["_law_found", "_law_due"]) fun _ _ _ _ _ _ us hl=>match us,hl with | [_,_],_=>rfl
 m_zaj:=mg_of X N q150
 F_zav:=fun_mk (st:=s_zav) q155 q156 q157
 B_zav:=(fun_mk (st:=s_zav) q155 q156 q157).binds (ps:=["_law_near_here", "_law_root", "_law_fars", "_law_at"]) fun _ _ _ _ _ _ us hl=>match us,hl with | [_,_,_,_],_=>rfl
 m_zav:=mg_of X N q154
 F_zar:=fun_mk (st:=s_zar) q159 q160 q161
 B_zar:=(fun_mk (st:=s_zar) q159 q160 q161).binds (ps:=["_law_near_here", "_law_root", "_law_parts_here", "_law_counts_here"]) fun _ _ _ _ _ _ us hl=>match us,hl with | [_,_,_,_],_=>rfl
 m_zar:=mg_of X N q158
 F_zat:=fun_mk (st:=s_zat) q163 q164 q165
 B_zat:=(fun_mk (st:=s_zat) q163 q164 q165).binds (ps:=["self", "cells", "at"]) fun _ _ _ _ _ _ us hl=>match us,hl with | [_,_,_],_=>rfl
 F_za:=fun_mk (st:=s_za) q168 q169 q170
 B_za:=(fun_mk (st:=s_za) q168 q169 q170).binds (ps:=["self", "cell"]) fun _ _ _ _ _ _ us hl=>match us,hl with | [_,_],_=>rfl
 F_zl:=fun_mk (st:=s_zl) q173 q174 q175
 B_zl:=(fun_mk (st:=s_zl) q173 q174 q175).binds (ps:=["self", "cells", "at"]) fun _ _ _ _ _ _ us hl=>match us,hl with | [_,_,_],_=>rfl
 F_ze:=fun_mk (st:=s_ze) q178 q179 q180
 B_ze:=(fun_mk (st:=s_ze) q178 q179 q180).binds (ps:=["self", "cells"]) fun _ _ _ _ _ _ us hl=>match us,hl with | [_,_],_=>rfl
 F_zb:=fun_mk (st:=s_zb) q183 q184 q185
 B_zb:=(fun_mk (st:=s_zb) q183 q184 q185).binds (ps:=["self", "cells", "at"]) fun _ _ _ _ _ _ us hl=>match us,hl with | [_,_,_],_=>rfl
 F_zu:=fun_mk (st:=s_zu) q188 q189 q190
 B_zu:=(fun_mk (st:=s_zu) q188 q189 q190).binds (ps:=["self", "cells", "at"]) fun _ _ _ _ _ _ us hl=>match us,hl with | [_,_,_],_=>rfl
 F_zr:=fun_mk (st:=s_zr) q193 q194 q195
 B_zr:=(fun_mk (st:=s_zr) q193 q194 q195).binds (ps:=["self", "cells"]) fun _ _ _ _ _ _ us hl=>match us,hl with | [_,_],_=>rfl
 F_zc:=fun_mk (st:=s_zc) q198 q199 q200
 B_zc:=(fun_mk (st:=s_zc) q198 q199 q200).binds (ps:=["self", "cells"]) fun _ _ _ _ _ _ us hl=>match us,hl with | [_,_],_=>rfl
 F_zaa:=fun_mk (st:=s_zaa) q203 q204 q205
 B_zaa:=(fun_mk (st:=s_zaa) q203 q204 q205).binds (ps:=["fars", "at"]) fun _ _ _ _ _ _ us hl=>match us,hl with | [_,_],_=>rfl
 m_zaa:=mg_of X N q202
 F_zd:=fun_mk (st:=s_zd) q207 q208 q209
 B_zd:=(fun_mk (st:=s_zd) q207 q208 q209).binds (ps:=["self", "cells"]) fun _ _ _ _ _ _ us hl=>match us,hl with | [_,_],_=>rfl
 F_zv:=fun_mk (st:=s_zv) q212 q213 q214
 B_zv:=(fun_mk (st:=s_zv) q212 q213 q214).binds (ps:=["_law_parts_here", "_law_counts_here"]) fun _ _ _ _ _ _ us hl=>match us,hl with | [_,_],_=>rfl
 m_zv:=mg_of X N q211
 F_zah:=fun_mk (st:=s_zah) q216 q217 q218
 B_zah:=(fun_mk (st:=s_zah) q216 q217 q218).binds (ps:=["_law_rule", "_law_near_here", "_law_root", "_law_lower", "_law_cells"]) fun _ _ _ _ _ _ us hl=>match us,hl with | [_,_,_,_,_],_=>rfl
 m_zah:=mg_of X N q215
 F_zae:=fun_mk (st:=s_zae) q220 q221 q222
 B_zae:=(fun_mk (st:=s_zae) q220 q221 q222).binds (ps:=["self", "spoiled"]) fun _ _ _ _ _ _ us hl=>match us,hl with | [_,_],_=>rfl
 F_law:=fun_mk (st:=s_law) q225 q226 q227
 B_law:=(fun_mk (st:=s_law) q225 q226 q227).binds (ps:=["_law_script"]) fun _ _ _ _ _ _ us hl=>match us,hl with | [_],_=>rfl
 m_law:=mg_of X N q224
 C_Rule:=⟨q228,q229,q230,q231⟩
 m_Rule:=mg_of X N q1
 C_LeastRule:=⟨q233,q234,q235,q236⟩
 m_LeastRule:=mg_of X N q2
 C_FarRule:=⟨q238,q239,q240,q241⟩
 m_FarRule:=mg_of X N q3
 C_GrowRule:=⟨q243,q244,q245,q246⟩
 m_GrowRule:=mg_of X N q4
 C_Net:=⟨q248,q249,q250,q251⟩
 m_Net:=mg_of X N q5
 M_FarRule:=⟨q253,q254,q75,q255⟩
 M_GrowRule:=⟨q256,q257,q80,q258⟩
 M_Net:=⟨q259,q260,q52,q261⟩
 n_Rule:=q232
 n_LeastRule:=q237
 n_FarRule:=q242
 n_GrowRule:=q247
 n_Net:=q252
 H_FarRule_due:=⟨q262,q176,q175⟩
 H_FarRule_has_offer:=⟨q263,q171,q170⟩
 H_FarRule_measure:=⟨q264,q201,q200⟩
 H_FarRule_most:=⟨q265,q94,q93⟩
 H_FarRule_reach:=⟨q266,q223,q222⟩
 H_FarRule_read:=⟨q267,q117,q116⟩
 H_FarRule_soon:=⟨q268,q104,q103⟩
 H_ze:=⟨q269,q181,q180⟩
 H_zu:=⟨q270,q191,q190⟩
 H_zb:=⟨q271,q186,q185⟩
 H_zh:=⟨q272,q140,q139⟩
 H_zf:=⟨q273,q145,q144⟩
 H_zk:=⟨q274,q135,q134⟩
 H_zd:=⟨q275,q210,q209⟩
 H_zo:=⟨q276,q99,q98⟩
 H_zi:=⟨q277,q130,q129⟩
 H_GrowRule_reach:=⟨q278,q223,q222⟩
 H_GrowRule_read:=⟨q279,q117,q116⟩
 H_GrowRule_soon:=⟨q280,q104,q103⟩
 H_zl:=⟨q281,q176,q175⟩
 H_za:=⟨q282,q171,q170⟩
 H_zc:=⟨q283,q201,q200⟩
 H_zg:=⟨q284,q94,q93⟩
 H_LeastRule_reach:=⟨q285,q223,q222⟩
 H_LeastRule_read:=⟨q286,q117,q116⟩
 H_LeastRule_soon:=⟨q287,q104,q103⟩
 H_zab:=⟨q288,q43,q42⟩
 H_zat:=⟨q289,q166,q165⟩
 H_zr:=⟨q290,q196,q195⟩
 H_zai:=⟨q291,q85,q84⟩
 H_zae:=⟨q292,q223,q222⟩
 H_zan:=⟨q293,q117,q116⟩
 H_zal:=⟨q294,q104,q103⟩
 U_LeastRule:=⟨q295,q296,q297,q69⟩
 U_Rule:=⟨q298,q299,q300,q64⟩
 m_BadNet:=mg_of X N q7
 m_BadRule:=mg_of X N q8
 m_BadState:=mg_of X N q9
 m_NoMeasure:=mg_of X N q10
 b_len:=mg_none_of X N q301
 b_range:=mg_none_of X N q302
 b_sorted:=mg_none_of X N q303
 b_max:=mg_none_of X N q304
 b_min:=mg_none_of X N q305
 b_tuple:=mg_none_of X N q306
 b_list:=mg_none_of X N q307
 b_isinstance:=mg_none_of X N q308
 b_bool:=mg_none_of X N q309
 b_int:=mg_none_of X N q310
 b_all:=mg_none_of X N q311
 b_zip:=mg_none_of X N q312
 b_sum:=mg_none_of X N q313
 c_GREATEST_NET:=⟨_,mg_of X N q314⟩
 c_GREATEST_PART:=⟨_,mg_of X N q315⟩
 c_LEAST_NET:=⟨_,mg_of X N q316⟩
 xs:=fun C h=>List.all_eq_true.mp q317 C h
theorem fin {l:PySem.W.OpenLaw}{w:World}{K:PySem.W.Frag}{mg:Str→Option Value}{fa:Addr}{a:A} (t:Txt w K mg a) (hfa:mg "law" = some (.ref fa)) :
  ∃ fd:FuncData,(∀ (s:Shared) (u:Value),BindsTo s fd ⟨[u],[]⟩ [("_law_script", u)])∧∀ base:Heap,K.In base→base.Ns mainGlobals mg→FnOk l.prog w K mg base (CXP l.prog w) 9 fa fd ["_law_script"] (spScr K):=by
 have e:=hfa.symm.trans t.m_law
 cases e
 refine ⟨a.d_law,fun s u=>?_,fun base hB _=>law_fn (T:=T K a) (ok_law t hB) law_true⟩
 obtain ⟨oc,od,kV,doc,pm,an,cdv,ct,osl,e,_⟩:=t.F_law.ex
 rw [e]
 exact .of_eq rfl
end G
def PySem.W.Fast.tw17724717679398533982 : Unit := ()
def PySem.W.Fast.tw7127967789417798708 : Unit := ()
def PySem.W.Fast.tw7110798237767975134 : Unit := ()
def PySem.W.Fast.tw15204014916333506108 : Unit := ()
def PySem.W.Fast.tw15740153712315226960 : Unit := ()
def PySem.W.Fast.tw8839389370406956454 : Unit := ()
def PySem.W.Fast.tw2213274049387106393 : Unit := ()
def PySem.W.Fast.tw8306613678244455970 : Unit := ()
def PySem.W.Fast.tw14876648103784668895 : Unit := ()
def PySem.W.Fast.tw1821417468470548803 : Unit := ()
def PySem.W.Fast.tw2224876054865693333 : Unit := ()
def PySem.W.Fast.tw460014516030167337 : Unit := ()
def PySem.W.Fast.tw16991738278288517218 : Unit := ()
def PySem.W.Fast.tw9822605018837494476 : Unit := ()
def PySem.W.Fast.tw8613454311869631320 : Unit := ()
def PySem.W.Fast.tw16501613800716120162 : Unit := ()
def PySem.W.Fast.tw17440111965289432988 : Unit := ()
def PySem.W.Fast.tw10526664870905693279 : Unit := ()
def PySem.W.Fast.tw12511325847469610652 : Unit := ()
def PySem.W.Fast.tw4160615897402820929 : Unit := ()
def PySem.W.Fast.tw3377563949595942108 : Unit := ()
def PySem.W.Fast.tw9131175793072001257 : Unit := ()
def PySem.W.Fast.tw3868964489395210326 : Unit := ()
def PySem.W.Fast.tw1672762688077678321 : Unit := ()
def PySem.W.Fast.tw18419124156093421022 : Unit := ()
def PySem.W.Fast.tw1869345223765716279 : Unit := ()
def PySem.W.Fast.tw9498727677284444067 : Unit := ()
def PySem.W.Fast.tw13046041431592714749 : Unit := ()
def PySem.W.Fast.tw14739160586873878284 : Unit := ()
def PySem.W.Fast.tw380218244591837023 : Unit := ()
def PySem.W.Fast.tw4411357498031770964 : Unit := ()
def PySem.W.Fast.tw15093279111984781191 : Unit := ()
def PySem.W.Fast.tw5586558915214265520 : Unit := ()
def PySem.W.Fast.tw995723850895541898 : Unit := ()
def PySem.W.Fast.tw5842183371544493902 : Unit := ()
def PySem.W.Fast.tw529791413516939308 : Unit := ()
def PySem.W.Fast.tw6492263282158102748 : Unit := ()
def PySem.W.Fast.tw10697225016689393041 : Unit := ()
def PySem.W.Fast.tw4040446357707786976 : Unit := ()
def PySem.W.Fast.tw13872966738166613073 : Unit := ()
def PySem.W.Fast.tw5651007404856278118 : Unit := ()
def PySem.W.Fast.tw1078481768962134530 : Unit := ()
def PySem.W.Fast.tw13544934134682751937 : Unit := ()
def PySem.W.Fast.tw12885802987193561525 : Unit := ()
def PySem.W.Fast.tw17796446746946559156 : Unit := ()
def PySem.W.Fast.tw9381339749053580556 : Unit := ()
def PySem.W.Fast.tw7749852811793425701 : Unit := ()
open PySem PySem.W PyProof.Rows
set_option maxRecDepth 100000 in
set_option maxHeartbeats 0 in
theorem PySem.Challenge.cw_calmring_k27_grow_parts_and_due_holds : PySem.Challenge.rw_calmring_k27_grow_parts_and_due.Holds := by
 w_on;o_law;k_head;(case hw=>w_witness2)
 k_fill
 refine PR.law_walk (l:=PySem.Challenge.rw_calmring_k27_grow_parts_and_due) (k:=9) (x := "_law_script") rfl rfl ⟨rfl,by decide,by decide⟩ (fun w h Y=>PySem.W.kIn_of Y) ?F
 case F =>
  intro w mg fa h KX G hmg
  refine' _root_.G.fin (_root_.G.txt_mk KX G ?q1 ?q2 ?q3 ?q4 ?q5 ?q6 ?q7 ?q8 ?q9 ?q10 ?q11 ?q12 ?q13 ?q14 ?q15 ?q16 ?q17 ?q18 ?q19 ?q20 ?q21 ?q22 ?q23 ?q24 ?q25 ?q26 ?q27 ?q28 ?q29 ?q30 ?q31 ?q32 ?q33 ?q34 ?q35 ?q36 ?q37 ?q38 ?q39 ?q40 ?q41 ?q42 ?q43 ?q44 ?q45 ?q46 ?q47 ?q48 ?q49 ?q50 ?q51 ?q52 ?q53 ?q54 ?q55 ?q56 ?q57 ?q58 ?q59 ?q60 ?q61 ?q62 ?q63 ?q64 ?q65 ?q66 ?q67 ?q68 ?q69 ?q70 ?q71 ?q72 ?q73 ?q74 ?q75 ?q76 ?q77 ?q78 ?q79 ?q80 ?q81 ?q82 ?q83 ?q84 ?q85 ?q86 ?q87 ?q88 ?q89 ?q90 ?q91 ?q92 ?q93 ?q94 ?q95 ?q96 ?q97 ?q98 ?q99 ?q100 ?q101 ?q102 ?q103 ?q104 ?q105 ?q106 ?q107 ?q108 ?q109 ?q110 ?q111 ?q112 ?q113 ?q114 ?q115 ?q116 ?q117 ?q118 ?q119 ?q120 ?q121 ?q122 ?q123 ?q124 ?q125 ?q126 ?q127 ?q128 ?q129 ?q130 ?q131 ?q132 ?q133 ?q134 ?q135 ?q136 ?q137 ?q138 ?q139 ?q140 ?q141 ?q142 ?q143 ?q144 ?q145 ?q146 ?q147 ?q148 ?q149 ?q150 ?q151 ?q152 ?q153 ?q154 ?q155 ?q156 ?q157 ?q158 ?q159 ?q160 ?q161 ?q162 ?q163 ?q164 ?q165 ?q166 ?q167 ?q168 ?q169 ?q170 ?q171 ?q172 ?q173 ?q174 ?q175 ?q176 ?q177 ?q178 ?q179 ?q180 ?q181 ?q182 ?q183 ?q184 ?q185 ?q186 ?q187 ?q188 ?q189 ?q190 ?q191 ?q192 ?q193 ?q194 ?q195 ?q196 ?q197 ?q198 ?q199 ?q200 ?q201 ?q202 ?q203 ?q204 ?q205 ?q206 ?q207 ?q208 ?q209 ?q210 ?q211 ?q212 ?q213 ?q214 ?q215 ?q216 ?q217 ?q218 ?q219 ?q220 ?q221 ?q222 ?q223 ?q224 ?q225 ?q226 ?q227 ?q228 ?q229 ?q230 ?q231 ?q232 ?q233 ?q234 ?q235 ?q236 ?q237 ?q238 ?q239 ?q240 ?q241 ?q242 ?q243 ?q244 ?q245 ?q246 ?q247 ?q248 ?q249 ?q250 ?q251 ?q252 ?q253 ?q254 ?q255 ?q256 ?q257 ?q258 ?q259 ?q260 ?q261 ?q262 ?q263 ?q264 ?q265 ?q266 ?q267 ?q268 ?q269 ?q270 ?q271 ?q272 ?q273 ?q274 ?q275 ?q276 ?q277 ?q278 ?q279 ?q280 ?q281 ?q282 ?q283 ?q284 ?q285 ?q286 ?q287 ?q288 ?q289 ?q290 ?q291 ?q292 ?q293 ?q294 ?q295 ?q296 ?q297 ?q298 ?q299 ?q300 ?q301 ?q302 ?q303 ?q304 ?q305 ?q306 ?q307 ?q308 ?q309 ?q310 ?q311 ?q312 ?q313 ?q314 ?q315 ?q316 ?q317) hmg
  (case q1=>k_is)
  (case q2=>k_is)
  (case q3=>k_is)
  (case q4=>k_is)
  (case q5=>k_is)
  (case q6=>k_is)
  (case q7=>k_is)
  (case q8=>k_is)
  (case q9=>k_is)
  (case q10=>k_is)
  (case q11=>k_is)
  (case q12=>k_is)
  (case q13=>k_is)
  (case q14=>k_is)
  (case q15=>k_is)
  (case q16=>k_is)
  (case q17=>k_is)
  (case q18=>k_is)
  (case q19=>k_is)
  (case q20=>k_is)
  (case q21=>k_is)
  (case q22=>k_is)
  (case q23=>k_is)
  (case q24=>k_is)
  (case q25=>k_is)
  (case q26=>k_is)
  (case q27=>k_is)
  (case q28=>k_is)
  (case q29=>k_is)
  (case q30=>k_is)
  (case q31=>k_is)
  (case q32=>k_is)
  (case q33=>k_is)
  (case q34=>k_is)
  (case q35=>k_is)
  (case q36=>k_is)
  (case q37=>k_is)
  (case q38=>k_is)
  (case q39=>k_is)
  (case q40=>k_is)
  (case q41=>k_is)
  (case q42=>k_is)
  (case q43=>k_is)
  (case q44=>k_is)
  (case q45=>k_is)
  (case q46=>k_is)
  (case q47=>k_is)
  (case q48=>k_is)
  (case q49=>k_is)
  (case q50=>k_is)
  (case q51=>k_is)
  (case q52=>k_is)
  (case q53=>k_is)
  (case q54=>k_is)
  (case q55=>k_is)
  (case q56=>k_is)
  (case q57=>k_is)
  (case q58=>k_is)
  (case q59=>k_is)
  (case q60=>k_is)
  (case q61=>k_is)
  (case q62=>k_is)
  (case q63=>k_is)
  (case q64=>k_is)
  (case q65=>k_is)
  (case q66=>k_is)
  (case q67=>k_is)
  (case q68=>k_is)
  (case q69=>k_is)
  (case q70=>k_is)
  (case q71=>k_is)
  (case q72=>k_is)
  (case q73=>k_is)
  (case q74=>k_is)
  (case q75=>k_is)
  (case q76=>k_is)
  (case q77=>k_is)
  (case q78=>k_is)
  (case q79=>k_is)
  (case q80=>k_is)
  (case q81=>k_is)
  (case q82=>k_is)
  (case q83=>k_is)
  (case q84=>k_is)
  (case q85=>k_is)
  (case q86=>k_is)
  (case q87=>k_is)
  (case q88=>k_is)
  (case q89=>k_is)
  (case q90=>k_is)
  (case q91=>k_is)
  (case q92=>k_is)
  (case q93=>k_is)
  (case q94=>k_is)
  (case q95=>k_is)
  (case q96=>k_is)
  (case q97=>k_is)
  (case q98=>k_is)
  (case q99=>k_is)
  (case q100=>k_is)
  (case q101=>k_is)
  (case q102=>k_is)
  (case q103=>k_is)
  (case q104=>k_is)
  (case q105=>k_is)
  (case q106=>k_is)
  (case q107=>k_is)
  (case q108=>k_is)
  (case q109=>k_is)
  (case q110=>k_is)
  (case q111=>k_is)
  (case q112=>k_is)
  (case q113=>k_is)
  (case q114=>k_is)
  (case q115=>k_is)
  (case q116=>k_is)
  (case q117=>k_is)
  (case q118=>k_is)
  (case q119=>k_is)
  (case q120=>k_is)
  (case q121=>k_is)
  (case q122=>k_is)
  (case q123=>k_is)
  (case q124=>k_is)
  (case q125=>k_is)
  (case q126=>k_is)
  (case q127=>k_is)
  (case q128=>k_is)
  (case q129=>k_is)
  (case q130=>k_is)
  (case q131=>k_is)
  (case q132=>k_is)
  (case q133=>k_is)
  (case q134=>k_is)
  (case q135=>k_is)
  (case q136=>k_is)
  (case q137=>k_is)
  (case q138=>k_is)
  (case q139=>k_is)
  (case q140=>k_is)
  (case q141=>k_is)
  (case q142=>k_is)
  (case q143=>k_is)
  (case q144=>k_is)
  (case q145=>k_is)
  (case q146=>k_is)
  (case q147=>k_is)
  (case q148=>k_is)
  (case q149=>k_is)
  (case q150=>k_is)
  (case q151=>k_is)
  (case q152=>k_is)
  (case q153=>k_is)
  (case q154=>k_is)
  (case q155=>k_is)
  (case q156=>k_is)
  (case q157=>k_is)
  (case q158=>k_is)
  (case q159=>k_is)
  (case q160=>k_is)
  (case q161=>k_is)
  (case q162=>k_is)
  (case q163=>k_is)
  (case q164=>k_is)
  (case q165=>k_is)
  (case q166=>k_is)
  (case q167=>k_is)
  (case q168=>k_is)
  (case q169=>k_is)
  (case q170=>k_is)
  (case q171=>k_is)
  (case q172=>k_is)
  (case q173=>k_is)
  (case q174=>k_is)
  (case q175=>k_is)
  (case q176=>k_is)
  (case q177=>k_is)
  (case q178=>k_is)
  (case q179=>k_is)
  (case q180=>k_is)
  (case q181=>k_is)
  (case q182=>k_is)
  (case q183=>k_is)
  (case q184=>k_is)
  (case q185=>k_is)
  (case q186=>k_is)
  (case q187=>k_is)
  (case q188=>k_is)
  (case q189=>k_is)
  (case q190=>k_is)
  (case q191=>k_is)
  (case q192=>k_is)
  (case q193=>k_is)
  (case q194=>k_is)
  (case q195=>k_is)
  (case q196=>k_is)
  (case q197=>k_is)
  (case q198=>k_is)
  (case q199=>k_is)
  (case q200=>k_is)
  (case q201=>k_is)
  (case q202=>k_is)
  (case q203=>k_is)
  (case q204=>k_is)
  (case q205=>k_is)
  (case q206=>k_is)
  (case q207=>k_is)
  (case q208=>k_is)
  (case q209=>k_is)
  (case q210=>k_is)
  (case q211=>k_is)
  (case q212=>k_is)
  (case q213=>k_is)
  (case q214=>k_is)
  (case q215=>k_is)
  (case q216=>k_is)
  (case q217=>k_is)
  (case q218=>k_is)
  (case q219=>k_is)
  (case q220=>k_is)
  (case q221=>k_is)
  (case q222=>k_is)
  (case q223=>k_is)
  (case q224=>k_is)
  (case q225=>k_is)
  (case q226=>k_is)
  (case q227=>k_is)
  (case q228=>k_is)
  (case q229=>k_is)
  (case q230=>k_is)
  (case q231=>k_is)
  (case q232=>kernel_rfl)
  (case q233=>k_is)
  (case q234=>k_is)
  (case q235=>k_is)
  (case q236=>k_is)
  (case q237=>kernel_rfl)
  (case q238=>k_is)
  (case q239=>k_is)
  (case q240=>k_is)
  (case q241=>k_is)
  (case q242=>kernel_rfl)
  (case q243=>k_is)
  (case q244=>k_is)
  (case q245=>k_is)
  (case q246=>k_is)
  (case q247=>kernel_rfl)
  (case q248=>k_is)
  (case q249=>k_is)
  (case q250=>k_is)
  (case q251=>k_is)
  (case q252=>kernel_rfl)
  (case q253=>k_is)
  (case q254=>k_is)
  (case q255=>k_is)
  (case q256=>k_is)
  (case q257=>k_is)
  (case q258=>k_is)
  (case q259=>k_is)
  (case q260=>k_is)
  (case q261=>k_is)
  (case q262=>k_is)
  (case q263=>k_is)
  (case q264=>k_is)
  (case q265=>k_is)
  (case q266=>k_is)
  (case q267=>k_is)
  (case q268=>k_is)
  (case q269=>k_is)
  (case q270=>k_is)
  (case q271=>k_is)
  (case q272=>k_is)
  (case q273=>k_is)
  (case q274=>k_is)
  (case q275=>k_is)
  (case q276=>k_is)
  (case q277=>k_is)
  (case q278=>k_is)
  (case q279=>k_is)
  (case q280=>k_is)
  (case q281=>k_is)
  (case q282=>k_is)
  (case q283=>k_is)
  (case q284=>k_is)
  (case q285=>k_is)
  (case q286=>k_is)
  (case q287=>k_is)
  (case q288=>k_is)
  (case q289=>k_is)
  (case q290=>k_is)
  (case q291=>k_is)
  (case q292=>k_is)
  (case q293=>k_is)
  (case q294=>k_is)
  (case q295=>k_is)
  (case q296=>k_is)
  (case q297=>k_is)
  (case q298=>k_is)
  (case q299=>k_is)
  (case q300=>k_is)
  (case q301=>k_is)
  (case q302=>k_is)
  (case q303=>k_is)
  (case q304=>k_is)
  (case q305=>k_is)
  (case q306=>k_is)
  (case q307=>k_is)
  (case q308=>k_is)
  (case q309=>k_is)
  (case q310=>k_is)
  (case q311=>k_is)
  (case q312=>k_is)
  (case q313=>k_is)
  (case q314=>k_is)
  (case q315=>k_is)
  (case q316=>k_is)
  (case q317=>kernel_rfl)
