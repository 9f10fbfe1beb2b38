import PyProof.Rows.All
import Wide.All
import OpenK.AllK
import Wide.FinOn
import Lean
import PyProof.EqAt
import PyProof.EqKinds
import PyProof.TupleCall
import PySem.Challenge.RW_calmring_k40_drive
abbrev Gc:=PySem.Value->PySem.Shared->Prop
abbrev Ge:=PySem.Str->Option PySem.Value
abbrev Gf:=List (Int×Int)
abbrev Gg:=List (PySem.Addr×PySem.Obj)
abbrev Gh:=PySem.Addr->Prop
abbrev Gi:=List Int
abbrev Gj:=List PySem.Value
abbrev Gk:=List PySem.Addr
abbrev Gm:=List PySem.Str
abbrev Gn:=Option Int
abbrev Go:=Array PySem.Value
open List(range mem_filter mem_range mem_cons_self mem_cons_of_mem mem_cons mem_append mem_append_left getElem_inj getElem?_set_self getElem?_set_ne mem_append_right size_toArray length_cons map_cons length_map append_nil nodup_cons of_mem_zip replicate length_take getElem?_append_right getElem?_replicate getElem?_append_left getElem?_map length_append length_set replicate_succ flatten_cons foldl append_assoc Pairwise nodup_nil nodup_append lookup_cons Sublist all_cons pairwise_cons mem_map all_eq_true not_mem_nil getD_eq_getElem?_getD getElem_of_mem getElem?_eq_getElem nodup_range take_add_one take_length getElem?_cons_succ getElem?_cons_zero getElem?_set Nodup map_map set_set mem_singleton map_id' length_filter_le length_pos_iff)
open PySem.W(instObj methodObj hideAll hideAll_get lookIn plainGet hasDictIn handedIn plainGet_of plainOver takerIn makesIn emptyDict callWith_K kitOne kia_one mroIn clsIn excIn specialIn readsIn findCls fnMade exmOne mg_of tabIn envX fnX CodeHd FnAt)
open PySem.Heap(lt_size SameBut get?_push_of_some get?_push_size size_push get?_update_other ExtBut)
open Nat(lt_succ_self zero_le le_succ)
open Bool(or_eq_false_iff and_eq_true false_eq_true not_eq_true' or_eq_true)
open Option(isSome_iff_exists map_eq_some_iff join_some)
open Int(toNat_natCast emod_nonneg emod_lt_of_pos)
open PyProof.Rows(firstMet evalArgs_kw2 step_dedup)
set_option Elab.async false
set_option linter.all false
set_option maxRecDepth 100000
noncomputable section
set_option genSizeOf false
set_option compiler.extract_closed false
set_option bootstrap.genMatcherCode false
namespace L2
open PySem PySem.Spec PyProof.Rows
abbrev Key:=Sum Int Str
def zM:Key->Value->Bool
 |.inl k,v=>Value.isInt k v
 |.inr x,v=>Value.isStrOf x v
def FC(w:World):Key->Int
 |.inl k=>hashInt k
 |.inr x=>hashStr w x
def bI:∀{k:Key}{v:Value},zM k v=true->(∃i t,k=Sum.inl i/\v=Value.int i t)\/(∃x t,k=Sum.inr x/\v=Value.str x t)
 |.inl i,v,h=>by obtain⟨t,e⟩:=Value.isInt_shape (k:=i) (v:=v) h;exact .inl ⟨i,t,rfl,e⟩
 |.inr x,v,h=>by obtain⟨t,e⟩:=Value.isStrOf_shape (x:=x) (v:=v) h;exact .inr ⟨x,t,rfl,e⟩
def Bg(a b:Int):decide ((Sum.inl a:Key)=Sum.inl b)=(a==b):=by
 by_cases e:a=b
 ·subst e;simp
 ·have h:¬(Sum.inl a:Key)=Sum.inl b:=fun q=>e (Sum.inl.inj q);rw[decide_eq_false h];exact(beq_eq_false_iff_ne.mpr e).symm
def Bd(a b:Str):decide ((Sum.inr a:Key)=Sum.inr b)=decide (a=b):=by
 by_cases e:a=b
 ·subst e;simp
 ·have h:¬(Sum.inr a:Key)=Sum.inr b:=fun q=>e (Sum.inr.inj q);rw[decide_eq_false h,decide_eq_false e]
def Bf(a:Int)(b:Str):decide ((Sum.inl a:Key)=Sum.inr b)=false:=decide_eq_false (fun q=>nomatch q)
def Be(a:Str)(b:Int):decide ((Sum.inr a:Key)=Sum.inl b)=false:=decide_eq_false (fun q=>nomatch q)
def mf(prog:Program)(w:World):PySem.KeyKind prog w Key where
 is:=zM
 hash:=FC w
 inj:=fun v a b ha hb=>by
  rcases bI ha with⟨i,t,rfl,rfl⟩ |⟨x,t,rfl,rfl⟩
  ·rcases bI hb with⟨j,u,rfl,e⟩ |⟨y,u,rfl,e⟩
   ·injection e with e1 _;rw[e1]
   ·exact nomatch e
  ·rcases bI hb with⟨j,u,rfl,e⟩ |⟨y,u,rfl,e⟩
   ·exact nomatch e
   ·injection e with e1 _;rw[e1]
 byValue:=fun k v h=>by rcases bI h with⟨i,t,rfl,rfl⟩ |⟨x,t,rfl,rfl⟩<;>rfl
 pyHash:=fun hv h=>by
  rcases bI hv with⟨i,t,rfl,rfl⟩ |⟨x,t,rfl,rfl⟩
  ·exact wpAny_pyHash_int h
  ·exact wpAny_pyHash_str h
 eqBool:=fun hu hv h=>by
  rcases bI hu with⟨i,t,rfl,rfl⟩ |⟨x,t,rfl,rfl⟩
  ·rcases bI hv with⟨j,u,rfl,rfl⟩ |⟨y,u,rfl,rfl⟩
   ·rw[Bg]at h;exact wpAny_eqBool_int h
   ·rw[Bf]at h;exact SeqAt.EqAt.int_str i t y u _ _ _ _ h
  ·rcases bI hv with⟨j,u,rfl,rfl⟩ |⟨y,u,rfl,rfl⟩
   ·rw[Be]at h;exact SeqAt.EqAt.str_int x t j u _ _ _ _ h
   ·rw[Bd]at h;exact wpAny_eqBool_str h
 «strs»:=fun k x t v h=>by
  rcases bI h with⟨i,u,rfl,e⟩ |⟨y,u,rfl,e⟩
  ·exact nomatch e
  ·injection e with e1 _;subst e1;cases v<;>rfl
end L2
namespace L2
open PySem PySem.Spec PyProof.Rows
inductive V where
 |non|bl (b:Bool)|int (i:Int)|str (x:Str)|byt (b:Array UInt8)|flt (b:UInt64)|ref (a:Addr)|ty (n:String)
 deriving DecidableEq
abbrev Gp:=List V
def bf:V->Value->Prop
 |.non,u=>u=Value.none
 |.bl b,u=>u=Value.bool b
 |.int i,u=>∃t,u=Value.int i t
 |.str x,u=>∃t,u=Value.str x t
 |.byt b,u=>∃t,u=Value.bytes b t
 |.flt b,u=>∃t,u=Value.float b t
 |.ref a,u=>u=Value.ref a
 |.ty n,u=>u=Value.type n
abbrev aE:Gp->Gj->Prop:=Paired bf
def aE.length{xs:Gp}{us:Gj}(r:aE xs us):xs.length=us.length:=Paired.length r
def aE.get:∀{xs:Gp}{us:Gj}{i:Nat}{x:V},aE xs us->xs[i]?=some x->∃u,us[i]?=some u/\bf x u
 |_,_,_,_,.nil,e=>by simp at e
 |_,_,0,_,.cons r _,e=>by simp at e;subst e;exact⟨_,rfl,r⟩
 |_,_,i+1,x,.cons _ t,e=>by obtain⟨u,h1,h2⟩:=aE.get (i:=i) (x:=x) t (by simpa using e);exact⟨u,by simpa using h1,h2⟩
def aE.set{x:V}{u:Value}(r:bf x u):∀{xs:Gp}{us:Gj} (i:Nat),aE xs us->aE (xs.set i x) (us.set i u)
 |_,_,_,.nil=>.nil
 |_,_,0,.cons _ t=>.cons r t
 |_,_,i+1,.cons q t=>.cons q (aE.set r i t)
def aE.append:∀{xs ys:Gp}{us ws:Gj},aE xs us->aE ys ws->aE (xs++ys) (us++ws)
 |_,_,_,_,.nil,s=>s
 |_,_,_,_,.cons r t,s=>.cons r (aE.append t s)
def aE.take:∀{xs:Gp}{us:Gj} (n:Nat),aE xs us->aE (xs.take n) (us.take n)
 |_,_,0,_|_,_,_+1,.nil=>.nil
 |_,_,n+1,.cons r t=>.cons r (aE.take n t)
def aE.drop:∀{xs:Gp}{us:Gj} (n:Nat),aE xs us->aE (xs.drop n) (us.drop n)
 |_,_,0,r=>r
 |_,_,_+1,.nil=>.nil
 |_,_,n+1,.cons _ t=>aE.drop n t
def kK:Option V->Option Value->Prop
 |some v,some u=>bf v u
 |none,none=>True
 |_,_=>False
def KV{κ:Type}:List (κ×V)->List (κ×Value)->Prop:=Paired fun(p:κ×V) (q:κ×Value)=>p.1=q.1/\bf p.2 q.2
def kV:Key->V
 |.inl i=>.int i
 |.inr x=>.str x
inductive HO where
 |lst (xs:Gp)
 |tup (xs:Gp)
 |dK (kvs:List (Key×V))|dT (kvs:List (List Key×V))
 |set(S:Int->Bool) (n:Nat)
 |ins (C dx:Addr) (fs:List (Str×V))
 |own (x:Addr)
 |xd (fs:List (Str×V))
 |met (f x:Addr)
 |rng (lo hi:Int)
 |frz (o:Obj) (u:HO)
 |tbl (ps:Go)
 |ext (φ:Heap->Prop)
abbrev Hp:=Addr->Option HO
abbrev Gq:=Hp->Prop
def upd(H:Hp)(a:Addr)(o:HO):Hp:=fun b=>if b=a then some o else H b
def aM{H:Hp}{a:Addr}{o:HO}:upd H a o a=some o:=by unfold upd;rw[if_pos rfl]
def az{H:Hp}{a b:Addr}{o:HO}(h:b≠a):upd H a o b=H b:=by unfold upd;rw[if_neg h]
def aY{H:Hp}{a b:Addr}{o:HO}(h:H a=some o)(h':H b=none):a≠b:=by intro e;subst e;rw[h]at h';cases h'
section
variable(P:Program)(w:World)
def Kp:HO->Prop
 |.tup _|.frz _ _=>True
 |_=>False
def Tab(H:Hp)(ps qs:Go):Prop:=qs=#[]\/ ∃l c q t0 c' oc u vs t,ps=#[l,c,.str q t0]/\qs=#[l,c,.ref c']/\H c'=some (.frz oc u)/\oc.data=.fields vs/\vs[1]?=some (.str q t)
def cD(H:Hp)(h:Heap)(a:Addr):HO->Prop
 |.lst xs=>xs.length<=sizeLine/\∃(its:Gj) (n:Nat),aE xs its/\h.get? a=some {cls:=.type "list",data:=.seq its.toArray n}
 |.tup xs=>xs.length<=sizeLine/\∃its:Gj,aE xs its/\IsTup h a its.toArray
 |.dK kvs=>kvs.length<=sizeLine/\(a==sysModules)=false/\∃vs,KV kvs vs/\h.DictOf (mf P w) a vs
 |.dT kvs=>kvs.length<=sizeLine/\(a==sysModules)=false/\∃xs:List (List Key×Addr×Value),
   Paired (fun(p:List Key×V) (q:List Key×Addr×Value)=>p.1=q.1/\H q.2.1=some (.tup (p.1.map kV))/\bf p.2 q.2.2) kvs xs /\
   ∃o es ep,h.get? a=some o/\o.ExactDict/\o.data=.dict es ep/\es.toList=xs.map (entryOfKey (tupleKind (mf P w)))/\(xs.map (·.1)).Nodup
 |.set S n=>h.SetOf (intKind P w) a S n
 |.ins C dx fs=>H dx=some (.own a)/\fs.length<=1000/\dx≠a/\h.get? a=some (instObj C dx)/\
   ∃mA,h.Ns1 dx mA/\(∀f,kK (fs.lookup f) (mA f))/\PySem.Within mA (fs.map (·.1))
 |.own _=>∃o,h.get? a=some o
 |.xd fs=>∃mA,h.Ns1 a mA/\∀f,kK (fs.lookup f) (mA f)
 |.rng lo hi=>∃t u v,h.get? a=some {cls:=.type "range",data:=.fields #[.int lo t,.int hi u,.int 1 v]}
 |.frz o u=>h.get? a=some o/\cD H h a u
 |.tbl ps=>∃qs,h.get? a=some {cls:=.none,data:=.fields qs}/\Tab H ps qs
 |.met f x=>h.get? a=some (methodObj (.ref f) (.ref x))
 |.ext φ=>φ h/\(∃o,h.get? a=some o)/\∀h1 h2:Heap,φ h1->(∀o,h1.get? a=some o->h2.get? a=some o)->φ h2
def HOk(H:Hp)(h:Heap):Prop:=∀a o,H a=some o->cD P w H h a o
end
section
variable{P:Program}{w:World}{H H':Hp}{h h':Heap}{a:Addr}{o:HO}
def cD.lt(x:cD P w H h a o):a<h.objs.size:=by
 cases o with
 |lst xs=>obtain⟨_,_,_,_,e⟩:=x;exact lt_size e
 |tup xs=>obtain⟨_,_,_,p⟩:=x;exact p.lt
 |dK kvs|dT kvs=>obtain⟨_,_,_,_,o,_,_,e,_⟩:=x;exact lt_size e
 |set S n=>obtain⟨o,_,_,_,e,_⟩:=x;exact lt_size e
 |ins C dx fs=>obtain⟨_,_,_,e,_⟩:=x;exact lt_size e
 |own y=>obtain⟨_,e⟩:=x;exact lt_size e
 |xd fs=>obtain⟨_,⟨_,_,_,e,_⟩,_⟩:=x;exact lt_size e
 |rng lo hi=>obtain⟨_,_,_,e⟩:=x;exact lt_size e
 |frz ob u=>obtain⟨e,_⟩:=x;exact lt_size e
 |tbl ps=>obtain⟨_,e,_⟩:=x;exact lt_size e
 |met f y=>exact lt_size (show h.get? a=some _ from x)
 |ext φ=>obtain⟨_,⟨_,e⟩,_⟩:=x;exact lt_size e
def Paired.mapP{α β:Type}{F G:α->β->Prop}:∀{l₁:List α}{l₂:List β},Paired F l₁ l₂->(∀a b,F a b->G a b)->Paired G l₁ l₂
 |_,_,.nil,_=>.nil
 |_,_,.cons r t,f=>.cons (f _ _ r) (Paired.mapP t f)
def cD.stay(x:cD P w H h a o)(k:∀b u,(b=a\/H b=some (.own a))->h.get? b=some u->h'.get? b=some u)
  (ho:∀b,H b=some (.own a)->H' b=some (.own a)) (ht:∀b u,Kp u->H b=some u->H' b=some u):cD P w H' h' a o:=by
 induction o with
 |lst xs=>obtain⟨z,its,n,r,e⟩:=x;exact⟨z,its,n,r,k _ _ (.inl rfl) e⟩
 |tup xs=>obtain⟨z,its,r,ob,e,c⟩:=x;exact⟨z,its,r,ob,k _ _ (.inl rfl) e,c⟩
 |dK kvs=>obtain⟨z,y,vs,r,ob,es,ep,e,c⟩:=x;exact⟨z,y,vs,r,ob,es,ep,k _ _ (.inl rfl) e,c⟩
 |dT kvs=>obtain⟨z,y,xs,r,ob,es,ep,e,c⟩:=x;exact⟨z,y,xs,Paired.mapP r fun p q z=>⟨z.1,ht _ _ True.intro z.2.1,z.2.2⟩,ob,es,ep,k _ _ (.inl rfl) e,c⟩
 |set S n=>obtain⟨ob,es,ep,t,e,c⟩:=x;exact⟨ob,es,ep,t,k _ _ (.inl rfl) e,c⟩
 |ins C dx fs=>obtain⟨d,z,ne,e,mA,⟨od,es,ep,e2,c⟩,r⟩:=x;exact⟨ho _ d,z,ne,k _ _ (.inl rfl) e,mA,⟨od,es,ep,k _ _ (.inr d) e2,c⟩,r⟩
 |own y=>obtain⟨ob,e⟩:=x;exact⟨ob,k _ _ (.inl rfl) e⟩
 |xd fs=>obtain⟨mA,⟨od,es,ep,e,c⟩,r⟩:=x;exact⟨mA,⟨od,es,ep,k _ _ (.inl rfl) e,c⟩,r⟩
 |rng lo hi=>obtain⟨t,u,v,e⟩:=x;exact⟨t,u,v,k _ _ (.inl rfl) e⟩
 |frz ob u ih=>obtain⟨e,q⟩:=x;exact⟨k _ _ (.inl rfl) e,ih q⟩
 |tbl ps=>obtain⟨qs,e,c⟩:=x;exact⟨qs,k a _ (.inl rfl) e,c.imp (fun z=>z) fun z=>by obtain⟨l,c,q,t0,c',oc,u,vs,t,e1,e2,e3,r⟩:=z;exact⟨l,c,q,t0,c',oc,u,vs,t,e1,e2,ht _ _ True.intro e3,r⟩⟩
 |met f y=>have e:h.get? a=some (methodObj (.ref f) (.ref y)):=x;show h'.get? a=some (methodObj (.ref f) (.ref y));exact k a _ (.inl rfl) e
 |ext φ=>obtain⟨p,⟨o,e⟩,st⟩:=x;exact⟨st _ _ p fun o q=>k _ _ (.inl rfl) q,⟨o,k _ _ (.inl rfl) e⟩,st⟩
def HOk.lt(x:HOk P w H h)(e:H a=some o):a<h.objs.size:=(x a o e).lt
def HOk.fresh(x:HOk P w H h)(e:h.objs.size<=a):H a=none:=by
 cases q:H a with
 |none=>rfl
 |some u=>exact absurd (Nat.lt_of_lt_of_le (x.lt q) e) (Nat.lt_irrefl _)
def HOk.kept(x:HOk P w H h)(k:∀b u,h.get? b=some u->h'.get? b=some u):HOk P w H h':=fun a o e=>
 (x a o e).stay (fun b u _ q=>k b u q) (fun _ q=>q) fun _ _ _ q=>q
def HOk.laid(x:HOk P w H h)(k:∀b u,h.get? b=some u->h'.get? b=some u)(hp:h.objs.size<=a)(new:cD P w (upd H a o) h' a o):HOk P w (upd H a o) h':=fun b u e=>by
 have hn:=x.fresh hp;by_cases hb:b=a
 ·subst hb;rw[aM]at e;cases e;exact new
 ·rw[az hb]at e;exact(x b u e).stay (fun c v _ q=>k c v q) (fun c q=>by rw[az (aY q hn)];exact q) fun c xs _ q=>by rw[az (aY q hn)];exact q
end
def Rd(H:Hp)(a:Addr)(u:HO):Prop:=H a=some u\/∃o,H a=some (.frz o u)
def Rd.ok{P:Program}{w:World}{H:Hp}{h:Heap}{a:Addr}{u:HO}(r:Rd H a u)(x:HOk P w H h):cD P w H h a u:=by
 rcases r with r |⟨o,r⟩
 ·exact x a u r
 ·obtain⟨_,q⟩:=x a _ r;exact q
def Mut:Option HO->Prop
 |some (.lst _)|some (.dK _)|some (.dT _)|some (.set _ _)|some (.ins _ _ _)|some (.ext _)=>True
 |_=>False
section
variable{P:Program}{w:World}{H:Hp}{h h':Heap}{x e:Addr}{o':HO}
def HOk.write(ok:HOk P w H h)(mu:Mut (H x))(he:e=x\/H e=some (.own x))(k:∀b u,b≠e->h.get? b=some u->h'.get? b=some u)(heo:∃u,h'.get? e=some u)
  (new:cD P w (upd H x o') h' x o'):HOk P w (upd H x o') h':=fun b u q=>by
 have nown:∀c y,H c=some (.own y)->c≠x:=fun c y r z=>by subst z;rw[r]at mu;exact mu
 have ntup:∀c u,Kp u->H c=some u->c≠x:=fun c u h r z=>by subst z;rw[r]at mu;cases u<;>first|exact h|exact mu
 by_cases hb:b=x
 ·subst hb;rw[aM]at q;cases q;exact new
 ·rw[az hb]at q;by_cases hbe:b=e
  ·have q':H b=some (.own x):=by
    rcases he with z|z
    ·exact absurd (hbe.trans z) hb
    ·rw[hbe];exact z
   rw[q]at q';cases q';obtain⟨v,hv⟩:=heo;exact⟨v,by rw[hbe];exact hv⟩
  ·refine(ok b u q).stay (fun c v hc r=>k c v ?_ r) (fun c r=>by rw[az (nown c b r)];exact r) fun c xs h r=>by rw[az (ntup c xs h r)];exact r
   rcases hc with rfl|hc
   ·exact hbe
   ·rintro rfl;rcases he with z|z
    ·exact nown c b hc z
    ·rw[hc]at z;cases z;exact hb rfl
end
structure Un(fs ex:Gk)(H H':Hp)(h h':Heap):Prop where
 keep:∀b o,h.get? b=some o->H b=none->b∉fs->b∉ex->h'.get? b=some o
 slot:∀b o,h.get? b=some o->H b=none->b∈fs->b∉ex->∃sl,h'.get? b=some {o with slots:=sl}
 free:∀b o,h.get? b=some o->H b=none->b∉ex->H' b=none
 there:∀b o,h.get? b=some o->b∉ex->∃o',h'.get? b=some o'
 tups:∀b xs,H b=some (.tup xs)->H' b=some (.tup xs)
 frzs:∀b o u,H b=some (.frz o u)->H' b=some (.frz o u)
 tbls:∀b ps,H b=some (.tbl ps)->∃more,H' b=some (.tbl (ps++more))
section
variable{fs fs' ex ex':Gk}{H H1 H2:Hp}{h h1 h2 h':Heap}{a x e:Addr}{o:HO}
def Un.any(u:Un fs ex H H1 h h1){b:Addr}{ob:Obj}(q:h.get? b=some ob)(n:H b=none)(hx:b∉ex):∃sl,h1.get? b=some {ob with slots:=sl}:=by
 by_cases hb:b∈fs
 ·exact u.slot b ob q n hb hx
 ·exact⟨ob.slots,u.keep b ob q n hb hx⟩
def Un.trans(a:Un fs ex H H1 h h1)(b:Un fs ex H1 H2 h1 h2):Un fs ex H H2 h h2 where
 keep:=fun c ob q n hc hx=>b.keep c ob (a.keep c ob q n hc hx) (a.free c ob q n hx) hc hx
 slot:=fun c ob q n hc hx=>by obtain⟨sl,e1⟩:=a.slot c ob q n hc hx;obtain⟨sl',e2⟩:=b.slot c _ e1 (a.free c ob q n hx) hc hx;exact⟨sl',e2⟩
 free:=fun c ob q n hx=>by obtain⟨o',e1⟩:=a.there c ob q hx;exact b.free c o' e1 (a.free c ob q n hx) hx
 there:=fun c ob q hx=>by obtain⟨o',e1⟩:=a.there c ob q hx;exact b.there c o' e1 hx
 tups:=fun c xs q=>b.tups c xs (a.tups c xs q)
 frzs:=fun c ob xs q=>b.frzs c ob xs (a.frzs c ob xs q)
 tbls:=fun c ps q=>by obtain⟨m1,e1⟩:=a.tbls c ps q;obtain⟨m2,e2⟩:=b.tbls c _ e1;exact⟨m1++m2,by rw[e2,Array.append_assoc]⟩
def Un.kept(k:∀b u,h.get? b=some u->h'.get? b=some u):Un fs ex H H h h':=
 ⟨fun b ob q _ _ _=>k b ob q,fun b ob q _ _ _=>⟨ob.slots,k b ob q⟩,fun _ _ _ n _=>n,fun b ob q _=>⟨ob,k b ob q⟩,fun _ _ q=>q,fun _ _ _ q=>q,fun _ ps q=>⟨#[],by rw[q];simp⟩⟩
def Un.refl:Un fs ex H H h h:=Un.kept fun _ _ q=>q
def Un.laid(k:∀b u,h.get? b=some u->h'.get? b=some u)(hp:h.objs.size<=a)(hn:H a=none):Un fs ex H (upd H a o) h h' where
 keep:=fun b u q _ _ _=>k b u q
 slot:=fun b u q _ _ _=>⟨u.slots,k b u q⟩
 free:=fun b u q n _=>by rw[az (Nat.ne_of_lt (Nat.lt_of_lt_of_le (lt_size q) hp))];exact n
 there:=fun b u q _=>⟨u,k b u q⟩
 tups:=fun b xs q=>by rw[az (aY q hn)];exact q
 frzs:=fun b u xs q=>by rw[az (aY q hn)];exact q
 tbls:=fun b ps q=>⟨#[],by rw[az (aY q hn),q];simp⟩
def Un.write(mu:Mut (H x))(he:e=x\/H e=some (.own x))(k:∀b u,b≠e->h.get? b=some u->h'.get? b=some u)(heo:∃u,h'.get? e=some u):Un fs ex H (upd H x o) h h':=by
 have hx:∀b,H b=none->b≠x:=fun b n z=>by subst z;rw[n]at mu;exact mu
 have hb:∀b,H b=none->b≠e:=fun b n z=>by
  subst z;rcases he with r|r
  ·exact hx b n r
  ·rw[n]at r;cases r
 have hm:∀b u,H b=some u->¬Mut (some u)->b≠x:=fun b u q nm z=>by subst z;rw[q]at mu;exact nm mu
 refine ⟨fun b u q n _ _=>k b u (hb b n) q,fun b u q n _ _=>⟨u.slots,k b u (hb b n) q⟩,fun b u q n _=>by rw [az (hx b n)];exact n,fun b u q _=>?_,
  fun b xs q=>by rw[az (hm b _ q fun z=>z)];exact q,fun b u xs q=>by rw[az (hm b _ q fun z=>z)];exact q,fun b ps q=>⟨#[],by rw[az (hm b _ q fun z=>z),q];simp⟩⟩
 by_cases hbe:b=e
 ·subst hbe;exact heo
 ·exact⟨u,k b u hbe q⟩
def Un.mono(u:Un fs ex H H1 h h1)(hs:∀b∈fs,b∈fs')(hx:∀b∈ex,b∈ex'):Un fs' ex' H H1 h h1:=
 ⟨fun b ob q n hb he=>u.keep b ob q n (fun z=>hb (hs b z)) fun z=>he (hx b z),fun _ _ q n _ he=>u.any q n fun z=>he (hx _ z),fun b ob q n he=>u.free b ob q n fun z=>he (hx b z),fun b ob q he=>u.there b ob q fun z=>he (hx b z),u.tups,u.frzs,u.tbls⟩
end
def trk(h:Heap)(H:Hp):Gk:=(range h.objs.size).filter fun a=>(H a).isSome
def ka(h:Heap)(H:Hp):Heap:=hideAll h (trk h H)
def tj(h:Heap)(H:Hp):(ka h H).objs.size=h.objs.size:=PySem.W.hideAll_size _ _
def vZ{h:Heap}{H:Hp}{b:Addr}{o:Obj}(e:h.get? b=some o)(n:H b=none):(ka h H).get? b=some o:=
 hideAll_get _ e fun hm=>by have q:(H b).isSome=true:=(mem_filter.mp hm).2;rw[n]at q;simp at q
def yq{h:Heap}{H:Hp}{b:Addr}{o:Obj}(e:(ka h H).get? b=some o):h.get? b=some o/\H b=none:=by
 have e':h.get? b=some o:=PySem.W.of_hideAll (trk h H) e;refine⟨e',?_⟩;cases q:H b with
 |none=>rfl
 |some x=>have hm:b∈trk h H:=mem_filter.mpr ⟨mem_range.mpr (lt_size e'),by simp[q]⟩;have z:(ka h H).get? b=none:=PySem.W.hideAll_none (trk h H) hm;rw[z]at e;cases e
def zr(g h:Heap)(L:Addr):Gg:=(range h.objs.size).filterMap fun a=>if a=L \/(g.get? a).isSome=true then none else(h.get? a).map fun o=>(a,o)
def aV(g h:Heap)(L d:Addr):Gg:=(zr g h L).filter fun p=>decide (p.1≠d)
end L2
namespace L2
open PySem PySem.Spec PyProof.Rows
structure Mod(K:PySem.W.Frag)(mg:Ge)(base:Heap):Prop where
 kin:K.In base
 glob:base.Ns mainGlobals mg
 blt:∃mb,base.Ns builtinsNs mb/\∀x:Str,x≠"__name__" -> mb x=bootBuiltins x
 nolimit:base.NoLimit
structure Cx where
 prog:Program
 w:World
 K:PySem.W.Frag
 mg:Ge
 base:Heap
 A:Around
 N:Gm
 s₀:Shared
 H₀:Hp
 env:Env
 outer:List Env
 stack:List Env
 ex:Gk
 fn:Str->Bool
 calm:Bool
 pn:Gg
 xe:Gc
def frs(l:List Env):Gk:=l.filterMap (·.frame)
abbrev Cx.fs(X:Cx):Gk:=frs X.outer
def Vis(sc:Scope)(x:Str):Prop:=sc.names.lookup x=some .local\/sc.names.lookup x=some .cell\/sc.names.lookup x=some .free
def Loc(sc:Scope)(x:Str):Prop:=sc.names.lookup x=some .local\/sc.names.lookup x=some .cell
def FV(env:Env)(h:Heap)(m:Ge)(x:Str)(u:Value):Prop:=
 (env.kindOf x=some .local/\m x=some u)\/((env.kindOf x=some .cell\/env.kindOf x=some .free)/\∃c,env.cells.lookup x=some c/\h.IsCell c (some u))
structure Cx.Ok(X:Cx):Prop where
 mod:Mod X.K X.mg X.base
 kind:X.env.scope.kind=.function
 glob:X.env.globals=mainGlobals
 blt:X.env.builtins=builtinsNs
 above:X.s₀.heap.objs.size<=X.env.locals
 inj:∀x y c,X.env.cells.lookup x=some c->X.env.cells.lookup y=some c->x=y
 has:∀x,(X.env.kindOf x=some .cell\/X.env.kindOf x=some .free)->∃c,X.env.cells.lookup x=some c
 cab:∀x c,X.fn x=true->X.env.cells.lookup x=some c->X.s₀.heap.objs.size<=c
 hd:X.calm=true->X.A.handled=none
 frames:X.A.frames=some X.stack
 stk:X.stack=X.outer \/(X.stack=X.env::X.outer/\X.env.frame=some X.env.locals)
 exf:∀b∈X.ex,b≠X.env.locals/\∀x c,X.env.cells.lookup x=some c->c≠b
 bs:∀b o,X.base.get? b=some o->X.s₀.heap.get? b=some o/\X.H₀ b=none
 bsz:X.base.objs.size<=X.s₀.heap.objs.size
 noex:∀b o,X.base.get? b=some o->b∉X.ex
 exfs:∀b∈X.ex,b∉X.fs
 funs:X.s₀.heap.FunFrames X.base X.outer
 frf:∀b∈X.fs,X.H₀ b=none
structure Inv(X:Cx)(js:Gg)(Y:List (Option V))(H:Hp)(s:Shared):Prop where
 ok:X.Ok
 os:s.os=X.s₀.os
 bare:AllBare s.gens
 base:Un X.fs X.ex X.H₀ H X.s₀.heap s.heap
 loc:∃m,s.heap.Ns X.env.locals m/\∀(i:Nat) (x:Str) (v:V),X.N[i]?=some x->Y[i]?=some (some v)->Vis X.env.scope x->∃u,bf v u/\FV X.env s.heap m x u
 cell:∀x c,X.env.cells.lookup x=some c->∃v,s.heap.IsCell c v
 free:H X.env.locals=none
 freeC:∀x c,X.env.cells.lookup x=some c->H c=none\/X.fn x=false/\∃o u,H c=some (.frz o u)
 pin:∀p∈X.pn++js,s.heap.get? p.1=some p.2/\H p.1=none/\p.1≠X.env.locals/\p.1∉X.fs/\∀v,p.2.data≠.cell v
 hok:HOk X.prog X.w H s.heap
 len:Y.length=X.N.length
section
variable{X:Cx}{js:Gg}{Y:List (Option V)}{H H':Hp}{s:Shared}{h':Heap}
def Cx.Ok.nofr(ok:X.Ok){b:Addr}{o:Obj}(e:X.base.get? b=some o):b∉X.fs:=fun hb=>by have:=(ok.funs.mem hb).1;rw[e]at this;cases this
def Inv.bs(I:Inv X js Y H s):∀b o,X.base.get? b=some o->s.heap.get? b=some o/\H b=none:=fun b o e=>
 ⟨I.base.keep b o (I.ok.bs b o e).1 (I.ok.bs b o e).2 (I.ok.nofr e) (I.ok.noex b o e),I.base.free b o (I.ok.bs b o e).1 (I.ok.bs b o e).2 (I.ok.noex b o e)⟩
def Inv.bk(I:Inv X js Y H s):∀b o,X.base.get? b=some o->s.heap.get? b=some o:=fun b o e=>(I.bs b o e).1
def Inv.mod(I:Inv X js Y H s):Mod X.K X.mg X.base:=I.ok.mod
def Inv.kIn(I:Inv X js Y H s):X.K.In s.heap:=I.ok.mod.kin.keeps I.bk
def Inv.lt(I:Inv X js Y H s):X.env.locals<s.heap.objs.size:=let⟨_,hn,_⟩:=I.loc;hn.lt
def Inv.sz(I:Inv X js Y H s):X.s₀.heap.objs.size<=s.heap.objs.size:=Nat.le_trans I.ok.above (Nat.le_of_lt I.lt)
def Inv.nofs(I:Inv X js Y H s){a:Addr}(h:s.heap.objs.size<=a):a∉X.fs:=fun hb=>by obtain⟨_,o,ho,_⟩:=I.ok.funs.mem hb;exact absurd (Nat.lt_of_lt_of_le (lt_size ho) (Nat.le_trans I.sz h)) (Nat.lt_irrefl _)
def Inv.cne(I:Inv X js Y H s):∀x c,X.env.cells.lookup x=some c->c≠X.env.locals:=fun x c e z=>by obtain⟨v,o,ho,hd⟩:=I.cell x c e;obtain⟨m,⟨o',es,ep,ho',hd',_⟩,_⟩:=I.loc;rw[z,ho']at ho;cases ho;rw[hd']at hd;cases hd
def Inv.funs(I:Inv X js Y H s):s.heap.FunFrames X.base X.outer:=by
 have all:∀(l:List Env),(∀b∈frs l,b∈X.fs)->X.s₀.heap.FunFrames X.base l->s.heap.FunFrames X.base l:=by
  intro l
  induction l with
  |nil=>intro _ _;trivial
  |cons env r ih=>intro hs hl;obtain⟨hk,⟨L,o,hf,hn,ho,hd⟩,hr⟩:=hl;have hL:L∈X.fs:=hs L (by unfold frs;rw[List.filterMap_cons,hf];exact mem_cons_self);obtain⟨sl,e⟩:=I.base.slot L o ho (I.ok.frf L hL) hL fun z=>I.ok.exfs L z hL;exact⟨hk,⟨L,_,hf,hn,e,hd⟩,ih (fun b hb=>hs b (by unfold frs;rw[List.filterMap_cons,hf];exact mem_cons_of_mem _ hb)) hr⟩
 exact all X.outer (fun _ hb=>hb) I.ok.funs
def Inv.stack(I:Inv X js Y H s):s.heap.FunFrames X.base X.stack:=by
 rcases I.ok.stk with e |⟨e,hf⟩
 ·rw[e];exact I.funs
 ·rw[e];obtain⟨m,hn,_⟩:=I.loc;refine .cons (by rw[I.ok.kind];decide) hf hn ?_ I.funs;exact Heap.get?_none_of_le (Nat.le_trans I.ok.bsz I.ok.above)
def Inv.stkSub(I:Inv X js Y H s):∀b∈frs X.stack,b∈X.env.locals::X.fs:=fun b hb=>by
 rcases I.ok.stk with e |⟨e,hf⟩
 ·rw[e]at hb;exact mem_cons_of_mem _ hb
 ·rw[e]at hb;unfold frs at hb;rw[List.filterMap_cons,hf]at hb;exact hb
def Inv.stkFree(I:Inv X js Y H s):∀b∈frs X.stack,H b=none:=fun b hb=>by
 rcases mem_cons.mp (I.stkSub b hb)with e|hb
 ·rw[e];exact I.free
 ·obtain⟨_,o,ho,_⟩:=I.ok.funs.mem hb;exact I.base.free b o ho (I.ok.frf b hb) fun z=>I.ok.exfs b z hb
def Inv.step{g':Array GenState}{t':Nat}{d':Drawn}{ch:Gk}(I:Inv X js Y H s)
  (hch:∀b∈ch,(b∈X.ex\/X.s₀.heap.objs.size<=b)/\b≠X.env.locals/\(∀x c,X.env.cells.lookup x=some c->c≠b)/\∀p∈X.pn++js,p.1≠b)
  (keep:∀b o,b≠X.env.locals->b∉X.fs->b∉ch->s.heap.get? b=some o->H b=none->h'.get? b=some o)
  (slot:∀b o,b≠X.env.locals->b∈X.fs->b∉ch->s.heap.get? b=some o->H b=none->∃sl,h'.get? b=some {o with slots:=sl}) (free:∀b o,b∉ch->s.heap.get? b=some o->H b=none->H' b=none)
  (there:∀b o,b∉ch->s.heap.get? b=some o->∃o',h'.get? b=some o')
  (tups:∀b xs,H b=some (.tup xs)->H' b=some (.tup xs)) (frzs:∀b o u,H b=some (.frz o u)->H' b=some (.frz o u)) (tbls:∀b ps,H b=some (.tbl ps)->∃more,H' b=some (.tbl (ps++more)))
  (ns:∀m,s.heap.Ns X.env.locals m->h'.Ns X.env.locals m) (hok:HOk X.prog X.w H' h') (hg:AllBare g') :
  Inv X js Y H' {s with heap:=h',gens:=g',drawn:=d',toks:=t'}:=by
 have neL:∀b o,X.s₀.heap.get? b=some o->b≠X.env.locals:=fun b o e=>Nat.ne_of_lt (Nat.lt_of_lt_of_le (lt_size e) I.ok.above);have neC:∀b o,X.s₀.heap.get? b=some o->b∉X.ex->b∉ch:=fun b o e hx hb=>by
  rcases(hch b hb).1 with z|z
  ·exact hx z
  ·exact absurd (Nat.lt_of_lt_of_le (lt_size e) z) (Nat.lt_irrefl _)
 have cellK:∀x c,X.env.cells.lookup x=some c->∀v,s.heap.IsCell c v->h'.IsCell c v:=fun x c e v hz1=>by
  obtain⟨o,ho,hd⟩:=hz1;have nch:c∉ch:=fun z=>(hch c z).2.2.1 x c e rfl;rcases I.freeC x c e with n |⟨_,o',u,q⟩
  ·by_cases hc:c∈X.fs
   ·obtain⟨sl,q⟩:=slot c o (I.cne x c e) hc nch ho n;exact⟨_,q,hd⟩
   ·exact⟨o,keep c o (I.cne x c e) hc nch ho n,hd⟩
  ·obtain⟨q1,_⟩:=I.hok c _ q;obtain⟨q2,_⟩:=hok c _ (frzs c o' u q);rw[ho]at q1;cases q1;exact⟨o,q2,hd⟩
 refine⟨I.ok,I.os,hg,⟨fun b o e n hb hx=>?_,fun b o e n hb hx=>?_,fun b o e n hx=>?_,fun b o e hx=>?_,fun b xs e=>tups b xs (I.base.tups b xs e),fun b o xs e=>frzs b o xs (I.base.frzs b o xs e),fun b ps e=>?_⟩,?_,fun x c e=>?_,?_,fun x c e=>?_,fun p hp=>?_,hok,I.len⟩
 ·exact keep b o (neL b o e) hb (neC b o e hx) (I.base.keep b o e n hb hx) (I.base.free b o e n hx)
 ·obtain⟨sl,e1⟩:=I.base.slot b o e n hb hx;obtain⟨sl',e2⟩:=slot b _ (neL b o e) hb (neC b o e hx) e1 (I.base.free b o e n hx);exact⟨sl',e2⟩
 ·obtain⟨o',e1⟩:=I.base.there b o e hx;exact free b o' (neC b o e hx) e1 (I.base.free b o e n hx)
 ·obtain⟨o',e1⟩:=I.base.there b o e hx;exact there b o' (neC b o e hx) e1
 ·obtain⟨m1,e1⟩:=I.base.tbls b ps e;obtain⟨m2,e2⟩:=tbls b _ e1;exact⟨m1++m2,by rw[e2,Array.append_assoc]⟩
 ·obtain⟨m,hn,hl⟩:=I.loc;refine⟨m,ns m hn,fun i x v e1 e2 e3=>?_⟩;obtain⟨u,r,l⟩:=hl i x v e1 e2 e3;refine⟨u,r,?_⟩;rcases l with l |⟨k,c,e,z⟩
  ·exact .inl l
  ·exact .inr ⟨k,c,e,cellK x c e _ z⟩
 ·obtain⟨v,z⟩:=I.cell x c e;exact⟨v,cellK x c e v z⟩
 ·obtain⟨m,⟨o,_,_,ho,_⟩,_⟩:=I.loc;exact free _ o (fun z=>(hch _ z).2.1 rfl) ho I.free
 ·obtain⟨v,o,ho,hd⟩:=I.cell x c e;rcases I.freeC x c e with n |⟨n,o',u,q⟩
  ·exact .inl (free c o (fun z=>(hch c z).2.2.1 x c e rfl) ho n)
  ·exact .inr ⟨n,o',u,frzs c o' u q⟩
 ·obtain⟨e,n,ne,nf,d⟩:=I.pin p hp;have nch:p.1∉ch:=fun z=>(hch p.1 z).2.2.2 p hp rfl;exact⟨keep p.1 p.2 ne nf nch e n,free p.1 p.2 nch e n,ne,nf,d⟩
def Inv.un{t':Nat}(I:Inv X js Y H s)(u:Un X.fs [] H H' s.heap h')(hok:HOk X.prog X.w H' h'):Inv X js Y H' {s with heap:=h',toks:=t'}:=by
 obtain⟨m,⟨o,es,ep,ho,r⟩,_⟩:=id I.loc;obtain⟨sl,hL⟩:=u.any ho I.free (by simp);exact I.step (g':=s.gens) (d':=s.drawn) (ch:=[]) (fun _ z=>nomatch z) (fun b o _ hb _ e n=>u.keep b o e n hb (by simp)) (fun b o _ hb _ e n=>u.slot b o e n hb (by simp)) (fun b o _ e n=>u.free b o e n (by simp)) (fun b o _ e=>u.there b o e (by simp)) u.tups u.frzs u.tbls (fun m' hm=>by
  obtain⟨o',es',ep',ho',r'⟩:=hm;rw[ho]at ho';cases ho';exact⟨_,es',ep',hL,r'⟩) hok I.bare
def Inv.call{g':Array GenState}{t':Nat}{d':Drawn}{ch:Gk}(I:Inv X js Y H s)(u:Un (frs X.stack) ch H H' s.heap h')(hok:HOk X.prog X.w H' h')(hg:AllBare g')
  (hch:∀b∈ch,(b∈X.ex\/X.s₀.heap.objs.size<=b)/\b≠X.env.locals/\(∀x c,X.env.cells.lookup x=some c->c≠b)/\∀p∈X.pn++js,p.1≠b) :
  Inv X js Y H' {s with heap:=h',gens:=g',drawn:=d',toks:=t'}:=by
 obtain⟨m,⟨o,es,ep,ho,r⟩,_⟩:=id I.loc;obtain⟨sl,hL⟩:=u.any ho I.free fun z=>(hch _ z).2.1 rfl;exact I.step (ch:=ch) hch (fun b o hL hb hc e n=>u.keep b o e n (fun z=>(mem_cons.mp (I.stkSub b z)).elim hL hb) hc) (fun b o _ _ hc e n=>u.any e n hc) (fun b o hc e n=>u.free b o e n hc) (fun b o hc e=>u.there b o e hc) u.tups u.frzs u.tbls (fun m' hm=>by
  obtain⟨o',es',ep',ho',r'⟩:=hm;rw[ho]at ho';cases ho';exact⟨_,es',ep',hL,r'⟩) hok hg
def Inv.turned{t':Nat}{it:Addr}(I:Inv X js Y H s)(k:∀b o,b≠it->s.heap.get? b=some o->h'.get? b=some o)(hn:H it=none)(hL:it≠X.env.locals)
  (h1:it∈X.ex\/X.s₀.heap.objs.size<=it) (h2:∀x c,X.env.cells.lookup x=some c->c≠it) (h3:∀p∈X.pn++js,p.1≠it):Inv X js Y H {s with heap:=h',toks:=t'}:=by
 have nit:∀b u,H b=some u->b≠it:=fun b u e z=>by rw[z,hn]at e;cases e
 refine I.step (g':=s.gens) (d':=s.drawn) (ch:=[it]) (fun b hb=>?_) (fun b o _ _ hc e _=>k b o (fun z=>hc (by simp[z])) e) (fun b o _ _ hc e _=>⟨o.slots,k b o (fun z=>hc (by simp[z])) e⟩) (fun _ _ _ _ n=>n)
  (fun b o hc e=>⟨o,k b o (fun z=>hc (by simp[z])) e⟩) (fun _ _ e=>e) (fun _ _ _ e=>e) (fun b ps e=>⟨#[],by rw[e];simp⟩) (fun m hm=>?_) (fun b u e=>?_) I.bare
 ·have e:b=it:=by simpa using hb
  subst e;exact⟨h1,hL,h2,h3⟩
 ·obtain⟨o,es,ep,ho,r⟩:=hm;exact⟨o,es,ep,k _ o (Ne.symm hL) ho,r⟩
 ·refine(I.hok b u e).stay (fun c v hc q=>k c v ?_ q) (fun _ q=>q) fun _ _ _ q=>q;rcases hc with z|z
  ·rw[z];exact nit b u e
  ·exact nit c _ z
def Inv.tok(I:Inv X js Y H s)(t:Nat):Inv X js Y H {s with toks:=t}:=I.un (h':=s.heap) (t':=t) Un.refl I.hok
def Inv.kept{t':Nat}(I:Inv X js Y H s)(k:∀b u,s.heap.get? b=some u->h'.get? b=some u):Inv X js Y H {s with heap:=h',toks:=t'}:=I.un (Un.kept k) (I.hok.kept k)
def Inv.laid{a:Addr}{o:HO}{t':Nat}(I:Inv X js Y H s)(k:∀b u,s.heap.get? b=some u->h'.get? b=some u)(hp:s.heap.objs.size<=a)(new:cD X.prog X.w (upd H a o) h' a o) :
  Inv X js Y (upd H a o) {s with heap:=h',toks:=t'}:=I.un (Un.laid k hp (I.hok.fresh hp)) (I.hok.laid k hp new)
def Inv.write{x e:Addr}{o:HO}{t':Nat}(I:Inv X js Y H s)(mu:Mut (H x))(he:e=x\/H e=some (.own x))(k:∀b u,b≠e->s.heap.get? b=some u->h'.get? b=some u)(heo:∃u,h'.get? e=some u)
  (new:cD X.prog X.w (upd H x o) h' x o):Inv X js Y (upd H x o) {s with heap:=h',toks:=t'}:=I.un (Un.write mu he k heo) (I.hok.write mu he k heo new)
def Inv.pins_of{pins':Gg}(I:Inv X js Y H s)(h:∀p∈pins',s.heap.get? p.1=some p.2/\H p.1=none/\p.1≠X.env.locals/\p.1∉X.fs/\∀v,p.2.data≠.cell v):Inv X pins' Y H s:=
 ⟨I.ok,I.os,I.bare,I.base,I.loc,I.cell,I.free,I.freeC,fun p hp=>(mem_append.mp hp).elim (fun z=>I.pin p (mem_append_left _ z)) (h p),I.hok,I.len⟩
def nW{N:Gm}(hN:N.Nodup){i j:Nat}{x:Str}(a:N[i]?=some x)(b:N[j]?=some x):i=j:=by obtain⟨h1,e1⟩:=List.getElem?_eq_some_iff.mp a;obtain⟨h2,e2⟩:=List.getElem?_eq_some_iff.mp b;exact(getElem_inj hN).mp (e1.trans e2.symm)
def kP{M:Model}{A:Around}{E:Gc}{i:Nat}{x:Str}{v:V}{u:Value}{Q:Unit->Shared->Prop}(I:Inv X js Y H s)(hN:X.N.Nodup)(hi:X.N[i]?=some x)(hx:Loc X.env.scope x)(r:bf v u)
  (h:∀s',Inv X js (Y.set i (some v)) H s'->(∃a,SameBut a s.heap s'.heap/\(a=X.env.locals\/X.env.cells.lookup x=some a))->Q () s') (hf:X.fn x=true\/X.env.scope.names.lookup x=some .local:=by first|exact .inl rfl|exact .inr rfl|assumption):wpAny M A (storeName X.env x u) Q E s:=by
 obtain⟨m,hn,hl⟩:=id I.loc;have hcls:(X.env.scope.kind==.class ||(X.env.scope.kind==.module&&X.env.locals != X.env.globals))=false:=by rw[I.ok.kind];rfl
 have hiσ:i<Y.length:=by rw[I.len];exact(List.getElem?_eq_some_iff.mp hi).1
 have cne:=I.cne;have tracked:∀{a:Addr}{h':Heap},(∃o,s.heap.get? a=some o/\H a=none)->SameBut a s.heap h'->HOk X.prog X.w H h':=fun {a h'} ha hs b ob e=>by
  obtain⟨_,_,hfree⟩:=ha;refine(I.hok b ob e).stay (fun c w' hc q=>(hs.2 c ?_).trans q) (fun _ q=>q) fun _ _ _ q=>q;rintro rfl;rcases hc with rfl|hc
  ·rw[hfree]at e;cases e
  ·rw[hfree]at hc;cases hc
 rcases hx with hk|hk
 ·refine wpAny_storeName_local hk hn (fun h' hn' hs=>?_) hcls;obtain⟨oL,_,_,hoL,_⟩:=id hn;refine h _ ⟨I.ok,I.os,I.bare,⟨fun b o e n hb hx=>?_,fun b o e n hb hx=>?_,I.base.free,fun b o e hx=>?_,I.base.tups,I.base.frzs,I.base.tbls⟩,⟨_,hn',fun j y v' e1 e2 e3=>?_⟩,fun y c e=>?_,I.free,I.freeC,fun p hp=>?_,tracked ⟨oL,hoL,I.free⟩ hs,by simpa using I.len⟩ ⟨_,hs,.inl rfl⟩
  ·exact(hs.2 b (Nat.ne_of_lt (Nat.lt_of_lt_of_le (lt_size e) I.ok.above))).trans (I.base.keep b o e n hb hx)
  ·obtain⟨sl,e1⟩:=I.base.slot b o e n hb hx;exact⟨sl,(hs.2 b (Nat.ne_of_lt (Nat.lt_of_lt_of_le (lt_size e) I.ok.above))).trans e1⟩
  ·obtain⟨o',e1⟩:=I.base.there b o e hx;exact⟨o',(hs.2 b (Nat.ne_of_lt (Nat.lt_of_lt_of_le (lt_size e) I.ok.above))).trans e1⟩
  ·by_cases hj:j=i
   ·subst hj;rw[hi]at e1;cases e1;rw[getElem?_set_self hiσ]at e2;cases e2;exact⟨u,r,.inl ⟨hk,by simp⟩⟩
   ·rw[getElem?_set_ne (Ne.symm hj)]at e2;obtain⟨u',r',q⟩:=hl j y v' e1 e2 e3;refine⟨u',r',?_⟩;rcases q with⟨k,e⟩ |⟨k,c,e,z⟩
    ·refine .inl ⟨k,?_⟩;have:y≠x:=fun e=>hj (nW hN e1 (e▸hi));simp[this,e]
    ·exact .inr ⟨k,c,e,z.sameBut hs (cne y c e)⟩
  ·obtain⟨w',z⟩:=I.cell y c e;exact⟨w',z.sameBut hs (cne y c e)⟩
  ·obtain⟨e,n,ne,nf,d⟩:=I.pin p hp;exact⟨(hs.2 p.1 ne).trans e,n,ne,nf,d⟩
 ·have hfn:X.fn x=true:=by
   rcases hf with z|z
   ·exact z
   ·rw[z]at hk;cases hk
  obtain⟨c,hc⟩:=I.ok.has x (.inl hk);obtain⟨w',z⟩:=I.cell x c hc;refine wpAny_storeName_cell I.ok.kind hk hc z (fun h' hc' hs=>?_);obtain⟨oc,hoc,hocd⟩:=id z;refine h {s with heap:=h'} ⟨I.ok,I.os,I.bare,⟨fun b o e n hb hx=>?_,fun b o e n hb hx=>?_,I.base.free,fun b o e hx=>?_,I.base.tups,I.base.frzs,I.base.tbls⟩,⟨m,hn.sameBut hs (Ne.symm (cne x c hc)),fun j y v' e1 e2 e3=>?_⟩,fun y c' e=>?_,I.free,I.freeC,fun p hp=>?_,tracked ⟨oc,hoc,(I.freeC x c hc).resolve_right fun q=>by rw[hfn]at q;cases q.1⟩ hs,by simpa using I.len⟩ ⟨c,hs,.inr hc⟩
  ·exact(hs.2 b (Nat.ne_of_lt (Nat.lt_of_lt_of_le (lt_size e) (I.ok.cab x c hfn hc)))).trans (I.base.keep b o e n hb hx)
  ·obtain⟨sl,e1⟩:=I.base.slot b o e n hb hx;exact⟨sl,(hs.2 b (Nat.ne_of_lt (Nat.lt_of_lt_of_le (lt_size e) (I.ok.cab x c hfn hc)))).trans e1⟩
  ·obtain⟨o',e1⟩:=I.base.there b o e hx;exact⟨o',(hs.2 b (Nat.ne_of_lt (Nat.lt_of_lt_of_le (lt_size e) (I.ok.cab x c hfn hc)))).trans e1⟩
  ·by_cases hj:j=i
   ·subst hj;rw[hi]at e1;cases e1;rw[getElem?_set_self hiσ]at e2;cases e2;exact⟨u,r,.inr ⟨.inl hk,c,hc,hc'⟩⟩
   ·rw[getElem?_set_ne (Ne.symm hj)]at e2;obtain⟨u',r',q⟩:=hl j y v' e1 e2 e3;refine⟨u',r',?_⟩;rcases q with q |⟨k,c',e,z'⟩
    ·exact .inl q
    ·refine .inr ⟨k,c',e,z'.sameBut hs ?_⟩;rintro rfl;exact hj (nW hN e1 (I.ok.inj _ _ _ e hc▸hi))
  ·by_cases hcc:c'=c
   ·subst hcc;exact⟨_,hc'⟩
   ·obtain⟨w2,z2⟩:=I.cell y c' e;exact⟨w2,z2.sameBut hs hcc⟩
  ·obtain⟨e,n,ne,nf,d⟩:=I.pin p hp;refine⟨(hs.2 p.1 ?_).trans e,n,ne,nf,d⟩;intro q;rw[q,hoc]at e;have q':oc=p.2:=Option.some.inj e;exact d w' (by rw[<- q'];exact hocd)
def jL{M:Model}{A:Around}{E:Gc}{i:Nat}{x:Str}{v:V}{u:Value}{Q:Unit->Shared->Prop}(I:Inv X js Y H s)(hN:X.N.Nodup)(hi:X.N[i]?=some x)(hx:Loc X.env.scope x)(r:bf v u)
  (h:∀s',Inv X js (Y.set i (some v)) H s'->Q () s') (hf:X.fn x=true\/X.env.scope.names.lookup x=some .local:=by first|exact .inl rfl|exact .inr rfl|assumption):wpAny M A (storeName X.env x u) Q E s:=
 kP I hN hi hx r (fun s' I' _=>h s' I') hf
def Inv.call'{s':Shared}{ch:Gk}(I:Inv X js Y H s)(ho:s'.os=s.os)(u:Un (frs X.stack) ch H H' s.heap s'.heap)(hok:HOk X.prog X.w H' s'.heap)(hg:AllBare s'.gens)
  (hch:∀b∈ch,(b∈X.ex\/X.s₀.heap.objs.size<=b)/\b≠X.env.locals/\(∀x c,X.env.cells.lookup x=some c->c≠b)/\∀p∈X.pn++js,p.1≠b):Inv X js Y H' s':=by
 obtain⟨h',g',d',t',o'⟩:=s';have e:o'=s.os:=ho;subst e;exact I.call (g':=g') (t':=t') (d':=d') u hok hg hch
end
abbrev XK:=Value->Option Addr->Gq
abbrev St:=List (Option V)
abbrev VK:=V->Gq
abbrev TE:=St->Hp->VK->Prop
abbrev TT:=St->Hp->(Bool->Gq)->Prop
abbrev TA:=St->Hp->(Gp->Gq)->Prop
structure Ends where
 nx:St->Gq
 rt:VK
 bk:St->Gq:=fun _ _=>False
 ct:St->Gq:=fun _ _=>False
abbrev TS:=Ends->St->Gq
def EP(X:Cx)(js:Gg)(Y:St)(Q:VK)(u:Value)(s':Shared):Prop:=∃v H',Inv X js Y H' s'/\bf v u/\Q v H'
def TP(X:Cx)(js:Gg)(Y:St)(Q:Bool->Gq)(b:Bool)(s':Shared):Prop:=∃H',Inv X js Y H' s'/\Q b H'
def AP(X:Cx)(js:Gg)(Y:St)(Q:Gp->Gq)(us:Gj)(s':Shared):Prop:=∃vs H',Inv X js Y H' s'/\aE vs us/\Q vs H'
def SP(X:Cx)(js:Gg)(D:Ends)(f:Flow)(s':Shared):Prop:=
 match f with
 |.next=>∃σ' H',Inv X js σ' H' s'/\D.nx σ' H'
 |.brk=>∃σ' H',Inv X js σ' H' s'/\D.bk σ' H'
 |.cont=>∃σ' H',Inv X js σ' H' s'/\D.ct σ' H'
 |.ret u=>∃v σ' H',Inv X js σ' H' s'/\bf v u/\D.rt v H'
def PE(X:Cx)(e:Expr)(t:TE):Prop:=
 ∀(js:Gg) (s:Shared) (Y:St) (H:Hp) (Q:VK),Inv X js Y H s->t Y H Q->wpAny (model X.prog X.w) X.A (eval e X.env) (EP X js Y Q) X.xe s
def PT(X:Cx)(e:Expr)(t:TT):Prop:=
 ∀(js:Gg) (s:Shared) (Y:St) (H:Hp) (Q:Bool->Gq),Inv X js Y H s->t Y H Q->wpAny (model X.prog X.w) X.A (isTrue e X.env (eval e X.env)) (TP X js Y Q) X.xe s
def PW(X:Cx)(e:Expr)(t:TT):Prop:=
 ∀(whole:Sem Value) (js:Gg) (s:Shared) (Y:St) (H:Hp) (Q:Bool->Gq),Inv X js Y H s->t Y H Q->wpAny (model X.prog X.w) X.A (isTrue e X.env whole) (TP X js Y Q) X.xe s
def PW.pt{X:Cx}{e:Expr}{t:TT}(h:PW X e t):PT X e t:=h _
def PA(X:Cx)(es:List Expr)(t:TA):Prop:=
 ∀(pos:Pos) (js:Gg) (s:Shared) (Y:St) (H:Hp) (Q:Gp->Gq),Inv X js Y H s->t Y H Q->wpAny (model X.prog X.w) X.A (spliced (backTo pos (starEach es X.env))) (AP X js Y Q) X.xe s
def PS(X:Cx)(st:Stmt)(t:TS):Prop:=
 ∀(js:Gg) (s:Shared) (Y:St) (H:Hp) (D:Ends),Inv X js Y H s->t D Y H->wpAny (model X.prog X.w) X.A (exec st X.env) (SP X js D) X.xe s
def PSs(X:Cx)(st:List Stmt)(t:TS):Prop:=
 ∀(js:Gg) (s:Shared) (Y:St) (H:Hp) (D:Ends),Inv X js Y H s->t D Y H->wpAny (model X.prog X.w) X.A (execs st X.env) (SP X js D) X.xe s
def thn{α:Type}{t:Sem α}{Q Q':α->Shared->Prop}{M:Model}{A:Around}{E:Gc}{s:Shared}(h:wpAny M A t Q E s)(hQ:∀a s,Q a s->Q' a s):wpAny M A t Q' E s:=wpAny_mono h hQ fun _ _ x=>x
end L2
namespace L2
open PySem PySem.Spec PyProof.Rows
section
variable{X:Cx}
def zZ(i:Nat):TE:=fun Y H Q=>∃v,Y[i]?=some (some v)/\Q v H
def tC(v:V):TE:=fun _ H Q=>Q v H
def bV{i:Nat}{x:Str}{pos:Pos}(hN:X.N[i]?=some x)(hv:Vis X.env.scope x)(hd:(x ==("__debug__":Str))=false:=by decide)(hcd:(x ==("__classdict__":Str))=false:=by decide):PE X (.Name x pos) (zZ i):=by
 intro js s Y H Q I h;obtain⟨v,e,h⟩:=h;obtain⟨m,hn,hl⟩:=I.loc;obtain⟨u,r,l⟩:=hl i x v hN e hv;have fin:EP X js Y Q u s:=⟨v,H,I,r,h⟩
 rcases l with⟨hk,hm⟩ |⟨hk,c,hc,hcell⟩
 ·exact wpAny_Name (wpAny_loadName_local I.ok.kind hk hn hm fin) hd
 ·rcases hk with hk|hk
  ·exact wpAny_Name (wpAny_loadName_cell I.ok.kind hk hc hcell fin) hd
  ·exact wpAny_Name (wpAny_loadName_free I.ok.kind hk hc hcell fin hcd) hd
def iZ{i j pos}:PE X (.Constant (.int i) j pos) (tC (.int i)):=fun _ _ _ H _ I h=>wpAny_Constant_int ⟨.int i,H,I.tok _,⟨_,rfl⟩,h⟩
def zG{b j pos}:PE X (.Constant (.bool b) j pos) (tC (.bl b)):=fun _ _ _ H _ I h=>Constant_bool ⟨.bl b,H,I,rfl,h⟩
def u6{j pos}:PE X (.Constant .none j pos) (tC .non):=fun _ _ _ H _ I h=>Constant_none ⟨.non,H,I,rfl,h⟩
def AB{x j pos}:PE X (.Constant (.str x) j pos) (tC (.str x)):=fun _ _ _ H _ I h=>Calls.Constant_str ⟨.str x,H,I.tok _,⟨_,rfl⟩,h⟩
def Gl(X:Cx)(x:Str):Prop:=X.env.kindOf x=some .globalImplicit
def gE{E:Gc}{js:Gg}{s:Shared}{Y:St}{H:Hp}{x:Str}{u:Value}{pos:Pos}{Q:Gc}(I:Inv X js Y H s)(hg:Gl X x)(hm:X.mg x=some u)(h:Q u s)
  (hd:(x ==("__debug__":Str))=false:=by decide):wpAny (model X.prog X.w) X.A (eval (.Name x pos) X.env) Q E s:=
 Calls.Name_function_global I.ok.kind hg (Calls.loadGlobal_global (by rw[I.ok.glob];exact I.mod.glob.keeps I.bk) hm h) hd
def dL{E:Gc}{js:Gg}{s:Shared}{Y:St}{H:Hp}{x:Str}{u:Value}{pos:Pos}{Q:Gc}(I:Inv X js Y H s)(hg:Gl X x)(hm:X.mg x=none)(hv:bootBuiltins x=some u)(h:Q u s)
  (hn:x≠"__name__":=by decide) (hd:(x ==("__debug__":Str))=false:=by decide):wpAny (model X.prog X.w) X.A (eval (.Name x pos) X.env) Q E s:=by
 obtain⟨mb,h1,h2⟩:=I.mod.blt;exact Calls.Name_function_global I.ok.kind hg (Calls.loadGlobal_builtin (by rw[I.ok.glob];exact I.mod.glob.keeps I.bk) hm (by rw[I.ok.blt];exact h1.keeps I.bk) ((h2 x hn).trans hv) h) hd
def yg{x:Str}{v:V}{u:Value}{pos:Pos}(hg:Gl X x)(hm:X.mg x=some u)(r:bf v u)(hd:(x ==("__debug__":Str))=false:=by decide):PE X (.Name x pos) (tC v):=
 fun _ _ _ H _ I h=>gE I hg hm ⟨v,H,I,r,h⟩ hd
def yi{x:Str}{v:V}{u:Value}{pos:Pos}(hg:Gl X x)(hm:X.mg x=none)(hv:bootBuiltins x=some u)(r:bf v u)(hn:x≠"__name__":=by decide)(hd:(x ==("__debug__":Str))=false:=by decide):PE X (.Name x pos) (tC v):=
 fun _ _ _ H _ I h=>dL I hg hm hv ⟨v,H,I,r,h⟩ hn hd
variable{a b:Expr}{ta tb:TE}{pos:Pos}
def tB(t:TE):TT:=fun Y H Q=>t Y H fun x H1=>∃c,x=.bl c/\Q c H1
def Av{e:Expr}{t:TE}(h:PE X e t)(he:∀whole,isTrue e X.env whole=(do let v <- whole;standAt e.pos;holding [v] (truthy v)):=by intro _;rfl):PT X e (tB t):=by intro js s Y H Q I hw;refine isTrue_plain (thn (h js s Y H _ I hw) fun v s1 zz=>?_) (he _);obtain⟨x,H1,I1,r1,q1⟩:=zz;obtain⟨d,rfl,q⟩:=q1;cases r1;exact wpAny_truthy_bool ⟨H1,I1,q⟩
variable{tA tB':TT}{aV:List Expr}
def Fh(t u:TT):TT:=fun Y H Q=>t Y H fun c H1=>if c=true then u Y H1 Q else Q false H1
def tOr(t u:TT):TT:=fun Y H Q=>t Y H fun c H1=>if c=true then Q true H1 else u Y H1 Q
def Fb(t:TT):TT:=fun Y H Q=>t Y H fun c H1=>Q (!c) H1
def xZ(ha:PT X a tA):PW X (.BoolOp .And [a] pos) tA:=by
 intro wh js s Y H Q I h;refine isTrue_and (thn (ha js s Y H Q I h) fun c s1 e=>?_);cases c with
 |true=>exact isTrue_and_nil e
 |false=>exact e
def As(ha:PT X a tA):PW X (.BoolOp .Or [a] pos) tA:=by
 intro wh js s Y H Q I h;refine isTrue_or (thn (ha js s Y H Q I h) fun c s1 e=>?_);cases c with
 |false=>exact isTrue_or_nil e
 |true=>exact e
def At(ha:PT X a tA)(hb:PW X (.BoolOp .And (b::aV) pos) tB'):PW X (.BoolOp .And (a::b::aV) pos) (Fh tA tB'):=by
 intro wh js s Y H Q I h;refine isTrue_and (thn (ha js s Y H _ I h) fun c s1 ⟨H1,I1,q1⟩=>?_);cases c with
 |true=>exact hb wh js s1 Y H1 Q I1 q1
 |false=>exact⟨H1,I1,q1⟩
def Dm(ha:PT X a tA)(hb:PW X (.BoolOp .Or (b::aV) pos) tB'):PW X (.BoolOp .Or (a::b::aV) pos) (tOr tA tB'):=by
 intro wh js s Y H Q I h;refine isTrue_or (thn (ha js s Y H _ I h) fun c s1 ⟨H1,I1,q1⟩=>?_);cases c with
 |true=>exact⟨H1,I1,q1⟩
 |false=>exact hb wh js s1 Y H1 Q I1 q1
def uO(ha:PT X a tA):PT X (.UnaryOp .Not a pos) (Fb tA):=by intro js s Y H Q I h;exact isTrue_not (ha js s Y H (fun c H1=>Q (!c) H1) I h)
def Df(ta tb:TE):TE:=fun Y H Q=>ta Y H fun x H1=>∃c,x=.bl c/\if c=true then tb Y H1 Q else Q (.bl false) H1
def Fa(ta tb:TE):TE:=fun Y H Q=>ta Y H fun x H1=>∃c,x=.bl c/\if c=true then Q (.bl true) H1 else tb Y H1 Q
def C_(ta:TE):TE:=fun Y H Q=>ta Y H fun x H1=>∃c,x=.bl c/\Q (.bl (!c)) H1
def AC{op}{t:TE}(h:PE X a t):PE X (.BoolOp op [a] pos) t:=fun js s Y H Q I hw=>BoolOp_one (h js s Y H Q I hw)
def AG(ha:PE X a ta)(hb:PE X (.BoolOp .And (b::aV) pos) tb):PE X (.BoolOp .And (a::b::aV) pos) (Df ta tb):=by
 intro js s Y H Q I h;refine BoolOp_and (thn (ha js s Y H _ I h) fun v s1 zz=>?_);obtain⟨x,H1,I1,r1,q1⟩:=zz;obtain⟨c,rfl,q1⟩:=q1;cases r1;refine wpAny_truthy_bool ?_;cases c with
 |true=>exact hb js s1 Y H1 Q I1 q1
 |false=>exact⟨.bl false,H1,I1,rfl,q1⟩
def Do(ha:PE X a ta)(hb:PE X (.BoolOp .Or (b::aV) pos) tb):PE X (.BoolOp .Or (a::b::aV) pos) (Fa ta tb):=by
 intro js s Y H Q I h;refine BoolOp_or (thn (ha js s Y H _ I h) fun v s1 zz=>?_);obtain⟨x,H1,I1,r1,q1⟩:=zz;obtain⟨c,rfl,q1⟩:=q1;cases r1;refine wpAny_truthy_bool ?_;cases c with
 |false=>exact hb js s1 Y H1 Q I1 q1
 |true=>exact⟨.bl true,H1,I1,rfl,q1⟩
def AD(ha:PE X a ta):PE X (.UnaryOp .Not a pos) (C_ ta):=by intro js s Y H Q I h;refine UnaryOp_ (thn (ha js s Y H _ I h) fun v s1 zz=>?_);obtain⟨x,H1,I1,r1,q1⟩:=zz;obtain⟨c,rfl,q1⟩:=q1;cases r1;exact not_of (wpAny_truthy_bool ⟨.bl (!c),H1,I1,rfl,q1⟩)
def tIf(t:TT)(ta tb:TE):TE:=fun Y H Q=>t Y H fun c H1=>if c=true then ta Y H1 Q else tb Y H1 Q
def u7{c:Expr}(hc:PT X c tA)(ha:PE X a ta)(hb:PE X b tb):PE X (.IfExp c a b pos) (tIf tA ta tb):=by
 intro js s Y H Q I h;refine wpAny_IfExp (thn (hc js s Y H _ I h) fun d s1 ⟨H1,I1,q1⟩=>?_);cases d with
 |true=>exact ha js s1 Y H1 Q I1 q1
 |false=>exact hb js s1 Y H1 Q I1 q1
end
end L2
namespace L2
open PySem PySem.Spec PyProof.Rows
def SqL(K:PySem.W.Frag)(H:Hp)(a:Addr)(xs:Gp):Prop:=
 Rd H a (.lst xs)\/
  ∃(o:Obj) (its:Go) (n:Nat),K.lookup a=some o/\o.cls=.type "list" /\ o.dict=none/\o.data=.seq its n/\its.size<=sizeLine/\aE xs its.toList
def SqT(K:PySem.W.Frag)(H:Hp)(a:Addr)(xs:Gp):Prop:=
 Rd H a (.tup xs)\/
  ∃(o:Obj) (its:Go) (n:Nat),K.lookup a=some o/\o.cls=.type "tuple" /\ o.data=.seq its n/\its.size<=sizeLine/\aE xs its.toList
def FR:Value->Option V
 |.none=>some .non
 |.bool b=>some (.bl b)
 |.int i _=>some (.int i)
 |.str x _=>some (.str x)
 |.bytes b _=>some (.byt b)
 |.float b _=>some (.flt b)
 |.ref a=>some (.ref a)
 |.type n=>some (.ty n)
 |_=>none
def bf.abs{x:V}{u:Value}(r:bf x u):FR u=some x:=by
 cases x with
 |non|bl _=>cases r;rfl
 |int _|str _|byt _|flt _=>obtain⟨t,rfl⟩:=r;rfl
 |ref _|ty _=>cases r;rfl
def bf.inj{x y:V}{u:Value}(r:bf x u)(q:bf y u):x=y:=Option.some.inj (r.abs.symm.trans q.abs)
def aE.inj:∀{xs ys:Gp}{us:Gj},aE xs us->aE ys us->xs=ys
 |_,_,_,.nil,.nil=>rfl
 |_,_,_,.cons r t,.cons r' t'=>by rw[r.inj r',aE.inj t t']
section
variable{X:Cx}{js:Gg}{Y:St}{H:Hp}{s:Shared}{a:Addr}{xs ys:Gp}
def SqL.of{K:PySem.W.Frag}(h:H a=some (.lst xs)):SqL K H a xs:=.inl (.inl h)
def SqT.of{K:PySem.W.Frag}(h:H a=some (.tup xs)):SqT K H a xs:=.inl (.inl h)
def Inv.list(I:Inv X js Y H s)(h:SqL X.K H a xs):∃its:Gj,aE xs its/\PlainL s.heap a its.toArray/\xs.length<=sizeLine:=by
 rcases h with h |⟨o,its,n,hk,hc,hd,hs,hz,r⟩
 ·obtain⟨z,its,n,r,e⟩:=h.ok I.hok;exact⟨its,r,⟨_,n,e,rfl,rfl,rfl⟩,z⟩
 ·refine⟨its.toList,r,⟨o,n,I.kIn a o hk,hc,hd,by simpa using hs⟩,?_⟩;have e:=r.length;simp only[Array.length_toList]at e;omega
def Inv.tuple(I:Inv X js Y H s)(h:SqT X.K H a xs):∃its:Gj,aE xs its/\IsTup s.heap a its.toArray/\xs.length<=sizeLine:=by
 rcases h with h |⟨o,its,n,hk,hc,hs,hz,r⟩
 ·obtain⟨z,its,r,p⟩:=h.ok I.hok;exact⟨its,r,p,z⟩
 ·refine⟨its.toList,r,⟨o,I.kIn a o hk,hc,n,by simpa using hs⟩,?_⟩;have e:=r.length;simp only[Array.length_toList]at e;omega
def Inv.list_inj(I:Inv X js Y H s)(h:SqL X.K H a xs)(h':SqL X.K H a ys):xs=ys:=by
 obtain⟨its,r,⟨o,n,e,_,_,d⟩,_⟩:=I.list h;obtain⟨its',r',⟨o',n',e',_,_,d'⟩,_⟩:=I.list h';rw[e]at e';cases e';rw[d]at d';injection d' with d1 _;have:its=its':=by simpa using congrArg Array.toList d1
 subst this;exact r.inj r'
def Inv.tuple_inj(I:Inv X js Y H s)(h:SqT X.K H a xs)(h':SqT X.K H a ys):xs=ys:=by
 obtain⟨its,r,⟨o,e,_,n,d⟩,_⟩:=I.tuple h;obtain⟨its',r',⟨o',e',_,n',d'⟩,_⟩:=I.tuple h';rw[e]at e';cases e';rw[d]at d';injection d' with d1 _;have:its=its':=by simpa using congrArg Array.toList d1
 subst this;exact r.inj r'
end
section
variable{X:Cx}{st:Stmt}{aV:List Stmt}{t u:TS}{e:Expr}{te:TE}{pos:Pos}
def Da:TS:=fun D Y H=>D.nx Y H
def E9(t u:TS):TS:=fun D Y H=>t {D with nx:=u D} Y H
def lV:PSs X [] Da:=fun _ _ Y H _ I h=>wpAny_execs_nil ⟨Y,H,I,h⟩
def f_(h1:PS X st t)(h2:PSs X aV u):PSs X (st::aV) (E9 t u):=by
 intro js s Y H D I h;refine wpAny_execs_cons (thn (h1 js s Y H {D with nx:=u D} I h) fun f s1 q=>?_);cases f with
 |next=>obtain⟨σ',H',I',q⟩:=q;exact h2 js s1 σ' H' D I' q
 |ret v|brk|cont=>exact q
def gB(h1:PS X st t):PSs X [st] t:=by
 intro js s Y H D I h;refine wpAny_execs_cons (thn (h1 js s Y H D I h) fun f s1 q=>?_);cases f with
 |next=>exact wpAny_execs_nil q
 |ret v|brk|cont=>exact q
def Inv.quiet{js:Gg}{Y:St}{H:Hp}{s:Shared}(I:Inv X js Y H s):interactive X.env=false:=by simp[interactive,I.ok.kind]
def Dc(te:TE):TS:=fun D Y H=>te Y H fun _ H1=>D.nx Y H1
def dS(he:PE X e te)(hs:swapsWith e none pos.line X.env=pure false:=by rfl):PS X (.Expr e pos) (Dc te):=by intro js s Y H D I h;exact wpAny_Expr_any (thn (he js s Y H _ I h) fun v s1 ⟨x,H1,I1,r1,q1⟩=>⟨Y,H1,I1,q1⟩) I.quiet hs
def E_(te:TE):TS:=fun D Y H=>te Y H D.rt
def iW(he:PE X e te):PS X (.Return (some e) pos) (E_ te):=by intro js s Y H D I h;exact wpAny_Return_some (thn (he js s Y H _ I h) fun v s1 ⟨x,H1,I1,r1,q1⟩=>⟨x,Y,H1,I1,r1,q1⟩)
def Fe(c:TT)(t u:TS):TS:=fun D Y H=>c Y H fun b H1=>if b=true then t D Y H1 else u D Y H1
def uP{c:Expr}{a b:List Stmt}{tc:TT}(hc:PT X c tc)(ha:PSs X a t)(hb:PSs X b u):PS X (.If c a b pos) (Fe tc t u):=by
 intro js s Y H D I h;refine wpAny_If (thn (hc js s Y H _ I h) fun d s1 ⟨H1,I1,q1⟩=>?_);cases d with
 |true=>exact ha js s1 Y H1 D I1 q1
 |false=>exact hb js s1 Y H1 D I1 q1
end
abbrev TG:=V->St->Hp->(St->Gq)->Prop
abbrev TGs:=Gp->St->Hp->(St->Gq)->Prop
def PG(X:Cx)(target:Expr)(t:TG):Prop:=
 ∀(js:Gg) (s:Shared) (Y:St) (H:Hp) (v:V) (u:Value) (Q:St->Gq),Inv X js Y H s->bf v u->t v Y H Q ->
  wpAny (model X.prog X.w) X.A (assign target X.env u) (fun _ s'=>∃σ' H',Inv X js σ' H' s'/\Q σ' H') X.xe s
def PGs(X:Cx)(ts:List Expr)(t:TGs):Prop:=
 ∀(js:Gg) (s:Shared) (Y:St) (H:Hp) (vs:Gp) (us:Gj) (Q:St->Gq),Inv X js Y H s->aE vs us->t vs Y H Q ->
  wpAny (model X.prog X.w) X.A (assignInOrder ((assignEach ts X.env).map (·.2)) us) (fun _ s'=>∃σ' H',Inv X js σ' H' s'/\Q σ' H') X.xe s
abbrev Cr:=V->V->V->Hp->(Gq)->Prop
def Ez(X:Cx)(t:Cr):Prop:=
 ∀(js:Gg) (s:Shared) (Y:St) (H:Hp) (o i v:V) (ov iv u:Value) (Q:Gq),Inv X js Y H s->bf o ov->bf i iv->bf v u->t o i v H Q ->
  wpAny (model X.prog X.w) X.A (setItem ov iv u) (fun _ s'=>∃H',Inv X js Y H' s'/\Q H') X.xe s
section
variable{X:Cx}{pos:Pos}
def zQ(i:Nat):TG:=fun v Y H Q=>Q (Y.set i (some v)) H
def jE{i:Nat}{x:Str}(hN:X.N.Nodup)(hi:X.N[i]?=some x)(hx:Loc X.env.scope x)(hf:X.fn x=true\/X.env.scope.names.lookup x=some .local:=by first|exact .inl rfl|exact .inr rfl|assumption):PG X (.Name x pos) (zQ i):=by intro js s Y H v u Q I r h;exact wpAny_assign_Name (jL I hN hi hx r (fun s' I'=>⟨_,H,I',h⟩) hf)
def FH:TGs:=fun vs Y H Q=>vs=[]/\Q Y H
def Ek(t:TG)(u:TGs):TGs:=fun vs Y H Q=>∃v r,vs=v::r/\t v Y H fun σ' H'=>u r σ' H' Q
def qz:PGs X [] FH:=by intro js s Y H vs us Q I r h;obtain⟨e,h⟩:=h;subst e;cases r;exact assignInOrder_nil ⟨Y,H,I,h⟩
def jX{e:Expr}{es:List Expr}{t:TG}{u:TGs}(h1:PG X e t)(h2:PGs X es u)
  (hs:(assignEach (e::es) X.env).map (·.2)=assign e X.env::(assignEach es X.env).map (·.2):=by rfl):PGs X (e::es) (Ek t u):=by
 intro js s Y H vs us Q I r h;obtain⟨v,vr,e1,h⟩:=h;subst e1;cases r with
 |cons r rr=>rw[hs];refine assignInOrder_cons (thn (h1 js s Y H _ _ _ I r h) fun _ s1 ⟨σ1,H1,I1,q1⟩=>?_);exact h2 js s1 σ1 H1 _ _ Q I1 rr q1
def FF(K:PySem.W.Frag)(n:Nat)(t:TGs):TG:=fun v Y H Q=>∃a xs,v=.ref a/\SqT K H a xs/\xs.length=n/\t xs Y H Q
def uX{es:List Expr}{k:Nat}{t:TGs}{n:Nat}(hc:X.calm=true)(h:PGs X es t)
  (hn:(assignEach es X.env).length=n:=by rfl) (hst:(assignEach es X.env).findIdx? (·.1)=none:=by rfl):PG X (.Tuple es k pos) (FF X.K n t):=by
 intro js s Y H v u Q I r hw;obtain⟨a,xs,e1,hq,hl,hw⟩:=hw;subst e1;cases r;obtain⟨its,rv,ht,hz⟩:=I.tuple hq;refine assign_Tuple_tuple (I.ok.hd hc) ht (by simp[hn,<- hl,rv.length]) hst fun h' hx=>?_;have I1:Inv X js Y H {s with heap:=h'}:=I.kept (t':=s.toks) fun b o e=>hx b o (Nat.ne_of_lt (lt_size e)) e;exact h js _ Y H xs _ Q I1 (by simpa using rv) hw
def FG(to ti:TE)(t:Cr):TG:=fun v Y H Q=>to Y H fun o H1=>ti Y H1 fun i H2=>t o i v H2 fun H3=>Q Y H3
def AA{o i:Expr}{to ti:TE}{t:Cr}(ho:PE X o to)(hi:PE X i ti)(hs:Ez X t)
  (ha:∀ v,assign (.Subscript o i pos) X.env v=(do
   let ov <- holding [v] (eval o X.env)
   let iv <- holding [v,ov] (eval i X.env)
   standAt pos
   holding [v,ov,iv] (setItem ov iv v)
   release [v,ov,iv] []):=by intro _;rfl):PG X (.Subscript o i pos) (FG to ti t):=by
 intro js s Y H v u Q I r h;rw[ha];refine wpAny_bind (wpAny_holding (thn (ho js s Y H _ I h) fun ov s1 zz=>?_));obtain⟨x,H1,I1,r1,q1⟩:=zz;refine wpAny_bind (wpAny_holding (thn (hi js s1 Y H1 _ I1 q1) fun iv s2 zz=>?_));obtain⟨y,H2,I2,r2,q2⟩:=zz;refine wpAny_bind (wpAny_standAt (wpAny_bind (wpAny_holding (thn (hs js s2 Y H2 x y v ov iv u _ I2 r1 r2 r q2) fun _ s3 ⟨H3,I3,q3⟩=>?_))));exact wpAny_release ⟨Y,H3,I3,q3⟩
def De(te:TE)(g:TG):TS:=fun D Y H=>te Y H fun x H1=>g x Y H1 D.nx
def Ax{tg e:Expr}{te:TE}{g:TG}(he:PE X e te)(hg:PG X tg g)(hs:swapsWithSole [tg] e pos.line X.env=pure false:=by rfl)(hw:swappedStores [tg] e X.env=pure none:=by rfl)
  (h1:(assignEach [tg] X.env).map (·.2)=[assign tg X.env]:=by rfl):PS X (.Assign [tg] e pos) (De te g):=by
 intro js s Y H D I h;refine wpAny_Assign_stores (thn (he js s Y H _ I h) fun v s1 zz=>?_) hs hw;obtain⟨x,H1,I1,r1,q1⟩:=zz;rw[h1];exact thn (hg js s1 Y H1 x v _ I1 r1 q1) fun _ s2 q=>q
def lW{i:Nat}{x:Str}{e:Expr}{te:TE}{pos':Pos}(hN:X.N.Nodup)(hi:X.N[i]?=some x)(hx:Loc X.env.scope x)(he:PE X e te)(hs:swapsWith e (some (.Name x pos')) pos.line X.env=pure false:=by rfl)(hf:X.fn x=true\/X.env.scope.names.lookup x=some .local:=by first|exact .inl rfl|exact .inr rfl|assumption) :
  PS X (.Assign [.Name x pos'] e pos) (De te (zQ i)):=by
 intro js s Y H D I h;refine wpAny_Assign_Name (thn (he js s Y H _ I h) fun v s1 zz=>?_) hs;obtain⟨y,H1,I1,r1,q1⟩:=zz;exact jL I1 hN hi hx r1 (fun s2 I2=>⟨_,H1,I2,q1⟩) hf
def zY(c:TT)(tb:TS):TS:=fun D Y H=>∃W:Nat->St->Gq,(∃m,W m Y H)/\∀m Y H,W m Y H ->
 c Y H fun b H1=>if b=true then ∃N:St->Gq,(∀σ' H',N σ' H'->∃m',m'<m/\W m' σ' H')/\tb {D with nx:=N,ct:=N,bk:=D.nx} Y H1 else D.nx Y H1
def nH{c:Expr}{body:List Stmt}{tc:TT}{tb:TS}(hp:PassesOwn (model X.prog X.w) X.A X.env X.xe)(hc:PT X c tc)(hb:PSs X body tb):PS X (.While c body [] pos) (zY tc tb):=by
 intro js s Y H D I h;obtain⟨W,⟨m0,w0⟩,turn⟩:=h;refine wpAny_While (codeAny_whileLoop (fun n s'=>∃σ' H',Inv X js σ' H' s'/\W n σ' H') ?_ m0 ⟨Y,H,I,w0⟩);rintro n s1 ⟨σ1,H1,I1,w1⟩;refine wpAny_passesOwn hp (thn (hc js s1 σ1 H1 _ I1 (turn n σ1 H1 w1)) fun b s2 ⟨H2,I2,q2⟩=>?_);cases b with
 |true=>
  obtain⟨N,hN,q2⟩:=q2;rw[if_pos rfl];refine wpAny_passesOwn hp (thn (hb js s2 σ1 H2 _ I2 q2) fun f s3 q3=>?_);cases f with
  |next=>obtain⟨σ3,H3,I3,n3⟩:=q3;obtain⟨m',hm,w3⟩:=hN σ3 H3 n3;exact⟨m',hm,σ3,H3,I3,w3⟩
  |cont=>obtain⟨σ3,H3,I3,n3⟩:=q3;obtain⟨m',hm,w3⟩:=hN σ3 H3 n3;exact⟨m',hm,σ3,H3,I3,w3⟩
  |brk|ret v=>exact q3
 |false=>rw[if_neg Bool.false_ne_true];exact wpAny_execs_nil ⟨σ1,H2,I2,q2⟩
end
structure It where
 go:Nat->Gq
 yld:Nat->Hp->V->Gq
 stop:Nat->Gq
def ku(X:Cx)(js:Gg)(H:Hp)(b:Addr):Prop:=
 H b=none/\b≠X.env.locals/\b∉X.fs/\(b∈X.ex\/X.s₀.heap.objs.size<=b)/\(∀x c,X.env.cells.lookup x=some c->c≠b)/\∀p∈X.pn++js,p.1≠b
def Inv.fpOk{X:Cx}{js:Gg}{Y:St}{H H':Hp}{s:Shared}{b:Addr}(I:Inv X js Y H s)(hb:s.heap.objs.size<=b)(hn:H' b=none):ku X js H' b:=by
 refine⟨hn,Nat.ne_of_gt (Nat.lt_of_lt_of_le I.lt hb),I.nofs hb,.inr (Nat.le_trans I.sz hb),fun x c e z=>?_,fun p hp z=>?_⟩
 ·obtain⟨v,q⟩:=I.cell x c e;exact absurd (Nat.lt_of_lt_of_le q.lt (by rw[z];exact hb)) (Nat.lt_irrefl _)
 ·exact absurd (Nat.lt_of_lt_of_le (lt_size (I.pin p hp).1) (by rw[z];exact hb)) (Nat.lt_irrefl _)
structure qa(P:Program)(w:World)(K:PySem.W.Frag)(tg:Expr)(J:It)(fp:Gk)(it:Addr)(tn:Nat->Heap->Prop):Prop where
 mem:it∈fp
 obj:∀i h,tn i h->∀b∈fp,∃o,h.get? b=some o/\∀v,o.data≠.cell v
 keep:∀i h h',tn i h->(∀b∈fp,∀o,h.get? b=some o->h'.get? b=some o)->tn i h'
 item:∀(X:Cx),X.prog=P->X.w=w->X.K=K->X.calm=true->∀(i:Nat) (js:Gg) (s:Shared) (Y:St) (H:Hp) (E:Gc),Inv X js Y H s->(∀b∈fp,ku X js H b)->tn i s.heap->J.go i H ->
  wpAny (model P w) X.A (pyNext (.ref it)) (fun r s1=>∃ u,r=some u /\
   wpAny (model P w) X.A (letOwnedTupleGo tg (.ref it) u) (fun _ s2=>∃x H',Inv X js Y H' s2/\bf x u/\J.yld i H x H'/\tn (i+1) s2.heap/\∀b∈fp,H' b=none) E s1) E s
 done:∀(X:Cx),X.prog=P->X.w=w->X.K=K->X.calm=true->∀(i:Nat) (js:Gg) (s:Shared) (Y:St) (H:Hp) (E:Gc),Inv X js Y H s->(∀b∈fp,ku X js H b)->tn i s.heap->J.stop i H ->
  wpAny (model P w) X.A (pyNext (.ref it)) (fun r s1=>r=none/\Inv X js Y H s1) E s
 self:∀(A:Around) (i:Nat) (s:Shared) (Q:Gc) (E:Gc),tn i s.heap->Q (.ref it) s->wpAny (model P w) A (pyIter (.ref it)) Q E s
abbrev TI:=St->Hp->(It->Gq)->Prop
def PIE(X:Cx)(js:Gg)(Y:St)(tg:Expr)(R:It->Gq)(itv:Value)(s2:Shared):Prop:=
 ∃(it:Addr) (fp:Gk) (tn:Nat->Heap->Prop) (J:It) (H':Hp),itv=.ref it/\Inv X js Y H' s2/\qa X.prog X.w X.K tg J fp it tn/\tn 0 s2.heap/\(∀b∈fp,ku X js H' b)/\R J H'
def PI(X:Cx)(tg iter:Expr)(wi:TI):Prop:=
 ∀(js:Gg) (s:Shared) (Y:St) (H:Hp) (R:It->Gq),Inv X js Y H s->wi Y H R ->
  wpAny (model X.prog X.w) X.A (eval iter X.env) (fun v s1=>wpAny (model X.prog X.w) X.A (pyIter v) (PIE X js Y tg R) X.xe s1) X.xe s
def qR{M:Model}{A:Around}{E:Gc}{s:Shared}{tg:Expr}{it:Addr}{u:Value}{o:Obj}{n:String}{vs:Go}{Q:Unit->Shared->Prop}(ho:s.heap.get? it=some o)(hc:o.cls=.type n)(hd:o.data=.fields vs)
    (hn:["enumerate","zip","dict_itemiterator","dict_reverseitemiterator","odict_iterator","itertools.zip_longest","itertools.pairwise"].contains n=false) (hQ:Q () s):wpAny M A (letOwnedTupleGo tg (.ref it) u) Q E s:=by
  unfold letOwnedTupleGo;cases tg<;>first
    |exact wpAny_pure hQ
    | (cases u <;> first
        |exact wpAny_pure hQ
        | (refine wpAny_bind (wpAny_load ho ?_)
           rw[hc,hd];show wpAny M A (if(["enumerate","zip","dict_itemiterator","dict_reverseitemiterator","odict_iterator","itertools.zip_longest","itertools.pairwise"].contains n&&vs[0]?==some (rawInt _))=true then _ else _) Q E s;rw[if_neg (by intro h;rw[hn,Bool.false_and]at h;cases h)];exact wpAny_pure hQ))
def Itl(K:PySem.W.Frag)(a:Addr):It:=
 ⟨fun i H=>∃xs x,SqL K H a xs/\xs[i]?=some x,fun i H x H'=>H'=H/\∀xs,SqL K H a xs->xs[i]?=some x,fun i H=>∃xs,SqL K H a xs/\xs.length<=i⟩
def Itt(K:PySem.W.Frag)(a:Addr):It:=
 ⟨fun i H=>∃xs x,SqT K H a xs/\xs[i]?=some x,fun i H x H'=>H'=H/\∀xs,SqT K H a xs->xs[i]?=some x,fun i H=>∃xs,SqT K H a xs/\xs.length<=i⟩
def Itr(lo:Int)(n:Nat):It:=⟨fun i _=>i<n,fun i H x H'=>H'=H/\x=.int (lo+i),fun i _=>n<=i⟩
def rL{P:Program}{w:World}{K:PySem.W.Frag}{tg:Expr}(a it:Addr):qa P w K tg (Itl K a) [it] it (fun i h=>h.IsListIter it a i) where
 mem:=by simp
 obj:=fun i h st b hb=>by
  have e:b=it:=by simpa using hb
  subst e;obtain⟨o,e,c,d⟩:=st;exact⟨o,e,fun v z=>by rw[d]at z;cases z⟩
 keep:=fun i h h' st k=>st.at fun o e=>k it (by simp) o e
 item:=by intro X hP hw hK hc i js s Y H E I hf st hg;subst hP hw hK;obtain⟨xs,x,hq,hx⟩:=hg;obtain⟨its,rv,p,hz⟩:=I.list hq;obtain⟨u,hu,ru⟩:=rv.get hx;obtain⟨f0,f1,f2,f3,f4,f5⟩:=hf it (by simp);refine wpAny_pyNext_list_item st p.isList (x:=u) (by simpa using hu) fun h' st' sb=>?_;have I1:Inv X js Y H {s with heap:=h'}:=I.turned (t':=s.toks) (fun b o hb e=>(sb.2 b hb).trans e) f0 f1 f3 f4 f5;obtain⟨o,e,c,d⟩:=id st';exact⟨u,rfl,qR (s:={s with heap:=h'}) e c d (by decide) ⟨x,H,I1,ru,⟨rfl,fun ys hy=>by rw[I.list_inj hy hq];exact hx⟩,st',fun b hb=>(hf b hb).1⟩⟩
 done:=by intro X hP hw hK hc i js s Y H E I hf st hg;subst hP hw hK;obtain⟨xs,hq,hx⟩:=hg;obtain⟨its,rv,p,hz⟩:=I.list hq;obtain⟨f0,f1,f2,f3,f4,f5⟩:=hf it (by simp);have hl:=rv.length;exact wpAny_pyNext_list_end (I.ok.hd hc) st p.isList (by simp;omega) fun h' eb=>⟨rfl,I.turned (t':=s.toks) (fun b o hb e=>eb b o hb e) f0 f1 f3 f4 f5⟩
 self:=fun _ _ _ _ _ st h=>wpAny_pyIter_listiter st h
def oZ{P:Program}{w:World}{K:PySem.W.Frag}{tg:Expr}(a it:Addr):qa P w K tg (Itt K a) [it] it (fun i h=>h.IsTupleIter it a i) where
 mem:=by simp
 obj:=fun i h st b hb=>by
  have e:b=it:=by simpa using hb
  subst e;obtain⟨o,e,c,d⟩:=st;exact⟨o,e,fun v z=>by rw[d]at z;cases z⟩
 keep:=fun i h h' st k=>st.at fun o e=>k it (by simp) o e
 item:=by intro X hP hw hK hc i js s Y H E I hf st hg;subst hP hw hK;obtain⟨xs,x,hq,hx⟩:=hg;obtain⟨its,rv,p,hz⟩:=I.tuple hq;obtain⟨u,hu,ru⟩:=rv.get hx;obtain⟨f0,f1,f2,f3,f4,f5⟩:=hf it (by simp);refine wpAny_pyNext_tuple_item st (show s.heap.IsTuple a its.toArray from p) (x:=u) (by simpa using hu) fun h' st' sb=>?_;have I1:Inv X js Y H {s with heap:=h'}:=I.turned (t':=s.toks) (fun b o hb e=>(sb.2 b hb).trans e) f0 f1 f3 f4 f5;obtain⟨o,e,c,d⟩:=id st';exact⟨u,rfl,qR (s:={s with heap:=h'}) e c d (by decide) ⟨x,H,I1,ru,⟨rfl,fun ys hy=>by rw[I.tuple_inj hy hq];exact hx⟩,st',fun b hb=>(hf b hb).1⟩⟩
 done:=by intro X hP hw hK hc i js s Y H E I hf st hg;subst hP hw hK;obtain⟨xs,hq,hx⟩:=hg;obtain⟨its,rv,p,hz⟩:=I.tuple hq;obtain⟨f0,f1,f2,f3,f4,f5⟩:=hf it (by simp);have hl:=rv.length;exact wpAny_pyNext_tuple_end (I.ok.hd hc) st (show s.heap.IsTuple a its.toArray from p) (by simp;omega) fun h' eb=>⟨rfl,I.turned (t':=s.toks) (fun b o hb e=>eb b o hb e) f0 f1 f3 f4 f5⟩
 self:=fun _ _ _ _ _ st h=>wpAny_pyIter_tupleiter st h
def o4{P:Program}{w:World}{K:PySem.W.Frag}{tg:Expr}(it:Addr)(lo:Int)(n:Nat):qa P w K tg (Itr lo n) [it] it (fun i h=>IsRangeIter h it (lo+(i:Nat)*1) ((n:Int)-(i:Nat)) 1) where
 mem:=by simp
 obj:=fun i h st b hb=>by
  have e:b=it:=by simpa using hb
  subst e;exact ⟨_,st,fun v z=>by
   have z':Data.fields _=Data.cell v:=z;cases z'⟩
 keep:=fun i h h' st k=>k it (by simp) _ st
 item:=by intro X hP hw hK hc i js s Y H E I hf st hg;subst hP hw hK;obtain⟨f0,f1,f2,f3,f4,f5⟩:=hf it (by simp);have W:=Walks.range (prog:=X.prog) (w:=X.w) (I.ok.hd hc) it lo 1 n;refine W.item i s _ _ hg st fun v h' tk hv st' kk=>?_;obtain⟨t,rfl⟩:=hv;have I1:Inv X js Y H {s with heap:=h',toks:=tk}:=I.turned (fun b o hb e=>kk b o (by simpa using hb) e) f0 f1 f3 f4 f5;refine⟨_,rfl,qR (s:={s with heap:=h',toks:=tk}) (n:="range_iterator") st' rfl rfl (by decide) ⟨.int (lo+i),H,I1,⟨t,?_⟩,⟨rfl,rfl⟩,st',fun b hb=>(hf b hb).1⟩⟩;rw[Int.mul_one]
 done:=by intro X hP hw hK hc i js s Y H E I hf st hg;subst hP hw hK;obtain⟨f0,f1,f2,f3,f4,f5⟩:=hf it (by simp);exact wpAny_pyNext_range_end (I.ok.hd hc) st (by have:n<=i:=hg;omega) fun h' eb=>⟨rfl,I.turned (t':=s.toks) (fun b o hb e=>eb b o hb e) f0 f1 f3 f4 f5⟩
 self:=fun _ _ _ _ _ st h=>wpAny_pyIter_rangeiter st h
end L2
namespace L2
open PySem PySem.Spec PyProof.Rows
section
variable{X:Cx}{tg:Expr}
def nE{js:Gg}{Y:St}{H:Hp}{s:Shared}{R:It->Gq}{E:Gc}{lo hi:Int}{t u v:Tok}{tk:Nat}(I:Inv X js Y H s)(h1:-(2 ^ 62)<= lo)(h2:lo<2 ^ 62)(h3:-(2 ^ 62)<= hi)(h4:hi<2 ^ 62)
  (q:R (Itr lo (hi-lo).toNat) H):wpAny (model X.prog X.w) X.A (pyIter (.ref s.heap.objs.size)) (PIE X js Y tg R) E {s with heap:=s.heap.push {cls:=.type "range",data:=.fields #[.int lo t,.int hi u,.int 1 v]},toks:=tk}:=by
 refine wpAny_pyIter_range (IsRange.new ..) (small_one h1 h2 h3 h4) ?_;have I1:Inv X js Y H {s with heap:=s.heap.push {cls:=.type "range",data:=.fields #[.int lo t,.int hi u,.int 1 v]},toks:=tk}:=I.kept fun b o e=>get?_push_of_some _ e;refine ⟨(s.heap.push { cls:=.type "range", data:=.fields #[.int lo t,.int hi u,.int 1 v] }).objs.size,[(s.heap.push { cls:=.type "range", data:=.fields #[.int lo t,.int hi u,.int 1 v] }).objs.size],_,_,H,rfl,
  I1.kept (t':=tk) fun b o e=>get?_push_of_some _ e,o4 _ lo (hi-lo).toNat,?_,fun b hb=>?_,q⟩
 ·have e1:lo+((0:Nat):Int)*1=lo:=by simp
  have e2:(((hi-lo).toNat:Nat):Int)-((0:Nat):Int)=Builtin.Range.rangeSize lo hi 1:=by rw[rangeSize_one];split<;>omega
  show IsRangeIter _ _ (lo+((0:Nat):Int)*1) ((((hi-lo).toNat:Nat):Int)-((0:Nat):Int)) 1;rw[e1,e2];exact get?_push_size _ rfl
 ·have e:b=(s.heap.push {cls:=.type "range",data:=.fields #[.int lo t,.int hi u,.int 1 v]}).objs.size:=by simpa using hb
  subst e;exact I1.fpOk (Nat.le_refl _) (I1.hok.fresh (Nat.le_refl _))
def Eg(ta:TA):TI:=fun Y H R=>ta Y H fun vs H1=>∃j:Int,vs=[.int j]/\-(2 ^ 62)<= j/\j<2 ^ 62/\R (Itr 0 j.toNat) H1
def Ef(ta:TA):TI:=fun Y H R=>ta Y H fun vs H1=>∃i j:Int,vs=[.int i,.int j]/\(-(2 ^ 62)<= i/\i<2 ^ 62/\-(2 ^ 62)<= j/\j<2 ^ 62)/\R (Itr i (j-i).toNat) H1
def k6{a:Expr}{ta:TA}{p pos:Pos}(hg:Gl X "range")(hm:X.mg "range"=none)(ha:PA X [a] ta)(hs:starEach [a] X.env=[(false,eval a X.env)]:=by rfl):PI X tg (.Call (.Name "range" p) [a] [] pos) (Eg ta):=by
 intro js s Y H R I h;refine Call_ (dL I hg hm boot_range (PyProof.Rows.callWith_type1 (thn (ha pos js s Y H _ I h) fun us s1 zz=>?_) hs rfl));obtain⟨vs,H1,I1,r1,q1⟩:=zz;obtain⟨j,e,q1,q2,q⟩:=q1;subst e;cases r1 with
 |cons r rr=>cases rr;obtain⟨t,rfl⟩:=r;exact call_range_1 (nE I1 (by omega) (by omega) q1 q2 (by simpa using q))
def sy{a b:Expr}{ta:TA}{p pos:Pos}(hg:Gl X "range")(hm:X.mg "range"=none)(ha:PA X [a,b] ta)(hs:starEach [a,b] X.env=[(false,eval a X.env),(false,eval b X.env)]:=by rfl)(hs2:starEach [b] X.env=[(false,eval b X.env)]:=by rfl) :
  PI X tg (.Call (.Name "range" p) [a,b] [] pos) (Ef ta):=by
 intro js s Y H R I h;refine Call_ (dL I hg hm boot_range (PyProof.Rows.callWith_type1 (thn (ha pos js s Y H _ I h) fun us s1 zz=>?_) (by rw[hs,hs2]) (by rw[hs2];rfl)));obtain⟨vs,H1,I1,r1,q1⟩:=zz;obtain⟨i,j,e,⟨q1,q2,q3,q4⟩,q⟩:=q1;subst e;cases r1 with
 |cons r rr=>
  cases rr with
  |cons r' rr=>cases rr;obtain⟨t,rfl⟩:=r;obtain⟨t',rfl⟩:=r';exact call_range_2 (nE I1 q1 q2 q3 q4 q)
def Ff(wi:TI)(g:TG)(tb:TS):TS:=fun D Y H=>wi Y H fun J H1=>∃W:Nat->Nat->St->Gq,(∃m,W 0 m Y H1)/\∀i m Y H,W i m Y H ->
 (J.stop i H/\D.nx Y H)\/(J.go i H/\∃N:St->Gq,(∀σ' H',N σ' H'->∃m',m'<m/\W (i+1) m' σ' H')/\∀x H',J.yld i H x H'->g x Y H' fun σ2 H2=>tb {D with nx:=N,ct:=N,bk:=D.nx} σ2 H2)
def jW(fp:Gk)(h:Heap):Gg:=fp.filterMap fun b=>(h.get? b).map fun o=>(b,o)
def fK{fp:Gk}{h:Heap}{b:Addr}{o:Obj}(hb:b∈fp)(e:h.get? b=some o):(b,o)∈ jW fp h:=List.mem_filterMap.mpr ⟨b,hb,by rw[e];rfl⟩
def sH{fp:Gk}{h:Heap}{p:Addr×Obj}(hp:p∈jW fp h):p.1∈fp/\h.get? p.1=some p.2:=by
 obtain⟨b,hb,e⟩:=List.mem_filterMap.mp hp;cases q:h.get? b with
 |none=>rw[q]at e;cases e
 |some o=>rw[q]at e;have e':(b,o)=p:=Option.some.inj e;subst e';exact⟨hb,q⟩
def Inv.pinned{js:Gg}{Y:St}{H:Hp}{s:Shared}{fp:Gk}(I:Inv X js Y H s)(hf:∀b∈fp,ku X js H b)(ho:∀b∈fp,∃o,s.heap.get? b=some o/\∀v,o.data≠.cell v):Inv X (js++jW fp s.heap) Y H s:=
 I.pins_of fun p hp=>(mem_append.mp hp).elim (fun z=>I.pin p (mem_append_right _ z)) fun z=>by obtain⟨hb,e⟩:=sH z;obtain⟨f0,f1,f2,_⟩:=hf p.1 hb;obtain⟨o,e',d⟩:=ho p.1 hb;rw[e]at e';cases e';exact⟨e,f0,f1,f2,d⟩
def Inv.unpinned{js pl:Gg}{Y:St}{H:Hp}{s:Shared}(I:Inv X (js++pl) Y H s):Inv X js Y H s:=I.pins_of fun p hp=>I.pin p (mem_append_right _ (mem_append_left _ hp))
def uQ{iter:Expr}{body:List Stmt}{wi:TI}{g:TG}{tb:TS}{pos:Pos}(hp:PassesOwn (model X.prog X.w) X.A X.env X.xe)(hc:X.calm=true)(hi:PI X tg iter wi)(hg:PG X tg g)(hb:PSs X body tb)
  (hs:∀x,foldedSetIterable iter X.env x=pure x:=by intro _;rfl):PS X (.For tg iter body [] pos) (Ff wi g tb):=by
 intro js s Y H D I h;refine wpAny_For (thn (hi js s Y H _ I h) fun v s1 h1=>thn h1 fun itv s2 h2=>?_) hs;obtain⟨it,fp,tn,J,H2,e,I2,T,st2,f2,W,⟨m0,w0⟩,turn⟩:=h2;subst e;have stat:∀{H':Hp},(∀b∈fp,H' b=none)->∀b∈fp,ku X js H' b:=fun hn b hb=>⟨hn b hb,(f2 b hb).2⟩
 refine codeAny_forLoop_any (fun n s'=>∃i σ' H',Inv X js σ' H' s'/\tn i s'.heap/\(∀b∈fp,H' b=none)/\W i n σ' H') ?_ m0 ⟨0,Y,H2,I2,st2,fun b hb=>(f2 b hb).1,w0⟩;rintro n s3 ⟨i,σ3,H3,I3,st3,fr3,w3⟩;rcases turn i n σ3 H3 w3 with⟨stop,qn⟩ |⟨go,N,hN,step⟩
 ·refine wpAny_passesOwn hp (thn (T.done X rfl rfl rfl hc i js s3 σ3 H3 X.xe I3 (stat fr3) st3 stop) fun r s4 ⟨hr,I4⟩=>?_);subst hr;exact wpAny_execs_nil ⟨σ3,H3,I4,qn⟩
 ·refine wpAny_passesOwn hp (thn (T.item X rfl rfl rfl hc i js s3 σ3 H3 X.xe I3 (stat fr3) st3 go) fun r s4 ⟨u,hr,h4⟩=>?_);subst hr;refine wpAny_passesOwn hp (thn h4 fun _ s5 zz=>?_);obtain⟨x,H5,I5,r5,y5,st5,fr5⟩:=zz;have I5':=I5.pinned (stat fr5) (T.obj _ _ st5);refine wpAny_passesOwn hp (thn (hg _ s5 σ3 H5 x u _ I5' r5 (step x H5 y5)) fun _ s6 ⟨σ6,H6,I6,q6⟩=>?_);refine wpAny_passesOwn hp (thn (hb _ s6 σ6 H6 _ I6 q6) fun f s7 q7=>?_);have again:∀{σ7:St}{H7:Hp},Inv X (js++jW fp s5.heap) σ7 H7 s7->N σ7 H7->∃m,m<n/\∃i σ' H',Inv X js σ' H' s7/\tn i s7.heap/\(∀b∈fp,H' b=none)/\W i m σ' H':=fun {σ7 H7} I7 n7=>by obtain⟨m',hm,w7⟩:=hN σ7 H7 n7;refine⟨m',hm,i+1,σ7,H7,I7.unpinned,T.keep _ _ _ st5 fun b hb o e=>(I7.pin (b,o) (mem_append_right _ (mem_append_right _ (fK hb e)))).1,fun b hb=>?_,w7⟩;obtain⟨o,e,d⟩:=T.obj _ _ st5 b hb;exact(I7.pin (b,o) (mem_append_right _ (mem_append_right _ (fK hb e)))).2.1
  cases f with
  |next|cont=>obtain⟨σ7,H7,I7,n7⟩:=q7;exact again I7 n7
  |brk=>obtain⟨σ7,H7,I7,q7⟩:=q7;exact⟨σ7,H7,I7.unpinned,q7⟩
  |ret v=>obtain⟨x7,σ7,H7,I7,r7,q7⟩:=q7;exact⟨x7,σ7,H7,I7.unpinned,r7,q7⟩
end
end L2
namespace L2
open PySem PySem.Spec PyProof.Rows
abbrev R2:=V->V->Hp->VK->Prop
def OpR(X:Cx)(f:Value->Value->Sem Value)(r:R2):Prop:=
 ∀(js:Gg) (s:Shared) (Y:St) (H:Hp) (x y:V) (v u:Value) (Q:VK),Inv X js Y H s->bf x v->bf y u->r x y H Q ->
  wpAny (model X.prog X.w) X.A (f v u) (EP X js Y Q) X.xe s
def UnR(X:Cx)(f:Value->Sem Value)(r:V->Hp->VK->Prop):Prop:=
 ∀(js:Gg) (s:Shared) (Y:St) (H:Hp) (x:V) (v:Value) (Q:VK),Inv X js Y H s->bf x v->r x H Q ->
  wpAny (model X.prog X.w) X.A (f v) (EP X js Y Q) X.xe s
def dq(X:Cx)(f:Value)(r:Gp->Hp->VK->Prop):Prop:=
 ∀(js:Gg) (s:Shared) (Y:St) (H:Hp) (xs:Gp) (us:Gj) (Q:VK),Inv X js Y H s->aE xs us->r xs H Q ->
  wpAny (model X.prog X.w) X.A (call f us) (EP X js Y Q) X.xe s
def FT(X:Cx)(r:V->Hp->(Bool->Gq)->Prop):Prop:=
 ∀(js:Gg) (s:Shared) (Y:St) (H:Hp) (x:V) (v:Value) (Q:Bool->Gq),Inv X js Y H s->bf x v->r x H Q ->
  wpAny (model X.prog X.w) X.A (truthy v) (TP X js Y Q) X.xe s
def tOp(r:R2)(ta tb:TE):TE:=fun Y H Q=>ta Y H fun x H1=>tb Y H1 fun y H2=>r x y H2 Q
def tUn(r:V->Hp->VK->Prop)(ta:TE):TE:=fun Y H Q=>ta Y H fun x H1=>r x H1 Q
def rI(C:Int->Int->Prop)(g:Int->Int->V):R2:=fun x y H Q=>∃i j,x=.int i/\y=.int j/\C i j/\Q (g i j) H
def rI0(g:Int->Int->V):R2:=fun x y H Q=>∃i j,x=.int i/\y=.int j/\Q (g i j) H
def rU(g:Int->V):V->Hp->VK->Prop:=fun x H Q=>∃i,x=.int i/\Q (g i) H
section
variable{X:Cx}{a b c:Expr}{ta tb tc:TE}{pos:Pos}
def BZ(ha:PE X a ta)(hb:PE X b tb){js:Gg}{s:Shared}{Y:St}{H:Hp}{R:V->V->Gq}(I:Inv X js Y H s)
  (h:ta Y H fun x H1=>tb Y H1 fun y H2=>R x y H2) {Q:Gc}{f:Value->Value->Sem Value}
  (hf:∀v u s2 x y H2,Inv X js Y H2 s2->bf x v->bf y u->R x y H2->wpAny (model X.prog X.w) X.A (f v u) Q X.xe s2) :
  wpAny (model X.prog X.w) X.A (eval a X.env) (fun v s₁=>wpAny (model X.prog X.w) X.A (eval b X.env) (fun u s₂=>wpAny (model X.prog X.w) X.A (f v u) Q X.xe s₂) X.xe s₁) X.xe s:=by
 refine thn (ha js s Y H _ I h) fun v s1 hz1=>?_;obtain⟨x,H1,I1,r1,q1⟩:=hz1;refine thn (hb js s1 Y H1 _ I1 q1) fun u s2 hz1=>?_;obtain⟨y,H2,I2,r2,q2⟩:=hz1;exact hf v u s2 x y H2 I2 r1 r2 q2
def Dp{op:Operator}{r:R2}(ho:OpR X (binaryOp op) r)(ha:PE X a ta)(hb:PE X b tb):PE X (.BinOp a op b pos) (tOp r ta tb):=by intro js s Y H Q I h;exact wpAny_BinOp (BZ ha hb I h fun v u s2 x y H2 I2 rx ry q=>ho js s2 Y H2 x y v u Q I2 rx ry q)
def zF{op:UnaryOp}{r:V->Hp->VK->Prop}(ho:UnR X (unaryOp op) r)(ha:PE X a ta):PE X (.UnaryOp op a pos) (tUn r ta):=by intro js s Y H Q I h;exact UnaryOp_ (thn (ha js s Y H _ I h) fun v s1 ⟨x,H1,I1,r1,q1⟩=>ho js s1 Y H1 x v Q I1 r1 q1)
def opI{f:Value->Value->Sem Value}{C:Int->Int->Prop}{g:Int->Int->Int}
  (rule:∀(i j:Int) (t u:Tok) (s:Shared) (Q:Gc) (E:Gc),C i j->Q (.int (g i j) s.toks) {s with toks:=s.toks+1}->wpAny (model X.prog X.w) X.A (f (.int i t) (.int j u)) Q E s) :
  OpR X f (rI C fun i j=>.int (g i j)):=by
 intro js s Y H x y v u Q I rx ry h;obtain⟨i,j,rfl,rfl,hc,q⟩:=h;obtain⟨t,rfl⟩:=rx;obtain⟨t',rfl⟩:=ry;exact rule i j t t' s _ _ hc ⟨.int (g i j),H,I.tok _,⟨_,rfl⟩,q⟩
def Dy{f:Value->Value->Sem Value}{g:Int->Int->Int}
  (rule:∀(i j:Int) (t u:Tok) (s:Shared) (Q:Gc) (E:Gc),Q (.int (g i j) s.toks) {s with toks:=s.toks+1}->wpAny (model X.prog X.w) X.A (f (.int i t) (.int j u)) Q E s) :
  OpR X f (rI0 fun i j=>.int (g i j)):=by
 intro js s Y H x y v u Q I rx ry h;obtain⟨i,j,rfl,rfl,q⟩:=h;obtain⟨t,rfl⟩:=rx;obtain⟨t',rfl⟩:=ry;exact rule i j t t' s _ _ ⟨.int (g i j),H,I.tok _,⟨_,rfl⟩,q⟩
def AS{f:Value->Value->Sem Value}{g:Int->Int->Bool}
  (rule:∀(i j:Int) (t u:Tok) (s:Shared) (Q:Gc) (E:Gc),Q (.bool (g i j)) s->wpAny (model X.prog X.w) X.A (f (.int i t) (.int j u)) Q E s) :
  OpR X f (rI0 fun i j=>.bl (g i j)):=by
 intro js s Y H x y v u Q I rx ry h;obtain⟨i,j,rfl,rfl,q⟩:=h;obtain⟨t,rfl⟩:=rx;obtain⟨t',rfl⟩:=ry;exact rule i j t t' s _ _ ⟨.bl (g i j),H,I,rfl,q⟩
def F5(i j:Int):Prop:=0<j/\j<1073741824
def FZ(i j:Int):Prop:=0<=j/\j<=1000000/\i.natAbs<2 ^ 64
def Cw(i j:Int):Prop:=(-(2 ^ 64)<i/\i<2 ^ 64)\/(-(2 ^ 64)<j/\j<2 ^ 64)
def Cw.ok{i j:Int}(h:Cw i j):IntMulOk i j:=by
 rcases h with⟨h1,h2⟩ |⟨h1,h2⟩
 ·exact .of_left (intBits_le_64 h1 h2)
 ·exact .of_right (intBits_le_64 h1 h2)
def oY(k:Nat):(0:Int)<= 2 ^ k:=by rw[two_pow_cast];exact Int.natCast_nonneg _
def AR:OpR X (binaryOp .Add) (rI0 fun i j=>.int (i+j)):=Dy fun _ _ _ _ _ _ _ q=>add_int q
def AJ:OpR X (binaryOp .Sub) (rI0 fun i j=>.int (i-j)):=Dy fun _ _ _ _ _ _ _ q=>sub_int q
def AN:OpR X (binaryOp .Mult) (rI Cw fun i j=>.int (i*j)):=opI fun _ _ _ _ _ _ _ hc q=>mul_int q hc.ok
def yn:OpR X (binaryOp .FloorDiv) (rI F5 fun i j=>.int (i / j)):=opI fun i j _ _ _ _ _ hc q=>by have h1:(0:Int)<j:=hc.1;have h2:j<1073741824:=hc.2;exact floordiv_int (by omega) (by rw[Int.fdiv_eq_ediv_of_nonneg i (by omega)];exact q) (.inl (PyProof.noPylong_small (by omega)))
def AO:OpR X (binaryOp .Mod) (rI (fun _ j=>0<j) fun i j=>.int (i%j)):=opI fun i j _ _ _ _ _ hc q=>by have h1:(0:Int)<j:=hc;exact mod_int' (by omega) (by rw[Int.fmod_eq_emod_of_nonneg i (by omega)];exact q)
def AM:OpR X (binaryOp .Pow) (rI FZ fun i j=>.int (i ^ j.toNat)):=opI fun _ _ _ _ _ _ _ hc q=>pow_int_small hc.1 hc.2.1 hc.2.2 q
def AK:OpR X (binaryOp .RShift) (rI (fun _ j=>0<=j) fun i j=>.int (i / 2 ^ j.toNat)):=opI fun i j _ _ _ _ _ hc q=>
 rshift_int hc (by rw[Int.fdiv_eq_ediv_of_nonneg i (oY _)];exact q)
def unI{f:Value->Sem Value}{g:Int->Int}
  (rule:∀(i:Int) (t:Tok) (s:Shared) (Q:Gc) (E:Gc),Q (.int (g i) s.toks) {s with toks:=s.toks+1}->wpAny (model X.prog X.w) X.A (f (.int i t)) Q E s) :
  UnR X f (rU fun i=>.int (g i)):=by
 intro js s Y H x v Q I rx h;obtain⟨i,rfl,q⟩:=h;obtain⟨t,rfl⟩:=rx;exact rule i t s _ _ ⟨.int (g i),H,I.tok _,⟨_,rfl⟩,q⟩
def uf:UnR X (unaryOp .USub) (rU fun i=>.int (-i)):=unI fun _ _ _ _ _ q=>neg_int q
def Bv{js:Gg}{Y:St}{H:Hp}{s:Shared}{Q:VK}{k k':Bool}(I:Inv X js Y H s)(q:Q (.bl k) H)(e:k=k'):EP X js Y Q (.bool k') s:=by subst e;exact⟨.bl k,H,I,rfl,q⟩
def Dv:OpR X (compareOp .Lt) (rI0 fun i j=>.bl (decide (i<j))):=AS fun _ _ _ _ _ _ _ q=>lt_int q
def Dw:OpR X (compareOp .Gt) (rI0 fun i j=>.bl (decide (j<i))):=AS fun _ _ _ _ _ _ _ q=>gt_int q
def Dx:OpR X (compareOp .GtE) (rI0 fun i j=>.bl (decide (j<=i))):=AS fun _ _ _ _ _ _ _ q=>ge_int q
def ym:OpR X (compareOp .IsNot) (fun x y H Q=>y=.non/\Q (.bl (!decide (x=.non))) H):=by
 intro js s Y H x y v u Q I rx ry h;obtain⟨rfl,q⟩:=h;cases ry;refine isnot_none_gen (Bv I q ?_);cases x<;>first
  |(cases rx;rfl)
  |(obtain⟨t,rfl⟩:=rx;rfl)
def OpR.or{f:Value->Value->Sem Value}{r r':R2}(h:OpR X f r)(h':OpR X f r'):OpR X f (fun x y H Q=>r x y H Q\/r' x y H Q):=by
 intro js s Y H x y v u Q I rx ry q;rcases q with q|q
 ·exact h js s Y H x y v u Q I rx ry q
 ·exact h' js s Y H x y v u Q I rx ry q
def ge(b:Expr){op:CmpOp}(h:op≠.In:=by decide)(h2:op≠.NotIn:=by decide):behindInMarks op b=false:=by
 have e1:(op==CmpOp.In)=false:=by cases op<;>first|rfl|exact absurd rfl h
 have e2:(op==CmpOp.NotIn)=false:=by cases op<;>first|rfl|exact absurd rfl h2
 cases b<;>simp[behindInMarks,e1,e2]
def yh{op:CmpOp}{r:R2}(ho:OpR X (compareOp op) r)(ha:PE X a ta)(hb:PE X b tb)(hm:behindInMarks op b=false):PE X (.Compare a [op] [b] pos) (tOp r ta tb):=by intro js s Y H Q I h;exact wpAny_Compare1 (BZ ha hb I h fun v u s2 x y H2 I2 rx ry q=>ho js s2 Y H2 x y v u Q I2 rx ry q) hm
def C8(t:TE):TT:=fun Y H Q=>t Y H fun x H'=>∃k,x=.bl k/\Q k H'
def x3{op:CmpOp}{r:R2}(ho:OpR X (compareOp op) r)(ha:PE X a ta)(hb:PE X b tb)(hm:behindInMarks op b=false):PT X (.Compare a [op] [b] pos) (C8 (tOp r ta tb)):=by
 intro js s Y H Q I h;refine wpAny_isTrue_Compare1 (thn (ha js s Y H _ I h) fun v s1 ⟨x,H1,I1,r1,q1⟩=>thn (hb js s1 Y H1 _ I1 q1) fun u s2 ⟨y,H2,I2,r2,q2⟩=>
  thn (ho js s2 Y H2 x y v u _ I2 r1 r2 q2) fun c s3 ⟨z,H3,I3,r3,k,e,q3⟩=>?_) hm
 subst e;cases r3;exact wpAny_truthy_bool ⟨H3,I3,q3⟩
def Ex(K:PySem.W.Frag)(x:V)(H:Hp)(k:Bool):Prop:=
 match x with
 |.non=>k=false
 |.bl b=>k=b
 |.int i=>k=(i != 0)
 |.str y=>y.length<=sizeLine/\k=((y.length:Int) != 0)
 |.byt y=>y.size<=sizeLine/\k=((y.size:Int) != 0)
 |.ref p=>(∃xs,SqL K H p xs/\k=!xs.isEmpty)\/(∃xs,SqT K H p xs/\k=!xs.isEmpty)\/ ∃kvs,H p=some (.dK kvs)/\k=!kvs.isEmpty
 |_=>False
def pP{κ:Type}{kvs:List (κ×V)}{vs:List (κ×Value)}(r:KV kvs vs):(!vs.isEmpty)=!kvs.isEmpty:=by cases r<;>rfl
def j9{xs:Gp}{its:Gj}(r:aE xs its):(!its.toArray.isEmpty)=!xs.isEmpty:=by cases r<;>simp
def i_:(sizeLine:Nat)<2 ^ 63:=by rw[sizeLine_eq];decide
def zX:FT X (fun x H Q=>∃k,Ex X.K x H k/\Q k H):=by
 intro js s Y H x v Q I rx h;obtain⟨k,e,q⟩:=h;have hl:=i_;have hs:sizeLine=16777216:=sizeLine_eq;cases x with
 |non=>cases rx;have e':k=false:=e;subst e';exact truthy_none ⟨H,I,q⟩
 |bl b=>cases rx;have e':k=b:=e;subst e';exact wpAny_truthy_bool ⟨H,I,q⟩
 |int i=>obtain⟨t,rfl⟩:=rx;have e':k=(i != 0):=e;subst e';exact PySem.P.truthy_int ⟨H,I,q⟩
 |str y=>obtain⟨t,rfl⟩:=rx;obtain⟨hy,e'⟩:y.length<=sizeLine/\k=((y.length:Int) != 0):=e;subst e';exact PySem.P.truthy_str (by omega) ⟨H,I.tok _,q⟩
 |byt y=>obtain⟨t,rfl⟩:=rx;obtain⟨hy,e'⟩:y.size<=sizeLine/\k=((y.size:Int) != 0):=e;subst e';exact PySem.W.truthy_bytes (by omega) ⟨H,I.tok _,q⟩
 |ref p=>
  cases rx;have e':(∃xs,SqL X.K H p xs/\k=!xs.isEmpty)\/(∃xs,SqT X.K H p xs/\k=!xs.isEmpty)\/ ∃kvs,H p=some (.dK kvs)/\k=!kvs.isEmpty:=e;rcases e' with⟨xs,hx,e'⟩ |⟨xs,hx,e'⟩ |⟨kvs,hx,e'⟩
  ·subst e';obtain⟨its,r,pl,hz⟩:=I.list hx;have hlen:=r.length;exact wpAny_truthy_list pl.isList (by simp only[size_toArray];omega) ⟨H,I.tok _,by rw[j9 r];exact q⟩
  ·subst e';obtain⟨its,r,pl,hz⟩:=I.tuple hx;have hlen:=r.length;exact truthy_tuple pl (by simp only[size_toArray];omega) ⟨H,I.tok _,by rw[j9 r];exact q⟩
  ·subst e';obtain⟨hz,hS,vs,r,m⟩:kvs.length<=sizeLine/\(p==sysModules)=false/\∃vs,KV kvs vs/\s.heap.DictOf (mf X.prog X.w) p vs:=I.hok p _ hx;have hlen:kvs.length=vs.length:=Paired.length r;exact wpAny_truthy_dict hS m (by omega) ⟨H,I.tok _,by rw[pP r];exact q⟩
 |_=>exact(show False from e).elim
def uN(ha:PE X a ta)(he:∀whole,isTrue a X.env whole=(do let v <- whole;standAt a.pos;holding [v] (truthy v))) :
  PT X a (fun Y H Q=>ta Y H fun x H'=>∃k,Ex X.K x H' k/\Q k H'):=by
 intro js s Y H Q I h;exact isTrue_plain (thn (ha js s Y H _ I h) fun v s1 ⟨x,H1,I1,r1,q1⟩=>zX js s1 Y H1 x v Q I1 r1 q1) (he _)
def cP{x:V}{us:Gj}(r:aE [x] us):∃u,us=[u]/\bf x u:=by
 cases r with
 |cons r1 r2=>cases r2;exact⟨_,rfl,r1⟩
def C5{x y:V}{us:Gj}(r:aE [x,y] us):∃u w',us=[u,w']/\bf x u/\bf y w':=by
 cases r with
 |cons r1 r2=>
  cases r2 with
  |cons r3 r4=>cases r4;exact⟨_,_,rfl,r1,r3⟩
def t5(hc:X.calm=true):dq X (.builtin "min") (fun xs H Q=>∃i j,xs=[.int i,.int j]/\Q (.int (if j<i then j else i)) H):=by
 intro js s Y H xs us Q I r h;obtain⟨i,j,rfl,q⟩:=h;obtain⟨u,w',rfl,⟨t,rfl⟩,⟨t',rfl⟩⟩:=C5 r;refine min_two_ints (I.ok.hd hc) fun h' tk k=>⟨_,H,I.kept k,?_,q⟩
 by_cases hj:j<i
 ·rw[if_pos hj,if_pos hj];exact⟨_,rfl⟩
 ·rw[if_neg hj,if_neg hj];exact⟨_,rfl⟩
end
end L2
namespace L2
open PySem PySem.Spec PyProof.Rows
structure qe(h:Heap)(x dx C:Addr)(mA:Ge):Prop where
 obj:h.get? x=some (instObj C dx)
 ns:h.Ns1 dx mA
 ne:dx≠x
def sR{h:Heap}{dx:Addr}{mA:Ge}(n:h.Ns1 dx mA):∃od,h.get? dx=some od/\∀name,lookIn name od=some (mA name):=by
 obtain⟨o,es,ep,ho,hd,hk,_,hm⟩:=n;refine⟨o,ho,fun name=>?_⟩;have e:=hm name;unfold nsFind findBy at e;rw[<- Array.find?_toList]at e;unfold lookIn;rw[hd];dsimp only;split
 ·rename_i y q
  rw[q]at e;exact congrArg some e
 ·rename_i q
  rw[q]at e;have a:es.toList.any (·.refKey)=false:=by rw[List.any_eq_false];intro y hy;obtain⟨z,t,hkey⟩:=hk y (Array.mem_toList_iff.mp hy);simp[DictEntry.refKey,hkey]
  have a':¬es.toList.any (·.refKey)=true:=by rw[a];exact Bool.false_ne_true
  rw[if_neg a'];exact congrArg some e
def qe.look{h:Heap}{x dx C:Addr}{mA:Ge}(I:qe h x dx C mA):∃od,PySem.W.InstAt h x (instObj C dx) C (some od)/\∀name,lookIn name od=some (mA name):=
 let⟨od,ho,hl⟩:=sR I.ns
 ⟨od,⟨I.obj,rfl,rfl,ho⟩,hl⟩
section
variable{prog:Program}{w:World}{A:Around}{E:Gc}{s:Shared}{K:PySem.W.Frag}{x dx C f:Addr}{mA:Ge}{name:Str}{v:Value}
def yS{expr:Bool}{Q:Gc}(X:K.In s.heap)(I:qe s.heap x dx C mA)(hg:plainGet K C name=true)(hh:hasDictIn K C=true)
  (ha:PySem.W.findIn K (.ref C) name=some none) (hv:mA name=some v) (hv':handedIn v=true) (h:Q v {s with toks:=s.toks+1}) :
  wpAny (model prog w) A (getAttr (.ref x) name expr) Q E s:=by
 obtain⟨od,J,hl⟩:=I.look;exact PySem.W.get_value X J (plainGet_of hg).1 (PySem.W.findObj_own hh ha rfl (by rw[hl,hv])) hv' h
def v6{pl:Sem Bool}{Q:Value×Gj->Shared->Prop}(X:K.In s.heap)(I:qe s.heap x dx C mA)(hg:plainGet K C name=true)
  (hf:PySem.W.findIn K (.ref C) name=some (some (.ref f))) (ht:PySem.W.isFn K (.ref f)=true) (hv:mA name=none) (h:Q (.ref f,[.ref x]) s) :
  wpAny (model prog w) A (getMethod (.ref x) name pl) Q E s:=by
 obtain⟨od,J,hl⟩:=I.look;exact PySem.W.method_fn X J (plainGet_of hg).1 (plainGet_of hg).2 hf (beq_iff_eq.mp ht) (by show(lookIn name od).map (·.isSome)=some false;rw[hl,hv];rfl) h
def xE{ns:Gm}{Q:Unit->Shared->Prop}(X:K.In s.heap)(I:qe s.heap x dx C mA)
  (hs:PySem.W.findIn K (.ref C) "__setattr__"=some (some (.builtin "object.__setattr__"))) (hp:plainOver K C=true) (ht:takerIn K C name=some none) (hh:hasDictIn K C=true)
  (hw:PySem.Within mA ns) (hsz:ns.length<=sizeLine)
  (h:∀h',qe h' x dx C (fun y=>if y=name then some v else mA y)->SameBut dx s.heap h'->Q () {s with heap:=h',toks:=s.toks+2}) :
  wpAny (model prog w) A (setAttr (.ref x) name v) Q E s:=by
 obtain⟨od,J,hl⟩:=I.look;refine PySem.W.set_plain X J hs (PySem.W.osa_open (s:={s with toks:=s.toks+1}) (r:=none) X J hp ht fun b=>?_);obtain⟨cd,hc,hd'⟩:=PySem.W.any_some hh;have hx:s.heap.get? x=some ⟨.ref C,some dx,.plain,#[]⟩:=I.obj;refine wpAny_bind (wpAny_pure (wpAny_bind (wpAny_bind (wpAny_loadPart hx (wpAny_bind (PySem.W.Looks.here (s:={s with toks:=s.toks+1}) (PySem.W.looks_clsIn X hc) ?_))))));rw[hd'];refine wpAny_pure (a:=some dx) (wpAny_bind (wpAny_pure (wpAny_bind ?_)));refine wpAny_nsSet1 (s:={s with toks:=s.toks+1}) I.ns fun h' hn2 hs2=>?_;obtain⟨oD,esD,epD,hoD,hdD,hcD⟩:=hn2.count (PySem.Within.cons name v hw);refine wpAny_bind (wpAny_lookBehind hoD (by rw[hdD];exact pastItsLine_dict (Nat.le_trans hcD (by rw[length_cons];omega))) ?_);exact wpAny_pure (h _ ⟨(hs2.2 _ (Ne.symm I.ne)).trans I.obj,hn2,I.ne⟩ hs2)
def vQ{R:Result->Shared->Prop}{vs:Gj}{kw:List (Str×Value)}(X:K.In s.heap)(hm:makesIn K C=true)
  (hi:PySem.W.findIn K (.ref C) "__init__"=some (some (.ref f))) (hf:PySem.W.typeIn K (.ref f)=some (.type "function"))
  (h:codeAny (model prog w) (A.under (.builtin "type.__call__" ⟨.ref C::vs,kw⟩)) (.call (.ref f) ⟨.ref (s.heap.objs.size+1)::vs,kw⟩) (PySem.W.InitBack (s.heap.objs.size+1) R)
   {s with heap:=(s.heap.push emptyDict).push (instObj C s.heap.objs.size)}) :
  codeAny (model prog w) A (.call (.ref C) ⟨vs,kw⟩) R s:=by
 obtain⟨hh,g,d,t,os⟩:=s;exact PySem.W.make_core (PySem.W.makes_of X hm) (PySem.W.looks_findIn X hi) (fun self=>PySem.W.bind_fn X self hf) (.inl rfl) h
end
def fB(f:Str)(v:V):List (Str×V)->List (Str×V)
 | []=>[(f,v)]
 |(g,x)::r=>if g=f then(g,v)::r else(g,x)::fB f v r
def ju(f g:Str)(v:V):∀fs:List (Str×V),(fB f v fs).lookup g=if g=f then some v else fs.lookup g
 | []=>by
  show List.lookup g [(f,v)]=_;by_cases h:g=f
  ·have hb:(g==f)=true:=beq_iff_eq.mpr h;simp only[List.lookup,hb,if_pos h]
  ·have hb:(g==f)=false:=beq_eq_false_iff_ne.mpr h;simp only[List.lookup,hb,if_neg h]
 |(k,x)::r=>by
  have ih:=ju f g v r;rw[show fB f v ((k,x)::r)=(if k=f then(k,v)::r else(k,x)::fB f v r)from rfl];by_cases hk:k=f
  ·rw[if_pos hk];by_cases h:g=k
   ·have hb:(g==k)=true:=beq_iff_eq.mpr h;simp only[List.lookup,hb,if_pos (h.trans hk)]
   ·have hb:(g==k)=false:=beq_eq_false_iff_ne.mpr h;simp only[List.lookup,hb,if_neg (fun e:g=f=>h (e.trans hk.symm))]
  ·rw[if_neg hk];by_cases h:g=k
   ·have hb:(g==k)=true:=beq_iff_eq.mpr h;simp only[List.lookup,hb,if_neg (fun e:g=f=>hk (h.symm.trans e))]
   ·have hb:(g==k)=false:=beq_eq_false_iff_ne.mpr h;simp only[List.lookup,hb];exact ih
def ja(f:Str)(v:V):∀fs:List (Str×V),f ∈(fB f v fs).map (·.1)/\∀g,g∈fs.map (·.1)->g ∈(fB f v fs).map (·.1)
 | []=>⟨by simp[fB],fun g h=>by simp at h⟩
 |(k,x)::r=>by
  obtain⟨i1,i2⟩:=ja f v r;rw[show fB f v ((k,x)::r)=(if k=f then(k,v)::r else(k,x)::fB f v r)from rfl];by_cases hk:k=f
  ·rw[if_pos hk];subst hk;exact⟨by simp,fun g h=>by simpa using h⟩
  ·rw[if_neg hk];refine⟨?_,fun g h=>?_⟩
   ·rw[map_cons];exact mem_cons_of_mem _ i1
   ·rw[map_cons]at h ⊢;rcases mem_cons.mp h with e|e
    ·exact mem_cons.mpr (.inl e)
    ·exact mem_cons_of_mem _ (i2 g e)
def jw(f:Str)(v:V):∀fs:List (Str×V),(fB f v fs).length<=fs.length+1
 | []=>by simp[fB]
 |(k,x)::r=>by
  have ih:=jw f v r;rw[show fB f v ((k,x)::r)=(if k=f then(k,v)::r else(k,x)::fB f v r)from rfl];by_cases hk:k=f
  ·rw[if_pos hk,length_cons,length_cons];omega
  ·rw[if_neg hk,length_cons,length_cons];omega
def kK.some_of{v:V}{o:Option Value}(r:kK (some v) o):∃u,o=some u/\bf v u:=by
 cases o with
 |none=>exact(show False from r).elim
 |some u=>exact⟨u,rfl,r⟩
def kK.none_of{o:Option Value}(r:kK none o):o=none:=by
 cases o with
 |none=>rfl
 |some u=>exact(show False from r).elim
def tw{v:V}{u:Value}(r:bf v u):handedIn u=true:=by
 cases v with
 |non=>cases(show u=Value.none from r);rfl
 |bl b=>cases(show u=Value.bool b from r);rfl
 |int i=>obtain⟨t,e⟩:=(show ∃t,u=Value.int i t from r);cases e;rfl
 |str x=>obtain⟨t,e⟩:=(show ∃t,u=Value.str x t from r);cases e;rfl
 |byt b=>obtain⟨t,e⟩:=(show ∃t,u=Value.bytes b t from r);cases e;rfl
 |flt b=>obtain⟨t,e⟩:=(show ∃t,u=Value.float b t from r);cases e;rfl
 |ref a=>cases(show u=Value.ref a from r);rfl
 |ty n=>cases(show u=Value.type n from r);rfl
section
variable{P:Program}{w:World}{H H':Hp}{h h':Heap}{a C dx:Addr}{fs fs':List (Str×V)}
def mB(hok:HOk P w H h)(e:H a=some (.ins C dx fs)):∃mA,qe h a dx C mA/\(∀f,kK (fs.lookup f) (mA f))/\PySem.Within mA (fs.map (·.1))/\fs.length<=1000/\H dx=some (.own a):=by
 obtain⟨d,z,ne,ob,mA,n,r,q⟩:=(show cD P w H h a (.ins C dx fs)from hok a _ e)
 exact⟨mA,⟨ob,n,ne⟩,r,q,z,d⟩
end
structure Cls(K:PySem.W.Frag)(C:Addr):Prop where
 pg:plainGet K C Str.empty=true
 hd:hasDictIn K C=true
 po:plainOver K C=true
 sa:PySem.W.findIn K (.ref C) "__setattr__"=some (some (.builtin "object.__setattr__"))
def Cls.get{K:PySem.W.Frag}{C:Addr}(c:Cls K C)(f:Str):plainGet K C f=true:=c.pg
def dO(K:PySem.W.Frag)(C:Addr)(f:Str):Prop:=PySem.W.findIn K (.ref C) f=some none
def dO.taker{K:PySem.W.Frag}{C:Addr}{f:Str}(n:dO K C f):takerIn K C f=some none:=by unfold takerIn;rw[show PySem.W.findIn K (.ref C) f=some none from n];rfl
structure zu(K:PySem.W.Frag)(C:Addr)(m:Str)(f:Addr):Prop where
 at_:PySem.W.findIn K (.ref C) m=some (some (.ref f))
 fn:PySem.W.isFn K (.ref f)=true
 kp:PySem.W.keepIn K (.ref f)=true
section
variable{X:Cx}{js:Gg}{Y:St}{H:Hp}{s:Shared}{a C dx:Addr}{fs:List (Str×V)}{f:Str}{v:V}{A:Around}{E:Gc}
def pW{b:Bool}{Q:Gc}(I:Inv X js Y H s)(e:H a=some (.ins C dx fs))(c:Cls X.K C)(n:dO X.K C f)(l:fs.lookup f=some v)
  (h:∀u s',Inv X js Y H s'->bf v u->Q u s'):wpAny (model X.prog X.w) A (getAttr (.ref a) f b) Q E s:=by
 obtain⟨mA,O,r,_,_,_⟩:=mB I.hok e;obtain⟨u,hu,ru⟩:=kK.some_of (v:=v) (o:=mA f) (by rw[<- l];exact r f);exact yS I.kIn O (c.get f) c.hd n hu (tw ru) (h u _ (I.tok _) ru)
def pV{m:Str}{g:Addr}{pl:Sem Bool}{Q:Value×Gj->Shared->Prop}(I:Inv X js Y H s)(e:H a=some (.ins C dx fs))(c:Cls X.K C)(k:zu X.K C m g)(l:fs.lookup m=none)
  (h:Q (.ref g,[.ref a]) s):wpAny (model X.prog X.w) A (getMethod (.ref a) m pl) Q E s:=by
 obtain⟨mA,O,r,_,_,_⟩:=mB I.hok e;have hn:mA m=none:=kK.none_of (by rw[<- l];exact r m);exact v6 I.kIn O (c.get m) k.at_ k.fn hn h
def pq{y:V}{u:Value}{Q:Unit->Shared->Prop}(I:Inv X js Y H s)(e:H a=some (.ins C dx fs))(c:Cls X.K C)(n:dO X.K C f)(hl:fs.length<1000)(ry:bf y u)
  (h:∀s',Inv X js Y (upd H a (.ins C dx (fB f y fs))) s'->Q () s'):wpAny (model X.prog X.w) A (setAttr (.ref a) f u) Q E s:=by
 obtain⟨mA,O,r,wi,_,ho⟩:=mB I.hok e;have hz:(fs.map (·.1)).length<=sizeLine:=by rw[length_map,sizeLine_eq];omega
 refine xE I.kIn O c.sa c.po n.taker c.hd wi hz fun h' O' sb=>h _ ?_;have hd:∃o,h'.get? dx=some o:=let⟨o,_,_,e',_⟩:=O'.ns;⟨o,e'⟩
 refine I.write (x:=a) (e:=dx) (by rw[e];exact True.intro) (.inr ho) (fun b q hb z=>(sb.2 b hb).trans z) hd ?_;refine⟨by rw[az O.ne];exact ho,?_,O.ne,O'.obj,_,O'.ns,fun g=>?_,fun g hg=>?_⟩
 ·have:=jw f y fs;omega
 ·show kK ((fB f y fs).lookup g) (if g=f then some u else mA g);rw[ju];by_cases q:g=f
  ·rw[if_pos q,if_pos q];exact ry
  ·rw[if_neg q,if_neg q];exact r g
 ·by_cases q:g=f
  ·rw[q];exact(ja f y fs).1
  ·refine(ja f y fs).2 g (wi g fun z=>hg ?_);show(if g=f then some u else mA g)=none;rw[if_neg q];exact z
def Inv.made(I:Inv X js Y H s):Inv X js Y (upd (upd H s.heap.objs.size (.own (s.heap.objs.size+1))) (s.heap.objs.size+1) (.ins C s.heap.objs.size []))
  {s with heap:=(s.heap.push emptyDict).push (instObj C s.heap.objs.size)}:=by
 have e1:(s.heap.push emptyDict).get? s.heap.objs.size=some emptyDict:=get?_push_size s.heap rfl;have e2:((s.heap.push emptyDict).push (instObj C s.heap.objs.size)).get? (s.heap.objs.size+1)=some (instObj C s.heap.objs.size):=by
  have:=get?_push_size (s.heap.push emptyDict) (o:=instObj C s.heap.objs.size) rfl
  rwa [size_push]at this
 have e3:(s.heap.push emptyDict).Ns s.heap.objs.size (fun _=>none):=⟨emptyDict,#[],_,e1,rfl,(fun e he=>absurd he (by simp)),fun _=>rfl⟩
 have I1:=I.laid (a:=s.heap.objs.size) (o:=.own (s.heap.objs.size+1)) (h':=s.heap.push emptyDict) (t':=s.toks) (fun b u q=>get?_push_of_some _ q) (Nat.le_refl _) ⟨_,e1⟩;refine I1.laid (a:=s.heap.objs.size+1) (o:=.ins C s.heap.objs.size []) (t':=s.toks) (fun b u q=>get?_push_of_some _ q) (Nat.le_of_eq (size_push _ _)) ?_;have ne:s.heap.objs.size≠s.heap.objs.size+1:=Nat.ne_of_lt (lt_succ_self _);refine⟨by rw[az ne,aM],zero_le _,ne,e2,fun _=>none,(Heap.Ns1.of_empty e3).at fun o q=>get?_push_of_some _ q,fun _=>True.intro,fun y hy=>absurd rfl hy⟩
def zq{prog:Program}{w:World}{env:Env}{e:Expr}{f:Str}{pos:Pos}{s:Shared}{Q:Gc}(hb:attributeBase e f env (eval e env)=eval e env)
  (h:wpAny (model prog w) A (eval e env) (fun o s₁=>wpAny (model prog w) A (getAttr o f true) Q E s₁) E s):wpAny (model prog w) A (eval (.Attribute e f pos) env) Q E s:=
 Attribute_any_ h (by rw[arm_eval_Attribute,hb])
end
def Db(K:PySem.W.Frag)(ta:TE)(f:Str):TE:=fun Y H Q=>ta Y H fun x H1=>∃a C dx fs v,x=.ref a/\H1 a=some (.ins C dx fs)/\Cls K C/\dO K C f/\fs.lookup f=some v/\Q v H1
def sFld(K:PySem.W.Frag)(ta tv:TE)(f:Str):TS:=fun D Y H=>tv Y H fun y H1=>ta Y H1 fun x H2=>∃a C dx fs,x=.ref a/\H2 a=some (.ins C dx fs)/\Cls K C/\dO K C f/\fs.length<1000 /\
 D.nx Y (upd H2 a (.ins C dx (fB f y fs)))
section
variable{X:Cx}{o e value:Expr}{f:Str}{pos pos' tpos:Pos}{ta tv:TE}
def AF(he:PE X e ta)(hb:attributeBase e f X.env (eval e X.env)=eval e X.env):PE X (.Attribute e f pos) (Db X.K ta f):=by intro js s Y H Q I h;refine zq hb (thn (he js s Y H _ I h) fun u s1 zz=>?_);obtain⟨x,H1,I1,rx,a,C,dx,fs,v,ex,ea,c,n,l,q⟩:=zz;subst ex;obtain rfl:u=Value.ref a:=rx;exact pW I1 ea c n l fun u' s2 I2 ru=>⟨v,H1,I2,ru,q⟩
def Aw(ha:PE X o ta)(hv:PE X value tv)(hs:swapsWith value (some (.Attribute o f pos')) pos.line X.env=pure false):PS X (.Assign [.Attribute o f pos'] value pos) (sFld X.K ta tv f):=by intro js s Y H D I h;refine plainObj_wpAny_Assign_Attribute (thn (hv js s Y H _ I h) fun u s1 ⟨y,H1,I1,ry,q⟩=>thn (ha js s1 Y H1 _ I1 q) fun ov s2 zz=>?_) hs;obtain⟨x,H2,I2,rx,a,C,dx,fs,ex,ea,c,n,l,q2⟩:=zz;subst ex;obtain rfl:ov=Value.ref a:=rx;exact pq I2 ea c n l ry fun s3 I3=>⟨Y,_,I3,q2⟩
end
end L2
namespace L2
open PySem PySem.Spec PyProof.Rows
structure cG(k:Nat)(A:Around):Prop where
 hd:A.handled=none
 dp:A.depth+3*k+5<recursionLimit
 un:A.units+16*k+200<cLine
def cG.mono{j k:Nat}{A:Around}(r:cG k A)(h:j<=k):cG j A:=⟨r.hd,by have:=r.dp;omega,by have:=r.un;omega⟩
def cG.deeper{k:Nat}{A:Around}(r:cG (k+1) A)(env:Env):cG k (A.deeper env):=
 ⟨r.hd,by have:=r.dp;show A.depth+1+3*k+5<_;omega,by have:=r.un;show A.units+3+16*k+200<_;omega⟩
def pM{A:Around}{C:Addr}{us:Gj}{kw:List (Str×Value)}:(A.under (.builtin "type.__call__" ⟨.ref C::us,kw⟩)).depth=A.depth+1:=by
 first|rfl|simp[Around.under,Code.weight,Code.isCreation,Code.isGuard,Code.isCaller,Code.frames,Code.isFrame,guardIds]
def pL{A:Around}{C:Addr}{us:Gj}{kw:List (Str×Value)}:(A.under (.builtin "type.__call__" ⟨.ref C::us,kw⟩)).units=A.units+1:=by
 first|rfl|simp[Around.under,Code.cUnits,Code.frames,Code.isFrame]
def cG.make{k:Nat}{A:Around}(r:cG (k+1) A)(C:Addr)(us:Gj)(kw:List (Str×Value)):cG k (A.under (.builtin "type.__call__" ⟨.ref C::us,kw⟩)):=
 ⟨r.hd,by have:=r.dp;rw[pM];omega,by have:=r.un;rw[pL];omega⟩
def cG.depth{k:Nat}{A:Around}(r:cG k A):A.depth<recursionLimit:=by have:=r.dp;omega
def cG.units{k:Nat}{A:Around}(r:cG k A):A.units+64<cLine:=by have:=r.un;omega
def z5:TA:=fun _ H Q=>Q [] H
def qj(ta:TE)(tr:TA):TA:=fun Y H Q=>ta Y H fun x H1=>tr Y H1 fun xs H2=>Q (x::xs) H2
section
variable{X:Cx}{e:Expr}{es:List Expr}{te:TE}{t:TA}{pos:Pos}
def fD:PA X [] z5:=fun _ _ _ _ H Q I h=>Calls.spliced_nil ⟨[],H,I,.nil,h⟩
def bW(ha:PE X e te)(hr:PA X es t)(hs:starEach (e::es) X.env=(false,eval e X.env)::starEach es X.env:=by rfl):PA X (e::es) (qj te t):=by intro pos js s Y H Q I h;rw[hs];show wpAny _ _ (spliced ((false,eval e X.env)::backTo pos (starEach es X.env))) _ _ s;refine Calls.spliced_cons (thn (ha js s Y H _ I h) fun u s1 zz=>?_);obtain⟨x,H1,I1,r1,q1⟩:=zz;exact thn (hr pos js s1 Y H1 _ I1 q1) fun us s2 ⟨xs,H2,I2,r2,q2⟩=>⟨x::xs,H2,I2,.cons r1 r2,q2⟩
def E8(t:TA):TE:=fun Y H Q=>t Y H fun xs H1=>xs.length<=sizeLine/\∀p,H1 p=none->Q (.ref p) (upd H1 p (.tup xs))
def Fd(t:TA):TE:=fun Y H Q=>t Y H fun xs H1=>xs.length<=sizeLine/\∀p,H1 p=none->Q (.ref p) (upd H1 p (.lst xs))
def uY{x1}(h:PA X es t):PE X (.Tuple es x1 pos) (E8 t):=by intro js s Y H Q I hq;refine wpAny_Tuple_spliced (thn (h pos js s Y H _ I hq) fun us s1 ⟨xs,H1,I1,r,z,q⟩=>⟨by rw[<- r.length];exact z,?_⟩);have hf:H1 s1.heap.objs.size=none:=I1.hok.fresh (Nat.le_refl _);refine⟨.ref s1.heap.objs.size,upd H1 s1.heap.objs.size (.tup xs),I1.laid (t':=s1.toks) (fun b u e=>get?_push_of_some _ e) (Nat.le_refl _) ?_,rfl,q _ hf⟩;exact⟨z,us,r,⟨_,get?_push_size _ rfl,rfl,_,rfl⟩⟩
def AE(h:PA X es t):PE X (.List es pos) (Fd t):=by intro js s Y H Q I hq;refine wpAny_List_spliced (thn (h pos js s Y H _ I hq) fun us s1 ⟨xs,H1,I1,r,z,q⟩=>⟨by rw[<- r.length];exact z,?_⟩);have hf:H1 s1.heap.objs.size=none:=I1.hok.fresh (Nat.le_refl _);refine⟨.ref s1.heap.objs.size,upd H1 s1.heap.objs.size (.lst xs),I1.laid (t':=s1.toks) (fun b u e=>get?_push_of_some _ e) (Nat.le_refl _) ?_,rfl,q _ hf⟩;exact⟨z,us,0,r,get?_push_size _ rfl⟩
end
abbrev Sp:=Gp->Hp->VK->XK->Prop
abbrev CXT:=List Env->Hp->Shared->XK->Gc
structure mU(P:Program)(w:World)(K:PySem.W.Frag)(mg:Ge)(base:Heap)(A:Around)(outer:List Env)(s:Shared)(H:Hp):Prop where
 frames:A.frames=some outer
 mod:Mod K mg base
 bs:∀b o,base.get? b=some o->s.heap.get? b=some o/\H b=none
 bsz:base.objs.size<=s.heap.objs.size
 funs:s.heap.FunFrames base outer
 frf:∀b∈frs outer,H b=none
 hok:HOk P w H s.heap
 bare:AllBare s.gens
def CE(outer:List Env)(P:Program)(w:World)(H:Hp)(s:Shared)(Q:VK)(u:Value)(s':Shared):Prop:=
 ∃v H',s'.os=s.os/\AllBare s'.gens/\Un (frs outer) [] H H' s.heap s'.heap/\HOk P w H' s'.heap/\bf v u/\Q v H'
def CR(CX:CXT)(outer:List Env)(P:Program)(w:World)(H:Hp)(s:Shared)(Q:VK)(E:XK)(r:Result)(s':Shared):Prop:=
 match r with
 |.ok (.ret u)=>CE outer P w H s Q u s'
 |.ok _=>False
 |.error e=>CX outer H s E e s'
structure b8(P:Program)(w:World)(K:PySem.W.Frag)(mg:Ge)(base:Heap)(CX:CXT)(k:Nat)(f:Addr)(fd:FuncData)(ps:Gm)(sp:Sp):Prop where
 len:∀vs H Q E,sp vs H Q E->vs.length=ps.length
 run:∀(A:Around) (outer:List Env) (s:Shared) (H:Hp) (args:Args) (us:Gj) (vs:Gp) (Q:VK) (E:XK),cG k A->mU P w K mg base A outer s H->BindsTo s fd args (ps.zip us)->aE vs us->sp vs H Q E ->
  codeAny (model P w) A (.call (.ref f) args) (CR CX outer P w H s Q E) s
def b8.mono{P:Program}{w:World}{K:PySem.W.Frag}{mg:Ge}{base:Heap}{CX:CXT}{j k:Nat}{f:Addr}{fd:FuncData}{ps:Gm}{sp:Sp}(F:b8 P w K mg base CX j f fd ps sp)(h:j<=k) :
  b8 P w K mg base CX k f fd ps sp:=⟨F.len,fun A outer s H args us vs Q E hr=>F.run A outer s H args us vs Q E (hr.mono h)⟩
def b8.imp{P:Program}{w:World}{K:PySem.W.Frag}{mg:Ge}{base:Heap}{CX:CXT}{k:Nat}{f:Addr}{fd:FuncData}{ps:Gm}{sp sp':Sp}(F:b8 P w K mg base CX k f fd ps sp)
  (h:∀vs H Q E,sp' vs H Q E->sp vs H Q E):b8 P w K mg base CX k f fd ps sp':=
 ⟨fun vs H Q E q=>F.len vs H Q E (h _ _ _ _ q),fun A outer s H args us vs Q E hr he hb hv hs=>F.run A outer s H args us vs Q E hr he hb hv (h _ _ _ _ hs)⟩
def mU.make{P:Program}{w:World}{K:PySem.W.Frag}{mg:Ge}{base:Heap}{A:Around}{outer:List Env}{s:Shared}{H:Hp}(e:mU P w K mg base A outer s H)(C:Addr)(us:Gj)(kw:List (Str×Value)) :
  mU P w K mg base (A.under (.builtin "type.__call__" ⟨.ref C::us,kw⟩)) outer s H:=⟨by first|exact e.frames |(simpa[Around.under,Code.envs,Code.isFrame,pushEnvs]using e.frames),e.mod,e.bs,e.bsz,e.funs,e.frf,e.hok,e.bare⟩
section
variable{X:Cx}{js:Gg}{Y:St}{H:Hp}{s s':Shared}
def Inv.env0(I:Inv X js Y H s):mU X.prog X.w X.K X.mg X.base X.A X.stack s H:=
 ⟨I.ok.frames,I.ok.mod,I.bs,Nat.le_trans I.ok.bsz I.sz,I.stack,I.stkFree,I.hok,I.bare⟩
def Inv.after{Q:VK}{u:Value}(I:Inv X js Y H s)(h:CE X.stack X.prog X.w H s Q u s'):EP X js Y Q u s':=by obtain⟨v,H',os,bare,un,hok,r,q⟩:=h;obtain⟨hh,g,d,t,os'⟩:=s';obtain rfl:os'=s.os:=os;exact⟨v,H',I.call (h':=hh) (g':=g) (d':=d) (t':=t) (ch:=[]) un hok bare (fun b z=>absurd z (by simp)),r,q⟩
end
def dR(K:PySem.W.Frag)(fd:FuncData)(ps:Gm)(ds:Gj):Prop:=
 ∀(s:Shared) (us:Gj),K.In s.heap->(us++ds).length=ps.length->BindsTo s fd ⟨us,[]⟩ (ps.zip (us++ds))
def dR.all{K:PySem.W.Frag}{fd:FuncData}{ps:Gm}(h:∀us:Gj,us.length=ps.length->bindArgs fd ⟨us,[]⟩=pure (ps.zip us)):dR K fd ps []:=fun s us _ hl=>by rw[append_nil]at hl ⊢;exact .of_eq (h us hl)
section
variable{X:Cx}{CX:CXT}{k:Nat}{f C:Addr}{fd:FuncData}{ps:Gm}{sp:Sp}{dvs:Gp}{ds:Gj}{E:XK}{x m:Str}{p pos apos:Pos}{e o:Expr}{es:List Expr}{ta:TE}{t:TA}
structure Mk(K:PySem.W.Frag)(C f:Addr):Prop where
 makes:makesIn K C=true
 init:PySem.W.findIn K (.ref C) "__init__"=some (some (.ref f))
 fn:PySem.W.isFn K (.ref f)=true
 kp:PySem.W.keepIn K (.ref C)=true
end
def PK(X:Cx)(kws:List Keyword)(t:TA):Prop:=
 ∀(pos:Pos) (js:Gg) (s:Shared) (Y:St) (H:Hp) (Q:Gp->Gq),Inv X js Y H s->t Y H Q->wpAny (model X.prog X.w) X.A (evalAll ((backToKw pos (keywordEach kws X.env)).map (·.2))) (AP X js Y Q) X.xe s
section
variable{X:Cx}{CX:CXT}{k:Nat}{f C:Addr}{fd:FuncData}{ps ks:Gm}{sp:Sp}{E:XK}{x m:Str}{p pos apos kpos:Pos}{e o:Expr}{es:List Expr}{kws:List Keyword}{te ta:TE}{t tk:TA}{nm:Option Str}
def uS:PK X [] z5:=fun _ _ _ _ H Q I h=>wpAny_evalAll_nil ⟨[],H,I,.nil,h⟩
def qx(ha:PE X e te)(hr:PK X kws t):PK X (⟨nm,e,kpos⟩::kws) (qj te t):=by intro pos js s Y H Q I h;show wpAny _ _ (evalAll ((do let v <- eval e X.env;standAt pos;pure v)::(backToKw pos (keywordEach kws X.env)).map (·.2))) _ _ s;refine wpAny_evalAll_cons (wpAny_bind (thn (ha js s Y H _ I h) fun u s1 ⟨x,H1,I1,r1,q1⟩=>wpAny_bind (wpAny_standAt (wpAny_pure ?_))));exact thn (hr pos js s1 Y H1 _ I1 q1) fun us s2 ⟨xs,H2,I2,r2,q2⟩=>⟨x::xs,H2,I2,.cons r1 r2,q2⟩
variable{g:Gj->Gj->Gj}{gV:Gp->Gp->Gp}
end
structure cL(N P:Gm)(sc:Scope):Prop where
 kind:sc.kind=.function
 co:sc.isCoroutine=false
 gen:sc.isGenerator=false
 nd:N.Nodup
 pre:N.take P.length=P
 par:∀x∈P,sc.names.lookup x=some .local\/sc.names.lookup x=some .cell
 nofree:∀y∈sc.names,y.2≠.free
def lF{kindOf:Str->Option NameKind}{x:Str}:∀{binds:List (Str×Value)}{m:Ge},(∀v,(x,v)∉ binds)->bindL kindOf binds m x=m x
 | [],_,_=>rfl
 |(n,v)::r,m,h=>by
  unfold bindL;rw[lF fun w hw=>h w (mem_cons_of_mem _ hw)];split
  ·have:x≠n:=by rintro rfl;exact h v mem_cons_self
   simp[this]
  ·rfl
def lH{kindOf:Str->Option NameKind}{x:Str}:∀{binds:List (Str×Value)}{m:Ge},(∀v,(x,v)∉ binds)->bindC kindOf binds m x=m x
 | [],_,_=>rfl
 |(n,v)::r,m,h=>by
  unfold bindC;rw[lH fun w hw=>h w (mem_cons_of_mem _ hw)];split
  ·rfl
  ·have:x≠n:=by rintro rfl;exact h v mem_cons_self
   simp[this]
def lG{kindOf:Str->Option NameKind}{x:Str}{v:Value}:∀{P:Gm}{vs:Gj}{i:Nat}{m:Ge},P.Nodup->P[i]?=some x->vs[i]?=some v->kindOf x=some .local ->
  bindL kindOf (P.zip vs) m x=some v
 | [],_,_,_,_,h,_,_|_::_,[],_,_,_,_,h,_=>by simp at h
 |p::P,w::vs,0,m,nd,h1,h2,hk=>by simp at h1 h2;subst h1;subst h2;show bindL kindOf ((p,w)::P.zip vs) m p=_;unfold bindL;rw[lF fun v hv=>(nodup_cons.mp nd).1 (of_mem_zip hv).1,if_pos hk];simp
 |p::P,w::vs,i+1,m,nd,h1,h2,hk=>by show bindL kindOf ((p,w)::P.zip vs) m x=_;unfold bindL;exact lG (i:=i) (nodup_cons.mp nd).2 (by simpa using h1) (by simpa using h2) hk
def lI{kindOf:Str->Option NameKind}{x:Str}{v:Value}:∀{P:Gm}{vs:Gj}{i:Nat}{m:Ge},P.Nodup->P[i]?=some x->vs[i]?=some v->kindOf x≠some .local ->
  bindC kindOf (P.zip vs) m x=some v
 | [],_,_,_,_,h,_,_|_::_,[],_,_,_,_,h,_=>by simp at h
 |p::P,w::vs,0,m,nd,h1,h2,hk=>by simp at h1 h2;subst h1;subst h2;show bindC kindOf ((p,w)::P.zip vs) m p=_;unfold bindC;rw[lH fun v hv=>(nodup_cons.mp nd).1 (of_mem_zip hv).1,if_neg hk];simp
 |p::P,w::vs,i+1,m,nd,h1,h2,hk=>by show bindC kindOf ((p,w)::P.zip vs) m x=_;unfold bindC;exact lI (i:=i) (nodup_cons.mp nd).2 (by simpa using h1) (by simpa using h2) hk
def start(N:Gm)(vs:Gp):St:=vs.map some++replicate (N.length-vs.length) none
def cy(CX:CXT)(P:Program)(w:World)(K:PySem.W.Frag)(mg:Ge)(base:Heap)(N:Gm)(qual:Str)(scope:Scope)(f:Addr)(cd:Value)(A:Around)(outer:List Env)(s:Shared)(H:Hp)(E:XK):Cx where
 prog:=P
 w:=w
 K:=K
 mg:=mg
 base:=base
 A:=A.deeper (envOfC qual scope s.heap.objs.size f cd)
 N:=N
 s₀:=s
 H₀:=H
 env:=envOfC qual scope s.heap.objs.size f cd
 outer:=outer
 stack:=envOfC qual scope s.heap.objs.size f cd::outer
 ex:=[]
 calm:=true
 fn:=fun _=>true
 pn:=[]
 xe:=fun e s'=>wpAny (model P w) (A.deeper (envOfC qual scope s.heap.objs.size f cd)) (leaving (envOfC qual scope s.heap.objs.size f cd) e) (fun _ s''=>CX outer H s E e s'') (fun e' s''=>CX outer H s E e' s'') s'
def km{sc:Scope}{n:Nat}{x:Str}(h:sc.names.lookup x=some .cell):∃c,(cellsFrom n sc.names []).lookup x=some c:=by have q:=PySem.W.cellsFrom_some sc.names n [] (.inl h);exact isSome_iff_exists.mp q
def sX{CX:CXT}{P:Program}{w:World}{K:PySem.W.Frag}{mg:Ge}{base:Heap}{N ps:Gm}{qual:Str}{scope:Scope}{f:Addr}{cd:Value}{A:Around}{outer:List Env}{s s1:Shared}{H:Hp}{E:XK}{us:Gj}{vs:Gp}
  (S:cL N ps scope) (hd:A.handled=none) (e0:mU P w K mg base A outer s H) (hl:vs.length=ps.length) (r:aE vs us)
  (x:InCallC s s.heap.objs.size (bindL (envOfC qual scope s.heap.objs.size f cd).kindOf (ps.zip us) fun _=>none) (cellsFrom (s.heap.objs.size+1) scope.names []) (bindC (envOfC qual scope s.heap.objs.size f cd).kindOf (ps.zip us) fun _=>none) s1) :
  Inv (cy CX P w K mg base N qual scope f cd A outer s H E) [] (start N vs) H s1:=by
 have hpl:ps.length<=N.length:=by have:=congrArg List.length S.pre;rw[length_take]at this;omega
 obtain⟨h1,tk,rfl,hk⟩:=x.done;have noA:∀b:Addr,b ∉(cy CX P w K mg base N qual scope f cd A outer s H E).ex:=fun b z=>absurd (show b ∈([]:Gk)from z) (by simp);refine ⟨⟨e0.mod,S.kind,rfl,rfl,Nat.le_refl _,fun y z c h1 h2=>?_,fun y hy=>?_,fun y c _ h=>?_,fun _=>hd,Around.frames_deeper e0.frames,.inr ⟨rfl,rfl⟩,fun b z=>absurd z (noA b),e0.bs,e0.bsz,fun b _ _=>noA b,fun b z=>absurd z (noA b),e0.funs,e0.frf⟩,
  rfl,e0.bare,Un.kept hk,⟨_,x.toInCall.ns,fun i y v h1 h2 h3=>?_⟩,fun y c h=>⟨_,x.cell y c h⟩,e0.hok.fresh (Nat.le_refl _),fun y c h=>?_,fun p hp=>absurd (show p ∈([]:Gg)from hp) (by simp),e0.hok.kept hk,?_⟩
 ·exact name_of_addr x.apart (PySem.mem_of_lookup h1) (PySem.mem_of_lookup h2)
 ·have hy:scope.names.lookup y=some .cell\/scope.names.lookup y=some .free:=hy;rcases hy with hy|hy
  ·exact km hy
  ·exact absurd rfl (S.nofree _ (PySem.mem_of_lookup hy))
 ·exact Nat.le_of_lt (x.above y c (PySem.mem_of_lookup h))
 ·have hi:i<vs.length:=by
   unfold start at h2;by_cases hi:i<vs.length
   ·exact hi
   ·rw[getElem?_append_right (by simpa using hi)]at h2;rw[getElem?_replicate]at h2;split at h2<;>cases h2
  have ha:vs[i]?=some v:=by
   unfold start at h2;rw[getElem?_append_left (by simpa using hi),getElem?_map]at h2;cases e:vs[i]? with
   |none=>rw[e]at h2;cases h2
   |some a=>rw[e]at h2;cases h2;rfl
  obtain⟨u,hu,rv⟩:=r.get ha;have hp:ps[i]?=some y:=by rw[<- S.pre,List.getElem?_take_of_lt (by omega)];exact h1
  have ndP:ps.Nodup:=by rw[<- S.pre];exact S.nd.sublist (List.take_sublist _ _)
  refine⟨u,rv,?_⟩;rcases S.par y (List.mem_of_getElem? hp)with k|k
  ·exact .inl ⟨k,lG ndP hp hu k⟩
  ·obtain⟨c,e⟩:=km (n:=s.heap.objs.size+1) k;refine .inr ⟨.inl k,c,e,?_⟩;have q:=x.cell y c e;rw[lI ndP hp hu (by show scope.names.lookup y≠_;rw[k];decide)]at q;exact q
 ·exact .inl (e0.hok.fresh (Nat.le_of_lt (x.above y c (PySem.mem_of_lookup h))))
 ·unfold start;show _=N.length;rw[length_append,length_map,List.length_replicate];omega
def Cx.low(X:Cx)(g:Str->Bool):Cx:={X with fn:=g}
def Inv.low(I:Inv X js Y H s)(hf:∀x,X.fn x=true)(g:Str->Bool):Inv (X.low g) js Y H s:=
 ⟨⟨I.ok.mod,I.ok.kind,I.ok.glob,I.ok.blt,I.ok.above,I.ok.inj,I.ok.has,fun x c _ h=>I.ok.cab x c (hf x) h,I.ok.hd,I.ok.frames,I.ok.stk,I.ok.exf,I.ok.bs,I.ok.bsz,I.ok.noex,I.ok.exfs,I.ok.funs,I.ok.frf⟩,
  I.os,I.bare,I.base,I.loc,I.cell,I.free,fun x c h=>.inl ((I.freeC x c h).resolve_right fun q=>by rw[hf]at q;cases q.1),I.pin,I.hok,I.len⟩
def Ey(g:Str->Bool)(X:Cx)(st:List Stmt)(t:TS):Prop:=
 ∀(js:Gg) (s:Shared) (Y:St) (H:Hp) (D:Ends),Inv X js Y H s->t D Y H->wpAny (model X.prog X.w) X.A (execs st X.env) (SP (X.low g) js D) X.xe s
def v8(g:Str->Bool){CX:CXT}{P:Program}{w:World}{K:PySem.W.Frag}{mg:Ge}{base:Heap}{k:Nat}{f:Addr}{name qual:Str}{params:Arguments}{body:List Stmt}{scope:Scope}{dV kV doc pm cdv ct oc:Value}{an od:Option Addr}
  {osl:Array (Option Value)}{N ps:Gm}{sp:Sp} (lk:K.lookup f=some ⟨oc,od,.func (PySem.W.fnOf name qual params body scope dV kV doc pm an cdv ct),osl⟩) (hcd:PySem.W.codeIn K cdv qual=true) (S:cL N ps scope)
  (len:∀vs H Q E,sp vs H Q E->vs.length=ps.length)
  (hbody:∀ (A:Around) (outer:List Env) (s:Shared) (H:Hp) (vs:Gp) (Q:VK) (E:XK),cG k (A.deeper (envOfC qual scope s.heap.objs.size f cdv))->sp vs H Q E ->
   ∃t,Ey g (cy CX P w K mg base N qual scope f cdv A outer s H E) body t/\t {nx:=fun _ H'=>Q .non H',rt:=Q} (start N vs) H) :
  b8 P w K mg base CX (k+1) f (PySem.W.fnOf name qual params body scope dV kV doc pm an cdv ct) ps sp:=by
 refine⟨len,fun A outer s H args us vs Q E hr e0 hb r hsp=>?_⟩;have hl:=len _ _ _ _ hsp;have KX:K.In s.heap:=e0.mod.kin.keeps fun b o e=>(e0.bs b o e).1;have lim:s.heap.NoLimit:=e0.mod.nolimit.keeps fun b o e=>(e0.bs b o e).1;have hkind:∀y∈ps.zip us,scope.names.lookup y.1=some .local \/(scope.names.lookup y.1=some .cell/\((cellsFrom (s.heap.objs.size+1) scope.names []).lookup y.1).isSome=true):=fun hz1 hy=>by
  obtain⟨n,v⟩:=hz1;rcases S.par n (of_mem_zip hy).1 with q|q
  ·exact .inl q
  ·exact .inr ⟨q,PySem.W.cellsFrom_some _ _ _ (.inl q)⟩
 refine codeAny_call_function hr.depth (KX _ _ lk) rfl S.co S.gen rfl (PySem.W.codeRec_of KX hcd) (hb _ _ _ _ ?_);refine wpAny_newFunctionEnv_cells S.kind hkind fun env he s1 x=>?_;subst he;refine⟨lim.keeps x.toInCall.keep,codeAny_func ?_⟩;obtain⟨t,ht,hq⟩:=hbody A outer s H vs Q E (hr.deeper _) hsp;have I:Inv (cy CX P w K mg base N qual scope f cdv A outer s H E) [] (start N vs) H s1:=sX S hr.hd e0 hl r x;refine wpAny_mono (ht [] s1 (start N vs) H _ I hq) (fun fl s' hs=>?_) fun e s' hs=>hs;have fin:∀{σ':St}{H':Hp}{v:V}{u:Value},Inv ((cy CX P w K mg base N qual scope f cdv A outer s H E).low g) [] σ' H' s'->bf v u->Q v H'->CE outer P w H s Q u s':=
  fun {σ' H' v u} J rv q=>⟨v,H',J.os,J.bare,J.base,J.hok,rv,q⟩
 cases fl with
 |ret u=>obtain⟨v,σ',H',J,rv,q⟩:=hs;exact fin J rv q
 |next=>obtain⟨σ',H',J,q⟩:=hs;exact fin (v:=V.non) (u:=Value.none) J rfl q
 |brk=>obtain⟨_,_,_,q⟩:=hs;exact False.elim q
 |cont=>obtain⟨_,_,_,q⟩:=hs;exact False.elim q
def v9{CX:CXT}{P:Program}{w:World}{K:PySem.W.Frag}{mg:Ge}{base:Heap}{k:Nat}{f:Addr}{name qual:Str}{params:Arguments}{body:List Stmt}{scope:Scope}{dV kV doc pm cdv ct oc:Value}{an od:Option Addr}
  {osl:Array (Option Value)}{N ps:Gm}{sp:Sp} (lk:K.lookup f=some ⟨oc,od,.func (PySem.W.fnOf name qual params body scope dV kV doc pm an cdv ct),osl⟩) (hcd:PySem.W.codeIn K cdv qual=true) (S:cL N ps scope)
  (len:∀vs H Q E,sp vs H Q E->vs.length=ps.length)
  (hbody:∀ (A:Around) (outer:List Env) (s:Shared) (H:Hp) (vs:Gp) (Q:VK) (E:XK),cG k (A.deeper (envOfC qual scope s.heap.objs.size f cdv))->sp vs H Q E ->
   ∃t,PSs (cy CX P w K mg base N qual scope f cdv A outer s H E) body t/\t {nx:=fun _ H'=>Q .non H',rt:=Q} (start N vs) H) :
  b8 P w K mg base CX (k+1) f (PySem.W.fnOf name qual params body scope dV kV doc pm an cdv ct) ps sp:=v8 (fun _=>true) lk hcd S len hbody
end L2
namespace L2
open PySem PySem.Spec PyProof.Rows
section
variable{X:Cx}{x:Str}{p pos:Pos}{e:Expr}{es:List Expr}{t:TA}{id T:String}{r:Gp->Hp->VK->Prop}
def tCB(r:Gp->Hp->VK->Prop)(t:TA):TE:=fun Y H Q=>t Y H fun vs H1=>r vs H1 Q
def jY(hc:dq X (.builtin id) r)(hg:Gl X x)(hm:X.mg x=none)(hv:bootBuiltins x=some (.builtin id))(ha:PA X (e::es) t)(hn:x≠"__name__":=by decide)(hdb:(x ==("__debug__":Str))=false:=by decide)
  (he:starEach (e::es) X.env=(false,eval e X.env)::starEach es X.env:=by rfl) (hpl:(backTo pos (starEach es X.env)).any (·.1)=false:=by rfl):PE X (.Call (.Name x p) (e::es) [] pos) (tCB r t):=by
 intro js s Y H Q I h;refine wpAny_Call_Name_kw (dL I hg hm hv ?_ hn hdb);exact PyProof.Rows.callWith_builtin1 (thn (ha pos js s Y H _ I h) fun us s1 ⟨vs,H1,I1,r1,q1⟩=>hc js s1 Y H1 vs us Q I1 r1 q1) he hpl
def i3(hc:dq X (.type T) r)(hg:Gl X x)(hm:X.mg x=none)(hv:bootBuiltins x=some (.type T))(ha:PA X (e::es) t)(hn:x≠"__name__":=by decide)(hdb:(x ==("__debug__":Str))=false:=by decide)
  (he:starEach (e::es) X.env=(false,eval e X.env)::starEach es X.env:=by rfl) (hpl:(backTo pos (starEach es X.env)).any (·.1)=false:=by rfl):PE X (.Call (.Name x p) (e::es) [] pos) (tCB r t):=by
 intro js s Y H Q I h;refine wpAny_Call_Name_kw (dL I hg hm hv ?_ hn hdb);exact PyProof.Rows.callWith_type1 (thn (ha pos js s Y H _ I h) fun us s1 ⟨vs,H1,I1,r1,q1⟩=>hc js s1 Y H1 vs us Q I1 r1 q1) he hpl
end
end L2
namespace HT
open PySem PyProof.Rows
section
variable{prog:Program}{w:World}{A:Around}{E:Gc}{s:Shared}
def sIx(n d:Nat):Gn->Nat
 |none=>d
 |some v=>if v<0 then(v+(n:Int)).toNat else min v.toNat n
def sIx_none(n d:Nat):sIx n d none=d:=rfl
def sIx_nat(n d k:Nat):sIx n d (some (k:Int))=min k n:=by show(if(k:Int)<0 then((k:Int)+(n:Int)).toNat else min (k:Int).toNat n)=min k n;rw[if_neg (by omega),toNat_natCast]
end
end HT
namespace L2
open PySem PySem.Spec PyProof.Rows
abbrev TO:=St->Hp->(Gn->Gq)->Prop
def PO(X:Cx)(e:Option Expr)(t:TO):Prop:=
 ∀(js:Gg) (s:Shared) (Y:St) (H:Hp) (Q:Gn->Gq),Inv X js Y H s->t Y H Q ->
  wpAny (model X.prog X.w) X.A (evalPart e X.env) (fun u s'=>∃o H',Inv X js Y H' s'/\IsPart u o/\Q o H') X.xe s
def xm:TO:=fun _ H Q=>Q none H
def C9(t:TE):TO:=fun Y H Q=>t Y H fun x H1=>∃i,x=.int i/\Q (some i) H1
section
variable{X:Cx}{e:Expr}{te:TE}{lo hi:Option Expr}{tl th:TO}{pos p2:Pos}
def yb:PO X none xm:=by intro js s Y H Q I h;rw[evalPart_none];exact wpAny_pure ⟨none,H,I,.none,h⟩
def ya(h:PE X e te):PO X (some e) (C9 te):=by intro js s Y H Q I hw;rw[evalPart_some];refine thn (h js s Y H _ I hw) fun u s1 hz1=>?_;obtain⟨x,H1,I1,r1,q1⟩:=hz1;obtain⟨i,rfl,q⟩:=q1;obtain⟨t,rfl⟩:=r1;exact⟨some i,H1,I1,.int i t,q⟩
def SlR(X:Cx)(r:V->Gn->Gn->Hp->VK->Prop):Prop:=
 ∀(js:Gg) (s:Shared) (Y:St) (H:Hp) (x:V) (v vl vu:Value) (lo hi:Gn) (sl:Addr) (Q:VK),Inv X js Y H s->bf x v->s.heap.IsSliceOf sl vl vu .none->IsPart vl lo->IsPart vu hi->r x lo hi H Q ->
  ∃T id,typeLookup (.type T) "__getitem__"=pure (some (.builtin id))/\s.TypeIs v T/\wpAny (model X.prog X.w) X.A (getItem v (.ref sl)) (EP X js Y Q) X.xe s
def tSl(r:V->Gn->Gn->Hp->VK->Prop)(te:TE)(tl th:TO):TE:=fun Y H Q=>te Y H fun x H1=>tl Y H1 fun l H2=>th Y H2 fun u H3=>r x l u H3 Q
def uZ{r:V->Gn->Gn->Hp->VK->Prop}(hr:SlR X r)(he:PE X e te)(hl:PO X lo tl)(hu:PO X hi th):PE X (.Subscript e (.Slice lo hi none p2) pos) (tSl r te tl th):=by intro js s Y H Q I h;refine Subscript_ (thn (he js s Y H _ I h) fun v s1 zz=>?_);obtain⟨x,H1,I1,r1,q1⟩:=zz;refine wpAny_Slice (thn (hl js s1 Y H1 _ I1 q1) fun vl s2 ⟨l,H2,I2,pl,q2⟩=>thn (hu js s2 Y H2 _ I2 q2) fun vu s3 zz=>?_);obtain⟨u,H3,I3,pu,q3⟩:=zz;rw[evalPart_none];refine wpAny_pure ?_;have I4:Inv X js Y H3 {s3 with heap:=s3.heap.push {cls:=.type "slice",data:=.fields #[vl,vu,.none]}}:=I3.kept (t':=s3.toks) fun b ob q=>get?_push_of_some _ q;obtain⟨T,id,hT,ht,hg⟩:=hr js {s3 with heap:=s3.heap.push {cls:=.type "slice",data:=.fields #[vl,vu,.none]}} Y H3 x v vl vu l u s3.heap.objs.size Q I4 r1 (Heap.IsSliceOf.new ..) pl pu q3;show wpAny (model X.prog X.w) X.A (subscriptTail e (.Slice lo hi none p2) v (.ref s3.heap.objs.size)) (EP X js Y Q) X.xe {s3 with heap:=s3.heap.push {cls:=.type "slice",data:=.fields #[vl,vu,.none]}};exact tail_any (ops:=[.ref s3.heap.objs.size,v]) ht hT hg (by with_unfolding_all rfl)
def wt(xs:Gp)(lo hi:Gn):Gp:=(xs.drop (HT.sIx xs.length 0 lo)).take (HT.sIx xs.length xs.length hi-HT.sIx xs.length 0 lo)
def oH(xs:Gp)(lo hi:Gn):(wt xs lo hi).length<=xs.length:=by unfold wt;rw[length_take,List.length_drop];omega
end
end L2
namespace L2
open PySem PySem.Spec PyProof.Rows
def ixN(n:Nat)(i:Int):Option Nat:=if 0<=i then(if i<n then some i.toNat else none)else if -(n:Int)<= i then some (i+n).toNat else none
def atI{α:Type}(xs:List α)(i:Int):Option α:=(ixN xs.length i).bind fun j=>xs[j]?
def qO{n:Nat}{i:Int}{j:Nat}(h:ixN n i=some j):seqIndex? i n=some j/\j<n/\-(n:Int)<= i/\i<n:=by
 unfold ixN at h;by_cases h0:0<=i
 ·rw[if_pos h0]at h;by_cases h1:i<n
  ·rw[if_pos h1]at h;have e:i.toNat=j:=Option.some.inj h;exact⟨by rw[seqIndex_of h0 h1,e],by omega,by omega,h1⟩
  ·rw[if_neg h1]at h;cases h
 ·rw[if_neg h0]at h;by_cases h1:-(n:Int)<= i
  ·rw[if_pos h1]at h;have e:(i+n).toNat=j:=Option.some.inj h;exact⟨by rw[seqIndex_neg (by omega) h1,e],by omega,h1,by omega⟩
  ·rw[if_neg h1]at h;cases h
def mS{α:Type}{xs:List α}{i:Int}{v:α}(h:atI xs i=some v):∃j,seqIndex? i xs.length=some j/\xs[j]?=some v/\j<xs.length/\-(xs.length:Int)<= i/\i<xs.length:=by
 unfold atI at h;cases e:ixN xs.length i with
 |none=>rw[e]at h;cases h
 |some j=>rw[e]at h;obtain⟨h1,h2,h3,h4⟩:=qO e;exact⟨j,h1,h,h2,h3,h4⟩
def atI_last{α:Type}(xs:List α)(v:α):atI (xs++[v]) (-1)=some v:=by
 have hl:(xs++[v]).length=xs.length+1:=by simp
 have e:ixN (xs++[v]).length (-1)=some xs.length:=by unfold ixN;rw[hl,if_neg (by decide),if_pos (by omega)];congr 1;omega
 unfold atI;rw[e];show(xs++[v])[xs.length]?=some v;simp
def d0(b:Expr):Prop:=∀o i,subscripted b false o i=operate [o,i] (getItem o i)
def IxR(X:Cx)(r:R2):Prop:=
 ∀(value slice:Expr) (js:Gg) (s:Shared) (Y:St) (H:Hp) (x y:V) (v u:Value) (Q:VK),Inv X js Y H s->bf x v->bf y u->r x y H Q ->
  subscripted slice false v u=operate [v,u] (getItem v u)->wpAny (model X.prog X.w) X.A (subscriptTail value slice v u) (EP X js Y Q) X.xe s
def MtR(X:Cx)(id:String)(r:V->Gp->Hp->VK->Prop):Prop:=
 ∀(js:Gg) (s:Shared) (Y:St) (H:Hp) (x:V) (xs:Gp) (v:Value) (us:Gj) (Q:VK),Inv X js Y H s->bf x v->aE xs us->r x xs H Q ->
  wpAny (model X.prog X.w) X.A (call (.builtin id) (v::us)) (EP X js Y Q) X.xe s
section
variable{X:Cx}{a b:Expr}{ta tb:TE}{pos:Pos}
def IxR.or{r r':R2}(h:IxR X r)(h':IxR X r'):IxR X (fun x y H Q=>r x y H Q\/r' x y H Q):=by
 intro value slice js s Y H x y v u Q I rx ry q hs;rcases q with q|q
 ·exact h value slice js s Y H x y v u Q I rx ry q hs
 ·exact h' value slice js s Y H x y v u Q I rx ry q hs
def nN{r:R2}(hr:IxR X r)(ha:PE X a ta)(hb:PE X b tb)(hs:d0 b):PE X (.Subscript a b pos) (tOp r ta tb):=by intro js s Y H Q I h;exact Subscript_ (BZ ha hb I h fun v u s2 x y H2 I2 rx ry q=>hr a b js s2 Y H2 x y v u Q I2 rx ry q (hs _ _))
def xW(K:PySem.W.Frag):R2:=fun x y H Q=>∃p xs i v,x=.ref p/\y=.int i/\SqL K H p xs/\atI xs i=some v/\Q v H
def xU(K:PySem.W.Frag):R2:=fun x y H Q=>∃p xs i v,x=.ref p/\y=.int i/\SqT K H p xs/\atI xs i=some v/\Q v H
def xV:R2:=fun x y H Q=>∃z i c,x=.str z/\y=.int i/\z.length<=sizeLine/\atI z.cps.toList i=some c/\Q (.str ⟨#[c]⟩) H
def yM:IxR X (xW X.K):=by
 intro value slice js s Y H x y v u Q I rx ry h hs;obtain⟨p,xs,i,z,rfl,rfl,hq,he,q⟩:=h;cases rx;obtain⟨t,rfl⟩:=ry;obtain⟨its,r,pl,hz⟩:=I.list hq;obtain⟨j,h1,h2,h3,h4,h5⟩:=mS he;obtain⟨w,ew,rw'⟩:=r.get h2;have hl:=r.length;have hn:=i_;have fin:EP X js Y Q w s:=⟨z,H,I,rw',q⟩
 by_cases h0:0<=i
 ·have hj:i.toNat=j:=by rw[seqIndex_of h0 h5]at h1;exact Option.some.inj h1
  exact item_listR pl.isList h0 (by omega) (by rw[hj];simpa using ew) fin hs
 ·have hj:(i+(its.toArray.size:Int)).toNat=j:=by rw[seqIndex_neg (by omega) h4]at h1;rw[size_toArray,<- hl];exact Option.some.inj h1
  exact subscriptTail_builtinR (x:=w) pl.isList.typeIs slot_list_getitem.lookup
   (wpAny_getItem_list_neg (Q:=fun r s'=>r=w/\EP X js Y Q r s') pl.isList (by omega) (by rw[size_toArray]<;>omega) (by omega) (by rw[hj];simpa using ew) ⟨rfl,fin⟩) hs
def Bj:IxR X (xU X.K):=by
 intro value slice js s Y H x y v u Q I rx ry h hs;obtain⟨p,xs,i,z,rfl,rfl,hq,he,q⟩:=h;cases rx;obtain⟨t,rfl⟩:=ry;obtain⟨its,r,pl,hz⟩:=I.tuple hq;obtain⟨j,h1,h2,h3,h4,h5⟩:=mS he;obtain⟨w,ew,rw'⟩:=r.get h2;have hl:=r.length;have hn:=i_;have fin:EP X js Y Q w s:=⟨z,H,I,rw',q⟩
 exact subscriptTail_builtinR (x:=w) pl.typeIs slot_tuple_getitem.lookup
  (getItem_tuple (j:=j) (Q:=fun r s'=>r=w/\EP X js Y Q r s') pl (by omega) (by omega) (by rw[size_toArray,<- hl];exact h1) (by simpa using ew) ⟨rfl,fin⟩) hs
def Bk:IxR X xV:=by
 intro value slice js s Y H x y v u Q I rx ry h hs;obtain⟨z,i,c,rfl,rfl,hz,he,q⟩:=h;obtain⟨t,rfl⟩:=rx;obtain⟨t',rfl⟩:=ry;obtain⟨j,h1,h2,h3,h4,h5⟩:=mS he;have hl:z.cps.toList.length=z.length:=by simp[Str.length]
 rw[hl]at h1 h4 h5;have hn:=i_;exact tail_any (typeIs_str s z t) slot_str_getitem.lookup (getItem_str (c:=c) (by
  have e1:decide (i < -(2 ^ 63:Int))=false:=decide_eq_false (by omega);have e2:decide (i >= 2 ^ 63)=false:=decide_eq_false (by omega);rw[e1,e2,Bool.or_false]) (by rw[h1];simpa using h2) ⟨.str ⟨#[c]⟩,H,I.tok _,⟨_,rfl⟩,q⟩) hs
def rIx(K:PySem.W.Frag):R2:=fun x y H Q=>xW K x y H Q\/xU K x y H Q\/xV x y H Q
def jb:IxR X (rIx X.K):=yM.or (Bj.or Bk)
def pK(its:Gj)(n j:Nat)(u:Value):Obj.mapSeq (·.setIfInBounds j u) {cls:=.type "list",data:=.seq its.toArray n}={cls:=.type "list",data:=.seq (its.set j u).toArray n}:=by simp[Obj.mapSeq]
def Inv.lst{js:Gg}{Y:St}{H:Hp}{s:Shared}{p:Addr}{xs:Gp}(I:Inv X js Y H s)(h:H p=some (.lst xs)) :
  ∃(its:Gj) (n:Nat),aE xs its/\s.heap.get? p=some {cls:=.type "list",data:=.seq its.toArray n}/\xs.length<=sizeLine:=by
 obtain⟨z,its,n,r,e⟩:=I.hok p _ h;exact⟨its,n,r,e,z⟩
def Inv.lstUpd{js:Gg}{Y:St}{H:Hp}{s:Shared}{p:Addr}{xs ys:Gp}{its its':Gj}{n n':Nat}{f:Obj->Obj}(I:Inv X js Y H s)(h:H p=some (.lst xs))
  (ho:s.heap.get? p=some {cls:=.type "list",data:=.seq its.toArray n}) (hf:f {cls:=.type "list",data:=.seq its.toArray n}={cls:=.type "list",data:=.seq its'.toArray n'}) (r:aE ys its') (hz:ys.length<=sizeLine) (t:Nat) :
  Inv X js Y (upd H p (.lst ys)) {s with heap:=s.heap.update p f,toks:=t}:=by
 have e:(s.heap.update p f).get? p=some {cls:=.type "list",data:=.seq its'.toArray n'}:=by rw[Heap.get?_update_self f ho (by rw[hf]<;>rfl),hf]
 refine I.write (x:=p) (e:=p) (by rw[h];trivial) (.inl rfl) (fun b u hb q=>(get?_update_other _ _ (Ne.symm hb)).trans q) ⟨_,e⟩ ?_;exact⟨hz,its',n',r,e⟩
def Dk:V->V->V->Hp->(Gq)->Prop:=fun o i v H Q=>∃p xs k j,o=.ref p/\i=.int k/\H p=some (.lst xs)/\ixN xs.length k=some j/\Q (upd H p (.lst (xs.set j v)))
def uw:Ez X Dk:=by
 intro js s Y H o i v ov iv u Q I ro ri rv h;obtain⟨p,xs,k,j,rfl,rfl,hp,hj,q⟩:=h;cases ro;obtain⟨t,rfl⟩:=ri;obtain⟨its,n,r,ho,hz⟩:=I.lst hp;obtain⟨h1,h2,h3,h4⟩:=qO hj;have hl:=r.length;have hn:=i_;have I':Inv X js Y (upd H p (.lst (xs.set j v))) {s with heap:=s.heap.update p (Obj.mapSeq (·.setIfInBounds j u))}:=
  I.lstUpd hp ho (pK its n j u) (r.set rv j) (by rw[length_set];exact hz) s.toks
 by_cases h0:0<=k
 ·have hk:k.toNat=j:=by rw[seqIndex_of h0 h4]at h1;exact Option.some.inj h1
  exact PySem.W.ki_setAt ho h0 (by omega) (by rw[size_toArray,<- hl];exact h4) (by rw[hk];exact⟨_,I',q⟩)
 ·have hk:(k+(its.toArray.size:Int)).toNat=j:=by rw[seqIndex_neg (by omega) h3]at h1;rw[size_toArray,<- hl];exact Option.some.inj h1
  exact PySem.W.ki_setBack ho (by omega) (by rw[size_toArray,<- hl];exact h3) (by omega) (by rw[hk];exact⟨_,I',q⟩)
def lO(lo hi:Gn)(n:Nat):(sliceBounds lo hi none n).1=((HT.sIx n 0 lo:Nat):Int)/\(sliceBounds lo hi none n).2.1=((HT.sIx n n hi:Nat):Int)/\(sliceBounds lo hi none n).2.2=1:=by
 refine⟨?_,?_,rfl⟩
 ·cases lo with
  |none=>simp[sliceBounds,HT.sIx]
  |some i=>
   simp only[sliceBounds,HT.sIx,Option.getD_none,show(1:Int)>0 by decide,if_true];by_cases h:i<0
   ·simp only[h,if_true]<;>omega
   ·simp only[h,if_false]<;>omega
 ·cases hi with
  |none=>simp[sliceBounds,HT.sIx]
  |some i=>
   simp only[sliceBounds,HT.sIx,Option.getD_none,show(1:Int)>0 by decide,if_true];by_cases h:i<0
   ·simp only[h,if_true]<;>omega
   ·simp only[h,if_false]<;>omega
def kx(its:Gj)(lo hi:Gn):slicePick its.toArray lo hi none=((its.drop (HT.sIx its.length 0 lo)).take (HT.sIx its.length its.length hi-HT.sIx its.length 0 lo)).toArray:=by obtain⟨h1,h2,h3⟩:=lO lo hi its.toArray.size;unfold slicePick;rw[h1,h2,h3];simp only[sliceRange_one,pick_run,size_toArray]<;>rfl
def Fk(K:PySem.W.Frag):V->Gn->Gn->Hp->VK->Prop:=fun x lo hi H Q=>∃a xs,x=.ref a/\SqL K H a xs/\∀p,H p=none->Q (.ref p) (upd H p (.lst (wt xs lo hi)))
def xA:SlR X (Fk X.K):=by intro js s Y H x v vl vu lo hi sl Q I rx hs pl pu h;obtain⟨a,xs,rfl,hx,q⟩:=h;cases rx;obtain⟨its,r,ht,hz⟩:=I.list hx;have hlen:=r.length;refine⟨"list",_,slot_list_getitem.lookup,ht.isList.typeIs,?_⟩;refine wpAny_getItem_list_slice ht.isList hs pl pu .none (by simp) ?_ (by rw[size_toArray]<;>omega);rw[kx,<- hlen];refine⟨.ref s.heap.objs.size,_,I.laid (t':=s.toks) (o:=.lst (wt xs lo hi)) (fun b ob q=>get?_push_of_some _ q) (Nat.le_refl _) ?_,rfl,q _ (I.hok.fresh (Nat.le_refl _))⟩;exact⟨Nat.le_trans (oH xs lo hi) hz,_,0,(r.drop (HT.sIx xs.length 0 lo)).take (HT.sIx xs.length xs.length hi-HT.sIx xs.length 0 lo),get?_push_size _ rfl⟩
def mP:dq X (.builtin "len") (fun xs H Q=>∃p ys,xs=[.ref p]/\(SqL X.K H p ys\/SqT X.K H p ys)/\Q (.int ys.length) H):=by
 intro js s Y H xs us Q I r h;obtain⟨p,ys,rfl,hq,q⟩:=h;obtain⟨u,rfl,rx⟩:=cP r;cases rx;have hn:=i_;rcases hq with hq|hq
 ·obtain⟨its,r',pl,hz⟩:=I.list hq;have hlen:=r'.length;exact Calls.call_len_list pl.isList (by simp only[size_toArray]<;>omega) ⟨.int ys.length,H,I.tok _,⟨s.toks+1,by rw[size_toArray,hlen]⟩,q⟩
 ·obtain⟨its,r',pl,hz⟩:=I.tuple hq;have hlen:=r'.length;exact len_tuple pl (by simp only[size_toArray]<;>omega) ⟨.int ys.length,H,I.tok _,⟨s.toks+1,by rw[size_toArray,hlen]⟩,q⟩
def mO:dq X (.type "list") (fun xs H Q=>∃p ys,xs=[.ref p]/\(SqL X.K H p ys\/SqT X.K H p ys)/\∀l,H l=none->Q (.ref l) (upd H l (.lst ys))):=by
 intro js s Y H xs us Q I r h;obtain⟨p,ys,rfl,hq,q⟩:=h;obtain⟨u,rfl,rx⟩:=cP r;cases rx;have fin:∀(its:Gj),aE ys its->ys.length<=sizeLine->∀(h':Heap) (c':Nat),(∀b o',s.heap.get? b=some o'->h'.get? b=some o')->
   h'.get? s.heap.objs.size=some {cls:=.type "list",dict:=none,data:=.seq its.toArray c',slots:=#[]}->EP X js Y Q (.ref s.heap.objs.size) {s with heap:=h'}:=fun its r' hz h' c' kp e=>
  ⟨.ref s.heap.objs.size,_,I.laid (t':=s.toks) kp (Nat.le_refl _) (show cD X.prog X.w _ h' _ (.lst ys)from⟨hz,its,c',r',e⟩),rfl,q _ (I.hok.fresh (Nat.le_refl _))⟩
 rcases hq with hq|hq
 ·obtain⟨its,r',pl,hz⟩:=I.list hq;have hlen:=r'.length;obtain⟨o,ho,hc,n,hd⟩:=pl.isList;exact call_list_seq p (.inl rfl) ho hc hd (fun h' c' kp e=>fin its r' hz h' c' kp e) (by simp only[size_toArray]<;>omega)
 ·obtain⟨its,r',pl,hz⟩:=I.tuple hq;have hlen:=r'.length;obtain⟨o,ho,hc,n,hd⟩:=pl;exact call_list_seq p (.inr rfl) ho hc hd (fun h' c' kp e=>fin its r' hz h' c' kp e) (by simp only[size_toArray]<;>omega)
def kF:dq X (.type "tuple") (fun xs H Q=>∃p ys,xs=[.ref p]/\((SqL X.K H p ys/\∀l,H l=none->Q (.ref l) (upd H l (.tup ys)))\/(SqT X.K H p ys/\Q (.ref p) H))):=by
 intro js s Y H xs us Q I r h;obtain⟨p,ys,rfl,h⟩:=h;obtain⟨u,rfl,rx⟩:=cP r;cases rx;rcases h with⟨hq,q⟩ |⟨hq,q⟩
 ·obtain⟨its,r',pl,hz⟩:=I.list hq;have hlen:=r'.length;refine call_tuple_list pl.isList (fun h' kp=>?_) (by simp only[size_toArray]<;>omega);have I1:Inv X js Y H {s with heap:=h'}:=I.kept (t':=s.toks) kp;have I2:Inv X js Y (upd H h'.objs.size (.tup ys)) {s with heap:=h'.push {cls:=.type "tuple",data:=.seq its.toArray}}:=
   I1.laid (t':=s.toks) (fun b o e=>get?_push_of_some _ e) (Nat.le_refl _) (show cD X.prog X.w _ _ _ (.tup ys)from⟨hz,its,r',IsTup.new _ _⟩)
  exact⟨.ref h'.objs.size,_,I2,rfl,q _ (I1.hok.fresh (Nat.le_refl _))⟩
 ·obtain⟨its,r',pl,hz⟩:=I.tuple hq;exact call_tuple_same pl ⟨.ref p,H,I,rfl,q⟩
def tyV(K:PySem.W.Frag)(T:String)(x:V)(H:Hp):Prop:=match x with
 |.str _=>T="str"
 |.int _=>T="int"
 |.ref p=>(T="list" /\ ∃xs,SqL K H p xs)\/(T="tuple" /\ ∃o,K.lookup p=some o/\o.cls=.type "tuple" /\ o.dict=none)\/
   (T="dict" /\((∃kvs,H p=some (.dK kvs))\/ ∃kvs,H p=some (.dT kvs)))\/(T="set" /\ ∃S n,H p=some (.set S n))
 |_=>False
def ug{js:Gg}{Y:St}{H:Hp}{s:Shared}{T:String}{x:V}{v:Value}(I:Inv X js Y H s)(r:bf x v)(ty:tyV X.K T x H) :
  s.TypeIs v T/\∀a,v=.ref a->∃ob,s.heap.get? a=some ob/\ob.dict=none:=by
 cases x with
 |str z=>obtain⟨t,rfl⟩:=r;cases(show T="str" from ty);exact⟨typeIs_str s z t,fun _ e=>nomatch e⟩
 |int i=>obtain⟨t,rfl⟩:=r;cases(show T="int" from ty);exact⟨typeIs_int s i t,fun _ e=>nomatch e⟩
 |ref p=>
  cases r;rcases ty with⟨rfl,xs,hq⟩ |⟨rfl,o,hk,hc,hd⟩ |⟨rfl,hk⟩ |⟨rfl,S,n,hk⟩
  ·obtain⟨its,_,pl,_⟩:=I.list hq;refine⟨pl.isList.typeIs,fun a e=>?_⟩;cases e;obtain⟨o,n,e,c,hd,_⟩:=pl;exact⟨o,e,hd⟩
  ·refine⟨⟨o,I.kIn p o hk,hc⟩,fun a e=>?_⟩;cases e;exact⟨o,I.kIn _ o hk,hd⟩
  ·have z:∃o,s.heap.get? p=some o/\o.ExactDict:=by
    rcases hk with⟨kvs,hk⟩ |⟨kvs,hk⟩
    ·obtain⟨_,_,_,_,o,_,_,e,ex,_⟩:=I.hok p _ hk;exact⟨o,e,ex⟩
    ·obtain⟨_,_,_,_,o,_,_,e,ex,_⟩:=I.hok p _ hk;exact⟨o,e,ex⟩
   obtain⟨o,e,ex⟩:=z;refine⟨⟨o,e,ex.1⟩,fun a e2=>?_⟩;cases e2;exact⟨o,e,ex.2.1⟩
  ·obtain⟨o,_,_,_,e,ex,_⟩:=I.hok p _ hk;refine⟨⟨o,e,ex.1⟩,fun a e2=>?_⟩;cases e2;exact⟨o,e,ex.2.1⟩
 |_=>exact False.elim ty
def Fg(K:PySem.W.Frag)(T:String)(r:V->Gp->Hp->VK->Prop)(to:TE):TE:=fun Y H Q=>to Y H fun x H1=>tyV K T x H1/\r x [] H1 Q
def tBM(K:PySem.W.Frag)(T:String)(r:V->Gp->Hp->VK->Prop)(to:TE)(t:TA):TE:=fun Y H Q=>to Y H fun x H1=>tyV K T x H1/\t Y H1 fun xs H2=>r x xs H2 Q
variable{o e:Expr}{es:List Expr}{to:TE}{t:TA}{name:Str}{apos cpos:Pos}{T id:String}{r:V->Gp->Hp->VK->Prop}
def u_(pa:PlainAttrs T)(slot:Slot T name id)(hty:typeOf (.builtin id)=pure (.type "method_descriptor"))(hm:MtR X id r)(ho:PE X o to)
  (hbase:attributeBase o name X.env (eval o X.env)=eval o X.env:=by rfl) (hline:(apos.endLine==cpos.line)=true:=by rfl):PE X (.Call (.Attribute o name apos) [] [] cpos) (Fg X.K T r to):=by
 intro js s Y H Q I h;refine wpAny_Call_method0_late hbase hline (thn (ho js s Y H _ I h) fun v s1 zz=>?_);obtain⟨x,H1,I1,r1,ty,q1⟩:=zz;obtain⟨h1,h2⟩:=ug I1 r1 ty;exact⟨T,id,pa,slot,hty,h1,h2,Calls.callWith_builtin rfl (PySem.evalArgs_none (hm js s1 Y H1 x [] v [] Q I1 r1 .nil q1))⟩
def nO(pa:PlainAttrs T)(slot:Slot T name id)(hty:typeOf (.builtin id)=pure (.type "method_descriptor"))(hm:MtR X id r)(ho:PE X o to)(ha:PA X (e::es) t)
  (hbase:attributeBase o name X.env (eval o X.env)=eval o X.env:=by rfl)
  (hfew:((backTo cpos (starEach (e::es) X.env)).all (fun x=>!x.1) && (backToKw cpos (keywordEach [] X.env)).all (fun x=>x.1.isSome)
   && decide ((e::es).length+([]:List Keyword).length+(if([]:List Keyword).isEmpty then 0 else 1)<30))=true:=by rfl)
  (hline:(apos.endLine==cpos.line)=true:=by rfl) (hs:starEach (e::es) X.env=(false,eval e X.env)::starEach es X.env:=by rfl) (hplain:(backTo cpos (starEach es X.env)).any (·.1)=false:=by rfl) :
  PE X (.Call (.Attribute o name apos) (e::es) [] cpos) (tBM X.K T r to t):=by
 intro js s Y H Q I h;refine wpAny_Call_method_late hbase hfew hline rfl (thn (ho js s Y H _ I h) fun v s1 zz=>?_);obtain⟨x,H1,I1,r1,ty,q1⟩:=zz;obtain⟨h1,h2⟩:=ug I1 r1 ty;refine⟨T,id,pa,slot,hty,h1,h2,?_⟩;have hA:=ha cpos js s1 Y H1 _ I1 q1;rw[hs]at hA ⊢;refine Calls.callWith_builtin (by show(false ||(backTo cpos (starEach es X.env)).any (·.1))=false;rw[hplain]<;>rfl) (Calls.evalArgs_plain ?_);exact thn hA fun us s2 ⟨vs,H2,I2,r2,q2⟩=>hm js s2 Y H2 x vs v us Q I2 r1 r2 q2
end
end L2
namespace L2
open PySem PySem.Spec PyProof.Rows
def MtM(X:Cx)(id:String)(r:V->Gp->Hp->VK->Prop):Prop:=
 ∀(js:Gg) (s:Shared) (Y:St) (H:Hp) (x:V) (xs:Gp) (v:Value) (us:Gj) (Q:VK),Inv X js Y H s->bf x v->aE xs us->r x xs H Q ->
  wpAny (model X.prog X.w) X.A (call (.builtin id) (v::us)) (EP X js Y Q) X.xe s
def aE.one:∀{x:V}{us:Gj},aE [x] us->∃u,us=[u]/\bf x u
 |_,_,.cons r .nil=>⟨_,rfl,r⟩
def aE.zero:∀{us:Gj},aE [] us->us=[]
 |_,.nil=>rfl
def aE.rep{xs:Gp}{us:Gj}(h:aE xs us):∀k:Nat,aE (replicate k xs).flatten (replicate k us).flatten
 |0=>.nil
 |k+1=>by rw[replicate_succ,replicate_succ,flatten_cons,flatten_cons];exact aE.append h (aE.rep h k)
def lh(its:Gj):∀(k:Nat) (acc:Gj),
  foldl (fun x1 x2=>x1++x2) acc.toArray (replicate k its.toArray)=(acc ++(replicate k its).flatten).toArray
 |0,acc=>by simp
 |k+1,acc=>by
  have e:acc.toArray++its.toArray=(acc++its).toArray:=by simp
  have e2:(acc++its)++(replicate k its).flatten=acc ++(replicate (k+1) its).flatten:=by rw[replicate_succ,flatten_cons,append_assoc]
  rw[<- e2,<- lh its k (acc++its),<- e,replicate_succ,List.foldl_cons]
section
variable{X:Cx}{js:Gg}{Y:St}{H:Hp}{s:Shared}{l b:Addr}{xs ys zs:Gp}
def Inv.lset{its its':Gj}{n:Nat}{f:Go->Go}{t':Nat}(I:Inv X js Y H s)(hH:H l=some (.lst xs))
  (e:s.heap.get? l=some {cls:=.type "list",data:=.seq its.toArray n}) (hf:f its.toArray=its'.toArray) (hv:aE ys its') (hz:ys.length<=sizeLine) :
  Inv X js Y (upd H l (.lst ys)) {s with heap:=s.heap.update l (Obj.mapSeq f),toks:=t'}:=by
 have q:=PySem.IsL.update e f;rw[hf]at q;refine I.write (x:=l) (e:=l) (by rw[hH];exact trivial) (.inl rfl) (fun b' u hb hu=>(get?_update_other s.heap (Obj.mapSeq f) (Ne.symm hb)).trans hu) ⟨_,q⟩ ?_;exact⟨hz,its',_,hv,q⟩
def Inv.lnew{its:Gj}{t':Nat}(I:Inv X js Y H s)(hv:aE ys its)(hz:ys.length<=sizeLine) :
  Inv X js Y (upd H s.heap.objs.size (.lst ys)) {s with heap:=s.heap.push {cls:=.type "list",data:=.seq its.toArray},toks:=t'}:=
 I.laid (fun _ _ q=>get?_push_of_some _ q) (Nat.le_refl _) ⟨hz,its,0,hv,get?_push_size _ rfl⟩
def Inv.fresh(I:Inv X js Y H s):H s.heap.objs.size=none:=I.hok.fresh (Nat.le_refl _)
def Inv.lstM(I:Inv X js Y H s)(hH:H l=some (.lst xs)):xs.length<=sizeLine/\∃(its:Gj) (n:Nat),aE xs its/\xs.length=its.length/\s.heap.get? l=some {cls:=.type "list",data:=.seq its.toArray n}:=by obtain⟨z,its,n,r,e⟩:=I.hok l _ hH;exact⟨z,its,n,r,r.length,e⟩
def vz{n:Nat}(h:n<=sizeLine):Builtin.List.listTooLong n=false:=by unfold Builtin.List.listTooLong;exact decide_eq_false (by omega)
end
section
variable{X:Cx}
def xY:V->Gp->Hp->VK->Prop:=fun x vs H Q=>∃l xs y,x=.ref l/\vs=[y]/\H l=some (.lst xs)/\xs.length<sizeLine/\Q .non (upd H l (.lst (xs++[y])))
def e_:MtM X "list.append" xY:=by intro js s Y H x vs v us Q I rx rv h;obtain⟨l,xs,y,rfl,rfl,hH,hz,q⟩:=h;cases rx;obtain⟨u,rfl,ru⟩:=rv.one;obtain⟨z,its,n,r,hl,e⟩:=I.lstM hH;refine call_meets F.slot_list_append ⟨_,e,rfl⟩ F.entry_list_append (F.args_list_append_2 _ _) (PySem.list_append l its.toArray n u (by rw[size_toArray];omega)) ⟨e,?_⟩;refine⟨.non,_,I.lset (its':=its++[u]) hH e (by simp) (r.append (.cons ru .nil)) ?_,rfl,q⟩;rw[length_append,List.length_singleton];omega
def Ar:V->Gp->Hp->VK->Prop:=fun x vs H Q=>∃l xs,x=.ref l/\vs=[]/\H l=some (.lst xs)/\Q .non (upd H l (.lst []))
def n0:MtM X "list.clear" Ar:=by intro js s Y H x vs v us Q I rx rv h;obtain⟨l,xs,rfl,rfl,hH,q⟩:=h;cases rx;have hus:=rv.zero;subst hus;obtain⟨z,its,n,r,hl,e⟩:=I.lstM hH;refine call_meets F.slot_list_clear ⟨_,e,rfl⟩ F.entry_list_clear (F.args_list_clear_1 _) (AutoSeq1.list_clear_list_0 l its.toArray n (by rw[size_toArray];omega)) ⟨e,?_⟩;exact⟨.non,_,I.lset (its':=[]) (ys:=[]) hH e rfl .nil (zero_le _),rfl,q⟩
def Dl:R2:=fun x y H Q=>∃l k xs,x=.ref l/\y=.int k/\H l=some (.lst xs)/\-(2 ^ 63)<= k/\k<2 ^ 63/\xs.length*k.toNat<=sizeLine /\
 ∀p,H p=none->Q (.ref p) (upd H p (.lst (replicate k.toNat xs).flatten))
def yK{α:Type}(xs:List α)(k:Nat):(replicate k xs).flatten.length=k*xs.length:=by
 induction k with
 |zero=>simp
 |succ k ih=>rw[replicate_succ,flatten_cons,length_append,ih,Nat.succ_mul,Nat.add_comm]
def AL:OpR X (binaryOp .Mult) Dl:=by
 intro js s Y H x y v u Q I rx ry h;obtain⟨l,k,xs,rfl,rfl,hH,h1,h2,hz,q⟩:=h;cases rx;obtain⟨t,rfl⟩:=ry;obtain⟨z,its,n,r,hl,e⟩:=I.lstM hH;have hlen:its.toArray.size*k.toNat<=sizeLine:=by rw[size_toArray,<- hl];exact hz
 have hcap:¬its.toArray.size*k.toNat >(2 ^ 63-1) / 8:=by
  have:(sizeLine:Nat)<=(2 ^ 63-1) / 8:=by decide
  omega
 have hfit:¬(!Builtin.List.listFitsIndex k)=true:=by rw[fitsIndex_both h1 h2];exact Bool.false_ne_true
 have hlong:¬Builtin.List.listTooLong (its.toArray.size*k.toNat)=true:=by rw[vz hlen];exact Bool.false_ne_true
 have hnew:foldl (fun x1 x2=>x1++x2) #[] (replicate (if its.toArray.isEmpty=true then 0 else k.toNat) its.toArray)=(replicate k.toNat its).flatten.toArray:=by
  have f0:∀m:Nat,foldl (fun x1 x2=>x1++x2) #[] (replicate m its.toArray)=(replicate m its).flatten.toArray:=fun m=>by have:=lh its m [];rw[List.nil_append]at this;exact this
  rw[f0];cases its with
  |nil=>simp
  |cons a r'=>rw[if_neg (by simp)]
 refine wpAny_binaryOp_repeat_ref (T:="list") (U:="int") (by decide) ⟨_,e,rfl⟩ (fun s'=>typeIs_int s' k t) noFill_list_mul F.fills_int_mul F.slot_int_rmul repeat_list F.slot_int_index.lookup
  (call_meets F.slot_int_rmul (typeIs_int s k t) F.entry_int_rmul (F.args_int_rmul_2 _ _) (int___rmul___int_list k t l its.toArray n)
   ⟨e,rfl,⟨_,e,rfl⟩,call_meets F.slot_list_mul ⟨_,e,rfl⟩ F.entry_list_mul (F.args_list_mul_2 _ _) (AutoListH.list___mul___list_int_3 l its.toArray n k t hfit hcap hlong) ⟨e,?_⟩⟩)
 rw[hnew];exact⟨.ref _,_,I.lnew (t':=s.toks) (r.rep k.toNat) (by rw[yK,Nat.mul_comm];exact hz),rfl,q _ I.fresh⟩
end
end L2
namespace Att
open PySem PySem.W PySem.Calls PyProof.Rows
def jz{P:Params}{h:Heap}:∀(ns:Gi) (vs:Gj),WellAll P h vs (ns.map WData.int)->IntsAre vs ns:=by
 intro ns
 induction ns with
 |nil=>intro vs w;rw[List.map_nil]at w;cases w;exact .nil
 |cons n ns ih=>
  intro vs w;rw[map_cons]at w;cases w with
  |cons a b=>cases a;exact .cons _ _ (ih _ b)
def rW{l:OpenLaw}{n:Nat}(hn:l.most=some n){P:Params}{h:Heap}{args:List WData}{vals:Gj}
  (hpre:l.row.toRowW.claim.pre args=true) (hwl:WellAll P h vals args) :
  ∃a vs ns,vals=[Value.ref a]/\args=[WData.list (ns.map WData.int)]/\h.get? a=some {cls:=.type "list",data:=.seq vs.toArray}/\IntsAre vs ns/\ns.length<=n:=by
 have hsh:WShape.hasAll [] args [.list .int]=true:=(pre_splitW hpre).1;have hc:l.pre.holds [] {args:=args}=true:=(pre_splitW hpre).2;obtain⟨d,r,rfl,h1,h2⟩:=hasAllW_cons hsh;obtain rfl:=hasAllW_nil h2;obtain⟨xs,rfl,h3⟩:=hasW_list h1;obtain⟨ns,rfl⟩:=items_int h3;have hlen:ns.length<=n:=by
  unfold OpenLaw.pre at hc;have h4:(WTm.not (.lt (.lit (.int (n:Int))) (.len (.arg 0)))).holds [] {args:=[.list (ns.map .int)]}=true:=by have h4:=(holds_andW hc).1;rw[hn]at h4;exact h4
  have h5:=condW_of h4 (w_not (w_lt w_lit (w_len_list (w_arg rfl))));rw[length_map]at h5;refine Nat.le_of_not_lt fun q=>?_;have q':(n:Int) <((ns.length:Nat):Int):=by omega
  first
   |(rw[decide_eq_true q']at h5;exact absurd h5 (by decide))
   |(simp at h5;omega)
 cases hwl with
 |cons w1 w2=>
  cases w2;cases w1 with
  |list ho hall=>exact⟨_,_,ns,rfl,rfl,ho,jz ns _ hall,hlen⟩
def sk(l:OpenLaw)(args:List WData):l.row.toRowW.claim.post args (.bool true) args=true:=
 postW_of (r:=l.row.toRowW) (X:=(true==true))
  (show WShape.has [] (.bool true) .bool=true by first|rfl|decide|simp[WShape.has,WShape.arms,WShape.armsAll])
  (show(WTm.eq .res (.lit (.bool true))).value [] {args:=args,res:=some (.bool true),after:=args}=some (.bool (true==true))from w_eq_bool (w_res rfl) w_lit) rfl
def attach_call{l:OpenLaw}{n:Nat}{q:Program}{loose:Gm}{XP:(Ge)->Heap->Prop}{YP:World->Heap->Prop}{d:DefRec}
  (hn:l.most=some n) (hdf:d.params.defaults=[])
  (call:∀ (w:World) (s₀ s₁:Shared) (mg mb:Ge) (fa:Addr) (o:Obj) (pm cd doc:Value) (a:Addr) (vs:Gj) (ns:Gi),
   Ground q loose [] XP w s₀ mg mb s₁.heap->YP w s₁.heap ->
   s₁.heap.get? fa=some o->o.data=.func (docDef d.name d.params d.body d.scope pm cd doc)->s₁.heap.CodeRec cd d.name->mg d.name=some (.ref fa)->
   s₁.heap.get? a=some {cls:=.type "list",data:=.seq vs.toArray}->IntsAre vs ns->ns.length<=n->s₁.gens=#[]->
   codeAny (model l.prog w) callerA (.call (.ref fa) ⟨[.ref a],[]⟩) (fun r s'=>r=.ok (.ret (.bool true))/\OldK s₁.heap s'.heap/\s'.os=s₁.os/\AllBare s'.gens) s₁) :
  WalkO q loose XP YP l.row.toRowW d [] (fun f vs=>PySem.call f vs):=by
 intro w s₀ s₁ mg mb G td fa o pm cd doc dV kV ho hd hcd hD hmg hg args vals as hpre hlay hrd hwl hlo;obtain rfl:dV=.none:=Dflts.none hD hdf;obtain rfl:kV=.none:=Dflts.noKw hD;obtain⟨a,vs,ns,rfl,rfl,hobj,hints,hlen⟩:=rW hn hpre hwl;refine enter_call (codeAny_mono (call w s₀ s₁ mg mb fa o pm cd doc a vs ns G td ho (fd_plain hd) hcd hmg hobj hints hlen hg) fun r s' hq=>?_);obtain⟨rfl,h2,h3,h4⟩:=hq;exact⟨.inl ⟨.bool true,.bool true,[],rfl,fun _=>rfl,.bool true,sk l _,fun _=>⟨Pairwise.nil,fun _ hm=>(nomatch hm)⟩⟩,h2,h3,h4⟩
end Att
namespace L2
open PySem PySem.Spec PyProof.Rows
def kL:∀{vs:Gj}{ns:Gi},IntsAre vs ns->aE (ns.map V.int) vs
 |_,_,.nil=>.nil
 |_,_,.cons n t h=>.cons ⟨t,rfl⟩ (kL h)
end L2
namespace L2
open PySem PySem.Spec PyProof.Rows
def yQ(s:Stmt)(j:Nat):Stmt:=match s with
 |.ClassDef _ _ _ body _ _ _ _ _ _ _=>body.getD j (.Pass ⟨0,0,0,0⟩)
 |_=>.Pass ⟨0,0,0,0⟩
def dA(s:Stmt):Arguments:=match s with
 |.FunctionDef _ a _ _ _ _ _ _ _ _=>a
 |_=>{posonlyargs:=[],args:=[],vararg:=none,kwonlyargs:=[],kw_defaults:=[],kwarg:=none,defaults:=[]}
def bu(s:Stmt):List Stmt:=match s with
 |.FunctionDef _ _ b _ _ _ _ _ _ _=>b
 |_=>[]
def aw(s:Stmt):Scope:=match s with
 |.FunctionDef _ _ _ _ _ _ sc _ _ _=>sc
 |_=>{kind:=.function,names:=[],isGenerator:=false,isCoroutine:=false}
structure Fun(K:PySem.W.Frag)(x qual:Str)(st:Stmt)(f:Addr)(fd:FuncData):Prop where
 ex:∃(oc:Value) (od:Option Addr) (kV doc pm:Value) (an:Option Addr) (cdv ct:Value) (osl:Array (Option Value)),
  fd=PySem.W.fnOf x qual (dA st) (bu st) (aw st) .none kV doc pm an cdv ct/\K.lookup f=some ⟨oc,od,.func fd,osl⟩/\PySem.W.codeIn K cdv qual=true
 kp:PySem.W.keepIn K (.ref f)=true
section
variable{P:Program}{w:World}{K:PySem.W.Frag}{mg:Ge}{base:Heap}
def Fun.binds{x qual:Str}{st:Stmt}{f:Addr}{fd:FuncData}{ps:Gm}(F:Fun K x qual st f fd)
  (h:∀(kV doc pm:Value) (an:Option Addr) (cdv ct:Value) (us:Gj),us.length=ps.length->bindArgs (PySem.W.fnOf x qual (dA st) (bu st) (aw st) .none kV doc pm an cdv ct) ⟨us,[]⟩=pure (ps.zip us)):dR K fd ps []:=by
 obtain⟨oc,od,kV,doc,pm,an,cdv,ct,osl,rfl,lk,hcd⟩:=F.ex;exact .all (h kV doc pm an cdv ct)
end
end L2
set_option maxHeartbeats 4000000
namespace PR
open PySem
inductive Fl where
 |own|frz|bor|lnt|mod
 deriving DecidableEq
inductive PV where
 |non
 |bl (b:Bool)
 |int (i:Int)
 |str (x:Str)
 |lst (f:Fl) (xs:List PV)
 |tup (xs:List PV)
 |obj (f:Fl) (c:Nat) (ks:List Nat) (vs:List PV)
 |exc (c:Nat)
 |box (k:Nat) (xs:List PV)
abbrev Gs:=List PV
mutual
def PV.GJ(g:Fl->Fl):PV->PV
 |.non=>.non
 |.bl b=>.bl b
 |.int i=>.int i
 |.str x=>.str x
 |.lst f xs=>.lst (g f) (mapL g xs)
 |.tup xs=>.tup (mapL g xs)
 |.obj f c ks vs=>.obj (g f) c ks (mapL g vs)
 |.exc c=>.exc c
 |.box k xs=>.box k (mapL g xs)
def mapL(g:Fl->Fl):Gs->Gs
 | []=>[]
 |x::xs=>x.GJ g::mapL g xs
end
mutual
def PV.has(p:Fl->Bool):PV->Bool
 |.non|.bl _|.int _|.str _=>false
 |.lst f xs=>p f||hasL p xs
 |.tup xs=>hasL p xs
 |.obj f _ _ vs=>p f||hasL p vs
 |.exc _=>false
 |.box _ xs=>hasL p xs
def hasL(p:Fl->Bool):Gs->Bool
 | []=>false
 |x::xs=>x.has p||hasL p xs
end
def Fl.GB:Fl->Bool
 |.lnt=>true
 |_=>false
def Fl.GD:Fl->Bool
 |.bor=>true
 |_=>false
def Fl.Gv:Fl->Fl
 |.own=>.lnt
 |f=>f
def Fl.Gx:Fl->Fl
 |.own=>.frz
 |f=>f
def Fl.Gw:Fl->Fl
 |.lnt=>.bor
 |f=>f
inductive Res(α:Type) where
 |ok (a:α)
 |exc (c:Nat)
 |stuck
abbrev Gu:=Res PV
noncomputable def Res.bind{α β:Type}:Res α->(α->Res β)->Res β
 |.ok a,k=>k a
 |.exc c,_=>.exc c
 |.stuck,_=>.stuck
@[simp] def Res.GL{α β:Type}(a:α)(k:α->Res β):(Res.ok a).bind k=k a:=by simp only[Res.bind]
@[simp] def Res.exc_bind{α β:Type}(c:Nat)(k:α->Res β):(Res.exc c:Res α).bind k=.exc c:=rfl
@[simp] def Res.stuck_bind{α β:Type}(k:α->Res β):(Res.stuck:Res α).bind k=.stuck:=rfl
abbrev En:=List (Option PV)
abbrev ME:=En->Gu
abbrev MT:=En->Res Bool
abbrev MA:=En->Res (Gs)
inductive Out where
 |next (e:En)
 |ret (v:PV)
 |brk (e:En)
 |cont (e:En)
 |exc (c:Nat) (e:En)
 |stuck
abbrev MS:=En->Out
def mC(v:PV):ME:=fun _=>.ok v
abbrev GM(i:Int):ME:=mC (.int i)
def aa(i:Nat):ME:=fun env=>match env[i]? with
 |some (some v)=>.ok (v.GJ Fl.Gv)
 |_=>.stuck
def ah:MA:=fun _=>.ok []
def ae(a:ME)(r:MA):MA:=fun env=>(a env).bind fun x=>(r env).bind fun xs=>.ok (x::xs)
def mUn(f:PV->Gu)(a:ME):ME:=fun env=>(a env).bind f
def mOp(f:PV->PV->Gu)(a b:ME):ME:=fun env=>(a env).bind fun x=>(b env).bind fun y=>f x y
def k8(g:Int->Int->PV):PV->PV->Gu
 |.int i,.int j=>.ok (g i j)
 |_,_=>.stuck
def eD(C:Int->Int->Bool)(g:Int->Int->PV):PV->PV->Gu
 |.int i,.int j=>if C i j then .ok (g i j)else .stuck
 |_,_=>.stuck
def lY:PV->Res Bool
 |.non=>.ok false
 |.bl b=>.ok b
 |.int i=>.ok (i != 0)
 |.lst _ xs|.tup xs=>.ok (!xs.isEmpty)
 |_=>.stuck
def av(a:ME):MT:=fun env=>(a env).bind fun
 |.bl b=>.ok b
 |_=>.stuck
def dI(a:ME):MT:=fun env=>(a env).bind lY
def j5(a:MT):MT:=fun env=>(a env).bind fun b=>.ok (!b)
def fQ(a b:MT):MT:=fun env=>(a env).bind fun x=>if x then b env else .ok false
def gh(a b:MT):MT:=fun env=>(a env).bind fun x=>if x then .ok true else b env
def vR(c:MT)(a b:ME):ME:=fun env=>(c env).bind fun x=>if x then a env else b env
def aR:MS:=.next
def ax(a b:MS):MS:=fun env=>match a env with
 |.next e=>b e
 |o=>o
def mBr(c:MT)(a b:MS):MS:=fun env=>match c env with
 |.ok true=>a env
 |.ok false=>b env
 |.exc k=>.exc k env
 |.stuck=>.stuck
def PV.GH(v:PV):Bool:=!v.has Fl.GB
def cE(env:List (Option PV)):Bool:=match env[0]? with
 |some (some (PV.obj _ _ _ _))=>true
 |_=>false
def aB(i:Nat)(env:En):Bool:=if i=0 then !cE env else true
def a6(i:Nat)(e:ME):MS:=fun env=>match e env with
 |.ok v=>if v.GH&&aB i env then .next (env.set i (some v))else .stuck
 |.exc k=>.exc k env
 |.stuck=>.stuck
def bz(e:ME):MS:=fun env=>match e env with
 |.ok v=>if v.GH then .ret v else .stuck
 |.exc k=>.exc k env
 |.stuck=>.stuck
def iA(i:Nat):MS:=fun env=>match env[i]? with
 |some (some v)=>.ret v
 |_=>.stuck
def gj(e:ME):MS:=fun env=>match e env with
 |.ok _=>.next env
 |.exc k=>.exc k env
 |.stuck=>.stuck
def gL(i:Nat):MS:=fun env=>match env[i]? with
 |some (some v)=>.next (env.set i (some (v.GJ Fl.Gx)))
 |_=>.stuck
def kB(body:PV->MS):Gs->En->Out
 | [],env=>.next env
 |x::xs,env=>match body x env with
  |.next e|.cont e=>kB body xs e
  |.brk e=>.next e
  |o=>o
end PR
namespace PR
open PySem PySem.Spec L2
structure Tb where
 K:PySem.W.Frag
 nc:Nat
 cls:Nat->Addr
 att:Nat->Str
 inj:∀i j,att i=att j->i=j
 xcl:Nat->Addr
 dk:Nat->Gm:=fun _=>[]
 bx:Nat->Hp->Addr->Gp->Prop:=fun k H a vs=>∃o,H a=some (.frz o (.dK (((dk k).map Sum.inr).zip vs)))/\(dk k).length=vs.length
 bxs:∀k (H H':Hp) a vs,(∀b o u,H b=some (.frz o u)->H' b=some (.frz o u))->bx k H a vs->bx k H' a vs:=by exact fun _ _ _ _ _ h ⟨o,q,l⟩=>⟨o,h _ _ _ q,l⟩
 tb:Addr->Option (Go):=fun _=>none
def FX(C a:Addr):HO:=.ext fun h=>∃o,h.get? a=some o/\o.cls=.ref C
def KL(K:PySem.W.Frag)(a:Addr)(xs:Gp):Prop:=∃(o:Obj) (its:Go) (n:Nat),K.lookup a=some o/\o.cls=.type "list" /\ o.dict=none/\o.data=.seq its n/\its.size<=sizeLine/\aE xs its.toList
def oX:Fl->Addr->Gk->Gk->Prop
 |.own,a,fp',fp=>fp=a::fp'
 |_,_,fp',fp=>fp'=[]/\fp=[]
def Cu(F B L:Gh):Fl->Gh
 |.own,_=>True
 |.frz,a=>F a
 |.bor,a=>B a
 |.lnt,a=>L a
 |.mod,_=>False
def kr(T:Tb)(F B L:Gh)(H:Hp):Fl->Addr->Gp->Prop
 |.own,a,vs=>H a=some (.lst vs)
 |.lnt,a,vs=>L a/\H a=some (.lst vs)
 |.frz,a,vs=>F a/\Rd H a (.lst vs)
 |.bor,a,vs=>B a/\Rd H a (.lst vs)
 |.mod,a,vs=>KL T.K a vs
def kr.sq(h:kr T F B L H f a vs):SqL T.K H a vs:=by
 cases f with
 |own=>exact SqL.of h
 |lnt=>exact SqL.of h.2
 |frz|bor=>exact .inl h.2
 |mod=>exact .inr h
mutual
def Rel(T:Tb)(F B L:Gh)(H:Hp):PV->V->Gk->Prop
 |.non,v,fp=>v=.non/\fp=[]
 |.bl b,v,fp=>v=.bl b/\fp=[]
 |.int i,v,fp=>v=.int i/\fp=[]
 |.str x,v,fp=>v=.str x/\fp=[]
 |.lst f xs,v,fp=>∃a vs fp',v=.ref a/\kr T F B L H f a vs/\RelL T F B L H xs vs fp'/\oX f a fp' fp
 |.tup xs,v,fp=>∃a vs,v=.ref a/\SqT T.K H a vs/\RelL T F B L H xs vs fp
 |.obj f c ks xs,v,fp=>∃a dx vs fp',v=.ref a/\H a=some (.ins (T.cls c) dx ((ks.map T.att).zip vs))/\(ks.length=xs.length/\c<T.nc)/\RelL T F B L H xs vs fp'/\oX f a fp' fp/\Cu F B L f a
 |.exc c,v,fp=>∃a,v=.ref a/\H a=some (FX (T.xcl c) a)/\fp=[]
 |.box k xs,v,fp=>∃a vs,v=.ref a/\T.bx k H a vs/\RelL T F B L H xs vs fp
def RelL(T:Tb)(F B L:Gh)(H:Hp):Gs->Gp->Gk->Prop
 | [],vs,fp=>vs=[]/\fp=[]
 |x::xs,vs,fp=>∃v ws f1 f2,vs=v::ws/\Rel T F B L H x v f1/\RelL T F B L H xs ws f2/\fp=f1++f2
end
def dQ:HO->Prop
 |.tup _|.frz _ _|.ext _=>True
 |_=>False
section
variable{T:Tb}{F F' B B' L L':Gh}{H H':Hp}
def Rd.tr(h:∀o,H a=some o->H' a=some o)(q:Rd H a u):Rd H' a u:=by
 rcases q with q |⟨o,q⟩
 ·exact .inl (h _ q)
 ·exact .inr ⟨o,h _ q⟩
def SqT.tr(h:∀o,H a=some o->dQ o->H' a=some o)(q:SqT K H a vs):SqT K H' a vs:=by
 rcases q with(q |⟨o,q⟩)|q
 ·exact .inl (.inl (h _ q True.intro))
 ·exact .inl (.inr ⟨o,h _ q True.intro⟩)
 ·exact .inr q
def RelL.length:∀{xs:Gs}{vs:Gp}{fp:Gk},RelL T F B L H xs vs fp->xs.length=vs.length
 | [],_,_,h=>by unfold RelL at h;rw[h.1];rfl
 |x::xs,_,_,h=>by unfold RelL at h;obtain⟨v,ws,f1,f2,rfl,_,h2,_⟩:=h;simp[RelL.length h2]
def oX.all{P:Gh}(h:oX f a fp' fp)(hp:∀b∈fp,P b):(f=.own->P a)/\∀b∈fp',P b:=by
 cases f with
 |own=>
  obtain rfl:fp=a::fp':=h
  grind
 |_=>exact⟨fun z=>(nomatch z),by rw[h.1];exact fun _ z=>nomatch z⟩
structure Mp(T:Tb)(g:Fl->Fl)(p:Fl->Bool)(E:Gk->Gk)(C F B L:Gh)(H:Hp)(F' B' L':Gh)(H':Hp):Prop where
 hl:∀f a vs,p f=false->(f=.own->C a)->kr T F B L H f a vs->kr T F' B' L' H' (g f) a vs
 hb:∀f a,p f=false->(f=.own->C a)->Cu F B L f a->Cu F' B' L' (g f) a/\∀o,H a=some o->H' a=some o
 hf:∀f a x y,oX f a x y->oX (g f) a (E x) (E y)
 he:E []=[]
 ha:∀x y,E (x++y)=E x++E y
 hx:∀a o,H a=some o->dQ o->H' a=some o
mutual
def Mp.rel(M:Mp T g p E C F B L H F' B' L' H') :
  ∀{x:PV}{v:V}{fp:Gk},x.has p=false->(∀a∈fp,C a)->Rel T F B L H x v fp->Rel T F' B' L' H' (x.GJ g) v (E fp)
 |.non,_,_,_,_,h|.bl _,_,_,_,_,h|.int _,_,_,_,_,h|.str _,_,_,_,_,h=>by unfold Rel at h;simp only[PV.GJ];unfold Rel;exact⟨h.1,by rw[h.2,M.he]⟩
 |.lst f xs,_,fp,hp,hc,h=>by unfold Rel at h;obtain⟨a,vs,fp',e,h1,h2,h3⟩:=h;simp only[PV.has,or_eq_false_iff]at hp;obtain⟨c1,c2⟩:=h3.all hc;simp only[PV.GJ];unfold Rel;exact⟨a,vs,E fp',e,M.hl f a vs hp.1 c1 h1,Mp.rels M hp.2 c2 h2,M.hf f a fp' fp h3⟩
 |.tup xs,_,fp,hp,hc,h=>by unfold Rel at h;obtain⟨a,vs,e,h1,h2⟩:=h;simp only[PV.GJ];unfold Rel;exact⟨a,vs,e,SqT.tr (fun o q z=>M.hx a o q z) h1,Mp.rels M hp hc h2⟩
 |.obj f c ks xs,_,fp,hp,hc,h=>by unfold Rel at h;obtain⟨a,dx,vs,fp',e,h1,hk,h2,h3,h4⟩:=h;simp only[PV.has,or_eq_false_iff]at hp;obtain⟨c1,c2⟩:=h3.all hc;obtain⟨q1,q2⟩:=M.hb f a hp.1 c1 h4;simp only[PV.GJ];unfold Rel;have r:=Mp.rels M hp.2 c2 h2;exact⟨a,dx,vs,E fp',e,q2 _ h1,⟨by rw[r.length,hk.1,h2.length],hk.2⟩,r,M.hf f a fp' fp h3,q1⟩
 |.exc c,_,fp,_,_,h=>by unfold Rel at h;obtain⟨a,e,h1,rfl⟩:=h;simp only[PV.GJ];unfold Rel;exact⟨a,e,M.hx a _ h1 True.intro,M.he⟩
 |.box k xs,_,fp,hp,hc,h=>by unfold Rel at h;obtain⟨a,vs,e,h1,h2⟩:=h;simp only[PV.GJ];unfold Rel;exact⟨a,vs,e,T.bxs k H H' a vs (fun b o u q=>M.hx b _ q True.intro) h1,Mp.rels M hp hc h2⟩
def Mp.rels(M:Mp T g p E C F B L H F' B' L' H') :
  ∀{xs:Gs}{vs:Gp}{fp:Gk},hasL p xs=false->(∀a∈fp,C a)->RelL T F B L H xs vs fp->RelL T F' B' L' H' (mapL g xs) vs (E fp)
 | [],_,_,_,_,h=>by unfold RelL at h;simp only[mapL];unfold RelL;exact⟨h.1,by rw[h.2,M.he]⟩
 |x::xs,_,fp,hp,hc,h=>by unfold RelL at h;obtain⟨v,ws,f1,f2,e,h1,h2,rfl⟩:=h;simp only[hasL,or_eq_false_iff]at hp;simp only[mapL];unfold RelL;exact⟨v,ws,E f1,E f2,e,Mp.rel M hp.1 (fun b hb=>hc b (mem_append_left _ hb)) h1,Mp.rels M hp.2 (fun b hb=>hc b (mem_append_right _ hb)) h2,M.ha f1 f2⟩
end
mutual
def jF:∀x:PV,x.GJ (fun f=>f)=x
 |.non|.bl _|.int _|.str _|.exc _=>rfl
 |.lst f xs|.tup xs|.obj f c ks xs|.box k xs=>by simp only[PV.GJ,mapL_id xs]
def mapL_id:∀xs:Gs,mapL (fun f=>f) xs=xs
 | []=>rfl
 |x::xs=>by simp only[mapL,jF x,mapL_id xs]
end
mutual
def kc:∀x:PV,x.has (fun _=>false)=false
 |.non|.bl _|.int _|.str _|.exc _=>rfl
 |.lst f xs=>by simp only[PV.has,has_noL xs,Bool.or_false]
 |.tup xs=>by simp only[PV.has,has_noL xs]
 |.obj f c ks xs=>by simp only[PV.has,has_noL xs,Bool.or_false]
 |.box k xs=>by simp only[PV.has,has_noL xs]
def has_noL:∀xs:Gs,hasL (fun _=>false) xs=false
 | []=>rfl
 |x::xs=>by simp only[hasL,kc x,has_noL xs,Bool.or_false]
end
def zK(hF:∀a,F a->F' a)(hB:∀a,B a->B' a)(hL:∀a,L a->L' a)(hx:∀a o,H a=some o->(F a\/B a\/L a\/dQ o)->H' a=some o):Mp T (fun f=>f) (fun _=>false) (fun x=>x) (fun a=>∀o,H a=some o->H' a=some o) F B L H F' B' L' H':=
 ⟨fun f a vs _ c h=>by
  cases f with
  |own=>exact c rfl _ h
  |frz=>exact⟨hF a h.1,Rd.tr (fun o q=>hx a o q (.inl h.1)) h.2⟩
  |bor=>exact⟨hB a h.1,Rd.tr (fun o q=>hx a o q (.inr (.inl h.1))) h.2⟩
  |lnt=>exact⟨hL a h.1,hx a _ h.2 (.inr (.inr (.inl h.1)))⟩
  |mod=>exact h,fun f a _ c h=>by
  cases f with
  |own=>exact⟨True.intro,c rfl⟩
  |frz=>exact⟨hF a h,fun o q=>hx a o q (.inl h)⟩
  |bor=>exact⟨hB a h,fun o q=>hx a o q (.inr (.inl h))⟩
  |lnt=>exact⟨hL a h,fun o q=>hx a o q (.inr (.inr (.inl h)))⟩
  |mod=>exact h.elim,fun _ _ _ _ h=>h,rfl,fun _ _=>rfl,fun a o q z=>hx a o q (.inr (.inr (.inr z)))⟩
def Rel.tr(hF:∀a,F a->F' a)(hB:∀a,B a->B' a)(hL:∀a,L a->L' a)(hx:∀a o,H a=some o->(F a\/B a\/L a\/dQ o)->H' a=some o)(hp:∀a∈fp,∀o,H a=some o->H' a=some o)(h:Rel T F B L H x v fp):Rel T F' B' L' H' x v fp:=by
 have:=(zK hF hB hL hx).rel (kc x) hp h
 rwa [jF]at this
def RelL.tr(hF:∀a,F a->F' a)(hB:∀a,B a->B' a)(hL:∀a,L a->L' a)(hx:∀a o,H a=some o->(F a\/B a\/L a\/dQ o)->H' a=some o)(hp:∀a∈fp,∀o,H a=some o->H' a=some o)(h:RelL T F B L H x v fp):RelL T F' B' L' H' x v fp:=by
 have:=(zK hF hB hL hx).rels (has_noL x) hp h
 rwa [mapL_id]at this
def Ext(H H':Hp):Prop:=∀a o,H a=some o->H' a=some o
def Ext.refl:Ext H H:=fun _ _ h=>h
def Ext.trans(a:Ext H H1)(b:Ext H1 H2):Ext H H2:=fun c o h=>b c o (a c o h)
def Ext.upd(h:H a=none):Ext H (L2.upd H a o):=fun b u e=>by rw[az (aY e h)];exact e
def Ext.free(x:Ext H H')(h:H' a=none):H a=none:=by
 cases e:H a with
 |none=>rfl
 |some o=>rw[x a o e]at h;cases h
def Rel.ext(e:Ext H H')(hF:∀a,F a->F' a)(h:Rel T F B L H x v fp):Rel T F' B L H' x v fp:=
 Rel.tr hF (fun _ h=>h) (fun _ h=>h) (fun a o q _=>e a o q) (fun a _ o q=>e a o q) h
def RelL.ext(e:Ext H H')(hF:∀a,F a->F' a)(h:RelL T F B L H xs vs fp):RelL T F' B L H' xs vs fp:=
 RelL.tr hF (fun _ h=>h) (fun _ h=>h) (fun a o q _=>e a o q) (fun a _ o q=>e a o q) h
def Chg:HO->Prop
 |.lst _|.ins _ _ _=>True
 |_=>False
mutual
def Rel.chg:∀{x:PV}{v:V}{fp:Gk},Rel T F B L H x v fp->∀a∈fp,∃o,H a=some o/\Chg o
 |.non,_,_,h|.bl _,_,_,h|.int _,_,_,h|.str _,_,_,h=>by unfold Rel at h;rw[h.2];exact fun _ z=>nomatch z
 |.lst f xs,_,fp,h=>by
  unfold Rel at h;obtain⟨a,vs,fp',e,hl,hr,hf⟩:=h;cases f with
  |own=>
   obtain rfl:fp=a::fp':=hf;intro b hb;rcases mem_cons.mp hb with rfl|hb
   ·exact⟨_,hl,True.intro⟩
   ·exact RelL.chg hr b hb
  |frz|bor|lnt|mod=>obtain⟨rfl,rfl⟩:=hf;exact fun _ z=>nomatch z
 |.tup xs,_,fp,h=>by unfold Rel at h;obtain⟨a,vs,e,hl,hr⟩:=h;exact RelL.chg hr
 |.obj f c ks xs,_,fp,h=>by
  unfold Rel at h;obtain⟨a,dx,vs,fp',e,hl,hk,hr,hf,ha⟩:=h;cases f with
  |own=>
   obtain rfl:fp=a::fp':=hf;intro b hb;rcases mem_cons.mp hb with rfl|hb
   ·exact⟨_,hl,True.intro⟩
   ·exact RelL.chg hr b hb
  |frz|bor|lnt|mod=>obtain⟨rfl,rfl⟩:=hf;exact fun _ z=>nomatch z
 |.exc c,_,fp,h=>by unfold Rel at h;obtain⟨a,e,hl,rfl⟩:=h;exact fun _ z=>nomatch z
 |.box k xs,_,fp,h=>by unfold Rel at h;obtain⟨a,vs,e,hl,hr⟩:=h;exact RelL.chg hr
def RelL.chg:∀{xs:Gs}{vs:Gp}{fp:Gk},RelL T F B L H xs vs fp->∀a∈fp,∃o,H a=some o/\Chg o
 | [],_,_,h=>by unfold RelL at h;rw[h.2];exact fun _ z=>nomatch z
 |x::xs,_,_,h=>by
  unfold RelL at h;obtain⟨v,ws,f1,f2,_,h1,h2,rfl⟩:=h;intro b hb;rcases mem_append.mp hb with hb|hb
  ·exact Rel.chg h1 b hb
  ·exact RelL.chg h2 b hb
end
def Rel.there(h:Rel T F B L H x v fp)(a:Addr)(ha:a∈fp):∃o,H a=some o:=let⟨o,q,_⟩:=h.chg a ha;⟨o,q⟩
def RelL.there(h:RelL T F B L H xs vs fp)(a:Addr)(ha:a∈fp):∃o,H a=some o:=let⟨o,q,_⟩:=h.chg a ha;⟨o,q⟩
def yw:Mp T Fl.Gv (fun _=>false) (fun _=>[]) L F B L H F B L H:=
 ⟨fun f a vs _ c h=>by
  cases f with
  |own=>exact⟨c rfl,h⟩
  | _=>exact h,fun f a _ c h=>⟨by
  cases f with
  |own=>exact c rfl
  |_=>exact h,fun _ q=>q⟩,fun f a x y h=>by cases f<;>exact⟨rfl,rfl⟩,rfl,fun _ _=>rfl,fun _ _ q _=>q⟩
def Rel.Gv(hp:∀a∈fp,L a)(h:Rel T F B L H x v fp):Rel T F B L H (x.GJ Fl.Gv) v []:=yw.rel (kc x) hp h
end
end PR
namespace L2
open PySem PySem.Spec
def PE.wk(h:PE X e t)(w:∀Y H Q,t' Y H Q->t Y H Q):PE X e t':=fun js s Y H Q I q=>h js s Y H Q I (w Y H Q q)
def PA.wk(h:PA X e t)(w:∀Y H Q,t' Y H Q->t Y H Q):PA X e t':=fun pos js s Y H Q I q=>h pos js s Y H Q I (w Y H Q q)
def PT.wk(h:PT X e t)(w:∀Y H Q,t' Y H Q->t Y H Q):PT X e t':=fun js s Y H Q I q=>h js s Y H Q I (w Y H Q q)
def PW.wk(h:PW X e t)(w:∀Y H Q,t' Y H Q->t Y H Q):PW X e t':=fun wh js s Y H Q I q=>h wh js s Y H Q I (w Y H Q q)
def PS.wk(h:PS X e t)(w:∀D Y H,t' D Y H->t D Y H):PS X e t':=fun js s Y H D I q=>h js s Y H D I (w D Y H q)
def PSs.wk(h:PSs X e t)(w:∀D Y H,t' D Y H->t D Y H):PSs X e t':=fun js s Y H D I q=>h js s Y H D I (w D Y H q)
end L2
namespace PR
open PySem PySem.Spec L2
structure Zn where
 H0:Hp
 F0:Gh
 fp0:Gh
 B:Gh
 pin:Option V:=none
abbrev NoL:Gh:=fun _=>False
def zt(T:Tb)(H:Hp)(f:Gh):Prop:=∀a ps,T.tb a=some ps->H a=some (.tbl ps)/\¬f a
structure bB(T:Tb)(Z:Zn)(F:Gh)(H:Hp):Prop where
 bo:(∀a,Z.B a->(∃o,Z.H0 a=some o)/\¬Z.fp0 a)/\zt T Z.H0 Z.fp0
 keep:∀a o,Z.H0 a=some o->¬Z.fp0 a->H a=some o
 f0:∀a,Z.F0 a->F a
 fn:∀a,F a->Z.F0 a\/Z.H0 a=none\/Z.fp0 a
 ft:∀a,F a->∃o,H a=some o
structure ak(T:Tb)(Z:Zn)(F:Gh)(H:Hp)(Y:St)(env:En)(fp:Nat->Gk):Prop where
 hp:bB T Z F H
 len:Y.length=env.length
 rel:∀(i:Nat) (pv:PV),env[i]?=some (some pv)->∃v,Y[i]?=some (some v)/\Rel T F Z.B NoL H pv v (fp i)
 nd:∀i,(fp i).Nodup
 dj:∀i j,i≠j->∀a∈fp i,a∉fp j
 dis:∀i,∀a∈fp i,¬F a/\∃o,H a=some o
 new:∀i,∀a∈fp i,Z.H0 a=none\/Z.fp0 a
 ch:∀i,∀a∈fp i,∃o,H a=some o/\Chg o
 pn:∀v,Z.pin=some v->Y[0]?=some (some v)/\cE env=true
def Own(fp:Nat->Gk):Gh:=fun a=>∃i,a∈fp i
structure Gr(F:Gh)(H:Hp)(F':Gh)(H':Hp):Prop where
 ext:Ext H H'
 mono:∀a,F a->F' a
 only:∀a,F' a->F a\/H a=none
 dom:∀a,F' a->∃o,H' a=some o
def Gr.refl(h:∀a,F a->∃o,H a=some o):Gr F H F H:=⟨Ext.refl,fun _ h=>h,fun _ h=>.inl h,h⟩
def Gr.trans(a:Gr F H F1 H1)(b:Gr F1 H1 F2 H2):Gr F H F2 H2:=
 ⟨a.ext.trans b.ext,fun c h=>b.mono c (a.mono c h),fun c h=>(b.only c h).elim (a.only c) fun z=>.inr (a.ext.free z),b.dom⟩
def Gr.same(h:∀a,F a->∃o,H a=some o)(e:Ext H H'):Gr F H F H':=⟨e,fun _ h=>h,fun _ h=>.inl h,fun a q=>let⟨o,z⟩:=h a q;⟨o,e a o z⟩⟩
section
variable{T:Tb}{Z:Zn}{F F':Gh}{H H':Hp}{Y:St}{env:En}{fp:Nat->Gk}
def bB.tb(S:bB T Z F H)(h:T.tb a=some ps):H a=some (.tbl ps):=let⟨h1,h2⟩:=S.bo.2 a ps h;S.keep a _ h1 h2
def ak.tbo(S:ak T Z F H Y env fp)(e:Ext H H')(hn:∀ a,f a->H a=none \/ Own fp a):zt T H' f:=fun a ps h=>⟨e a _ (S.hp.tb h),fun z=>by
 have q:=S.hp.tb h;rcases hn a z with n |⟨i,hi⟩
 ·rw[q]at n;cases n
 ·obtain⟨o,h1,h2⟩:=S.ch i a hi;rw[q]at h1;cases h1;exact h2⟩
def bB.grow(S:bB T Z F H)(g:Gr F H F' H'):bB T Z F' H':=
 ⟨S.bo,fun a o h n=>g.ext a o (S.keep a o h n),fun a h=>g.mono a (S.f0 a h),fun a h=>by
  rcases g.only a h with z|z
  ·exact S.fn a z
  ·refine .inr ?_;by_cases q:Z.fp0 a
   ·exact .inr q
   ·refine .inl ?_;cases w:Z.H0 a with
    |none=>rfl
    |some o=>rw[S.keep a o w q]at z;exact(nomatch z),g.dom⟩
def ak.grow(S:ak T Z F H Y env fp)(g:Gr F H F' H'):ak T Z F' H' Y env fp:=
 ⟨S.hp.grow g,S.len,fun i pv h=>let ⟨v,q1,q2⟩:=S.rel i pv h;⟨v,q1,q2.ext g.ext g.mono⟩,S.nd,S.dj,fun i a h=>by
  obtain⟨n,o,q⟩:=S.dis i a h;refine⟨fun z=>?_,o,g.ext a o q⟩;rcases g.only a z with z|z
  ·exact n z
  ·rw[q]at z;exact(nomatch z),S.new,fun i a h=>let⟨o,q,c⟩:=S.ch i a h;⟨o,g.ext a o q,c⟩,S.pn⟩
end
def GE(T:Tb)(W:Nat->St->Gq)(B F L:Gh)(Y:St)(H:Hp)(Q:VK):Gu->Prop
 |.ok pv=>∀v H' F' f,Gr F H F' H'->Rel T F' B L H' pv v f->(∀a∈f,¬F' a)->f.Nodup->(∀a∈f,H a=none)->Q v H'
 |.exc c=>∀H',Ext H H'->W c Y H'
 |.stuck=>False
def GA(T:Tb)(W:Nat->St->Gq)(B F L:Gh)(Y:St)(H:Hp)(Q:Gp->Gq):Res (Gs)->Prop
 |.ok pvs=>∀vs H' F' f,Gr F H F' H'->RelL T F' B L H' pvs vs f->(∀a∈f,¬F' a)->f.Nodup->(∀a∈f,H a=none)->Q vs H'
 |.exc c=>∀H',Ext H H'->W c Y H'
 |.stuck=>False
def GT(W:Nat->St->Gq)(F:Gh)(Y:St)(H:Hp)(Q:Bool->Gq):Res Bool->Prop
 |.ok b=>∀H' F',Gr F H F' H'->Q b H'
 |.exc c=>∀H',Ext H H'->W c Y H'
 |.stuck=>False
def tE(T:Tb)(W:Nat->St->Gq)(m:ME):TE:=fun Y H Q=>∃Z F env fp,ak T Z F H Y env fp/\GE T W Z.B F (Own fp) Y H Q (m env)
def tA(T:Tb)(W:Nat->St->Gq)(m:MA):TA:=fun Y H Q=>∃Z F env fp,ak T Z F H Y env fp/\GA T W Z.B F (Own fp) Y H Q (m env)
def tT(T:Tb)(W:Nat->St->Gq)(m:MT):TT:=fun Y H Q=>∃Z F env fp,ak T Z F H Y env fp/\GT W F Y H Q (m env)
abbrev SE(X:Cx)(T:Tb)(W:Nat->St->Gq)(e:Expr)(m:ME):Prop:=PE X e (tE T W m)
abbrev SA(X:Cx)(T:Tb)(W:Nat->St->Gq)(es:List Expr)(m:MA):Prop:=PA X es (tA T W m)
abbrev ST(X:Cx)(T:Tb)(W:Nat->St->Gq)(e:Expr)(m:MT):Prop:=PT X e (tT T W m)
section
variable{X:Cx}{T:Tb}{W:Nat->St->Gq}{Z:Zn}{F F' B L:Gh}{H H':Hp}{Y:St}{env:En}{fp:Nat->Gk}
def GE.scal{Q:VK}{pv:PV}{v:V}(q:GE T W B F L Y H Q (.ok pv))(g:Gr F H F' H')(r:Rel T F' B L H' pv v []):Q v H':=
 q v H' F' [] g r (fun _ z=>(nomatch z)) nodup_nil (fun _ z=>(nomatch z))
def jN{v:V}{pv:PV}(h:PE X e (tC v))(r:∀F B L H,Rel T F B L H pv v []):SE X T W e (mC pv):=PE.wk h fun Y H Q ⟨Z,F,env,fp,S,q⟩=>q.scal (Gr.refl S.hp.ft) (r _ _ _ _)
def ai{i j pos}:SE X T W (.Constant (.int i) j pos) (mC (.int i)):=jN iZ fun _ _ _ _=>by unfold Rel;exact⟨rfl,rfl⟩
def il{b j pos}:SE X T W (.Constant (.bool b) j pos) (mC (.bl b)):=jN zG fun _ _ _ _=>by unfold Rel;exact⟨rfl,rfl⟩
def lQ{j pos}:SE X T W (.Constant .none j pos) (mC .non):=jN u6 fun _ _ _ _=>by unfold Rel;exact⟨rfl,rfl⟩
def bO{x j pos}:SE X T W (.Constant (.str x) j pos) (mC (.str x)):=jN AB fun _ _ _ _=>by unfold Rel;exact⟨rfl,rfl⟩
def Ac(hN:X.N[i]?=some x)(hv:Vis X.env.scope x)(hd:(x ==("__debug__":Str))=false:=by decide)(hcd:(x ==("__classdict__":Str))=false:=by decide):SE X T W (.Name x pos) (aa i):=
 PE.wk (bV hN hv hd hcd) fun Y H Q hz1=>by
  obtain⟨Z,F,env,fp,S,q⟩:=hz1;unfold aa at q;split at q
  ·rename_i pv e
   obtain⟨v,e1,r⟩:=S.rel i pv e;refine⟨v,e1,q.scal (Gr.refl S.hp.ft) ?_⟩;exact Rel.Gv (fun a h=>⟨i,h⟩) (Rel.tr (fun _ h=>h) (fun _ h=>h) (fun _ h=>h.elim) (fun a o q _=>q) (fun a _ o q=>q) r)
  ·exact q.elim
def tE.bind(S:ak T Z F H Y env fp)(hx:∀c,m env=.exc c->∀H',Ext H H'->W c Y H')(hs:m env≠.stuck)
  (k:∀pv v H' F' f,m env=.ok pv->Gr F H F' H'->Rel T F' Z.B (Own fp) H' pv v f->(∀a∈f,¬F' a)->f.Nodup->(∀a∈f,H a=none)->Q v H'):tE T W m Y H Q:=by
 refine⟨Z,F,env,fp,S,?_⟩;cases e:m env with
 |ok pv=>exact fun v H' F' f g r h1 h2 h3=>k pv v H' F' f e g r h1 h2 h3
 |exc c=>exact hx c e
 |stuck=>exact hs e
def tE.bq(S:ak T Z F H Y env fp)(k:∀pv v H' F' f,m env=.ok pv->Gr F H F' H'->Rel T F' Z.B (Own fp) H' pv v f->(∀a∈f,¬F' a)->f.Nodup->(∀a∈f,H a=none)->Q v H')(hx:∀c,m env=.exc c->∀H',Ext H H'->W c Y H':=by exact fun c e=>by rw[e]at q;exact q)(hs:m env≠.stuck:=by exact fun e=>by rw[e]at q;exact q):tE T W m Y H Q:=tE.bind S hx hs k
def tA.bind(S:ak T Z F H Y env fp)(hx:∀c,m env=.exc c->∀H',Ext H H'->W c Y H')(hs:m env≠.stuck)
  (k:∀pvs vs H' F' f,m env=.ok pvs->Gr F H F' H'->RelL T F' Z.B (Own fp) H' pvs vs f->(∀a∈f,¬F' a)->f.Nodup->(∀a∈f,H a=none)->Q vs H'):tA T W m Y H Q:=by
 refine⟨Z,F,env,fp,S,?_⟩;cases e:m env with
 |ok pv=>exact fun v H' F' f g r h1 h2 h3=>k pv v H' F' f e g r h1 h2 h3
 |exc c=>exact hx c e
 |stuck=>exact hs e
def tA.bq(S:ak T Z F H Y env fp)(k:∀pvs vs H' F' f,m env=.ok pvs->Gr F H F' H'->RelL T F' Z.B (Own fp) H' pvs vs f->(∀a∈f,¬F' a)->f.Nodup->(∀a∈f,H a=none)->Q vs H')(hx:∀c,m env=.exc c->∀H',Ext H H'->W c Y H':=by exact fun c e=>by rw[e]at q;exact q)(hs:m env≠.stuck:=by exact fun e=>by rw[e]at q;exact q):tA T W m Y H Q:=tA.bind S hx hs k
def tT.bind(S:ak T Z F H Y env fp)(hx:∀c,m env=.exc c->∀H',Ext H H'->W c Y H')(hs:m env≠.stuck)
  (k:∀b H' F',m env=.ok b->Gr F H F' H'->Q b H'):tT T W m Y H Q:=by
 refine⟨Z,F,env,fp,S,?_⟩;cases e:m env with
 |ok pv=>exact fun H' F' g=>k pv H' F' e g
 |exc c=>exact hx c e
 |stuck=>exact hs e
def ag:SA X T W [] ah:=PA.wk fD fun Y H Q ⟨Z,F,env,fp,S,q⟩=>q [] H F [] (Gr.refl S.hp.ft) (by unfold RelL;exact⟨rfl,rfl⟩) (fun _ z=>(nomatch z)) nodup_nil (fun _ z=>(nomatch z))
def ac(ha:SE X T W e m)(hr:SA X T W es ms)(hs:starEach (e::es) X.env=(false,eval e X.env)::starEach es X.env:=by rfl):SA X T W (e::es) (ae m ms):=
 PA.wk (bW ha hr hs) fun Y H Q hz1=>by
  obtain⟨Z,F,env,fp,S,q⟩:=hz1;unfold ae at q;refine tE.bq S fun x v H1 F1 f1 e1 g1 r1 n1 d1 w1=>?_;rw[e1]at q;simp only[Res.GL]at q;refine tA.bind (S.grow g1) (fun c e=>by rw[e]at q;exact fun H' x=>q H' (g1.ext.trans x)) (fun e=>by rw[e]at q;exact q) fun xs vs H2 F2 f2 e2 g2 r2 n2 d2 w2=>?_;rw[e2]at q;simp only[Res.GL]at q;have new1:∀a∈f1,¬F2 a:=fun a ha z=>by
   rcases g2.only a z with z|z
   ·exact n1 a ha z
   ·obtain⟨o,ho⟩:=r1.there a ha;rw[ho]at z;cases z
  refine q (v::vs) H2 F2 (f1++f2) (g1.trans g2) (by unfold RelL;exact⟨v,vs,f1,f2,rfl,r1.ext g2.ext g2.mono,r2,rfl⟩) (fun a ha=>?_) ?_ (fun a ha=>?_)
  ·rcases mem_append.mp ha with ha|ha
   ·exact new1 a ha
   ·exact n2 a ha
  ·refine nodup_append.mpr ⟨d1,d2,fun a ha b hb z=>?_⟩;subst z;obtain⟨o,ho⟩:=r1.there a ha;rw[w2 a hb]at ho;cases ho
  ·rcases mem_append.mp ha with ha|ha
   ·exact w1 a ha
   ·exact g1.ext.free (w2 a ha)
def au(f:Gs->Gu)(ms:MA):ME:=fun env=>(ms env).bind f
def Mir(T:Tb)(W:Nat->St->Gq)(f:Gs->Gu)(r:Gp->Hp->VK->Prop):Prop:=
 ∀(B F L:Gh) (Y:St) (H:Hp) (Q:VK) (F':Gh) (H':Hp) (xs:Gs) (vs:Gp) (fx:Gk),Gr F H F' H'->RelL T F' B L H' xs vs fx->(∀a∈fx,¬F' a)->fx.Nodup->(∀a∈fx,H a=none)->
  GE T W B F L Y H Q (f xs)->r vs H' Q
def tA.mir(hm:Mir T W f r)(h:tE T W (au f ms) Y H Q):tA T W ms Y H fun vs H1=>r vs H1 Q:=by obtain⟨Z,F,env,fp,S,q⟩:=h;unfold au at q;refine tA.bq S fun xs vs H1 F1 f1 e1 g1 r1 n1 d1 w1=>?_;rw[e1]at q;exact hm Z.B F (Own fp) Y H Q F1 H1 xs vs f1 g1 r1 n1 d1 w1 q
def eB{id:String}{x:Str}{es:List Expr}{f:Gs->Gu}{r:Gp->Hp->VK->Prop}(hc:dq X (.builtin id) r)(hmir:Mir T W f r)(hg:Gl X x)(hm:X.mg x=none)(hv:bootBuiltins x=some (.builtin id))(ha:SA X T W (e::es) ms)
  (hn:x≠"__name__":=by decide) (hdb:(x ==("__debug__":Str))=false:=by decide)
  (he:starEach (e::es) X.env=(false,eval e X.env)::starEach es X.env:=by rfl) (hpl:(backTo pos (starEach es X.env)).any (·.1)=false:=by rfl):SE X T W (.Call (.Name x p) (e::es) [] pos) (au f ms):=
 PE.wk (jY hc hg hm hv ha hn hdb he hpl) fun Y H Q h=>tA.mir hmir h
def iT{id:String}{x:Str}{es:List Expr}{f:Gs->Gu}{r:Gp->Hp->VK->Prop}(hc:dq X (.type id) r)(hmir:Mir T W f r)(hg:Gl X x)(hm:X.mg x=none)(hv:bootBuiltins x=some (.type id))(ha:SA X T W (e::es) ms)
  (hn:x≠"__name__":=by decide) (hdb:(x ==("__debug__":Str))=false:=by decide)
  (he:starEach (e::es) X.env=(false,eval e X.env)::starEach es X.env:=by rfl) (hpl:(backTo pos (starEach es X.env)).any (·.1)=false:=by rfl):SE X T W (.Call (.Name x p) (e::es) [] pos) (au f ms):=
 PE.wk (i3 hc hg hm hv ha hn hdb he hpl) fun Y H Q h=>tA.mir hmir h
def iS(T:Tb)(W:Nat->St->Gq)(f:PV->PV->Gu)(r:R2):Prop:=
 ∀(B F L:Gh) (Y:St) (H:Hp) (Q:VK) (F':Gh) (H':Hp) (x y:PV) (v u:V) (fx fy:Gk),Gr F H F' H'->Rel T F' B L H' x v fx->Rel T F' B L H' y u fy->(∀a∈fx++fy,¬F' a)->(fx++fy).Nodup->(∀a∈fx++fy,H a=none)->
  GE T W B F L Y H Q (f x y)->r v u H' Q
def tE.mir2(hm:iS T W f r)(h:tE T W (mOp f ma mb) Y H Q):tOp r (tE T W ma) (tE T W mb) Y H Q:=by
 obtain⟨Z,F,env,fp,S,q⟩:=h;unfold mOp at q;refine tE.bq S fun x v H1 F1 f1 e1 g1 r1 n1 d1 w1=>?_;rw[e1]at q;simp only[Res.GL]at q;refine tE.bind (S.grow g1) (fun c e=>by rw[e]at q;exact fun H' x=>q H' (g1.ext.trans x)) (fun e=>by rw[e]at q;exact q) fun y u H2 F2 f2 e2 g2 r2 n2 d2 w2=>?_;rw[e2]at q;simp only[Res.GL]at q;have new1:∀a∈f1,¬F2 a:=fun a ha z=>by
  rcases g2.only a z with z|z
  ·exact n1 a ha z
  ·obtain⟨o,ho⟩:=r1.there a ha;rw[ho]at z;cases z
 refine hm Z.B F (Own fp) Y H Q F2 H2 x y v u f1 f2 (g1.trans g2) (r1.ext g2.ext g2.mono) r2 (fun a ha=>?_) ?_ (fun a ha=>?_) q
 ·rcases mem_append.mp ha with ha|ha
  ·exact new1 a ha
  ·exact n2 a ha
 ·refine nodup_append.mpr ⟨d1,d2,fun a ha b hb z=>?_⟩;subst z;obtain⟨o,ho⟩:=r1.there a ha;rw[w2 a hb]at ho;cases ho
 ·rcases mem_append.mp ha with ha|ha
  ·exact w1 a ha
  ·exact g1.ext.free (w2 a ha)
def jp(ho:OpR X (binaryOp op) r)(hm:iS T W f r)(ha:SE X T W a ma)(hb:SE X T W b mb):SE X T W (.BinOp a op b pos) (mOp f ma mb):=
 PE.wk (Dp (pos:=pos) ho ha hb) fun Y H Q h=>tE.mir2 hm h
def uB(ho:OpR X (compareOp op) r)(hm:iS T W f r)(ha:SE X T W a ma)(hb:SE X T W b mb)(hk:behindInMarks op b=false):SE X T W (.Compare a [op] [b] pos) (mOp f ma mb):=
 PE.wk (yh (pos:=pos) ho ha hb hk) fun Y H Q h=>tE.mir2 hm h
def zA(hr:IxR X r)(hm:iS T W f r)(ha:SE X T W a ma)(hb:SE X T W b mb)(hs:d0 b):SE X T W (.Subscript a b pos) (mOp f ma mb):=
 PE.wk (nN (pos:=pos) hr ha hb hs) fun Y H Q h=>tE.mir2 hm h
def mq(hg:∀i j F B L H,Rel T F B L H (g' i j) (g i j) []):iS T W (k8 g') (rI0 g):=by
  intro B F L Y H Q F' H' x y v u fx fy gr rx ry _ _ _ q;cases x<;>cases y<;>first
    |exact q.elim
    | (unfold Rel at rx ry
       exact⟨_,_,rx.1,ry.1,q.scal gr (hg _ _ _ _ _ _)⟩)
def n6(hc:∀i j,C' i j=true->C i j)(hg:∀i j F B L H,Rel T F B L H (g' i j) (g i j) []):iS T W (eD C' g') (rI C g):=by
  intro B F L Y H Q F' H' x y v u fx fy gr rx ry _ _ _ q;cases x<;>cases y<;>first
    |exact q.elim
    | (unfold Rel at rx ry
       simp only[eD]at q;split at q
       . rename_i hh
         exact⟨_,_,rx.1,ry.1,hc _ _ hh,q.scal gr (hg _ _ _ _ _ _)⟩
       . exact q.elim)
def dE:Rel T F B L H (.int i) (.int i) []:=by unfold Rel;exact⟨rfl,rfl⟩
def jU:Rel T F B L H (.bl i) (.bl i) []:=by unfold Rel;exact⟨rfl,rfl⟩
def Dj:Rel T F B L H .non .non []:=by unfold Rel;exact⟨rfl,rfl⟩
def nT:PV->PV->Gu:=k8 fun i j=>.int (i-j)
def eC:PV->PV->Gu:=eD (fun i j=>decide ((-(2 ^ 64)<i/\i<2 ^ 64)\/(-(2 ^ 64)<j/\j<2 ^ 64))) fun i j=>.int (i*j)
def bC:PV->PV->Gu:=eD (fun _ j=>decide (0<j)) fun i j=>.int (i%j)
def cm:PV->PV->Gu:=eD (fun _ j=>decide (0<j/\j<1073741824)) fun i j=>.int (i / j)
def AH:PV->PV->Gu:=eD (fun i j=>decide (0<=j/\j<=1000000/\i.natAbs<2 ^ 64)) fun i j=>.int (i ^ j.toNat)
def pLt:PV->PV->Gu:=k8 fun i j=>.bl (decide (i<j))
def pGt:PV->PV->Gu:=k8 fun i j=>.bl (decide (j<i))
def pGe:PV->PV->Gu:=k8 fun i j=>.bl (decide (j<=i))
variable{a b:Expr}{ma mb:ME}{pos:Pos}
def jO(ha:SE X T W a ma)(hb:SE X T W b mb):SE X T W (.BinOp a .Sub b pos) (mOp nT ma mb):=jp AJ (mq fun _ _ _ _ _ _=>dE) ha hb
def fA(ha:SE X T W a ma)(hb:SE X T W b mb):SE X T W (.BinOp a .Mult b pos) (mOp eC ma mb):=jp AN (n6 (fun i j h=>(by simpa using h:(-(2 ^ 64)<i/\i<2 ^ 64)\/(-(2 ^ 64)<j/\j<2 ^ 64))) fun _ _ _ _ _ _=>dE) ha hb
def aW(ha:SE X T W a ma)(hb:SE X T W b mb):SE X T W (.BinOp a .Mod b pos) (mOp bC ma mb):=jp AO (n6 (fun _ _ h=>of_decide_eq_true h) fun _ _ _ _ _ _=>dE) ha hb
def cN(ha:SE X T W a ma)(hb:SE X T W b mb):SE X T W (.BinOp a .FloorDiv b pos) (mOp cm ma mb):=jp yn (n6 (fun i j h=>(by simpa using h:0<j/\j<1073741824)) fun _ _ _ _ _ _=>dE) ha hb
def Ag(ha:SE X T W a ma)(hb:SE X T W b mb):SE X T W (.BinOp a .Pow b pos) (mOp AH ma mb):=jp AM (n6 (fun i j h=>(by simpa using h:0<=j/\j<=1000000/\i.natAbs<2 ^ 64)) fun _ _ _ _ _ _=>dE) ha hb
end
def GS(T:Tb)(W:Nat->St->Gq)(Z:Zn)(D:Ends):Out->Prop
 |.next e=>∀F H Y fp,ak T Z F H Y e fp->D.nx Y H
 |.ret pv=>∀F H v f,bB T Z F H->Rel T F Z.B NoL H pv v f->f.Nodup->(∀a∈f,¬F a)->(∀a∈f,Z.H0 a=none\/Z.fp0 a)->D.rt v H
 |.brk e=>∀F H Y fp,ak T Z F H Y e fp->D.bk Y H
 |.cont e=>∀F H Y fp,ak T Z F H Y e fp->D.ct Y H
 |.exc c e=>∀F H Y fp,ak T Z F H Y e fp->W c Y H
 |.stuck=>False
def tS(T:Tb)(W:Nat->St->Gq)(m:MS):TS:=fun D Y H=>∃Z F env fp,ak T Z F H Y env fp/\GS T W Z D (m env)
abbrev SS(X:Cx)(T:Tb)(W:Nat->St->Gq)(st:Stmt)(m:MS):Prop:=PS X st (tS T W m)
abbrev SSs(X:Cx)(T:Tb)(W:Nat->St->Gq)(sts:List Stmt)(m:MS):Prop:=PSs X sts (tS T W m)
def vG{p:Fl->Bool}(hL:p .lnt=false->∀a,L a->L' a)(hB:p .bor=false->∀a,B a->B' a):Mp T (fun f=>f) p (fun x=>x) (fun _=>True) F B L H F B' L' H:=
 ⟨fun f a vs q _ h=>by
  cases f with
  |lnt=>exact⟨hL q a h.1,h.2⟩
  |bor=>exact⟨hB q a h.1,h.2⟩
  | _=>exact h,fun f a q _ h=>⟨by
  cases f with
  |lnt=>exact hL q a h
  |bor=>exact hB q a h
  |_=>exact h,fun _ q=>q⟩,fun _ _ _ _ h=>h,rfl,fun _ _=>rfl,fun _ _ q _=>q⟩
def Rel.noL(hp:x.has Fl.GB=false)(h:Rel T F B L H x v fo):Rel T F B L' H x v fo:=by
 have:=(vG (p:=Fl.GB) (L':=L') (fun z=>(nomatch z)) (fun _ _ q=>q)).rel hp (fun _ _=>True.intro) h
 rwa [jF]at this
def RelL.noL(hp:hasL Fl.GB x=false)(h:RelL T F B L H x v fo):RelL T F B L' H x v fo:=by
 have:=(vG (p:=Fl.GB) (L':=L') (fun z=>(nomatch z)) (fun _ _ q=>q)).rels hp (fun _ _=>True.intro) h
 rwa [mapL_id]at this
section
variable{X:Cx}{T:Tb}{W:Nat->St->Gq}{Z:Zn}{F F' B L:Gh}{H H':Hp}{Y:St}{env:En}{fp:Nat->Gk}{D:Ends}
def aI(fp:Nat->Gk)(i:Nat)(f:Gk):Nat->Gk:=fun j=>if j=i then f else fp j
def ak.put(S:ak T Z F H Y env fp){i:Nat}{pv:PV}{v:V}{f:Gk}(r:Rel T F Z.B NoL H pv v f)(nd:f.Nodup)(nf:∀a∈f,¬F a)(new:∀a∈f,Z.H0 a=none\/Z.fp0 a)(dj:∀a∈f,∀j,j≠i->a∉fp j)(ho:aB i env=true) :
  ak T Z F H (Y.set i (some v)) (env.set i (some pv)) (aI fp i f):=by
 refine⟨S.hp,by rw[length_set,length_set,S.len],fun j pv' e=>?_,fun j=>?_,fun j k hjk a ha=>?_,fun j a ha=>?_,fun j a ha=>?_,fun j a ha=>?_,fun w hw=>?_⟩
 ·grind[aI,ak,bB,Gr]
 ·unfold aI;split
  ·exact nd
  ·exact S.nd j
 ·grind[aI,ak,bB,Gr]
 ·unfold aI at ha;by_cases h1:j=i
  ·rw[if_pos h1]at ha;exact⟨nf a ha,r.there a ha⟩
  ·rw[if_neg h1]at ha;exact S.dis j a ha
 ·unfold aI at ha;by_cases h1:j=i
  ·rw[if_pos h1]at ha;exact new a ha
  ·rw[if_neg h1]at ha;exact S.new j a ha
 ·unfold aI at ha;by_cases h1:j=i
  ·rw[if_pos h1]at ha;exact r.chg a ha
  ·rw[if_neg h1]at ha;exact S.ch j a ha
 ·obtain⟨h1,h2⟩:=S.pn w hw;have hi:i≠0:=fun z=>by rw[z]at ho;simp[aB,h2]at ho
  refine⟨by rw[getElem?_set_ne hi];exact h1,?_⟩;unfold cE at h2 ⊢;rw[getElem?_set_ne hi];exact h2
def ak.putN(S:ak T Z F H Y env fp)(g:Gr F H F' H'){i:Nat}{pv:PV}{v:V}{f:Gk}(ho:aB i env=true)(r:Rel T F' Z.B L H' pv v f)(hl:pv.GH=true)(nf:∀a∈f,¬F' a)(nd:f.Nodup)(w:∀a∈f,H a=none) :
  ak T Z F' H' (Y.set i (some v)) (env.set i (some pv)) (aI fp i f):=by
 refine(S.grow g).put (Rel.noL (by simpa[PV.GH]using hl) r) nd nf (fun a ha=>?_) (fun a ha j _ hj=>?_) ho
 ·by_cases q:Z.fp0 a
  ·exact .inr q
  ·refine .inl ?_;cases e:Z.H0 a with
   |none=>rfl
   |some o=>have:=S.hp.keep a o e q;rw[w a ha]at this;cases this
 ·obtain⟨_,o,ho⟩:=S.dis j a hj;rw[w a ha]at ho;cases ho
def aQ:SSs X T W [] aR:=PSs.wk lV fun D Y H ⟨Z,F,env,fp,S,q⟩=>q F H Y fp S
def am{aV:List Stmt}(h1:SS X T W st a)(h2:SSs X T W aV b):SSs X T W (st::aV) (ax a b):=
 PSs.wk (f_ h1 h2) fun D Y H hz1=>by
  obtain⟨Z,F,env,fp,S,q⟩:=hz1;refine⟨Z,F,env,fp,S,?_⟩;unfold ax at q;cases e:a env with
  |next e'=>rw[e]at q;exact fun F' H' σ' fp' S'=>⟨Z,F',e',fp',S',q⟩
  |ret v|brk e'|cont e'|exc c e'|stuck=>rw[e]at q;exact q
def ao(h1:SS X T W st a):SSs X T W [st] a:=gB h1
def bg(hc:ST X T W c mc)(ha:SSs X T W a ma)(hb:SSs X T W b mb):SS X T W (.If c a b pos) (mBr mc ma mb):=
 PS.wk (uP (pos:=pos) hc ha hb) fun D Y H hz1=>by
  obtain⟨Z,F,env,fp,S,q⟩:=hz1;unfold mBr at q;refine tT.bind S (fun c e H' x=>?_) (fun e=>by rw[e]at q;exact q) fun b H' F' e g=>?_
  ·rw[e]at q;exact q F H' Y fp (S.grow (Gr.same S.hp.ft x))
  ·cases b with
   |true=>rw[e]at q;exact(if_pos rfl).mpr ⟨Z,F',env,fp,S.grow g,q⟩
   |false=>rw[e]at q;exact(if_neg (by decide)).mpr ⟨Z,F',env,fp,S.grow g,q⟩
def z8(hN:X.N.Nodup)(hi:X.N[i]?=some x)(hx:Loc X.env.scope x)(he:SE X T W e m)(hs:swapsWith e (some (.Name x pos')) pos.line X.env=pure false:=by rfl)
  (hf:X.fn x=true\/X.env.scope.names.lookup x=some .local:=by first|exact .inl rfl|exact .inr rfl|assumption):SS X T W (.Assign [.Name x pos'] e pos) (a6 i m):=
 PS.wk (lW (pos:=pos) hN hi hx he hs hf) fun D Y H hz1=>by
  obtain⟨Z,F,env,fp,S,q⟩:=hz1;unfold a6 at q;refine tE.bind S (fun c e H' x=>?_) (fun e=>by rw[e]at q;exact q) fun pv v H1 F1 f e g r h1 h2 h3=>?_
  ·rw[e]at q;exact q F H' Y fp (S.grow (Gr.same S.hp.ft x))
  ·rw[e]at q;simp only at q;split at q
   ·rename_i hl
    rw[and_eq_true]at hl;exact q F1 H1 _ _ (S.putN g hl.2 r hl.1 h1 h2 h3)
   ·exact q.elim
def bB.newE(S:bB T Z F H){f:Gk}(w:∀a∈f,H a=none):∀a∈f,Z.H0 a=none\/Z.fp0 a:=fun a ha=>by
 by_cases q:Z.fp0 a
 ·exact .inr q
 ·refine .inl ?_;cases e:Z.H0 a with
  |none=>rfl
  |some o=>have:=S.keep a o e q;rw[w a ha]at this;cases this
def aJ(he:SE X T W e m):SS X T W (.Return (some e) pos) (bz m):=
 PS.wk (iW (pos:=pos) he) fun D Y H hz1=>by
  obtain⟨Z,F,env,fp,S,q⟩:=hz1;unfold bz at q;refine tE.bind S (fun c e H' x=>?_) (fun e=>by rw[e]at q;exact q) fun pv v H1 F1 f e g r h1 h2 h3=>?_
  ·rw[e]at q;exact q F H' Y fp (S.grow (Gr.same S.hp.ft x))
  ·rw[e]at q;simp only at q;split at q
   ·rename_i hl
    exact q F1 H1 v f (S.hp.grow g) (Rel.noL (by simpa[PV.GH]using hl) r) h2 h1 (S.hp.newE h3)
   ·exact q.elim
def jB(hN:X.N[i]?=some x)(hv:Vis X.env.scope x)(hd:(x ==("__debug__":Str))=false:=by decide)(hcd:(x ==("__classdict__":Str))=false:=by decide):SS X T W (.Return (some (.Name x pos')) pos) (iA i):=
 PS.wk (iW (pos:=pos) (bV hN hv hd hcd)) fun D Y H hz1=>by
  obtain⟨Z,F,env,fp,S,q⟩:=hz1;unfold iA at q;split at q
  ·rename_i pv e
   obtain⟨v,e1,r⟩:=S.rel i pv e;exact⟨v,e1,q F H v (fp i) S.hp r (S.nd i) (fun a ha=>(S.dis i a ha).1) (S.new i)⟩
  ·exact q.elim
def fv(he:SE X T W e m)(hs:swapsWith e none pos.line X.env=pure false:=by rfl):SS X T W (.Expr e pos) (gj m):=
 PS.wk (dS (pos:=pos) he hs) fun D Y H hz1=>by
  obtain⟨Z,F,env,fp,S,q⟩:=hz1;unfold gj at q;refine tE.bind S (fun c e H' x=>?_) (fun e=>by rw[e]at q;exact q) fun pv v H1 F1 f e g r h1 h2 h3=>?_
  ·rw[e]at q;exact q F H' Y fp (S.grow (Gr.same S.hp.ft x))
  ·rw[e]at q;exact q F1 H1 Y fp (S.grow g)
def sJ(hF:∀a,F a->F' a):Mp T Fl.Gx (fun _=>false) (fun _=>[]) F' F B L H F' B L H:=
 ⟨fun f a vs _ c h=>by
  cases f with
  |own=>exact⟨c rfl,.inl h⟩
  |frz=>exact⟨hF a h.1,h.2⟩
  | _=>exact h,fun f a _ c h=>⟨by
  cases f with
  |own=>exact c rfl
  |frz=>exact hF a h
  |_=>exact h,fun _ q=>q⟩,fun f a x y h=>by cases f<;>exact⟨rfl,rfl⟩,rfl,fun _ _=>rfl,fun _ _ q _=>q⟩
def Rel.Gx(hF:∀a,F a->F' a)(hp:∀a∈fo,F' a)(h:Rel T F B L H x v fo):Rel T F' B L H (x.GJ Fl.Gx) v []:=(sJ hF).rel (kc x) hp h
def ak.frz(S:ak T Z F H Y env fp){i:Nat}{pv:PV}(e:env[i]?=some (some pv)):ak T Z (fun a=>F a\/a∈fp i) H Y (env.set i (some (pv.GJ Fl.Gx))) (aI fp i []):=by
 have hi:i<env.length:=(List.getElem?_eq_some_iff.mp e).1;refine⟨⟨S.hp.bo,S.hp.keep,fun a h=>.inl (S.hp.f0 a h),fun a h=>h.elim (S.hp.fn a) fun z=>.inr (S.new i a z),fun a h=>h.elim (S.hp.ft a) fun z=>(S.dis i a z).2⟩,by rw[length_set,S.len],fun j pv' e'=>?_,fun j=>?_,fun j k hjk a ha=>?_,fun j a ha=>?_,fun j a ha=>?_,fun j a ha=>?_,fun w hw=>?_⟩
 ·by_cases hj:j=i
  ·subst hj;rw[getElem?_set_self hi]at e';cases e';obtain⟨v,h1,h2⟩:=S.rel j pv e;refine⟨v,h1,?_⟩;unfold aI;rw[if_pos rfl];exact Rel.Gx (fun _ h=>.inl h) (fun a h=>.inr h) h2
  ·rw[getElem?_set_ne (Ne.symm hj)]at e';obtain⟨w,h1,h2⟩:=S.rel j pv' e';refine⟨w,h1,?_⟩;unfold aI;rw[if_neg hj];exact h2.ext Ext.refl fun _ h=>.inl h
 ·unfold aI;split
  ·exact nodup_nil
  ·exact S.nd j
 ·grind[aI,ak,bB,Gr]
 ·unfold aI at ha;by_cases h1:j=i
  ·rw[if_pos h1]at ha;cases ha
  ·rw[if_neg h1]at ha;exact⟨fun z=>z.elim (S.dis j a ha).1 fun z=>S.dj j i h1 a ha z,(S.dis j a ha).2⟩
 ·unfold aI at ha;by_cases h1:j=i
  ·rw[if_pos h1]at ha;cases ha
  ·rw[if_neg h1]at ha;exact S.new j a ha
 ·unfold aI at ha;by_cases h1:j=i
  ·rw[if_pos h1]at ha;cases ha
  ·rw[if_neg h1]at ha;exact S.ch j a ha
 ·obtain⟨h1,h2⟩:=S.pn w hw;refine⟨h1,?_⟩;unfold cE at h2 ⊢;by_cases hi0:i=0
  ·subst hi0;rw[e]at h2;rw[getElem?_set_self hi];cases pv<;>first|exact h2 |(cases h2;done)|rfl
  ·rw[getElem?_set_ne hi0];exact h2
def eM{i:Nat}{sts:List Stmt}(h:SSs X T W sts m):SSs X T W sts (ax (gL i) m):=PSs.wk h fun D Y H hz1=>by
 obtain⟨Z,F,env,fp,S,q⟩:=hz1;cases e:env[i]? with
 |none=>simp[ax,gL,e]at q;exact q.elim
 |some w=>
  cases w with
  |none=>simp[ax,gL,e]at q;exact q.elim
  |some pv=>simp only[ax,gL,e]at q;exact⟨Z,_,_,_,S.frz e,q⟩
def Zn.re(Z:Zn)(F:Gh)(H:Hp)(fp:Nat->Gk):Zn:=⟨H,F,Own fp,Z.B,Z.pin⟩
def ak.enter(S:ak T Z F H Y env fp):ak T (Z.re F H fp) F H Y env fp:=
 ⟨⟨⟨fun a h=>by
   obtain⟨⟨o,h1⟩,h2⟩:=S.hp.bo.1 a h;refine⟨⟨o,S.hp.keep a o h1 h2⟩,fun⟨i,hi⟩=>?_⟩;rcases S.new i a hi with z|z
   ·rw[h1]at z;cases z
   ·exact h2 z,S.tbo Ext.refl fun _ z=>.inr z⟩,fun _ _ h _=>h,fun _ h=>h,fun _ h=>.inl h,S.hp.ft⟩,S.len,S.rel,S.nd,S.dj,S.dis,fun i a ha=>.inr ⟨i,ha⟩,S.ch,S.pn⟩
def bB.leave(S:ak T Z F H Y env fp)(S':bB T (Z.re F H fp) F' H'):bB T Z F' H':=
 ⟨S.hp.bo,fun a o h n=>S'.keep a o (S.hp.keep a o h n) fun hz1=>by
   obtain⟨i,hi⟩:=hz1;rcases S.new i a hi with z|z
   ·rw[h]at z;cases z
   ·exact n z,fun a h=>S'.f0 a (S.hp.f0 a h),fun a h=>by
  rcases S'.fn a h with z|z |⟨i,hi⟩
  ·exact S.hp.fn a z
  ·refine .inr ?_;by_cases q:Z.fp0 a
   ·exact .inr q
   ·refine .inl ?_;cases w:Z.H0 a with
    |none=>rfl
    |some o=>have z':H a=none:=z;rw[S.hp.keep a o w q]at z';cases z'
  ·exact .inr (S.new i a hi),S'.ft⟩
def ak.newL(S:ak T Z F H Y env fp)(h:(Z.re F H fp).H0 a=none \/(Z.re F H fp).fp0 a):Z.H0 a=none\/Z.fp0 a:=by
 rcases h with z |⟨i,hi⟩
 ·by_cases q:Z.fp0 a
  ·exact .inr q
  ·refine .inl ?_;cases w:Z.H0 a with
   |none=>rfl
   |some o=>have z':H a=none:=z;rw[S.hp.keep a o w q]at z';cases z'
 ·exact S.new i a hi
def ak.leave(S:ak T Z F H Y env fp)(S':ak T (Z.re F H fp) F' H' σ' env' fp'):ak T Z F' H' σ' env' fp':=
 ⟨bB.leave S S'.hp,S'.len,S'.rel,S'.nd,S'.dj,S'.dis,fun i a ha=>S.newL (S'.new i a ha),S'.ch,S'.pn⟩
abbrev SW(X:Cx)(T:Tb)(W:Nat->St->Gq)(e:Expr)(m:MT):Prop:=PW X e (tT T W m)
def tT.test(h:tT T W (av m) Y H Q):tE T W m Y H fun x H'=>∃k,x=.bl k/\Q k H':=by
 obtain⟨Z,F,env,fp,S,q⟩:=h;unfold av at q;refine tE.bq S fun x v H1 F1 f1 e1 g1 r1 n1 d1 w1=>?_;rw[e1]at q;cases x with
 |bl b=>unfold Rel at r1;exact⟨b,r1.1,q H1 F1 g1⟩
 |_=>exact q.elim
def fZ(ho:OpR X (compareOp op) r)(hm:iS T W f r)(ha:SE X T W a ma)(hb:SE X T W b mb)(hk:behindInMarks op b=false):ST X T W (.Compare a [op] [b] pos) (av (mOp f ma mb)):=
 PT.wk (x3 (pos:=pos) ho ha hb hk) fun Y H Q h=>by obtain⟨Z,F,env,fp,S,q⟩:=tT.test h;exact tE.mir2 hm ⟨Z,F,env,fp,S,q⟩
def o5(h:ST X T W a m):ST X T W (.UnaryOp .Not a pos) (j5 m):=PT.wk (uO (pos:=pos) h) fun Y H Q hz1=>by obtain⟨Z,F,env,fp,S,q⟩:=hz1;unfold j5 at q;refine tT.bind S (fun c e=>by rw[e]at q;exact q) (fun e=>by rw[e]at q;exact q) fun b H1 F1 e1 g1=>?_;rw[e1]at q;exact q H1 F1 g1
def gy(h:ST X T W a m):SW X T W (.BoolOp .And [a] pos) m:=xZ h
def d_(h:ST X T W a m):SW X T W (.BoolOp .Or [a] pos) m:=As h
def gS{aV:List Expr}(h:ST X T W a m)(h2:SW X T W (.BoolOp .And (b::aV) pos) n):SW X T W (.BoolOp .And (a::b::aV) pos) (fQ m n):=PW.wk (At h h2) fun Y H Q hz1=>by
 obtain⟨Z,F,env,fp,S,q⟩:=hz1;unfold fQ at q;refine tT.bind S (fun c e=>by rw[e]at q;exact q) (fun e=>by rw[e]at q;exact q) fun b H1 F1 e1 g1=>?_;rw[e1]at q;cases b with
 |true=>
  refine(if_pos rfl).mpr ⟨Z,F1,env,fp,S.grow g1,?_⟩;simp only[Res.GL,if_true]at q;cases e2:n env with
  |ok b=>rw[e2]at q;exact fun H2 F2 g2=>q H2 F2 (g1.trans g2)
  |exc c=>rw[e2]at q;exact fun H' x=>q H' (g1.ext.trans x)
  |stuck=>rw[e2]at q;exact q
 |false=>exact(if_neg (by decide)).mpr (q H1 F1 g1)
def eU{aV:List Expr}(h:ST X T W a m)(h2:SW X T W (.BoolOp .Or (b::aV) pos) n):SW X T W (.BoolOp .Or (a::b::aV) pos) (gh m n):=PW.wk (Dm h h2) fun Y H Q hz1=>by
 obtain⟨Z,F,env,fp,S,q⟩:=hz1;unfold gh at q;refine tT.bind S (fun c e=>by rw[e]at q;exact q) (fun e=>by rw[e]at q;exact q) fun b H1 F1 e1 g1=>?_;rw[e1]at q;cases b with
 |false=>
  refine(if_neg (by decide)).mpr ⟨Z,F1,env,fp,S.grow g1,?_⟩;simp only[Res.GL,false_eq_true,if_false]at q;cases e2:n env with
  |ok b=>rw[e2]at q;exact fun H2 F2 g2=>q H2 F2 (g1.trans g2)
  |exc c=>rw[e2]at q;exact fun H' x=>q H' (g1.ext.trans x)
  |stuck=>rw[e2]at q;exact q
 |true=>exact(if_pos rfl).mpr (q H1 F1 g1)
def SW.st(h:SW X T W e m):ST X T W e m:=PW.pt h
def dB(hK:X.K=T.K)(h:SE X T W a m)(he:∀whole,isTrue a X.env whole=(do let v <- whole;standAt a.pos;holding [v] (truthy v)):=by intro _;rfl):ST X T W a (dI m):=PT.wk (uN h he) fun Y H Q hz1=>by
 obtain⟨Z,F,env,fp,S,q⟩:=hz1;unfold dI at q;refine tE.bq S fun x v H1 F1 f1 e1 g1 r1 n1 d1 w1=>?_;rw[e1]at q;rw[hK];cases x with
 |non=>unfold Rel at r1;rw[r1.1];exact⟨false,rfl,q H1 F1 g1⟩
 |bl b=>unfold Rel at r1;rw[r1.1];exact⟨b,rfl,q H1 F1 g1⟩
 |int i=>unfold Rel at r1;rw[r1.1];exact⟨_,rfl,q H1 F1 g1⟩
 |str i=>exact q.elim
 |lst f xs=>
  unfold Rel at r1;obtain⟨a,vs,fp',rfl,hl,hr,_⟩:=r1;have hl':SqL T.K H1 a vs:=hl.sq;have e:(!xs.isEmpty)=!vs.isEmpty:=by have:=hr.length;cases xs<;>cases vs<;>simp_all
  exact⟨_,.inl ⟨vs,hl',rfl⟩,by rw[<- e];exact q H1 F1 g1⟩
 |tup xs=>
  unfold Rel at r1;obtain⟨a,vs,rfl,hl,hr⟩:=r1;have e:(!xs.isEmpty)=!vs.isEmpty:=by have:=hr.length;cases xs<;>cases vs<;>simp_all
  exact⟨_,.inr (.inl ⟨vs,hl,rfl⟩),by rw[<- e];exact q H1 F1 g1⟩
 |obj f c ks xs|exc c|box k xs=>exact q.elim
def nv(hc:ST X T W c mc)(ha:SE X T W a ma)(hb:SE X T W b mb):SE X T W (.IfExp c a b pos) (vR mc ma mb):=PE.wk (u7 (pos:=pos) hc ha hb) fun Y H Q hz1=>by
 obtain⟨Z,F,env,fp,S,q⟩:=hz1;unfold vR at q;refine tT.bind S (fun c e=>by rw[e]at q;exact q) (fun e=>by rw[e]at q;exact q) fun b H1 F1 e1 g1=>?_;rw[e1]at q;have lift:∀m:ME,GE T W Z.B F (Own fp) Y H Q (m env)->tE T W m Y H1 Q:=fun m q=>by
  refine⟨Z,F1,env,fp,S.grow g1,?_⟩;cases e2:m env with
  |ok b=>rw[e2]at q;exact fun v H2 F2 f g2 r n d w=>q v H2 F2 f (g1.trans g2) r n d fun a ha=>g1.ext.free (w a ha)
  |exc c=>rw[e2]at q;exact fun H' x=>q H' (g1.ext.trans x)
  |stuck=>rw[e2]at q;exact q
 cases b with
 |true=>exact(if_pos rfl).mpr (lift ma q)
 |false=>exact(if_neg (by decide)).mpr (lift mb q)
def qK(a:ME):ME:=fun env=>(a env).bind fun
 |.bl b=>.ok (.bl (!b))
 |_=>.stuck
def gm(a b:ME):ME:=fun env=>(a env).bind fun
 |.bl true=>b env
 |.bl false=>.ok (.bl false)
 |_=>.stuck
def n9(a b:ME):ME:=fun env=>(a env).bind fun
 |.bl false=>b env
 |.bl true=>.ok (.bl true)
 |_=>.stuck
def Ah(ha:SE X T W a ma):SE X T W (.UnaryOp .Not a pos) (qK ma):=PE.wk (AD (pos:=pos) ha) fun Y H Q hz1=>by
 obtain⟨Z,F,env,fp,S,q⟩:=hz1;unfold qK at q;refine tE.bq S fun x v H1 F1 f1 e1 g1 r1 n1 d1 w1=>?_;rw[e1]at q;cases x with
 |bl b=>unfold Rel at r1;exact⟨b,r1.1,q.scal g1 jU⟩
 |_=>exact q.elim
def gU(ha:SE X T W a ma):SE X T W (.BoolOp op [a] pos) ma:=AC ha
def tE.later(S:ak T Z F H Y env fp)(g1:Gr F H F' H')(q:GE T W Z.B F (Own fp) Y H Q (m env)):tE T W m Y H' Q:=by
 refine⟨Z,F',env,fp,S.grow g1,?_⟩;cases e2:m env with
 |ok b=>rw[e2]at q;exact fun v H2 F2 f g2 r n d w=>q v H2 F2 f (g1.trans g2) r n d fun a ha=>g1.ext.free (w a ha)
 |exc c=>rw[e2]at q;exact fun H' x=>q H' (g1.ext.trans x)
 |stuck=>rw[e2]at q;exact q
def iU{aV:List Expr}(ha:SE X T W a ma)(hb:SE X T W (.BoolOp .And (b::aV) pos) mb):SE X T W (.BoolOp .And (a::b::aV) pos) (gm ma mb):=PE.wk (AG ha hb) fun Y H Q hz1=>by
 obtain⟨Z,F,env,fp,S,q⟩:=hz1;unfold gm at q;refine tE.bq S fun x v H1 F1 f1 e1 g1 r1 n1 d1 w1=>?_;rw[e1]at q;cases x with
 |bl b=>
  unfold Rel at r1;refine⟨b,r1.1,?_⟩;cases b with
  |true=>exact(if_pos rfl).mpr (tE.later S g1 q)
  |false=>exact(if_neg (by decide)).mpr (q.scal g1 jU)
 |_=>exact q.elim
def zy{aV:List Expr}(ha:SE X T W a ma)(hb:SE X T W (.BoolOp .Or (b::aV) pos) mb):SE X T W (.BoolOp .Or (a::b::aV) pos) (n9 ma mb):=PE.wk (Do ha hb) fun Y H Q hz1=>by
 obtain⟨Z,F,env,fp,S,q⟩:=hz1;unfold n9 at q;refine tE.bq S fun x v H1 F1 f1 e1 g1 r1 n1 d1 w1=>?_;rw[e1]at q;cases x with
 |bl b=>
  unfold Rel at r1;refine⟨b,r1.1,?_⟩;cases b with
  |false=>exact(if_neg (by decide)).mpr (tE.later S g1 q)
  |true=>exact(if_pos rfl).mpr (q.scal g1 jU)
 |_=>exact q.elim
def EA(T:Tb)(W:Nat->St->Gq)(f:PV->Gu)(r:V->Hp->VK->Prop):Prop:=
 ∀(B F L:Gh) (Y:St) (H:Hp) (Q:VK) (F':Gh) (H':Hp) (x:PV) (v:V) (fx:Gk),Gr F H F' H'->Rel T F' B L H' x v fx->(∀a∈fx,¬F' a)->fx.Nodup->(∀a∈fx,H a=none)->GE T W B F L Y H Q (f x)->r v H' Q
def tE.mir1(hm:EA T W f r)(h:tE T W (mUn f m) Y H Q):tUn r (tE T W m) Y H Q:=by obtain⟨Z,F,env,fp,S,q⟩:=h;unfold mUn at q;refine tE.bq S fun x v H1 F1 f1 e1 g1 r1 n1 d1 w1=>?_;rw[e1]at q;exact hm Z.B F (Own fp) Y H Q F1 H1 x v f1 g1 r1 n1 d1 w1 q
def yk:PV->Gu
 |.int i=>.ok (.int (-i))
 |_=>.stuck
def Aj(ha:SE X T W a m):SE X T W (.UnaryOp .USub a pos) (mUn yk m):=PE.wk (zF (pos:=pos) uf ha) fun Y H Q h=>tE.mir1 (fun B F L Y H Q F' H' x v fx g r _ _ _ q=>by
 cases x with
 |int i=>unfold Rel at r;exact⟨i,r.1,q.scal g dE⟩
 |_=>exact q.elim) h
def a9(k:Nat):List Nat->Gs->Option PV
 |j::ks,v::vs=>if j=k then some v else a9 k ks vs
 |_,_=>none
def Fl.Gz:Fl->Bool
 |.own=>true
 |_=>false
def ap(k:Nat):PV->Gu
 |.obj f _ ks vs=>match a9 k ks vs with
  |some v=>if f.Gz&&v.has Fl.Gz then .stuck else .ok v
  |none=>.stuck
 |_=>.stuck
mutual
def Rel.GK:∀{x:PV}{v:V}{fp:Gk},x.has Fl.Gz=false->Rel T F B L H x v fp->fp=[]
 |.non,_,_,_,h|.bl _,_,_,_,h|.int _,_,_,_,h|.str _,_,_,_,h=>by unfold Rel at h;exact h.2
 |.lst f xs,_,fp,hp,h=>by
  unfold Rel at h;simp only[PV.has,or_eq_false_iff]at hp;obtain⟨a,vs,fp',e,hl,hr,hf⟩:=h;cases f with
  |own=>exact absurd hp.1 (by decide)
  |frz|bor|lnt|mod=>exact hf.2
 |.tup xs,_,fp,hp,h=>by unfold Rel at h;simp only[PV.has]at hp;obtain⟨a,vs,e,hl,hr⟩:=h;exact RelL.GK hp hr
 |.obj f c ks xs,_,fp,hp,h=>by
  unfold Rel at h;simp only[PV.has,or_eq_false_iff]at hp;obtain⟨a,dx,vs,fp',e,hl,hk,hr,hf,ha⟩:=h;cases f with
  |own=>exact absurd hp.1 (by decide)
  |frz|bor|lnt|mod=>exact hf.2
 |.exc c,_,fp,hp,h=>by unfold Rel at h;obtain⟨a,_,_,e⟩:=h;exact e
 |.box k xs,_,fp,hp,h=>by unfold Rel at h;obtain⟨a,vs,e,hl,hr⟩:=h;exact RelL.GK hp hr
def RelL.GK:∀{xs:Gs}{vs:Gp}{fp:Gk},hasL Fl.Gz xs=false->RelL T F B L H xs vs fp->fp=[]
 | [],_,_,_,h=>by unfold RelL at h;exact h.2
 |x::xs,_,fp,hp,h=>by unfold RelL at h;simp only[hasL,or_eq_false_iff]at hp;obtain⟨v,ws,f1,f2,e,h1,h2,rfl⟩:=h;rw[Rel.GK hp.1 h1,RelL.GK hp.2 h2];rfl
end
def RelL.get:∀{xs:Gs}{vs:Gp}{fp:Gk}{i:Nat}{x:PV},RelL T F B L H xs vs fp->xs[i]?=some x->∃v f,vs[i]?=some v/\Rel T F B L H x v f/\f.Sublist fp
 | [],_,_,_,_,_,e=>by simp at e
 |y::xs,_,fp,0,x,h,e=>by
  unfold RelL at h
  grind
 |y::xs,_,fp,i+1,x,h,e=>by unfold RelL at h;obtain⟨v,ws,f1,f2,rfl,h1,h2,rfl⟩:=h;obtain⟨w,f,e1,r,s⟩:=RelL.get (i:=i) h2 (by simpa using e);exact⟨w,f,by simpa using e1,r,s.trans (List.sublist_append_right _ _)⟩
def oA:∀{ks:List Nat}{xs:Gs}{vs:Gp}{fp:Gk}{x:PV},RelL T F B L H xs vs fp->a9 k ks xs=some x->∃v f,((ks.map T.att).zip vs).lookup (T.att k)=some v/\Rel T F B L H x v f/\f.Sublist fp
 | [],_,_,_,_,_,e|j::ks,[],_,_,_,_,e=>by simp[a9]at e
 |j::ks,y::xs,_,fp,x,h,e=>by
  unfold RelL at h;obtain⟨v,ws,f1,f2,rfl,h1,h2,rfl⟩:=h;unfold a9 at e;by_cases hj:j=k
  ·rw[if_pos hj]at e;cases e;subst hj;exact⟨v,f1,by simp,h1,List.sublist_append_left _ _⟩
  ·rw[if_neg hj]at e;obtain⟨w,f,e1,r,s⟩:=oA (ks:=ks) h2 e;refine⟨w,f,?_,r,s.trans (List.sublist_append_right _ _)⟩;have:(T.att k==T.att j)=false:=by rw[beq_eq_false_iff_ne];exact fun z=>hj (T.inj _ _ z).symm
   rw[map_cons,List.zip_cons_cons,lookup_cons,this];exact e1
def xo(hK:X.K=T.K)(hf:T.att k=f)(hc:∀c<T.nc,Cls T.K (T.cls c))(hn:∀c<T.nc,dO T.K (T.cls c) f)(h:tE T W (mUn (ap k) m) Y H Q):Db X.K (tE T W m) f Y H Q:=by
 obtain⟨Z,F,env,fp,S,q⟩:=h;unfold mUn at q;refine tE.bq S fun x v H1 F1 f1 e1 g1 r1 n1 d1 w1=>?_;rw[e1]at q;cases x with
 |obj fl c ks xs=>
  simp only[Res.GL,ap]at q;cases e2:a9 k ks xs with
  |none=>rw[e2]at q;exact q.elim
  |some y=>
   rw[e2]at q;dsimp only at q;unfold Rel at r1;obtain⟨a,dx,vs,fp',rfl,hl,hk,hr,hfl,_⟩:=r1;obtain⟨w,f',l1,l2,l3⟩:=oA hr e2;have e0:f'=[]:=by
    cases fl with
    |own=>
     simp only[Fl.Gz,Bool.true_and]at q;by_cases ho:y.has Fl.Gz=true
     ·rw[if_pos ho]at q;exact q.elim
     ·exact Rel.GK (by simpa using ho) l2
    |frz|bor|lnt|mod=>obtain⟨rfl,_⟩:=hfl;exact List.sublist_nil.mp l3
   subst e0;by_cases hb:(fl.Gz&&y.has Fl.Gz)=true
   ·rw[if_pos hb]at q;exact q.elim
   ·rw[if_neg hb]at q;rw[hK];exact⟨a,_,dx,_,w,rfl,hl,hc c hk.2,hn c hk.2,by rw[<- hf];exact l1,q.scal g1 l2⟩
 |_=>exact q.elim
def xM(hK:X.K=T.K)(hf:T.att k=f)(hc:∀c<T.nc,Cls T.K (T.cls c))(hn:∀c<T.nc,dO T.K (T.cls c) f)(he:SE X T W e m)(hb:attributeBase e f X.env (eval e X.env)=eval e X.env:=by rfl) :
  SE X T W (.Attribute e f pos) (mUn (ap k) m):=PE.wk (AF (pos:=pos) he hb) fun Y H Q h=>xo hK hf hc hn h
end
end PR
namespace L2
open PySem PySem.Spec
def cD.there(x:cD P w H h a o):∃u,h.get? a=some u:=by
 cases o with
 |lst xs=>obtain⟨_,_,_,_,e⟩:=x;exact⟨_,e⟩
 |tup xs=>obtain⟨_,_,_,o,e,_⟩:=x;exact⟨_,e⟩
 |dK kvs|dT kvs=>obtain⟨_,_,_,_,o,_,_,e,_⟩:=x;exact⟨_,e⟩
 |set S n=>obtain⟨o,_,_,_,e,_⟩:=x;exact⟨_,e⟩
 |ins C dx fs=>obtain⟨_,_,_,e,_⟩:=x;exact⟨_,e⟩
 |own y=>exact x
 |xd fs=>obtain⟨_,⟨_,_,_,e,_⟩,_⟩:=x;exact⟨_,e⟩
 |rng lo hi=>obtain⟨_,_,_,e⟩:=x;exact⟨_,e⟩
 |frz ob u=>obtain⟨e,_⟩:=x;exact⟨_,e⟩
 |tbl ps=>obtain⟨_,e,_⟩:=x;exact⟨_,e⟩
 |met f y=>exact⟨_,(show h.get? a=some _ from x)⟩
 |ext φ=>obtain⟨_,q,_⟩:=x;exact q
end L2
namespace PR
open PySem PySem.Spec L2
structure Fly(P:Program)(w:World)(outer:List Env)(H:Hp)(s:Shared)(cls:Value)(H':Hp)(e:Value)(s':Shared):Prop where
 os:s'.os=s.os
 bare:PyProof.Rows.AllBare s'.gens
 un:Un (frs outer) [] H H' s.heap s'.heap
 hok:HOk P w H' s'.heap
 fly:∃x a0 Bh,e=.ref x/\Heap.FlyingW Bh outer x cls a0 s'.heap/\(∀b o u,H' b=some u->s'.heap.get? b=some o->Bh.get? b=some o)/\
  (∀b o o',s'.heap.get? b=some o->s.heap.get? b=some o'->b∉frs outer->Bh.get? b=some o)
def CXP(P:Program)(w:World):CXT:=fun outer H s E e s'=>∃cls H',Fly P w outer H s cls H' e s'/\E cls none H'
def XF(X:Cx)(T:Tb)(W:Nat->St->Gq):Prop:=∀(js:Gg) (Y:St) (H:Hp) (s:Shared) (c:Nat) (H':Hp) (e:Value) (s':Shared),L2.Inv X js Y H s->Fly X.prog X.w X.stack H s (.ref (T.xcl c)) H' e s'->W c Y H'->X.xe e s'
def XM(X:Cx)(T:Tb)(W:Nat->St->Gq):Prop:=∀(js:Gg) (Y:St) (H:Hp) (s:Shared) (c:Nat) (h':Heap) (e:Addr) (vs:Gj),L2.Inv X js Y H s->Heap.MadeExcOf s.heap h' e (.ref (T.xcl c)) vs->W c Y H->X.xe (.ref e) {s with heap:=h'}
section
variable{P:Program}{w:World}{K:PySem.W.Frag}{mg:Ge}{base:Heap}{N:Gm}{qual:Str}{scope:Scope}{f:Addr}{cd:Value}{A:Around}{outer:List Env}{s:Shared}{H:Hp}{E:XK}
def yU{H:Hp}{h h' Bh:Heap}(ok:HOk P w H h)(k:∀b o u,H b=some u->h.get? b=some o->Bh.get? b=some o)(st:Bh.StaysIn h'):HOk P w H h':=fun a o e=>
 (ok a o e).stay (fun b u hb q=>by
  rcases hb with rfl|hb
  ·exact st _ _ (k b u _ e q)
  ·exact st _ _ (k b u _ hb q)) (fun _ q=>q) fun _ _ _ q=>q
def gG(I:L2.Inv X js Y H1 s1)(hst:X.stack=X.env::X.outer)(hex:X.ex=[])(hfrm:X.env.frame=some X.env.locals)
  (hos:os2=s1.os) (hb:PyProof.Rows.AllBare g2) (u2:Un (frs X.stack) [] H1 H2 s1.heap h2) (ok:HOk X.prog X.w H2 h2) (tr:∀b o u,H2 b=some u->h2.get? b=some o->Bh.get? b=some o)
  (ol:∀b o o',h2.get? b=some o->s1.heap.get? b=some o'->b∉frs X.stack->Bh.get? b=some o) (fl:Heap.FlyingW Bh X.outer x cls a0 h') (up:h2.UpToSlots h') :
  Fly X.prog X.w X.outer X.H₀ X.s₀ cls H2 (.ref x) ⟨h',g2,d2,t2,os2⟩:=by
 have u1:=I.base;rw[hex]at u1;have hfs:frs X.stack=X.env.locals::frs X.outer:=by rw[hst];show List.filterMap _ _=_;rw[List.filterMap_cons,hfrm];rfl
 have u:Un (frs X.stack) [] X.H₀ H2 X.s₀.heap h2:=(u1.mono (fun b hb=>by rw[hfs];exact mem_cons_of_mem _ hb) fun _ z=>z).trans u2;have neL:∀b o,X.s₀.heap.get? b=some o->b≠X.env.locals:=fun b o e=>Nat.ne_of_lt (Nat.lt_of_lt_of_le (lt_size e) I.ok.above);have nst:∀b o,X.s₀.heap.get? b=some o->b∉frs X.outer->b∉frs X.stack:=fun b o e hn hb=>by
  rw[hfs]at hb;rcases mem_cons.mp hb with z|z
  ·exact neL b o e z
  ·exact hn z
 have data:∀b o,X.s₀.heap.get? b=some o->b∈frs X.outer->∀vs,o.data≠.fields vs:=fun b o e hb vs z=>by obtain⟨_,o',ho',hd'⟩:=I.ok.funs.mem hb;rw[e]at ho';cases ho';exact hd' vs z
 refine⟨hos.trans I.os,hb,⟨fun b o e n hf _=>?_,fun b o e n hf _=>?_,u.free,fun b o e _=>?_,u.tups,u.frzs,u.tbls⟩,yU ok tr fl.1,⟨x,a0,Bh,rfl,fl,fun b o v e q=>?_,fun b o o' e q hf=>?_⟩⟩
 ·have q:=u.keep b o e n (nst b o e hf) (by simp);obtain⟨o1,e1⟩:=u1.there b o e (by simp);exact fl.1 b o (ol b o o1 q e1 (nst b o e hf))
 ·obtain⟨sl,q⟩:=u.slot b o e n (by rw[hfs];exact mem_cons_of_mem _ hf) (by simp);obtain⟨sl',q'⟩:=up b _ q (data b o e hf);exact⟨sl',q'⟩
 ·by_cases hf:b∈frs X.outer
  ·obtain⟨_,o2,ho2,_⟩:=fl.2.2.1.mem hf;exact⟨o2,ho2⟩
  ·obtain⟨o1,e1⟩:=u1.there b o e (by simp);obtain⟨o2,e2⟩:=u2.there b o1 e1 (by simp);exact⟨o2,fl.1 b o2 (ol b o2 o1 e2 e1 (nst b o e hf))⟩
 ·have hlt:=ok.lt e;obtain⟨o2,e2⟩:∃o2,h2.get? b=some o2:=by have x:=ok b v e;exact cD.there x
  have:=fl.1 b o2 (tr b o2 v e e2);rw[q]at this;cases this;exact tr b o v e e2
 ·obtain⟨o1,e1⟩:=u1.there b o' q (by simp);obtain⟨o2,e2⟩:=u2.there b o1 e1 (by simp);have hB:=ol b o2 o1 e2 e1 (nst b o' q hf);have:=fl.1 b o2 hB;rw[e]at this;cases this;exact hB
end
section
variable{P:Program}{w:World}{K:PySem.W.Frag}{mg:Ge}{base:Heap}{N:Gm}{qual:Str}{scope:Scope}{f:Addr}{cd:Value}{A:Around}{outer:List Env}{s:Shared}{H:Hp}{E:XK}{T:Tb}
abbrev WD(T:Tb)(E:XK):Nat->St->Gq:=fun c _ H=>E (.ref (T.xcl c)) none H
def zW:XF (cy (CXP P w) P w K mg base N qual scope f cd A outer s H E) T (WD T E):=by intro js Y H1 s1 c H2 e s2 I fl hW;obtain⟨x,a0,Bh,rfl,fly,tr,ol⟩:=fl.fly;refine wpAny_leaves_onW (L:=s.heap.objs.size) I.ok.frames rfl fly fun h' fly' up=>?_;obtain⟨h2,g2,d2,t2,os2⟩:=s2;exact⟨_,H2,gG I rfl rfl rfl fl.os fl.bare fl.un fl.hok tr ol fly' up,hW⟩
def bN:XM (cy (CXP P w) P w K mg base N qual scope f cd A outer s H E) T (WD T E):=by
 intro js Y H1 s1 c h2 e vs I mx hW;have hin:∀env ∈(cy (CXP P w) P w K mg base N qual scope f cd A outer s H E).stack,∀b,env.frame=some b->b∈frs (cy (CXP P w) P w K mg base N qual scope f cd A outer s H E).stack:=fun env he b hb=>List.mem_filterMap.mpr ⟨env,he,hb⟩;refine wpAny_leaves_madeW (base:=hideAll s1.heap (frs (cy (CXP P w) P w K mg base N qual scope f cd A outer s H E).stack)) (h:=s1.heap) (L:=s.heap.objs.size) I.ok.frames rfl (fun b o q=>PySem.W.of_hideAll _ q) (PySem.W.funFrames_hide I.stack hin) mx fun h' t fly' _ _ up=>?_;obtain⟨h1,g1,d1,t1,os1⟩:=s1;have fresh:∀b o,h1.get? b=some o->h2.get? b=some o:=mx.keeps;have nfr:∀b u,H1 b=some u->b∉frs (cy (CXP P w) P w K mg base N qual scope f cd A outer s H E).stack:=fun b u e hb=>by rw[I.stkFree b hb]at e;cases e
 refine⟨_,H1,gG I rfl rfl rfl rfl I.bare (h2:=h2) (Bh:=hideAll h1 (frs (cy (CXP P w) P w K mg base N qual scope f cd A outer s H E).stack)) (Un.kept fresh) (I.hok.kept fresh) (fun b o u e q=>?_) (fun b o o' e q hb=>?_) fly' up,hW⟩
 ·obtain⟨o1,e1⟩:=cD.there (I.hok b u e);have:=fresh b o1 e1;rw[q]at this;cases this;exact hideAll_get _ e1 (nfr b u e)
 ·have:=fresh b o' q;rw[e]at this;cases this;exact hideAll_get _ q hb
end
structure FU(X:Cx)(x:Str)(C:Addr):Prop where
 bm:X.mg x=some (.ref C)
 obj:∃bm N nm q bs hdct sn sub ab col dd k0 k1 k2 k3 k5 mN,X.base.get? C=some (excClassObj nm q C N bs bm hdct sn sub ab col dd k0 k1 k2 k3 k5 "ValueError.__new__")/\X.base.Ns N mN/\mN "__init__"=none /\
  OwnTail X.base [.type "ValueError",.type "Exception",.type "BaseException",.type "object"] bm
section
variable{X:Cx}{T:Tb}{W:Nat->St->Gq}
def uq(O:FU X x (T.xcl c))(hx:XM X T W)(hc:X.calm=true)(hg:Gl X x)(ha:SA X T W (e::es) ms)(hne:∀env pvs,ms env=.ok pvs->pvs.length<=100)(hd:(x ==("__debug__":Str))=false:=by decide)
  (he:starEach (e::es) X.env=(false,eval e X.env)::starEach es X.env:=by rfl) (hpl:(backTo cpos (starEach es X.env)).any (·.1)=false:=by rfl) :
  SS X T W (.Raise (some (.Call (.Name x np) (e::es) [] cpos)) none pos) (fun env=>match ms env with
   |.ok _=>.exc c env
   |.exc k=>.exc k env
   |.stuck=>.stuck):=by
 intro js s Y H D I h;obtain⟨Z,F,env,fp,S,q⟩:=h;dsimp only at q;obtain⟨tl,N,nm,qn,bs,hdct,sn,sub,ab,col,dd,k0,k1,k2,k3,k5,mN,hC,hN,hni,TL⟩:=O.obj;refine wpAny_Raise_call_subT (C:=T.xcl c) (nm:=nm) (q:=qn) (N:=N) (bs:=bs) (bm:=tl) (hdct:=hdct) (sn:=sn) (sub:=sub) (ab:=ab) (col:=col) (dd:=dd) (k0:=k0) (k1:=k1) (k2:=k2) (k3:=k3) (k5:=k5)
  PySem.F.excBase_ValueError (mN:=mN) (TL.hasType PySem.F.excBase_ValueError.hasBase) (I.ok.hd hc) (by rw[he];show(false ||(backTo cpos (starEach es X.env)).any (·.1))=false;rw[hpl];rfl) hni (gE I hg O.bm ⟨rfl,?_⟩ hd)
 have h2:=ha cpos js s Y H (fun vs H'=>vs.length <= 100/\W c Y H') I (tA.bind S (fun k e H' x=>by rw [e] at q;exact q F H' Y fp (S.grow (Gr.same S.hp.ft x))) (fun e=>by rw [e] at q;exact q) fun pvs vs H' F' f e g r _ _ _=>by
  rw[e]at q;exact⟨by rw[<- r.length];exact hne env pvs e,q F' H' Y fp (S.grow g)⟩)
 rw[he]at h2 ⊢;refine Calls.evalArgs_plain (wpAny_mono h2 (fun vs s₂ h₂=>?_) fun _ _ y=>y);obtain⟨vs',H',I2,rv,hl,hw⟩:=h₂;refine⟨rfl,?_,I2.bk _ _ hC,hN.keeps I2.bk,TL.keeps I2.bk,fun h' e' mx=>hx js Y H' s₂ c h' e' vs I2 mx hw⟩;rw[<- rv.length,sizeLine_eq];omega
end
def aP(m:Gs->Gu)(xs:Gs):Gu:=match m (mapL Fl.Gw xs)with
 |.ok v=>if v.has Fl.GD then .stuck else .ok v
 |.exc c=>.exc c
 |.stuck=>.stuck
def bv(n:Nat)(m:MS)(args:Gs):Gu:=match m (args.map some++replicate (n-args.length) none)with
 |.next _=>.ok .non
 |.ret v=>.ok v
 |.exc c _=>.exc c
 |_=>.stuck
def GF(T:Tb)(Z:Zn)(Q:VK)(E:XK):Gu->Prop
 |.ok pv=>∀F H v f,bB T Z F H->Rel T F Z.B NoL H pv v f->f.Nodup->(∀a∈f,¬F a)->(∀a∈f,Z.H0 a=none\/Z.fp0 a)->Q v H
 |.exc c=>∀H,(∀a o,Z.H0 a=some o->¬Z.fp0 a->H a=some o)->E (.ref (T.xcl c)) none H
 |.stuck=>False
structure mV(T:Tb)(F B:Gh)(H:Hp)(pvs:Gs)(vs:Gp)(f:Gk):Prop where
 rel:RelL T F B NoL H pvs vs f
 nd:f.Nodup
 nf:∀a∈f,¬F a
 bo:(∀a,B a->(∃o,H a=some o)/\a∉f)/\zt T H (·∈f)
 ft:∀a,F a->∃o,H a=some o
def spM(T:Tb)(n:Nat)(m:Gs->Gu):Sp:=fun vs H Q E=>vs.length=n/\∃pvs F B f,mV T F B H pvs vs f/\GF T ⟨H,F,(·∈f),B,none⟩ Q E (m pvs)
def RelL.split:∀{xs:Gs}{vs:Gp}{f:Gk},RelL T F B L H xs vs f->f.Nodup ->
  ∃g:Nat->Gk,(∀(i:Nat) x v,xs[i]?=some x->vs[i]?=some v->Rel T F B L H x v (g i))/\(∀i,(g i).Nodup)/\(∀i j,i≠j->∀a∈g i,a∉g j)/\∀i a,a∈g i->a∈f
 | [],_,_,_,_=>⟨fun _=>[],fun i x v e=>by simp at e,fun _=>nodup_nil,fun _ _ _ _ z=>(nomatch z),fun _ _ z=>(nomatch z)⟩
 |x::xs,_,_,h,nd=>by
  unfold RelL at h;obtain⟨v,ws,f1,f2,rfl,h1,h2,rfl⟩:=h;obtain⟨n1,n2,n3⟩:=nodup_append.mp nd;obtain⟨g,g1,g2,g3,g4⟩:=RelL.split h2 n2;refine⟨fun i=>match i with|0=>f1|j+1=>g j,fun i y u e1 e2=>?_,fun i=>?_,fun i j hij a ha=>?_,fun i a ha=>?_⟩
  ·cases i with
   |zero=>simp at e1 e2;subst e1 e2;exact h1
   |succ i=>exact g1 i y u (by simpa using e1) (by simpa using e2)
  ·cases i with
   |zero=>exact n1
   |succ i=>exact g2 i
  ·grind
  grind
section
variable{P:Program}{w:World}{K:PySem.W.Frag}{mg:Ge}{base:Heap}{T:Tb}
def gI(N:Gm)(R:mV T F B H pvs vs f)(pin:Option V)(hpin:∀v,pin=some v->vs[0]?=some v/\∃fl c ks xs,pvs[0]?=some (.obj fl c ks xs)) :
  ∃fp,ak T ⟨H,F,(·∈f),B,pin⟩ F H (L2.start N vs) (pvs.map some++replicate (N.length-pvs.length) none) fp:=by
 obtain⟨g,g1,g2,g3,g4⟩:=R.rel.split R.nd;have hl:=R.rel.length;refine⟨g,⟨R.bo,fun _ _ h _=>h,fun _ h=>h,fun _ h=>.inl h,R.ft⟩,?_,fun i pv e=>?_,g2,g3,fun i a ha=>⟨R.nf a (g4 i a ha),R.rel.there a (g4 i a ha)⟩,fun i a ha=>.inr (g4 i a ha),fun i a ha=>R.rel.chg a (g4 i a ha),fun v hv=>?_⟩
 ·unfold L2.start;simp[hl]
 ·by_cases hi:i<pvs.length
  ·rw[getElem?_append_left (by simpa using hi),getElem?_map]at e;obtain⟨x,e1,e2⟩:=map_eq_some_iff.mp e;cases e2;obtain⟨v,_,ev,_⟩:=R.rel.get e1;refine⟨v,?_,g1 i pv v e1 ev⟩;unfold L2.start;rw[getElem?_append_left (by simpa[<- hl]using hi),getElem?_map,ev];rfl
  ·rw[getElem?_append_right (by simpa using hi),getElem?_replicate]at e;split at e<;>cases e
 ·obtain⟨h1,fl,c,ks,xs,h2⟩:=hpin v hv;have hl0:0<vs.length:=(List.getElem?_eq_some_iff.mp h1).1;have hp0:0<pvs.length:=(List.getElem?_eq_some_iff.mp h2).1;unfold L2.start cE;rw[getElem?_append_left (by simpa using hl0),getElem?_append_left (by simpa using hp0),getElem?_map,getElem?_map,h1,h2];exact⟨rfl,rfl⟩
def Em(F:Fun K x qual st f fd)(S:cL N ps (aw st))
  (body:∀ (cdv:Value) (A:Around) (outer:List Env) (s:Shared) (H:Hp) (E:XK),cG k (A.deeper (PyProof.Rows.envOfC qual (aw st) s.heap.objs.size f cdv)) ->
   SSs (cy (CXP P w) P w K mg base N qual (aw st) f cdv A outer s H E) T (WD T E) (bu st) m):b8 P w K mg base (CXP P w) (k+1) f fd ps (spM T ps.length (bv N.length m)):=by
 obtain⟨oc,od,kV,doc,pm,an,cdv,ct,osl,rfl,lk,hcd⟩:=F.ex;refine v9 lk hcd S (fun vs H Q E h=>h.1) fun A outer s H vs Q E hr hsp=>⟨_,body cdv A outer s H E hr,?_⟩
 obtain⟨_,pvs,F,B,fl,R,q⟩:=hsp;obtain⟨fp,S0⟩:=gI N R none (fun _ h=>nomatch h);refine⟨_,F,_,fp,S0,?_⟩;unfold bv at q;cases e:m (pvs.map some++replicate (N.length-pvs.length) none)with
 |next e'=>rw[e]at q;exact fun F' H' σ' fp' S'=>q F' H' .non [] S'.hp Dj nodup_nil (fun _ z=>(nomatch z)) (fun _ z=>(nomatch z))
 |ret v=>rw[e]at q;exact q
 |brk e'|cont e'=>rw[e]at q;exact q.elim
 |exc c e'=>rw[e]at q;exact fun F' H' σ' fp' S'=>q H' S'.hp.keep
 |stuck=>rw[e]at q;exact q.elim
end
def vF(hB:∀a,B a->B' a)(hL:∀a,L a->B' a):Mp T Fl.Gw (fun _=>false) (fun x=>x) (fun _=>True) F B L H F B' L' H:=
 ⟨fun f a vs _ c h=>by
  cases f with
  |bor=>exact⟨hB a h.1,h.2⟩
  |lnt=>exact⟨hL a h.1,.inl h.2⟩
  | _=>exact h,fun f a _ c h=>⟨by
  cases f with
  |bor=>exact hB a h
  |lnt=>exact hL a h
  |_=>exact h,fun _ q=>q⟩,fun f a x y h=>by cases f<;>exact h,rfl,fun _ _=>rfl,fun _ _ q _=>q⟩
def RelL.Gw(hB:∀a,B a->B' a)(hL:∀a,L a->B' a)(h:RelL T F B L H x v fo):RelL T F B' L' H (mapL Fl.Gw x) v fo:=(vF hB hL).rels (has_noL x) (fun _ _=>True.intro) h
def Rel.noB(hp:x.has Fl.GD=false)(h:Rel T F B L H x v fo):Rel T F B' L H x v fo:=by
 have:=(vG (p:=Fl.GD) (B':=B') (fun _ _ q=>q) (fun z=>(nomatch z))).rel hp (fun _ _=>True.intro) h
 rwa [jF]at this
def RelL.append:∀{xs ys:Gs}{vs us:Gp}{f g:Gk},RelL T F B L H xs vs f->RelL T F B L H ys us g->RelL T F B L H (xs++ys) (vs++us) (f++g)
 | [],_,_,_,_,_,h,r=>by unfold RelL at h;obtain⟨rfl,rfl⟩:=h;exact r
 |x::xs,_,_,_,_,_,h,r=>by unfold RelL at h;obtain⟨v,ws,f1,f2,rfl,h1,h2,rfl⟩:=h;show RelL T F B L H (x::(xs++_)) (v::(ws++_)) _;unfold RelL;exact⟨v,_,f1,_,rfl,h1,RelL.append h2 r,by rw[append_assoc]⟩
section
variable{X:Cx}{T:Tb}{W:Nat->St->Gq}{Z:Zn}{F F1:Gh}{H H1:Hp}{Y:St}{env:En}{fp:Nat->Gk}
def zB
  (G:b8 X.prog X.w X.K X.mg X.base (CXP X.prog X.w) k f fd ps (spM T ps.length m)) (hr:cG k X.A) (hb:dR X.K fd ps ds) (hd:aE dvs ds) (hdp:∀F B L H,RelL T F B L H dps dvs []) (hx:XF X T W)
  (S:ak T Z F H Y env fp) (g:Gr F H F1 H1) (r:RelL T F1 Z.B (Own fp) H1 xs vs fx) (nf:∀a∈fx,¬F1 a) (nd:fx.Nodup) (new:∀a∈fx,H a=none) (q:GE T W Z.B F (Own fp) Y H Q (aP m (xs++dps)))
  (I1:L2.Inv X js Y H1 s1) (rv:aE vs us) (hlen:vs.length+dvs.length=ps.length):wpAny (model X.prog X.w) X.A (call (.ref f) us) (EP X js Y Q) X.xe s1:=by
 have r2:aE (vs++dvs) (us++ds):=rv.append hd;have hl:(us++ds).length=ps.length:=by rw[<- r2.length,length_append];exact hlen
 have rr:RelL T F1 Z.B (Own fp) H1 (xs++dps) (vs++dvs) fx:=by
  have:=RelL.append r (hdp F1 Z.B (Own fp) H1)
  rwa [append_nil]at this
 have hBo:∀a,Z.B a->(∃o,H1 a=some o)/\a∉fx:=fun a h=>by obtain⟨⟨o,h1⟩,h2⟩:=S.hp.bo.1 a h;have h3:=S.hp.keep a o h1 h2;exact⟨⟨o,g.ext a o h3⟩,fun z=>by rw[new a z]at h3;cases h3⟩
 have hOw:∀a,Own fp a->(∃o,H1 a=some o)/\a∉fx:=fun a hz1=>by obtain⟨i,hi⟩:=hz1;obtain⟨_,o,ho⟩:=S.dis i a hi;exact⟨⟨o,g.ext a o ho⟩,fun z=>by rw[new a z]at ho;cases ho⟩
 have R:mV T F1 (fun a=>(∃o,H1 a=some o)/\a∉fx) H1 (mapL Fl.Gw (xs++dps)) (vs++dvs) fx:=⟨RelL.Gw hBo hOw rr,nd,nf,⟨fun a h=>h,S.tbo g.ext fun a z=>.inl (new a z)⟩,g.dom⟩
 refine wpAny_call (codeAny_mono (G.run X.A X.stack s1 H1 ⟨us,[]⟩ (us ++ ds) (vs ++ dvs) Q (fun cls _ H'=>∃ c,cls=.ref (T.xcl c)/\W c Y H') hr I1.env0 (hb s1 us I1.kIn hl) r2
  ⟨by rw[r2.length,hl],_,F1,_,fx,R,?_⟩) fun rs s' hq=>?_)
 ·unfold aP at q;cases e:m (mapL Fl.Gw (xs++dps))with
  |ok v=>
   rw[e]at q;dsimp only at q;intro F2 H2 u f2 hp2 r3 nd2 nf2 new2;by_cases hbr:v.has Fl.GD=true
   ·rw[if_pos hbr]at q;exact q.elim
   ·rw[if_neg hbr]at q;have hbr':v.has Fl.GD=false:=by simpa using hbr
    refine q u H2 F2 f2 ⟨fun a o h=>hp2.keep a o (g.ext a o h) fun z=>(by rw[new a z]at h;cases h),fun a h=>hp2.f0 a (g.mono a h),fun a h=>?_,hp2.ft⟩ ?_ nf2 nd2 fun a ha=>?_
    ·rcases hp2.fn a h with z|z|z
     ·exact g.only a z
     ·exact .inr (g.ext.free z)
     ·exact .inr (new a z)
    ·exact Rel.tr (fun _ h=>h) (fun _ h=>h) (fun _ h=>h.elim) (fun _ _ h _=>h) (fun _ _ _ h=>h) (Rel.noB (B':=Z.B) hbr' r3)
    ·rcases new2 a ha with z|z
     ·exact g.ext.free z
     ·exact new a z
  |exc c=>rw[e]at q;exact fun H' h=>⟨c,rfl,q H' fun a o z=>h a o (g.ext a o z) fun z'=>by rw[new a z']at z;cases z⟩
  |stuck=>rw[e]at q;exact q.elim
 ·cases rs with
  |error e=>obtain⟨cls,H',fl,c,rfl,hw⟩:=hq;exact hx js Y H1 s1 c H' e s' I1 fl hw
  |ok fl=>
   cases fl with
   |ret u=>exact I1.after hq
   |next|brk|cont=>exact False.elim hq
def xL
  (G:b8 X.prog X.w X.K X.mg X.base (CXP X.prog X.w) k f fd ps (spM T ps.length m)) (hr:cG k X.A) (hg:Gl X x) (hm:X.mg x=some (.ref f)) (hk:PySem.W.keepIn X.K (.ref f)=true) (hb:dR X.K fd ps ds) (hd:aE dvs ds) (hdp:∀F B L H,RelL T F B L H dps dvs []) (hx:XF X T W)
  (hn:∀env xs,ms env=.ok xs->xs.length+dvs.length=ps.length) (ha:SA X T W (e::es) ms)
  (hdb:(x ==("__debug__":Str))=false:=by decide) (he:starEach (e::es) X.env=(false,eval e X.env)::starEach es X.env:=by rfl) (hpl:(backTo pos (starEach es X.env)).any (·.1)=false:=by rfl) :
  SE X T W (.Call (.Name x p) (e::es) [] pos) (au (fun xs=>aP m (xs++dps)) ms):=by
 intro js s Y H Q I h;obtain⟨Z,F,env,fp,S,q⟩:=h;unfold au at q;refine wpAny_Call_Name_kw (gE I hg hm ?_ hdb);refine callWith_K (h₀:=X.base) I.ok.mod.kin hk (thn (ha pos js s Y H (fun vs H1=>∀ us s1,L2.Inv X js Y H1 s1->aE vs us->wpAny (model X.prog X.w) X.A (call (.ref f) us) (EP X js Y Q) X.xe s1) I
  (tA.bq S fun xs vs H1 F1 f1 e1 g1 r1 n1 d1 w1 us s1 I1 rv=>?_)) fun us s1 ⟨vs,H1,I1,r,q1⟩=>⟨I1.kIn,q1 us s1 I1 r⟩) he hpl
 rw[e1]at q;exact zB G hr hb hd hdp hx S g1 r1 n1 d1 w1 q I1 rv (by rw[<- r1.length];exact hn env xs e1)
def fV(X:Cx)(T:Tb)(k:Nat)(mn:Str)(ps:Gm)(ds:Gj)(disp:Nat->Option (Gs->Gu)):Prop:=
 ∀c m,c<T.nc->disp c=some m->∃f fd,zu X.K (T.cls c) mn f/\dR X.K fd ps ds/\b8 X.prog X.w X.K X.mg X.base (CXP X.prog X.w) k f fd ps (spM T ps.length m)
def qL(disp:Nat->Option (Gs->Gu))(dps:Gs)(o:ME)(ms:MA):ME:=fun env=>(o env).bind fun ov=>match ov with
 |.obj _ c _ _=>match disp c with
  |some m=>(ms env).bind fun xs=>aP m ((ov::xs)++ dps)
  |none=>.stuck
 |_=>.stuck
def jv(hm:∀k,T.att k≠mn):∀(ks:List Nat) (vs:Gp),((ks.map T.att).zip vs).lookup mn=none
 | [],_|j::ks,[]=>rfl
 |j::ks,v::vs=>by rw[map_cons,List.zip_cons_cons,lookup_cons,show(mn==T.att j)=false by rw[beq_eq_false_iff_ne];exact(hm j).symm];exact jv hm ks vs
def yE
  (hK:X.K=T.K) (hc:∀c<T.nc,Cls T.K (T.cls c)) (hm:∀k,T.att k≠mn) (D:fV X T k mn ps ds disp) (e:disp c=some m) (r:Rel T F1 B L H1 (.obj fl c ks xs) v f1) (I1:L2.Inv X js Y H1 s1) (ru:bf v u)
  (h:∀a f fd,u=.ref a->PySem.W.keepIn X.K (.ref f)=true->dR X.K fd ps ds->b8 X.prog X.w X.K X.mg X.base (CXP X.prog X.w) k f fd ps (spM T ps.length m)->Q (.ref f,[.ref a]) s1) :
  wpAny (model X.prog X.w) X.A (getMethod u mn pl) Q X.xe s1:=by
 unfold Rel at r;obtain⟨a,dx,vs,fp',rfl,hl,hk,hr,_,_⟩:=r;obtain⟨f,fd,M,hb,G⟩:=D c m hk.2 e;obtain rfl:u=Value.ref a:=ru;refine pV I1 hl (by rw[hK];exact hc c hk.2) M (jv hm _ _) (h a f fd rfl M.kp hb G)
def xH
  (hK:X.K=T.K) (hc:∀c<T.nc,Cls T.K (T.cls c)) (hm:∀k,T.att k≠mn) (D:fV X T k mn ps ds disp) (hr:cG k X.A) (hd:aE dvs ds) (hdp:∀F B L H,RelL T F B L H dps dvs []) (hx:XF X T W)
  (hn:∀env xs,ms env=.ok xs->xs.length+1+dvs.length=ps.length) (ho:SE X T W o mo) (ha:SA X T W (e::es) ms)
  (hst:starEach (e::es) X.env=(false,eval e X.env)::starEach es X.env:=by rfl) (hpl:(backTo pos (starEach es X.env)).any (·.1)=false:=by rfl)
  (ht:eval (.Call (.Attribute o mn apos) (e::es) [] pos) X.env=(do
   let ov <- eval o X.env
   standAt apos.atName
   let(f,first) <- holding [ov] (getMethod ov mn pl)
   callWith pos f first (backTo pos (starEach (e::es) X.env)) (backToKw pos (keywordEach [] X.env))):=by rfl) :
  SE X T W (.Call (.Attribute o mn apos) (e::es) [] pos) (qL disp dps mo ms):=by
 intro js s Y H Q I h;obtain⟨Z,F,env,fp,S,q⟩:=h;unfold qL at q;refine PySem.W.methodCall_KW (pl:=pl) (thn (ho js s Y H (fun v H1=>∃ ov F1 f1,mo env=.ok ov/\Gr F H F1 H1/\Rel T F1 Z.B (Own fp) H1 ov v f1/\(∀ a ∈ f1,¬ F1 a)/\f1.Nodup/\∀ a ∈ f1,H a=none) I
  (tE.bq S fun ov v H1 F1 f1 e1 g1 r1 n1 d1 w1=>⟨ov,F1,f1,e1,g1,r1,n1,d1,w1⟩)) fun u s1 zz=>?_) ht
 obtain⟨v,H1,I1,ru,ov,F1,f1,e1,g1,r1,n1,d1,w1⟩:=zz;rw[e1]at q;simp only[Res.GL]at q;by_cases hobj:∃fl c ks xs m,ov=.obj fl c ks xs/\disp c=some m
 ·obtain⟨fl,c,ks,ys,m,rfl,em⟩:=hobj;dsimp only at q;rw[em]at q;dsimp only at q;refine yE hK hc hm D em r1 I1 ru fun a f fd eu hkp hb G=>?_;subst eu;refine callWith_K (first:=[.ref a]) (h₀:=X.base) I.ok.mod.kin hkp (thn (ha pos js s1 Y H1 (fun vs H2=>∀ us s2,L2.Inv X js Y H2 s2->aE vs us->wpAny (model X.prog X.w) X.A (call (.ref f) (.ref a::us)) (EP X js Y Q) X.xe s2) I1
   (tA.bind (S.grow g1) (fun c e=>by rw[e]at q;exact fun H' x=>q H' (g1.ext.trans x)) (fun e=>by rw[e]at q;exact q) fun xs vs H2 F2 f2 e2 g2 r2 n2 d2 w2 us s2 I2 rv=>?_)) fun us s2 ⟨vs,H2,I2,r,q2⟩=>⟨I2.kIn,q2 us s2 I2 r⟩) hst hpl
  rw[e2]at q;simp only[Res.GL]at q;have nn:∀b∈f1,¬F2 b:=fun b hb z=>by
   rcases g2.only b z with z|z
   ·exact n1 b hb z
   ·obtain⟨oo,hoo⟩:=r1.there b hb;rw[hoo]at z;cases z
  refine zB (xs:=.obj fl c ks ys::xs) (vs:=v::vs) (us:=.ref a::us) (fx:=f1++f2) G hr hb hd hdp hx S (g1.trans g2) (by unfold RelL;exact⟨v,vs,f1,f2,rfl,r1.ext g2.ext g2.mono,r2,rfl⟩) (fun b hb=>?_) ?_ (fun b hb=>?_) q I2 (.cons ru rv) ?_
  ·rcases mem_append.mp hb with hb|hb
   ·exact nn b hb
   ·exact n2 b hb
  ·refine nodup_append.mpr ⟨d1,d2,fun b hb c hc z=>?_⟩;subst z;obtain⟨oo,hoo⟩:=r1.there b hb;rw[w2 b hc]at hoo;cases hoo
  ·rcases mem_append.mp hb with hb|hb
   ·exact w1 b hb
   ·exact g1.ext.free (w2 b hb)
  ·have:=hn env xs e2;rw[length_cons,<- r2.length];exact this
 ·exfalso;cases ov with
  |obj fl c ks ys=>
   cases em:disp c with
   |none=>simp only[em]at q;exact q
   |some m=>exact hobj ⟨fl,c,ks,ys,m,rfl,em⟩
  |_=>exact q
end
def fk(ms:MA)(n:Nat):Prop:=∀env xs,ms env=.ok xs->xs.length=n
def c9:fk ah 0:=fun _ _ h=>by cases h;rfl
def cA(h:fk ms n):fk (ae m ms) (n+1):=fun env xs e=>by
 unfold ae at e;cases e1:m env with
 |ok x=>
  rw[e1]at e;simp only[Res.GL]at e;cases e2:ms env with
  |ok ys=>rw[e2]at e;simp only[Res.GL]at e;cases e;rw[length_cons,h env ys e2]
  |exc c|stuck=>rw[e2]at e;cases e
 |exc c|stuck=>rw[e1]at e;cases e
def aN:PV->Option (Gs)
 |.lst _ xs|.tup xs=>some xs
 |_=>none
section
variable{X:Cx}{T:Tb}{W:Nat->St->Gq}{Z:Zn}{F F1 B L:Gh}{H H1:Hp}{Y:St}{env:En}{fp:Nat->Gk}{D:Ends}
def Rel.seq(r:Rel T F B L H x v fx)(e:aN x=some xs):∃a vs fx',v=.ref a/\(SqL T.K H a vs\/SqT T.K H a vs)/\RelL T F B L H xs vs fx'/\fx'.Sublist fx:=by
 cases x with
 |lst f ys=>
  cases e;unfold Rel at r;obtain⟨a,vs,fp',rfl,hl,hr,hf⟩:=r;refine⟨a,vs,fp',rfl,.inl hl.sq,hr,?_⟩;cases f with
  |own=>obtain rfl:fx=a::fp':=hf;exact List.sublist_cons_self _ _
  |frz|bor|lnt|mod=>obtain⟨rfl,rfl⟩:=hf;exact Sublist.refl _
 |tup ys=>cases e;unfold Rel at r;obtain⟨a,vs,rfl,hl,hr⟩:=r;exact⟨a,vs,fx,rfl,.inr hl,hr,Sublist.refl _⟩
 |_=>cases e
def GE.newL(q:GE T W B F L Y H Q (.ok (.lst .own ys)))(g:Gr F H F1 H1)(r:RelL T F1 B L H1 ys vs fx)(nf:∀a∈fx,¬F1 a)(nd:fx.Nodup)(new:∀a∈fx,H a=none) :
  ∀p,H1 p=none->Q (.ref p) (upd H1 p (.lst vs)):=fun p hp=>by
 refine q (.ref p) (upd H1 p (.lst vs)) F1 (p::fx) (g.trans (Gr.same g.dom (Ext.upd hp))) ?_ (fun a ha=>?_) ?_ (fun a ha=>?_)
 ·unfold Rel;exact⟨p,vs,fx,rfl,aM,r.ext (Ext.upd hp) fun _ h=>h,rfl⟩
 ·grind[aI,ak,bB,Gr]
 ·refine nodup_cons.mpr ⟨fun z=>?_,nd⟩;obtain⟨o,ho⟩:=r.there p z;rw[hp]at ho;cases ho
 ·rcases mem_cons.mp ha with rfl|ha
  ·exact g.ext.free hp
  ·exact new a ha
def GE.newT(q:GE T W B F L Y H Q (.ok (.tup ys)))(g:Gr F H F1 H1)(r:RelL T F1 B L H1 ys vs fx)(nf:∀a∈fx,¬F1 a)(nd:fx.Nodup)(new:∀a∈fx,H a=none) :
  ∀p,H1 p=none->Q (.ref p) (upd H1 p (.tup vs)):=fun p hp=>by
 refine q (.ref p) (upd H1 p (.tup vs)) F1 fx (g.trans (Gr.same g.dom (Ext.upd hp))) ?_ nf nd new;unfold Rel;exact⟨p,vs,rfl,SqT.of aM,r.ext (Ext.upd hp) fun _ h=>h⟩
def small(h:n<=1000):n<=sizeLine:=by rw[sizeLine_eq];omega
def eH(ms:MA):ME:=fun env=>(ms env).bind fun xs=>.ok (.lst .own xs)
def ky(ms:MA):ME:=fun env=>(ms env).bind fun xs=>.ok (.tup xs)
def Al(ha:SA X T W es ms)(hn:fk ms n)(hs:n<=1000:=by decide):SE X T W (.List es pos) (eH ms):=PE.wk (AE (pos:=pos) ha) fun Y H Q hz1=>by obtain⟨Z,F,env,fp,S,q⟩:=hz1;unfold eH at q;refine tA.bq S fun xs vs H1 F1 f1 e1 g1 r1 n1 d1 w1=>?_;rw[e1]at q;exact⟨small (by rw[<- r1.length,hn env xs e1];exact hs),GE.newL q g1 r1 n1 d1 w1⟩
def Ad{x1}(ha:SA X T W es ms)(hn:fk ms n)(hs:n<=1000:=by decide):SE X T W (.Tuple es x1 pos) (ky ms):=PE.wk (uY (pos:=pos) ha) fun Y H Q hz1=>by obtain⟨Z,F,env,fp,S,q⟩:=hz1;unfold ky at q;refine tA.bq S fun xs vs H1 F1 f1 e1 g1 r1 n1 d1 w1=>?_;rw[e1]at q;exact⟨small (by rw[<- r1.length,hn env xs e1];exact hs),GE.newT q g1 r1 n1 d1 w1⟩
def p1(f:PV->Gu):Gs->Gu
 | [x]=>f x
 |_=>.stuck
def RelL.one(r:RelL T F B L H [x] vs f):∃v,vs=[v]/\Rel T F B L H x v f:=by unfold RelL at r;obtain⟨v,ws,f1,f2,rfl,h1,h2,rfl⟩:=r;unfold RelL at h2;obtain⟨rfl,rfl⟩:=h2;exact⟨v,rfl,by rwa [append_nil]⟩
def bX:PV->Gu:=fun x=>match aN x with
 |some xs=>.ok (.int xs.length)
 |none=>.stuck
def yA(hK:X.K=T.K):Mir T W (p1 bX) (fun xs H Q=>∃p ys,xs=[.ref p]/\(SqL X.K H p ys\/SqT X.K H p ys)/\Q (.int ys.length) H):=by
 intro B F L Y H Q F' H' xs vs fx g r _ _ _ q
 match xs,r,q with
 | [x],r,q=>
  obtain⟨v,rfl,r1⟩:=r.one;simp only[p1,bX]at q;cases e:aN x with
  |none=>rw[e]at q;exact q.elim
  |some ys=>rw[e]at q;obtain⟨a,ws,fx',rfl,hs,hr,_⟩:=r1.seq e;exact⟨a,ws,rfl,by rw[hK];exact hs,q.scal g (by rw[<- hr.length];exact dE)⟩
 | [],_,q|_::_::_,_,q=>exact q.elim
def bP(hK:X.K=T.K)(hg:Gl X "len")(hm:X.mg "len"=none)(ha:SE X T W e m)(he:starEach [e] X.env=[(false,eval e X.env)]:=by rfl):SE X T W (.Call (.Name "len" p) [e] [] pos) (au (p1 bX) (ae m ah)):=
 eB mP (yA hK) hg hm PySem.boot_len (ac ha ag he) (he:=he)
def dF:PV->Gu:=fun x=>match aN x with
 |some xs=>.ok (.lst .own xs)
 |none=>.stuck
def vL(hK:X.K=T.K):Mir T W (p1 dF) (fun xs H Q=>∃p ys,xs=[.ref p]/\(SqL X.K H p ys\/SqT X.K H p ys)/\∀l,H l=none->Q (.ref l) (upd H l (.lst ys))):=by
 intro B F L Y H Q F' H' xs vs fx g r nf nd new q
 match xs,r,q with
 | [x],r,q=>
  obtain⟨v,rfl,r1⟩:=r.one;simp only[p1,dF]at q;cases e:aN x with
  |none=>rw[e]at q;exact q.elim
  |some ys=>rw[e]at q;obtain⟨a,ws,fx',rfl,hs,hr,sl⟩:=r1.seq e;exact⟨a,ws,rfl,by rw[hK];exact hs,GE.newL q g hr (fun b hb=>nf b (sl.subset hb)) (nd.sublist sl) (fun b hb=>new b (sl.subset hb))⟩
 | [],_,q|_::_::_,_,q=>exact q.elim
def gA(hK:X.K=T.K)(hg:Gl X "list")(hm:X.mg "list"=none)(hv:bootBuiltins "list"=some (.type "list"))(ha:SE X T W e m)(he:starEach [e] X.env=[(false,eval e X.env)]:=by rfl):SE X T W (.Call (.Name "list" p) [e] [] pos) (au (p1 dF) (ae m ah)):=
 iT mO (vL hK) hg hm hv (ac ha ag he) (he:=he)
def dw:PV->Gu:=fun x=>match aN x with
 |some xs=>.ok (.tup xs)
 |none=>.stuck
def sL(hK:X.K=T.K):Mir T W (p1 dw) (fun xs H Q=>∃p ys,xs=[.ref p]/\((SqL X.K H p ys/\∀l,H l=none->Q (.ref l) (upd H l (.tup ys)))\/(SqT X.K H p ys/\Q (.ref p) H))):=by
 intro B F L Y H Q F' H' xs vs fx g r nf nd new q
 match xs,r,q with
 | [x],r,q=>
  obtain⟨v,rfl,r1⟩:=r.one;simp only[p1,dw]at q;cases x with
  |lst f ys=>
   simp only[aN]at q;unfold Rel at r1;obtain⟨a,ws,fp',rfl,hl,hr,hf⟩:=r1;have sl:fp'.Sublist fx:=by
    cases f with
    |own=>obtain rfl:fx=a::fp':=hf;exact List.sublist_cons_self _ _
    |frz|bor|lnt|mod=>obtain⟨rfl,rfl⟩:=hf;exact Sublist.refl _
   exact⟨a,ws,rfl,.inl ⟨by rw[hK];exact hl.sq,GE.newT q g hr (fun b hb=>nf b (sl.subset hb)) (nd.sublist sl) (fun b hb=>new b (sl.subset hb))⟩⟩
  |tup ys=>simp only[aN]at q;have r2:=r1;unfold Rel at r2;obtain⟨a,ws,rfl,hs,hr⟩:=r2;exact⟨a,ws,rfl,.inr ⟨by rw[hK];exact hs,q _ _ _ fx g r1 nf nd new⟩⟩
  |_=>exact q.elim
 | [],_,q|_::_::_,_,q=>exact q.elim
def f7(hK:X.K=T.K)(hg:Gl X "tuple")(hm:X.mg "tuple"=none)(hv:bootBuiltins "tuple"=some (.type "tuple"))(ha:SE X T W e m)(he:starEach [e] X.env=[(false,eval e X.env)]:=by rfl):SE X T W (.Call (.Name "tuple" p) [e] [] pos) (au (p1 dw) (ae m ah)):=
 iT kF (sL hK) hg hm hv (ac ha ag he) (he:=he)
def aL:PV->PV->Gu
 |x,.int i=>match aN x with
  |some xs=>match atI xs i with
   |some y=>if x.has Fl.Gz&&y.has Fl.Gz then .stuck else .ok y
   |none=>.stuck
  |none=>.stuck
 |_,_=>.stuck
def rG(r:RelL T F B L H xs vs f)(e:atI xs i=some y):∃v f',atI vs i=some v/\Rel T F B L H y v f'/\f'.Sublist f:=by
 unfold atI at e ⊢;rw[<- r.length];cases e1:ixN xs.length i with
 |none=>rw[e1]at e;cases e
 |some j=>rw[e1]at e;exact r.get e
def yB(hK:X.K=T.K):iS T W aL (fun x y H Q=>xW X.K x y H Q \/(xU X.K x y H Q\/xV x y H Q)):=by
 intro B F L Y H Q F' H' x y v u fx fy g rx ry nf nd new q;cases y with
 |int i=>
  unfold Rel at ry;obtain⟨rfl,rfl⟩:=ry;simp only[aL]at q;cases e:aN x with
  |none=>rw[e]at q;exact q.elim
  |some xs=>
   rw[e]at q;dsimp only at q;obtain⟨a,ws,fx',rfl,hs,hr,sl⟩:=rx.seq e;cases e2:atI xs i with
   |none=>rw[e2]at q;exact q.elim
   |some z=>
    rw[e2]at q;dsimp only at q;obtain⟨w,f',h1,h2,h3⟩:=rG hr e2;have e0:f'=[]:=by
     by_cases ho:x.has Fl.Gz=true
     ·by_cases hz:z.has Fl.Gz=true
      ·rw[ho,hz]at q;exact q.elim
      ·exact Rel.GK (by simpa using hz) h2
     ·have:=Rel.GK (by simpa using ho) rx;subst this;exact List.sublist_nil.mp (h3.trans sl)
    subst e0;by_cases hb:(x.has Fl.Gz&&z.has Fl.Gz)=true
    ·rw[if_pos hb]at q;exact q.elim
    ·rw[if_neg hb]at q;rcases hs with hs|hs
     ·exact .inl ⟨a,ws,i,w,rfl,rfl,by rw[hK];exact hs,h1,q.scal g h2⟩
     ·exact .inr (.inl ⟨a,ws,i,w,rfl,rfl,by rw[hK];exact hs,h1,q.scal g h2⟩)
 |_=>exact q.elim
def Am(hK:X.K=T.K)(ha:SE X T W a ma)(hb:SE X T W b mb)(hs:d0 b):SE X T W (.Subscript a b pos) (mOp aL ma mb):=
 zA jb (yB hK) ha hb hs
abbrev MO:=En->Res (Gn)
def my:MO:=fun _=>.ok none
def qJ(m:ME):MO:=fun env=>(m env).bind fun
 |.int i=>.ok (some i)
 |_=>.stuck
def tY(xs:Gs)(lo hi:Gn):Gs:=(xs.drop (HT.sIx xs.length 0 lo)).take (HT.sIx xs.length xs.length hi-HT.sIx xs.length 0 lo)
def mw(o:ME)(lo hi:MO):ME:=fun env=>(o env).bind fun x=>(lo env).bind fun l=>(hi env).bind fun h=>match x with
 |.lst _ xs=>.ok (.lst .own (tY xs l h))
 |_=>.stuck
def RelL.drop:∀{xs:Gs}{vs:Gp}{f:Gk} (n:Nat),RelL T F B L H xs vs f->∃f',RelL T F B L H (xs.drop n) (vs.drop n) f'/\f'.Sublist f
 |xs,vs,f,0,h=>⟨f,h,Sublist.refl _⟩
 | [],vs,f,n+1,h=>by unfold RelL at h;obtain⟨rfl,rfl⟩:=h;exact⟨[],by simp[RelL],Sublist.refl _⟩
 |x::xs,_,_,n+1,h=>by unfold RelL at h;obtain⟨v,ws,f1,f2,rfl,h1,h2,rfl⟩:=h;obtain⟨f',r,s⟩:=RelL.drop n h2;exact⟨f',by simpa using r,s.trans (List.sublist_append_right _ _)⟩
def RelL.take:∀{xs:Gs}{vs:Gp}{f:Gk} (n:Nat),RelL T F B L H xs vs f->∃f',RelL T F B L H (xs.take n) (vs.take n) f'/\f'.Sublist f
 |xs,vs,f,0,h=>⟨[],by simp[RelL],List.nil_sublist _⟩
 | [],vs,f,n+1,h=>by unfold RelL at h;obtain⟨rfl,rfl⟩:=h;exact⟨[],by simp[RelL],Sublist.refl _⟩
 |x::xs,_,_,n+1,h=>by unfold RelL at h;obtain⟨v,ws,f1,f2,rfl,h1,h2,rfl⟩:=h;obtain⟨f',r,s⟩:=RelL.take n h2;refine⟨f1++f',?_,Sublist.append (Sublist.refl _) s⟩;rw[List.take_succ_cons,List.take_succ_cons];unfold RelL;exact⟨v,_,f1,f',rfl,h1,r,rfl⟩
def tO(T:Tb)(W:Nat->St->Gq)(m:MO):TO:=fun Y H Q=>∃Z F env fp,ak T Z F H Y env fp/\match m env with
 |.ok o=>∀H' F',Gr F H F' H'->Q o H'
 |.exc c=>∀H',Ext H H'->W c Y H'
 |.stuck=>False
abbrev SO(X:Cx)(T:Tb)(W:Nat->St->Gq)(e:Option Expr)(m:MO):Prop:=PO X e (tO T W m)
def xy:SO X T W none my:=fun js s Y H Q I ⟨Z,F,env,fp,S,q⟩=>yb js s Y H Q I (q H F (Gr.refl S.hp.ft))
def xw(h:SE X T W e m):SO X T W (some e) (qJ m):=fun js s Y H Q I ⟨Z,F,env,fp,S,q⟩=>ya h js s Y H Q I (by
 unfold qJ at q;refine tE.bq S fun x v H1 F1 f1 e1 g1 r1 n1 d1 w1=>?_;rw[e1]at q;cases x with
 |int i=>unfold Rel at r1;exact⟨i,r1.1,q H1 F1 g1⟩
 |_=>exact q.elim)
def uy(hK:X.K=T.K)(he:SE X T W e m)(hl:SO X T W lo ml)(hu:SO X T W hi mh):SE X T W (.Subscript e (.Slice lo hi none p2) pos) (mw m ml mh):=
 PE.wk (uZ (pos:=pos) (p2:=p2) xA he hl hu) fun Y H Q hz1=>by
  obtain⟨Z,F,env,fp,S,q⟩:=hz1;unfold mw at q;refine tE.bq S fun x v H1 F1 f1 e1 g1 r1 n1 d1 w1=>?_;rw[e1]at q;simp only[Res.GL]at q;refine⟨Z,F1,env,fp,S.grow g1,?_⟩;cases e2:ml env with
  |exc c=>rw[e2]at q;exact fun H' x=>q H' (g1.ext.trans x)
  |stuck=>rw[e2]at q;exact q
  |ok l=>
   rw[e2]at q;intro H2 F2 g2;refine⟨Z,F2,env,fp,(S.grow g1).grow g2,?_⟩;simp only[Res.GL]at q;cases e3:mh env with
   |exc c=>rw[e3]at q;exact fun H' x=>q H' ((g1.ext.trans g2.ext).trans x)
   |stuck=>rw[e3]at q;exact q
   |ok h=>
    rw[e3]at q;intro H3 F3 g3;simp only[Res.GL]at q;cases x with
    |lst f xs=>
     have g:=(g1.trans g2).trans g3;have r3:=(r1.ext (g2.trans g3).ext (g2.trans g3).mono)
     have nf3:∀a∈f1,¬F3 a:=fun a ha z=>by
      rcases(g2.trans g3).only a z with z|z
      ·exact n1 a ha z
      ·obtain⟨o,ho⟩:=r1.there a ha;rw[ho]at z;cases z
     unfold Rel at r3;obtain⟨a,ws,fp',rfl,hll,hr,hf⟩:=r3;have sl:fp'.Sublist f1:=by
      cases f with
      |own=>obtain rfl:f1=a::fp':=hf;exact List.sublist_cons_self _ _
      |frz|bor|lnt|mod=>obtain⟨rfl,rfl⟩:=hf;exact Sublist.refl _
     obtain⟨f4,h4,s4⟩:=RelL.drop (HT.sIx xs.length 0 l) hr;obtain⟨f5,h5,s5⟩:=RelL.take (HT.sIx xs.length xs.length h-HT.sIx xs.length 0 l) h4;have sl2:=(s5.trans s4).trans sl;refine⟨a,ws,rfl,by rw[hK];exact hll.sq,?_⟩;unfold wt;rw[<- hr.length];exact GE.newL q g h5 (fun b hb=>nf3 b (sl2.subset hb)) (d1.sublist sl2) (fun b hb=>w1 b (sl2.subset hb))
    |_=>exact q.elim
def zE(K:PySem.W.Frag):R2:=fun x y H Q=>∃l b xs zs,x=.ref l/\y=.ref b/\Rd H l (.lst xs)/\Rd H b (.lst zs)/\xs.length+zs.length<=sizeLine/\∀p,H p=none->Q (.ref p) (upd H p (.lst (xs++zs)))
def yo:OpR X (binaryOp .Add) (zE K):=by
 intro js s Y H x y v u Q I rx ry h;obtain⟨l,b,xs,zs,rfl,rfl,hH,hB,hz,q⟩:=h;cases rx;cases ry;obtain⟨z,its,n,r,e⟩:=hH.ok I.hok;obtain⟨z2,its2,n2,r2,e2⟩:=hB.ok I.hok;have hl:=r.length;have hl2:=r2.length;refine PySem.P.add_list e e2 ?_ (by rw[size_toArray,size_toArray];omega);have ea:its.toArray++its2.toArray=(its++its2).toArray:=by simp
 rw[ea];exact⟨.ref _,_,I.lnew (t':=s.toks) (r.append r2) (by rw[length_append];omega),rfl,q _ I.fresh⟩
def aS:PV->PV->Gu
 |.int i,.int j=>.ok (.int (i+j))
 |.lst f xs,.lst g ys=>if f=.mod\/g=.mod\/¬xs.length+ys.length<=10000000 then .stuck else .ok (.lst .own (xs++ys))
 |_,_=>.stuck
def kr.rd(h:kr T F B L H f a vs)(n:f≠.mod):Rd H a (.lst vs):=by
 cases f with
 |own=>exact .inl h
 |lnt=>exact .inl h.2
 |frz|bor=>exact h.2
 |mod=>exact absurd rfl n
def oX.sub(hf:oX f a fp' fx):fp'.Sublist fx:=by
 cases f with
 |own=>obtain rfl:fx=a::fp':=hf;exact List.sublist_cons_self _ _
 |frz|bor|lnt|mod=>obtain⟨rfl,rfl⟩:=hf;exact Sublist.refl _
def vI:iS T W aS (fun x y H Q=>(rI0 fun i j=>.int (i+j)) x y H Q\/zE T.K x y H Q):=by
 intro B F L Y H Q F' H' x y v u fx fy g rx ry nf nd new q;cases x with
 |int i=>
  cases y with
  |int j=>unfold Rel at rx ry;exact .inl ⟨i,j,rx.1,ry.1,q.scal g dE⟩
  |_=>exact q.elim
 |lst f xs=>
  cases y with
  |lst f' ys=>
   simp only[aS]at q;by_cases hc:f=.mod\/f'=.mod\/¬xs.length+ys.length<=10000000
   ·rw[if_pos hc]at q;exact q.elim
   ·rw[if_neg hc]at q;unfold Rel at rx ry;obtain⟨a,vs,fp1,rfl,hl1,hr1,hf1⟩:=rx;obtain⟨b,us,fp2,rfl,hl2,hr2,hf2⟩:=ry;have sl:=Sublist.append hf1.sub hf2.sub;have h3:xs.length+ys.length<=10000000:=by
     rcases Nat.lt_or_ge 10000000 (xs.length+ys.length)with z|z
     ·exact absurd (.inr (.inr (by omega))) hc
     ·exact z
    refine .inr ⟨a,b,vs,us,rfl,rfl,hl1.rd fun z=>hc (.inl z),hl2.rd fun z=>hc (.inr (.inl z)),by rw[<- hr1.length,<- hr2.length,sizeLine_eq];omega,?_⟩;exact GE.newL q g (RelL.append hr1 hr2) (fun b hb=>nf b (sl.subset hb)) (nd.sublist sl) (fun b hb=>new b (sl.subset hb))
  |_=>exact q.elim
 |_=>exact q.elim
def OpR.or(h:OpR X f r)(h':OpR X f r'):OpR X f (fun x y H Q=>r x y H Q\/r' x y H Q):=by
 intro js s Y H x y v u Q I rx ry q;rcases q with q|q
 ·exact h js s Y H x y v u Q I rx ry q
 ·exact h' js s Y H x y v u Q I rx ry q
def aX(ha:SE X T W a ma)(hb:SE X T W b mb):SE X T W (.BinOp a .Add b pos) (mOp aS ma mb):=jp (OpR.or AR yo) vI ha hb
end
mutual
def PV.data:PV->PyData
 |.non=>.none
 |.bl b=>.bool b
 |.int i=>.int i
 |.str x=>.str x
 |.lst _ xs=>.list (dataL xs)
 |.tup xs=>.tuple (dataL xs)
 |.obj _ _ _ _|.exc _|.box _ _=>.dict []
def dataL:Gs->List PyData
 | []=>[]
 |x::xs=>x.data::dataL xs
end
def shp(x:PV):Bool:=SeqAt.shaped x.data
section
variable{X:Cx}{T:Tb}{W:Nat->St->Gq}{Z:Zn}{F F1 B L:Gh}{H H1:Hp}{Y:St}{env:En}{fp:Nat->Gk}{D:Ends}{js:Gg}{s:Shared}
mutual
def Rel.reads(hK:X.K=T.K)(I:L2.Inv X js Y H s):∀{x:PV}{v:V}{f:Gk}{u:Value},Rel T F B L H x v f->bf v u->x.data.canLay0=true->∃as,Reads s.heap u x.data as
 |.non,_,_,_,r,ru,_=>by unfold Rel at r;obtain⟨rfl,_⟩:=r;cases ru;exact⟨[],.none⟩
 |.bl b,_,_,_,r,ru,_=>by unfold Rel at r;obtain⟨rfl,_⟩:=r;cases ru;exact⟨[],.bool b⟩
 |.int i,_,_,_,r,ru,_=>by unfold Rel at r;obtain⟨rfl,_⟩:=r;obtain⟨t,rfl⟩:=ru;exact⟨[],.int i t⟩
 |.str x,_,_,_,r,ru,_=>by unfold Rel at r;obtain⟨rfl,_⟩:=r;obtain⟨t,rfl⟩:=ru;exact⟨[],.str x t⟩
 |.lst f xs,_,_,_,r,ru,hc=>by unfold Rel at r;obtain⟨a,vs,fp',rfl,hl,hr,_⟩:=r;cases ru;obtain⟨its,rv,⟨o,n,ho,hcl,_,hd⟩,_⟩:=I.list (by rw[hK];exact hl.sq);obtain⟨as,ra⟩:=RelL.reads hK I hr rv (by simpa[PV.data,PyData.canLay0]using hc);exact⟨_,.list ho hcl hd (by simpa using ra)⟩
 |.tup xs,_,_,_,r,ru,hc=>by unfold Rel at r;obtain⟨a,vs,rfl,hl,hr⟩:=r;cases ru;obtain⟨its,rv,⟨o,ho,hcl,n,hd⟩,_⟩:=I.tuple (by rw[hK];exact hl);obtain⟨as,ra⟩:=RelL.reads hK I hr rv (by simpa[PV.data,PyData.canLay0]using hc);exact⟨_,.tuple ho hcl hd (by simpa using ra)⟩
 |.obj _ _ _ _,_,_,_,_,_,hc|.exc _,_,_,_,_,_,hc|.box _ _,_,_,_,_,_,hc=>by simp[PV.data,PyData.canLay0]at hc
def RelL.reads(hK:X.K=T.K)(I:L2.Inv X js Y H s):∀{xs:Gs}{vs:Gp}{f:Gk}{us:Gj},RelL T F B L H xs vs f->aE vs us->PyData.canLayAll0 (dataL xs)=true->∃as,ReadsAll s.heap us (dataL xs) as
 | [],_,_,_,r,ru,_=>by unfold RelL at r;obtain⟨rfl,_⟩:=r;cases ru;exact⟨[],.nil⟩
 |x::xs,_,_,_,r,ru,hc=>by
  unfold RelL at r;obtain⟨v,ws,f1,f2,rfl,h1,h2,_⟩:=r;cases ru with
  |cons r1 r2=>simp only[dataL,PyData.canLayAll0,and_eq_true]at hc;obtain⟨as,ra⟩:=Rel.reads hK I h1 r1 hc.1;obtain⟨bs,rb⟩:=RelL.reads hK I h2 r2 hc.2;exact⟨_,.cons ra rb⟩
end
def pEq:PV->PV->Gu:=fun x y=>if shp x&&shp y then .ok (.bl (PyData.eqv x.data y.data))else .stuck
def pNe:PV->PV->Gu:=fun x y=>if shp x&&shp y then .ok (.bl (!PyData.eqv x.data y.data))else .stuck
def uM(X:Cx)(T:Tb)(g:PyData->PyData->Bool):R2:=fun v u H Q=>∃x y F B L fx fy,Rel T F B L H x v fx/\Rel T F B L H y u fy/\shp x=true/\shp y=true/\Q (.bl (g x.data y.data)) H
def vm(hK:X.K=T.K)(hu:X.A.units+64<cLine):OpR X (compareOp .Eq) (uM X T fun a b=>PyData.eqv a b):=by intro js s Y H v u v' u' Q I rv ru h;obtain⟨x,y,F,B,L,fx,fy,rx,ry,hx,hy,q⟩:=h;obtain⟨as,ra⟩:=rx.reads hK I rv (SeqAt.canLay_of_shaped hx);obtain⟨bs,rb⟩:=ry.reads hK I ru (SeqAt.canLay_of_shaped hy);exact PyProof.Rows.eq_dataH ra rb hx hy hu ⟨.bl _,H,I,rfl,q⟩
def vk(hK:X.K=T.K)(hu:X.A.units+64<cLine):OpR X (compareOp .NotEq) (uM X T fun a b=>!PyData.eqv a b):=by intro js s Y H v u v' u' Q I rv ru h;obtain⟨x,y,F,B,L,fx,fy,rx,ry,hx,hy,q⟩:=h;obtain⟨as,ra⟩:=rx.reads hK I rv (SeqAt.canLay_of_shaped hx);obtain⟨bs,rb⟩:=ry.reads hK I ru (SeqAt.canLay_of_shaped hy);exact PyProof.Rows.ne_dataH ra rb hx hy hu ⟨.bl _,H,I,rfl,q⟩
def iy:iS T W (fun x y=>if shp x&&shp y then .ok (.bl (g x.data y.data))else .stuck) (uM X T g):=by
 intro B F L Y H Q F' H' x y v u fx fy gr rx ry nf nd new q;dsimp only at q;by_cases hc:(shp x&&shp y)=true
 ·rw[if_pos hc]at q;rw[and_eq_true]at hc;exact⟨x,y,F',B,L,fx,fy,rx,ry,hc.1,hc.2,q.scal gr jU⟩
 ·rw[if_neg hc]at q;exact q.elim
variable{a b:Expr}{ma mb:ME}{pos:Pos}
def kX(hK:X.K=T.K)(hu:X.A.units+64<cLine)(ha:SE X T W a ma)(hb:SE X T W b mb):SE X T W (.Compare a [.Eq] [b] pos) (mOp pEq ma mb):=uB (vm hK hu) iy ha hb (ge _)
def zz(hK:X.K=T.K)(hu:X.A.units+64<cLine)(ha:SE X T W a ma)(hb:SE X T W b mb):SE X T W (.Compare a [.NotEq] [b] pos) (mOp pNe ma mb):=uB (vk hK hu) (iy (g:=fun a b=>!PyData.eqv a b)) ha hb (ge _)
def cC(hK:X.K=T.K)(hu:X.A.units+64<cLine)(ha:SE X T W a ma)(hb:SE X T W b mb):ST X T W (.Compare a [.Eq] [b] pos) (av (mOp pEq ma mb)):=fZ (vm hK hu) iy ha hb (ge _)
def fY(hK:X.K=T.K)(hu:X.A.units+64<cLine)(ha:SE X T W a ma)(hb:SE X T W b mb):ST X T W (.Compare a [.NotEq] [b] pos) (av (mOp pNe ma mb)):=fZ (vk hK hu) (iy (g:=fun a b=>!PyData.eqv a b)) ha hb (ge _)
def eV(ha:SE X T W a ma)(hb:SE X T W b mb):ST X T W (.Compare a [.Lt] [b] pos) (av (mOp pLt ma mb)):=fZ Dv (mq fun _ _ _ _ _ _=>jU) ha hb (ge _)
def jo(ha:SE X T W a ma)(hb:SE X T W b mb):ST X T W (.Compare a [.Gt] [b] pos) (av (mOp pGt ma mb)):=fZ Dw (mq fun _ _ _ _ _ _=>jU) ha hb (ge _)
def ng(ha:SE X T W a ma)(hb:SE X T W b mb):ST X T W (.Compare a [.GtE] [b] pos) (av (mOp pGe ma mb)):=fZ Dx (mq fun _ _ _ _ _ _=>jU) ha hb (ge _)
def inL(x:PV)(ys:Gs):Bool:=ys.any fun y=>PyData.eqv y.data x.data
def pIn:PV->PV->Gu:=fun x y=>match aN y with
 |some ys=>if shp x&&ys.all shp then .ok (.bl (inL x ys))else .stuck
 |none=>.stuck
def gZ:PV->PV->Gu:=fun x y=>match aN y with
 |some ys=>if shp x&&ys.all shp then .ok (.bl (!inL x ys))else .stuck
 |none=>.stuck
def oF(hK:X.K=T.K)(I:L2.Inv X js Y H s)(hu:A.units+64<cLine)(rx:Rel T F B L H x v fx)(ry:Rel T F B L H y u fy)(rv:bf v v')(ru:bf u u')(hx:shp x=true)(hy:shp y=true) :
  SeqAt.EqAt A s v' u' (PyData.eqv x.data y.data):=by
 obtain⟨as,ra⟩:=rx.reads hK I rv (SeqAt.canLay_of_shaped hx);obtain⟨bs,rb⟩:=ry.reads hK I ru (SeqAt.canLay_of_shaped hy);exact SeqAt.eqAt_reads _ _ A s v' u' as bs ra rb (SeqAt.canLay_of_shaped hx) (SeqAt.canLay_of_shaped hy) (SeqAt.room_of_shaped hx hu)
def iJ(hK:X.K=T.K)(I:L2.Inv X js Y H s)(hu:A.units+64<cLine)(rx:Rel T F B L H x v fx)(rv:bf v v')(hx:shp x=true) :
  ∀{ys:Gs}{us:Gp}{fy:Gk}{us':Gj},RelL T F B L H ys us fy->aE us us'->ys.all shp=true->∃e:Value->Bool,(∀w∈us',SeqAt.EqAt A s w v' (e w))/\us'.any e=inL x ys:=by
 intro ys us fy us' r rv' hs;have one:∀(ys:Gs) (us:Gp) (fy:Gk) (us':Gj),RelL T F B L H ys us fy->aE us us'->ys.all shp=true->∀w∈us',∃b,SeqAt.EqAt A s w v' b/\(b=true->inL x ys=true):=by
  intro ys
  induction ys with
  |nil=>intro us fy us' r rv' _ w hw;unfold RelL at r;obtain⟨rfl,_⟩:=r;cases rv';cases hw
  |cons y ys ih=>
   intro us fy us' r rv' hs w hw;unfold RelL at r;obtain⟨u,ws,f1,f2,rfl,h1,h2,_⟩:=r;cases rv' with
   |cons r1 r2=>
    rw[all_cons,and_eq_true]at hs;rcases mem_cons.mp hw with rfl|hw
    ·exact⟨_,oF hK I hu h1 rx r1 rv hs.1 hx,fun z=>by simp[inL,z]⟩
    ·obtain⟨b,h3,h4⟩:=ih ws f2 _ h2 r2 hs.2 w hw;exact⟨b,h3,fun z=>by have:=h4 z;unfold inL at this ⊢;simp[this]⟩
 have some_:∀(ys:Gs) (us:Gp) (fy:Gk) (us':Gj),RelL T F B L H ys us fy->aE us us'->ys.all shp=true->inL x ys=true->∃w∈us',SeqAt.EqAt A s w v' true:=by
  intro ys
  induction ys with
  |nil=>intro us fy us' r rv' _ h;simp[inL]at h
  |cons y ys ih=>
   intro us fy us' r rv' hs h;unfold RelL at r;obtain⟨u,ws,f1,f2,rfl,h1,h2,_⟩:=r;cases rv' with
   |cons r1 r2=>
    rw[all_cons,and_eq_true]at hs;by_cases hy:PyData.eqv y.data x.data=true
    ·refine⟨_,mem_cons_self,?_⟩;have:=oF hK I hu h1 rx r1 rv hs.1 hx
     rwa [hy]at this
    ·have h':inL x ys=true:=by unfold inL at h ⊢;rw[List.any_cons]at h;simpa[hy]using h
     grind
 by_cases hin:inL x ys=true
 ·obtain⟨w0,hw0,q0⟩:=some_ ys us fy us' r rv' hs hin;refine⟨fun w=>@decide (SeqAt.EqAt A s w v' true) (Classical.propDecidable _),fun w hw=>?_,?_⟩
  ·obtain⟨b,h1,_⟩:=one ys us fy us' r rv' hs w hw;by_cases ht:SeqAt.EqAt A s w v' true
   ·simp only[ht,decide_true]
   ·simp only[ht,decide_false];cases b with
    |true=>exact absurd h1 ht
    |false=>exact h1
  ·rw[hin,List.any_eq_true];exact⟨w0,hw0,by simp[q0]⟩
 ·have hin':inL x ys=false:=by simpa using hin
  refine⟨fun _=>false,fun w hw=>?_,by rw[hin'];simp⟩
  grind
def Aq(X:Cx)(T:Tb)(neg:Bool):R2:=fun v u H Q=>∃x ys a vs F B L fx fy,u=.ref a/\(SqL T.K H a vs\/SqT T.K H a vs)/\Rel T F B L H x v fx/\RelL T F B L H ys vs fy/\shp x=true/\ys.all shp=true/\Q (.bl (if neg then !inL x ys else inL x ys)) H
def AQ(hK:X.K=T.K)(hu:X.A.units+66<cLine):OpR X (compareOp .In) (Aq X T false):=by
 intro js s Y H v u v' u' Q I rv ru h;obtain⟨x,ys,a,vs,F,B,L,fx,fy,rfl,hs,rx,ry,hx,hy,q⟩:=h;cases ru;have hu1:X.A.in1.units+64<cLine:=by show X.A.units+1+64<cLine;omega
 rcases hs with hs|hs
 ·obtain⟨its,r,pl,_⟩:=I.list (by rw[hK];exact hs);obtain⟨e,h1,h2⟩:=iJ hK I hu1 rx rv hx ry r hy;refine SeqAt.in_listAt e pl.isList (fun w hw=>h1 w (by simpa using hw)) ⟨.bl _,H,I,rfl,?_⟩;rw[show its.toArray.any e=its.any e by simp,h2];exact q
 ·obtain⟨its,r,pl,_⟩:=I.tuple (by rw[hK];exact hs);obtain⟨e,h1,h2⟩:=iJ hK I hu1 rx rv hx ry r hy;refine SeqAt.in_tupleAt e pl (fun w hw=>h1 w (by simpa using hw)) ⟨.bl _,H,I,rfl,?_⟩;rw[show its.toArray.any e=its.any e by simp,h2];exact q
def sG(hK:X.K=T.K)(hu:X.A.units+66<cLine):OpR X (compareOp .NotIn) (Aq X T true):=by
 intro js s Y H v u v' u' Q I rv ru h;obtain⟨x,ys,a,vs,F,B,L,fx,fy,rfl,hs,rx,ry,hx,hy,q⟩:=h;cases ru;have hu1:X.A.in1.units+64<cLine:=by show X.A.units+1+64<cLine;omega
 rcases hs with hs|hs
 ·obtain⟨its,r,pl,_⟩:=I.list (by rw[hK];exact hs);obtain⟨e,h1,h2⟩:=iJ hK I hu1 rx rv hx ry r hy;refine SeqAt.notIn_listAt e pl.isList (fun w hw=>h1 w (by simpa using hw)) ⟨.bl _,H,I,rfl,?_⟩;rw[show its.toArray.any e=its.any e by simp,h2];exact q
 ·obtain⟨its,r,pl,_⟩:=I.tuple (by rw[hK];exact hs);obtain⟨e,h1,h2⟩:=iJ hK I hu1 rx rv hx ry r hy;refine SeqAt.notIn_tupleAt e pl (fun w hw=>h1 w (by simpa using hw)) ⟨.bl _,H,I,rfl,?_⟩;rw[show its.toArray.any e=its.any e by simp,h2];exact q
def vM:iS T W (fun x y=>match aN y with
 |some ys=>if shp x&&ys.all shp then .ok (.bl (if neg then !inL x ys else inL x ys))else .stuck
 |none=>.stuck) (Aq X T neg):=by
 intro B F L Y H Q F' H' x y v u fx fy gr rx ry nf nd new q;dsimp only at q;cases e:aN y with
 |none=>rw[e]at q;exact q.elim
 |some ys=>
  rw[e]at q;dsimp only at q;by_cases hc:(shp x&&ys.all shp)=true
  ·rw[if_pos hc]at q;rw[and_eq_true]at hc;obtain⟨a,ws,f',rfl,hs,hr,_⟩:=ry.seq e;exact⟨x,ys,a,ws,F',B,L,fx,f',rfl,hs,rx,hr,hc.1,hc.2,q.scal gr jU⟩
  ·rw[if_neg hc]at q;exact q.elim
def m_(hK:X.K=T.K)(hu:X.A.units+66<cLine)(ha:SE X T W a ma)(hb:SE X T W b mb)(hk:behindInMarks .In b=false:=by with_unfolding_all rfl):ST X T W (.Compare a [.In] [b] pos) (av (mOp pIn ma mb)):=fZ (AQ hK hu) (vM (neg:=false)) ha hb hk
def m9(hK:X.K=T.K)(hu:X.A.units+66<cLine)(ha:SE X T W a ma)(hb:SE X T W b mb)(hk:behindInMarks .NotIn b=false:=by with_unfolding_all rfl):ST X T W (.Compare a [.NotIn] [b] pos) (av (mOp gZ ma mb)):=fZ (sG hK hu) (vM (neg:=true)) ha hb hk
def PV.isNon:PV->Bool
 |.non=>true
 |_=>false
def gO:PV->PV->Gu
 |x,.non=>.ok (.bl (!x.isNon))
 |_,_=>.stuck
def Rel.isNon(r:Rel T F B L H x v f):decide (v=.non)=x.isNon:=by
 cases x with
 |non|bl b|int i|str i=>unfold Rel at r;rw[r.1];rfl
 |lst f xs=>unfold Rel at r;obtain⟨a,_,_,rfl,_⟩:=r;rfl
 |tup xs=>unfold Rel at r;obtain⟨a,_,rfl,_⟩:=r;rfl
 |obj f c ks xs=>unfold Rel at r;obtain⟨a,_,_,_,rfl,_⟩:=r;rfl
 |exc c=>unfold Rel at r;obtain⟨a,rfl,_⟩:=r;rfl
 |box k xs=>unfold Rel at r;obtain⟨a,vs,rfl,_⟩:=r;rfl
def vJ:iS T W gO (fun x y H Q=>y=.non/\Q (.bl (!decide (x=.non))) H):=by
 intro B F L Y H Q F' H' x y v u fx fy gr rx ry nf nd new q;cases y with
 |non=>unfold Rel at ry;refine⟨ry.1,?_⟩;rw[rx.isNon];exact GE.scal (pv:=.bl (!x.isNon)) (by simpa[gO]using q) gr jU
 |_=>simp only[gO]at q;exact q.elim
def qm(ha:SE X T W a ma)(hb:SE X T W b mb):ST X T W (.Compare a [.IsNot] [b] pos) (av (mOp gO ma mb)):=fZ ym vJ ha hb (ge _)
end
abbrev TgM:=PV->En->Option En
abbrev qb:=Gs->En->Option En
def tgN(i:Nat):TgM:=fun v env=>if aB i env then some (env.set i (some v))else none
def fX:qb:=fun vs env=>match vs with
 | []=>some env
 |_=>none
def bF(t:TgM)(u:qb):qb:=fun vs env=>match vs with
 |v::r=>match t v env with
  |some e=>u r e
  |none=>none
 | []=>none
def tgT(n:Nat)(u:qb):TgM:=fun v env=>match v with
 |.tup xs=>if xs.length=n then u xs env else none
 |_=>none
structure ub(Z:Zn)(F:Gh)(fp:Nat->Gk)(f:Gk):Prop where
 nd:f.Nodup
 nf:∀a∈f,¬F a
 new:∀a∈f,Z.H0 a=none\/Z.fp0 a
 dj:∀a∈f,∀j,a∉fp j
def ub.nil:ub Z F fp []:=⟨nodup_nil,fun _ z=>(nomatch z),fun _ z=>(nomatch z),fun _ z=>(nomatch z)⟩
def GG(T:Tb)(Z:Zn)(F:Gh)(H:Hp)(Q:St->Gq):Option En->Prop
 |some e=>∀Y fp,ak T Z F H Y e fp->Q Y H
 |none=>False
def tG(T:Tb)(m:TgM):TG:=fun v Y H Q=>∃Z F env fp pv f,ak T Z F H Y env fp/\Rel T F Z.B NoL H pv v f/\ub Z F fp f/\GG T Z F H Q (m pv env)
def tGs(T:Tb)(m:qb):TGs:=fun vs Y H Q=>∃Z F env fp pvs f,ak T Z F H Y env fp/\RelL T F Z.B NoL H pvs vs f/\ub Z F fp f/\GG T Z F H Q (m pvs env)
abbrev SG(X:Cx)(T:Tb)(tg:Expr)(m:TgM):Prop:=PG X tg (tG T m)
abbrev SGs(X:Cx)(T:Tb)(ts:List Expr)(m:qb):Prop:=PGs X ts (tGs T m)
section
variable{X:Cx}{T:Tb}{W:Nat->St->Gq}{Z:Zn}{F F1 B L:Gh}{H H1:Hp}{Y:St}{env:En}{fp:Nat->Gk}{D:Ends}
def PG.wk(h:PG X tg t)(w:∀v Y H Q,t' v Y H Q->t v Y H Q):PG X tg t':=fun js s Y H v u Q I r q=>h js s Y H v u Q I r (w v Y H Q q)
def PGs.wk(h:PGs X ts t)(w:∀v Y H Q,t' v Y H Q->t v Y H Q):PGs X ts t':=fun js s Y H v u Q I r q=>h js s Y H v u Q I r (w v Y H Q q)
def xD(hN:X.N.Nodup)(hi:X.N[i]?=some x)(hx:Loc X.env.scope x)(hf:X.fn x=true\/X.env.scope.names.lookup x=some .local:=by first|exact .inl rfl|exact .inr rfl|assumption):SG X T (.Name x pos) (tgN i):=
 PG.wk (jE (pos:=pos) hN hi hx hf) fun v Y H Q hz1=>by
  obtain⟨Z,F,env,fp,pv,f,S,r,fr,q⟩:=hz1;unfold tgN at q;by_cases ho:aB i env=true
  ·rw[if_pos ho]at q;exact q _ _ (S.put r fr.nd fr.nf fr.new (fun a ha j _=>fr.dj a ha j) ho)
  ·rw[if_neg ho]at q;exact q.elim
def jC:SGs X T [] fX:=PGs.wk qz fun vs Y H Q hz1=>by
 obtain⟨Z,F,env,fp,pvs,f,S,r,fr,q⟩:=hz1;cases pvs with
 |nil=>unfold RelL at r;exact⟨r.1,q Y fp S⟩
 |cons x xs=>exact q.elim
def dC(hN:X.N.Nodup)(hi:X.N[i]?=some x)(hx:Loc X.env.scope x)(h2:SGs X T es u)
  (hs:(assignEach (.Name x pos::es) X.env).map (·.2)=assign (.Name x pos) X.env::(assignEach es X.env).map (·.2):=by rfl)
  (hf:X.fn x=true\/X.env.scope.names.lookup x=some .local:=by first|exact .inl rfl|exact .inr rfl|assumption):SGs X T (.Name x pos::es) (bF (tgN i) u):=
 PGs.wk (jX (jE (pos:=pos) hN hi hx hf) h2 hs) fun vs Y H Q hz1=>by
  obtain⟨Z,F,env,fp,pvs,f,S,r,fr,q⟩:=hz1;cases pvs with
  |nil=>exact q.elim
  |cons y ys=>
   unfold RelL at r;obtain⟨v,ws,f1,f2,rfl,r1,r2,rfl⟩:=r;obtain⟨n1,n2,n3⟩:=nodup_append.mp fr.nd;by_cases ho:aB i env=true
   case neg=>simp only[bF,tgN,if_neg ho]at q;exact q.elim
   simp only[bF,tgN,if_pos ho]at q;refine⟨v,ws,rfl,Z,F,env.set i (some y),aI fp i f1,ys,f2,S.put r1 n1 (fun a ha=>fr.nf a (mem_append_left _ ha)) (fun a ha=>fr.new a (mem_append_left _ ha)) (fun a ha j _=>fr.dj a (mem_append_left _ ha) j) ho,r2,⟨n2,fun a ha=>fr.nf a (mem_append_right _ ha),fun a ha=>fr.new a (mem_append_right _ ha),fun a ha j=>?_⟩,q⟩;unfold aI;split
   ·exact fun z=>n3 a z a ha rfl
   ·exact fr.dj a (mem_append_right _ ha) j
def lP(hK:X.K=T.K)(hc:X.calm=true)(h:SGs X T es u)(hn:(assignEach es X.env).length=n:=by rfl)(hst:(assignEach es X.env).findIdx? (·.1)=none:=by rfl):SG X T (.Tuple es k pos) (tgT n u):=
 PG.wk (uX (pos:=pos) (k:=k) hc h hn hst) fun v Y H Q hz1=>by
  obtain⟨Z,F,env,fp,pv,f,S,r,fr,q⟩:=hz1;cases pv with
  |tup xs=>
   unfold Rel at r;obtain⟨a,vs,rfl,hl,hr⟩:=r;simp only[tgT]at q;by_cases hx:xs.length=n
   ·rw[if_pos hx]at q;exact⟨a,vs,rfl,by rw[hK];exact hl,by rw[<- hr.length];exact hx,Z,F,env,fp,xs,f,S,hr,fr,q⟩
   ·rw[if_neg hx]at q;exact q.elim
  |_=>exact q.elim
abbrev MI:=En->Res (Gs)
def ItR(T:Tb)(F B:Gh)(Ow:Gh)(H1:Hp)(J:It)(xs:Gs):Prop:=
 ∀H2,(∀a o,H1 a=some o->¬Ow a->H2 a=some o)->(∀(i:Nat) x,xs[i]?=some x->J.go i H2/\∀v H3,J.yld i H2 v H3->Ext H2 H3/\Rel T F B NoL H3 x v [])/\J.stop xs.length H2
def ItR.of0(h:∀H2,(∀a o,H1 a=some o->¬Ow a->H2 a=some o)->(∀(i:Nat) x,xs[i]?=some x->J.go i H2/\∀v H3,J.yld i H2 v H3->H3=H2/\Rel T F B NoL H2 x v [])/\J.stop xs.length H2):ItR T F B Ow H1 J xs:=fun H2 hk=>by obtain⟨a,b⟩:=h H2 hk;refine⟨fun i x e=>⟨(a i x e).1,fun v H3 hy=>?_⟩,b⟩;obtain⟨rfl,r⟩:=(a i x e).2 v H3 hy;exact⟨Ext.refl,r⟩
def GI(T:Tb)(W:Nat->St->Gq)(B F Ow:Gh)(Y:St)(H:Hp)(R:It->Gq):Res (Gs)->Prop
 |.ok xs=>∀J H1 F1,Gr F H F1 H1->ItR T F1 B Ow H1 J xs->R J H1
 |.exc c=>∀H',Ext H H'->W c Y H'
 |.stuck=>False
def tI(T:Tb)(W:Nat->St->Gq)(m:MI):TI:=fun Y H R=>∃Z F env fp,ak T Z F H Y env fp/\GI T W Z.B F (Own fp) Y H R (m env)
abbrev SI(X:Cx)(T:Tb)(W:Nat->St->Gq)(tg iter:Expr)(m:MI):Prop:=PI X tg iter (tI T W m)
def uW(hl:PE X l tl):PI X tg l (fun Y H R=>tl Y H fun x H1=>∃a,x=.ref a/\((∃xs,SqL X.K H1 a xs/\R (Itl X.K a) H1)\/ ∃xs,SqT X.K H1 a xs/\R (Itt X.K a) H1)):=by
 intro js s Y H R I h;refine thn (hl js s Y H _ I h) fun v s1 hz1=>?_;obtain⟨x,H1,I1,r1,q1⟩:=hz1;obtain⟨a,e,q⟩:=q1;subst e;cases r1;rcases q with⟨xs,hq,q⟩ |⟨xs,hq,q⟩
 ·obtain⟨its,rv,p,hz⟩:=I1.list hq;refine wpAny_pyIter_list p.isList ?_;refine⟨s1.heap.objs.size,[s1.heap.objs.size],_,_,H1,rfl,I1.kept (t':=s1.toks) fun b o e=>get?_push_of_some _ e,rL a _,⟨_,get?_push_size _ rfl,rfl,rfl⟩,fun b hb=>?_,q⟩;have e:b=s1.heap.objs.size:=by simpa using hb
  subst e;exact I1.fpOk (Nat.le_refl _) (I1.hok.fresh (Nat.le_refl _))
 ·obtain⟨its,rv,p,hz⟩:=I1.tuple hq;refine wpAny_pyIter_tuple (show s1.heap.IsTuple a its.toArray from p) ?_;refine⟨s1.heap.objs.size,[s1.heap.objs.size],_,_,H1,rfl,I1.kept (t':=s1.toks) fun b o e=>get?_push_of_some _ e,oZ a _,⟨_,get?_push_size _ rfl,rfl,rfl⟩,fun b hb=>?_,q⟩;have e:b=s1.heap.objs.size:=by simpa using hb
  subst e;exact I1.fpOk (Nat.le_refl _) (I1.hok.fresh (Nat.le_refl _))
def dg(xs:Gs):Bool:=!hasL Fl.Gz xs&&!hasL Fl.GB xs
def gg(m:ME):MI:=fun env=>(m env).bind fun x=>match x with
 |.lst f xs=>if !f.GB&&dg xs then .ok xs else .stuck
 |.tup xs=>if dg xs then .ok xs else .stuck
 |_=>.stuck
def hZ{H2:Hp}{Ow:Gh}(hF:∀a,F1 a->¬Ow a)(hB:∀a,B a->¬Ow a)(hO:∀a o,Ow a->H1 a=some o->Chg o)(hk:∀a o,H1 a=some o->¬Ow a->H2 a=some o){xs:Gs}{vs:Gp}(r:RelL T F1 B NoL H1 xs vs []){i:Nat}{x:PV}{v:V}(e:xs[i]?=some x)(ev:vs[i]?=some v):Rel T F1 B NoL H2 x v []:=by
 obtain⟨w,f,e1,r1,sl⟩:=r.get e;rw[ev]at e1;cases e1;obtain rfl:=List.sublist_nil.mp sl;refine Rel.tr (fun _ h=>h) (fun _ h=>h) (fun _ h=>h) (fun a o q h=>hk a o q ?_) (fun _ z=>(nomatch z)) r1;rcases h with h|h|h|h
 ·exact hF a h
 ·exact hB a h
 ·exact h.elim
 ·intro z;have:=hO a o z q;cases o with
  |lst _|ins _ _ _=>exact h
  |_=>exact this
def ak.bow(S:ak T Z F H Y env fp):∀a,Z.B a->¬Own fp a:=fun a h hz1=>by
 obtain⟨i,hi⟩:=hz1;obtain⟨⟨o,h1⟩,h2⟩:=S.hp.bo.1 a h;rcases S.new i a hi with z|z
 ·rw[h1]at z;cases z
 ·exact h2 z
def ak.fow(S:ak T Z F H Y env fp):∀a,F a->¬Own fp a:=fun a h ⟨i,hi⟩=>(S.dis i a hi).1 h
def ak.oow(S:ak T Z F H Y env fp):∀a o,Own fp a->H a=some o->Chg o:=fun a o hz1 e=>by obtain⟨i,hi⟩:=hz1;obtain⟨o',h1,h2⟩:=S.ch i a hi;rw[e]at h1;cases h1;exact h2
def cZ(h:dg xs=true)(r:RelL T F B L H xs vs f):f=[]/\RelL T F B NoL H xs vs f:=by simp only[dg,and_eq_true,not_eq_true']at h;exact⟨RelL.GK h.1 r,RelL.noL h.2 r⟩
def jM(hK:X.K=T.K)(he:SE X T W e m):SI X T W tg e (gg m):=fun js s Y H R I h=>uW he js s Y H R I (by
 obtain⟨Z,F,env,fp,S,q⟩:=h;unfold gg at q;refine tE.bq S fun x v H1 F1 f1 e1 g1 r1 n1 d1 w1=>?_;rw[e1]at q;simp only[Res.GL]at q;have S1:=S.grow g1;rw[hK];cases x with
 |lst f xs=>
  dsimp only at q;by_cases hc:(!f.GB&&dg xs)=true
  ·rw[if_pos hc]at q;rw[and_eq_true]at hc;unfold Rel at r1;obtain⟨a,vs,fp',rfl,hl,hr,hf⟩:=r1;obtain⟨rfl,hr'⟩:=cZ hc.2 hr;refine⟨a,rfl,.inl ⟨vs,hl.sq,q _ H1 F1 g1 (ItR.of0 fun H2 hk=>?_)⟩⟩;have na:f≠.mod->∀o,H1 a=some o->H2 a=some o:=fun hn o ho=>by
    refine hk a o ho ?_;cases f with
    |own=>rintro⟨i,hi⟩;obtain⟨_,o',ho'⟩:=S.dis i a hi;obtain rfl:f1=[a]:=hf;rw[w1 a mem_cons_self]at ho';cases ho'
    |frz=>exact S1.fow a hl.1
    |bor=>exact S1.bow a hl.1
    |lnt=>exact absurd hc.1 (by decide)
    |mod=>exact absurd rfl hn
   have hl2:SqL T.K H2 a vs:=by
    by_cases hn:f=.mod
    ·subst hn;exact .inr hl
    ·exact .inl (Rd.tr (na hn) (hl.rd hn))
   refine⟨fun i x ex=>?_,⟨vs,hl2,by rw[hr.length];exact Nat.le_refl _⟩⟩;obtain⟨v,_,ev,_,_⟩:=hr.get ex;refine⟨⟨vs,v,hl2,ev⟩,fun w H3 hy=>⟨hy.1,?_⟩⟩;have e3:=hy.2 vs hl2;exact hZ S1.fow S1.bow S1.oow hk hr' ex e3
  ·rw[if_neg hc]at q;exact q.elim
 |tup xs=>
  dsimp only at q;by_cases hc:dg xs=true
  ·rw[if_pos hc]at q;unfold Rel at r1;obtain⟨a,vs,rfl,hl,hr⟩:=r1;obtain⟨rfl,hr'⟩:=cZ hc hr;refine⟨a,rfl,.inr ⟨vs,hl,q _ H1 F1 g1 (ItR.of0 fun H2 hk=>?_)⟩⟩;have hl2:SqT T.K H2 a vs:=SqT.tr (fun o ho hfx=>hk a o ho fun z=>by
    have:=S1.oow a o z ho;cases o with
    |lst _|ins _ _ _=>exact hfx
    |_=>exact this) hl
   refine⟨fun i x ex=>?_,⟨vs,hl2,by rw[hr.length];exact Nat.le_refl _⟩⟩;obtain⟨v,_,ev,_,_⟩:=hr.get ex;refine⟨⟨vs,v,hl2,ev⟩,fun w H3 hy=>⟨hy.1,?_⟩⟩;exact hZ S1.fow S1.bow S1.oow hk hr' ex (hy.2 vs hl2)
  ·rw[if_neg hc]at q;exact q.elim
 |_=>exact q.elim)
def ck(lo:Int)(n:Nat):Gs:=(range n).map fun k=>.int (lo+(k:Nat))
def inR(i:Int):Bool:=decide (-(2 ^ 62)<= i/\i<2 ^ 62)
def b7(ms:MA):MI:=fun env=>(ms env).bind fun xs=>match xs with
 | [.int n]=>if inR n then .ok (ck 0 n.toNat)else .stuck
 |_=>.stuck
def k_(ms:MA):MI:=fun env=>(ms env).bind fun xs=>match xs with
 | [.int i,.int j]=>if inR i&&inR j then .ok (ck i (j-i).toNat)else .stuck
 |_=>.stuck
def qP:ItR T F1 B Ow H1 (Itr lo n) (ck lo n):=by
 apply ItR.of0;intro H2 _;refine⟨fun i x ex=>?_,by simp[ck,Itr]⟩;have hi:i<n:=by have:=(List.getElem?_eq_some_iff.mp ex).1;simpa[ck]using this
 refine⟨hi,fun v H3 hy=>⟨hy.1,?_⟩⟩;obtain⟨_,rfl⟩:=hy;have:x=.int (lo+(i:Nat)):=by simp[ck,hi]at ex;exact ex.symm
 subst this;exact dE
def dv(hg:Gl X "range")(hm:X.mg "range" = none)(ha:SA X T W [a] ms)(hs:starEach [a] X.env=[(false,eval a X.env)]:=by rfl):SI X T W tg (.Call (.Name "range" p) [a] [] pos) (b7 ms):=fun js s Y H R I h=>k6 hg hm ha hs js s Y H R I (by
 obtain⟨Z,F,env,fp,S,q⟩:=h;unfold b7 at q;refine tA.bq S fun xs vs H1 F1 f1 e1 g1 r1 n1 d1 w1=>?_;rw[e1]at q;simp only[Res.GL]at q;split at q
 ·rename_i n
  split at q
  ·rename_i hc
   obtain⟨v,rfl,r2⟩:=r1.one;unfold Rel at r2;obtain⟨rfl,_⟩:=r2;have hc':-(2 ^ 62)<= n/\n<2 ^ 62:=by simpa[inR]using hc
   exact⟨n,rfl,hc'.1,hc'.2,q _ H1 F1 g1 qP⟩
  ·exact q.elim
 ·exact q.elim)
def rS(hg:Gl X "range")(hm:X.mg "range"=none)(ha:SA X T W [a,b] ms)(hs:starEach [a,b] X.env=[(false,eval a X.env),(false,eval b X.env)]:=by rfl)(hs2:starEach [b] X.env=[(false,eval b X.env)]:=by rfl) :
  SI X T W tg (.Call (.Name "range" p) [a,b] [] pos) (k_ ms):=fun js s Y H R I h=>sy hg hm ha hs hs2 js s Y H R I (by
 obtain⟨Z,F,env,fp,S,q⟩:=h;unfold k_ at q;refine tA.bq S fun xs vs H1 F1 f1 e1 g1 r1 n1 d1 w1=>?_;rw[e1]at q;simp only[Res.GL]at q;split at q
 ·rename_i i j
  split at q
  ·rename_i hc
   unfold RelL at r1;obtain⟨v,ws,f1,f2,rfl,h1,h2,_⟩:=r1;obtain⟨v2,rfl,h3⟩:=h2.one;unfold Rel at h1 h3;obtain⟨rfl,_⟩:=h1;obtain⟨rfl,_⟩:=h3;have hc':(-(2 ^ 62)<= i/\i<2 ^ 62)/\(-(2 ^ 62)<= j/\j<2 ^ 62):=by simpa[inR]using hc
   exact⟨i,j,rfl,⟨hc'.1.1,hc'.1.2,hc'.2.1,hc'.2.2⟩,q _ H1 F1 g1 qP⟩
  ·exact q.elim
 ·exact q.elim)
def dh(it:MI)(tg:TgM)(body:MS):MS:=fun env=>match it env with
 | .ok xs=>kB (fun x e=>match tg x e with
  |some e'=>body e'
  |none=>.stuck) xs env
 |.exc c=>.exc c env
 |.stuck=>.stuck
def cU(hp:PassesOwn (model X.prog X.w) X.A X.env X.xe)(hc:X.calm=true)(hi:SI X T W tg iter mi)(hg:SG X T tg g)(hb:SSs X T W body mb)
  (hs:∀x,foldedSetIterable iter X.env x=pure x:=by intro _;rfl):SS X T W (.For tg iter body [] pos) (dh mi g mb):=PS.wk (uQ (pos:=pos) hp hc hi hg hb hs) fun D Y H hz1=>by
 obtain⟨Z,F,env,fp,S,q⟩:=hz1;unfold dh at q;refine⟨Z,F,env,fp,S,?_⟩;cases em:mi env with
 |exc c=>rw[em]at q;exact fun H' x=>q F H' Y fp (S.grow (Gr.same S.hp.ft x))
 |stuck=>rw[em]at q;exact q
 |ok xs=>
  rw[em]at q;dsimp only at q;intro J H1 F1 g1 it;have S1:=S.grow g1;generalize hbd:(fun (x:PV) (e:En)=>match g x e with
   |some e'=>mb e'
   |none=>Out.stuck)=bd at q
  refine⟨fun i m σ2 H2=>m=xs.length-i/\i<=xs.length/\∃F2 env2 fp2,ak T (Z.re F1 H1 fp) F2 H2 σ2 env2 fp2/\GS T W Z D (kB bd (xs.drop i) env2),⟨xs.length,by simp,zero_le _,F1,env,fp,S1.enter,q⟩,?_⟩;rintro i m σ2 H2 ⟨rfl,hi,F2,env2,fp2,S2,q2⟩;obtain⟨go,stop⟩:=it H2 S2.hp.keep;by_cases hlt:i<xs.length
  ·have hx:xs[i]?=some xs[i]:=by simp[hlt]
   obtain⟨g1',yl⟩:=go i _ hx;refine .inr ⟨g1',fun σ3 H3=>∃F3 env3 fp3,ak T (Z.re F1 H1 fp) F3 H3 σ3 env3 fp3/\GS T W Z D (kB bd (xs.drop (i+1)) env3),fun σ3 H3 h3=>⟨xs.length-(i+1),by omega,rfl,hlt,h3⟩,fun v H3 hy=>?_⟩;obtain⟨ex3,r⟩:=yl v H3 hy;rw[List.drop_eq_getElem_cons hlt]at q2;unfold kB at q2;rw[<- hbd]at q2;dsimp only at q2;refine⟨Z.re F1 H1 fp,F2,env2,fp2,xs[i],[],S2.grow (Gr.same S2.hp.ft ex3),r.ext Ext.refl S2.hp.f0,ub.nil,?_⟩;cases eg:g xs[i] env2 with
   |none=>rw[eg]at q2;exact q2
   |some e'=>
    rw[eg]at q2;dsimp only at q2;intro σ' fp' S';refine⟨Z.re F1 H1 fp,F2,e',fp',S',?_⟩;cases eb:mb e' with
    |next e2|cont e2=>rw[eb]at q2;exact fun F3 H3 σ3 fp3 S3=>⟨F3,e2,fp3,S3,by rw[<- hbd];exact q2⟩
    |brk e2=>rw[eb]at q2;exact fun F3 H3 σ3 fp3 S3=>q2 F3 H3 σ3 fp3 (S1.leave S3)
    |ret v=>rw[eb]at q2;exact fun F3 H3 v f hp r nd nf new=>q2 F3 H3 v f (bB.leave S1 hp) r nd nf fun a ha=>S1.newL (new a ha)
    |exc c e2=>rw[eb]at q2;exact fun F3 H3 σ3 fp3 S3=>q2 F3 H3 σ3 fp3 (S1.leave S3)
    |stuck=>rw[eb]at q2;exact q2
  ·have e:i=xs.length:=by omega
   subst e;rw[List.drop_length]at q2;exact .inl ⟨stop,q2 F2 H2 σ2 fp2 (S1.leave S2)⟩
end
end PR
namespace L2
open PySem PySem.Spec
def dy(cells:List (Str×Addr)):List (Str×NameKind)->List (Str×Addr)->List (Str×Addr)
 | [],acc=>acc
 | (n,k)::r,acc=>if (k == .free)=true then (match cells.lookup n with
  |some c=>dy cells r ((n,c)::acc)
  |none=>dy cells r acc)else dy cells r acc
def h_:∀(names:List (Str×NameKind)) (acc:List (Str×Addr)),(∀y∈names,y.2=.free->∃c,env.cells.lookup y.1=some c)->
  (forIn names acc fun (x:Str × NameKind) (cs:List (Str × Addr))=>match x with
   |(name,kind)=>if(kind==.free)=true then do let c <- cellOf env name;pure (ForInStep.yield ((name,c)::cs))else pure (ForInStep.yield cs):Sem (List (Str×Addr)))=pure (dy env.cells names acc)
 | [],acc,_=>by simp[dy]
 |(n,k)::r,acc,h=>by
  rw[List.forIn_cons];by_cases hk:(k==NameKind.free)=true
  ·obtain⟨c,hc⟩:=h (n,k) mem_cons_self (by simpa using hk);dsimp only at hc;simp only[hk,if_true,cellOf,hc,pure_bind];rw[dy,if_pos hk,hc];exact h_ r _ fun y hy=>h y (mem_cons_of_mem _ hy)
  ·simp only[hk,false_eq_true,if_false,pure_bind];rw[dy,if_neg hk];exact h_ r _ fun y hy=>h y (mem_cons_of_mem _ hy)
def kE(h:∀y∈scope.names,y.2=.free->∃c,env.cells.lookup y.1=some c):closureFor scope env=pure (dy env.cells scope.names []):=by unfold closureFor;simp only[];rw[<- h_ scope.names [] h];simp
def fh{cells:List (Str×Addr)}:∀{names:List (Str×NameKind)}{acc:List (Str×Addr)},(∀p∈acc,cells.lookup p.1=some p.2)->∀p∈dy cells names acc,cells.lookup p.1=some p.2
 | [],_,h=>h
 |(n,k)::r,acc,h=>by
  unfold dy;split
  ·split
   ·rename_i c hc
    exact fh (by grind)
   ·exact fh h
  ·exact fh h
def iP:∀{names:List (Str×NameKind)}{acc:List (Str×Addr)}{p:Str×Addr},p∈acc->p∈dy cells names acc
 | [],_,_,h=>h
 |(n,k)::r,acc,p,h=>by
  unfold dy;split
  ·split
   ·exact iP (mem_cons_of_mem _ h)
   ·exact iP h
  ·exact iP h
def gw{cells:List (Str×Addr)}{x:Str}{c:Addr}(hc:cells.lookup x=some c):∀{names:List (Str×NameKind)}{acc:List (Str×Addr)},(x,NameKind.free)∈ names->(x,c)∈ dy cells names acc
 | [],_,h=>nomatch h
 |(n,k)::r,acc,h=>by
  unfold dy;rcases mem_cons.mp h with e|h
  ·cases e;rw[if_pos (by rfl),hc];exact iP mem_cons_self
  ·split
   ·split
    ·exact gw hc h
    ·exact gw hc h
   ·exact gw hc h
def gQ{cells l:List (Str×Addr)}(h:∀p∈l,cells.lookup p.1=some p.2){x:Str}{c:Addr}(m:(x,c)∈ l):l.lookup x=some c:=by
 induction l with
 |nil=>cases m
 |cons p r ih=>
  grind
def fg{cells:List (Str×Addr)}{names:List (Str×NameKind)}{x:Str}{c:Addr}(h:(dy cells names []).lookup x=some c):cells.lookup x=some c:=
 fh (names:=names) (acc:=[]) (fun _ z=>nomatch z) (x,c) (PySem.mem_of_lookup h)
def kh:∀(names:List (Str×NameKind)) (a:Nat) (l acc:List (Str×Addr)),cellsFrom a names (l++acc)=cellsFrom a names l++acc
 | [],_,_,_=>rfl
 |(n,k)::r,a,l,acc=>by
  unfold cellsFrom;split
  ·exact kh r (a+1) ((n,a)::l) acc
  ·exact kh r a l acc
def kg:∀{names:List (Str×NameKind)}{a:Nat}{l:List (Str×Addr)}{p:Str×Addr},p∈cellsFrom a names l->p∈l \/(a<=p.2/\(p.1,NameKind.cell)∈ names)
 | [],_,_,_,h=>.inl h
 |(n,k)::r,a,l,p,h=>by
  unfold cellsFrom at h;split at h
  ·rename_i hk
   have hk:k=.cell:=by simpa using hk
   subst hk;rcases kg h with h|h
   ·grind
   ·exact .inr ⟨by omega,mem_cons_of_mem _ h.2⟩
  ·rcases kg h with h|h
   ·exact .inl h
   ·exact .inr ⟨h.1,mem_cons_of_mem _ h.2⟩
def mH:∀{names:List (Str×NameKind)}{a:Nat}{l:List (Str×Addr)}{x:Str},((x,NameKind.cell)∈ names \/(l.lookup x).isSome=true)->((cellsFrom a names l).lookup x).isSome=true
 | [],_,_,_,h=>h.resolve_left (fun z=>nomatch z)
 |(n,k)::r,a,l,x,h=>by
  unfold cellsFrom;split
  ·rename_i hk
   have hk:k=.cell:=by simpa using hk
   subst hk;refine mH ?_
   grind
  ·rename_i hk
   refine mH ?_
   grind
def ki:∀{names:List (Str×NameKind)}{a:Nat}{l:List (Str×Addr)},(∀p∈l,p.2<a)->(l.Pairwise fun x y=>x.2≠y.2)->(cellsFrom a names l).Pairwise fun x y=>x.2≠y.2
 | [],_,_,_,h=>h
 |(n,k)::r,a,l,hl,h=>by
  unfold cellsFrom;split
  ·refine ki (fun p hp=>?_) (pairwise_cons.mpr ⟨fun y hy e=>?_,h⟩)
   ·grind
   ·have e':a=y.2:=e;exact Nat.lt_irrefl _ (Nat.lt_of_lt_of_eq (hl y hy) e')
  ·exact ki hl h
def j8{α:Type}{x:Str}:∀{l m:List (Str×α)},(l++m).lookup x=(l.lookup x).or (m.lookup x)
 | [],m=>by simp
 |(n,c)::l,m=>by
  grind
abbrev oK(X:Cx)(scope:Scope)(C:Addr):List (Str×Addr):=cellsFrom (C+1) scope.names (dy X.env.cells scope.names [])
def iQ{X:Cx}{scope:Scope}{C:Addr}{x:Str}{c:Addr}(h:(oK X scope C).lookup x=some c):(C+1<=c/\(x,NameKind.cell)∈ scope.names/\(x,c)∈ cellsFrom (C+1) scope.names [])\/(dy X.env.cells scope.names []).lookup x=some c:=by
 unfold oK at h;rw[show dy X.env.cells scope.names []=[]++ dy X.env.cells scope.names []from rfl,kh,j8]at h;cases e:(cellsFrom (C+1) scope.names []).lookup x with
 |some d=>
  rw[e]at h;cases h;have m:=PySem.mem_of_lookup e;rcases kg m with z|z
  ·cases z
  ·exact .inl ⟨z.1,z.2,m⟩
 |none=>rw[e]at h;exact .inr (by simpa using h)
def BU(hx:(x,NameKind.cell)∉ scope.names)(h:(dy X.env.cells scope.names []).lookup x=some c):(oK X scope C).lookup x=some c:=by
 unfold oK;rw[show dy X.env.cells scope.names []=[]++ dy X.env.cells scope.names []from rfl,kh,j8];cases e:(cellsFrom (C+1) scope.names []).lookup x with
 |some d=>
  rcases kg (PySem.mem_of_lookup e)with z|z
  ·cases z
  ·exact absurd z.2 hx
 |none=>simpa using h
def nY{M:Model}{A:Around}{E:Gc}{s:Shared}{scope:Scope}{globals:Addr}{closure:List (Str×Addr)}{qual:Str}{func:Option Addr}{code:Value}{outer:Env}{builtins:Addr}{Q:Env->Shared->Prop}
  (hQ:∀ h',h'.Ns s.heap.objs.size (fun _=>none)->(∀ b o,s.heap.get? b=some o->h'.get? b=some o)->(∀ n c,(n,c) ∈ cellsFrom (s.heap.objs.size+1) scope.names []->h'.IsCell c none) ->
   Q (newEnv scope s.heap.objs.size globals (cellsFrom (s.heap.objs.size+1) scope.names closure) qual func code (some outer) builtins) {s with heap:=h'}) :
  wpAny M A (newFunctionEnv scope globals closure [] qual func code (some outer) builtins) Q E s:=by
 simp only[newFunctionEnv,Option.isSome_some,if_true];refine wpAny_bind (wpAny_alloc ?_);refine wpAny_bind (wpAny_layCells _ (fun name kind cells=>by cases hkc:kind==NameKind.cell<;>simp[hkc]) _ _ _ _ ?_);have ok:=cellsFrom_ok scope.names (s.heap.push {cls:=.type "dict",data:=.dict #[]}) (s.heap.objs.size+1) [] ⟨fun _ _ hm=>(nomatch hm),Pairwise.nil⟩ (by rw[size_push];exact Nat.le_refl _);rw[size_push]at ok;rw[show({s with heap:=s.heap.push {cls:=.type "dict",data:=.dict #[]}}:Shared).heap.objs.size=s.heap.objs.size+1 from size_push ..];refine wpAny_bind ?_;rw[List.forIn_nil];exact wpAny_pure (wpAny_pure (hQ _ ((Heap.Ns.new s.heap (.type "dict")).keeps (pushCells_keeps _ _)) (fun b o e=>pushCells_keeps _ _ b o (get?_push_of_some _ e)) fun n c hm=>(ok.empty n c hm).1))
def cxC(X:Cx)(scope:Scope)(C:Addr)(N:Gm)(s:Shared)(H:Hp)(ex:Gk):Cx:=
 {X with env:=compEnvC scope (oK X scope C) C X.env,N:=N,s₀:=s,H₀:=H,outer:=X.stack,stack:=X.stack,ex:=ex,fn:=fun x=>scope.names.lookup x==some .cell,pn:=[],xe:=fun _ _=>False}
structure dz(X:Cx)(scope:Scope)(caps:List Nat)(N tn:Gm):Prop where
 kind:scope.kind=.function
 cel:∀y∈scope.names,y.2=.cell->scope.names.lookup y.1=some .cell
 names:∀y∈scope.names,y.2=.local->scope.names.lookup y.1=some .local
 free:∀y∈scope.names,y.2=.free->X.env.kindOf y.1=some .cell\/X.env.kindOf y.1=some .free
 eN:N=caps.map (fun i=>X.N.getD i "")++ tn
 capN:∀i∈caps,i<X.N.length
 capF:∀i∈caps,∀x,X.N[i]?=some x->(x,NameKind.free)∈ scope.names/\scope.names.lookup x=some .free
 nd:N.Nodup
def ip{scope:Scope}{env:Env}{x:Str}{k:NameKind}(h:(relabel scope env).names.lookup x=some k)(hc:k=.cell\/k=.free):(x,NameKind.free)∈ scope.names \/(x,NameKind.cell)∈ scope.names:=by
 have m:=PySem.mem_of_lookup h;obtain⟨⟨n,k0⟩,hm,e⟩:=mem_map.mp m
 grind
def iq{scope:Scope}{env:Env}{x:Str}:∀{names:List (Str×NameKind)},names.lookup x=some .free ->
  (names.map fun(n,k)=>if(k==NameKind.free&&env.scope.kind==.function&&env.kindOf n==some .cell)then(n,NameKind.cell)else(n,k)).lookup x=some .cell \/
  (names.map fun(n,k)=>if(k==NameKind.free&&env.scope.kind==.function&&env.kindOf n==some .cell)then(n,NameKind.cell)else(n,k)).lookup x=some .free
 | [],h=>by simp at h
 |(n,k)::r,h=>by
  show List.lookup x ((if(k==NameKind.free&&env.scope.kind==.function&&env.kindOf n==some .cell)=true then(n,NameKind.cell)else(n,k))::_)=_\/List.lookup x ((if(k==NameKind.free&&env.scope.kind==.function&&env.kindOf n==some .cell)=true then(n,NameKind.cell)else(n,k))::_)=_;have ih:=@iq scope env x r
  grind
section
variable{X:Cx}{scope:Scope}{caps:List Nat}{N tn:Gm}{js:Gg}{Y:St}{H:Hp}{s:Shared}{fp:Gk}{C:Addr}
def mF(cs:dz X scope caps N tn)(I:Inv X js Y H s)(hf:∀b∈fp,ku X js H b)(hlt:∀b∈fp,b<s.heap.objs.size)(hC:s.heap.objs.size<=C):(cxC X scope C N s H fp).Ok where
 mod:=I.ok.mod
 kind:=by show(relabel scope X.env).kind=_;exact cs.kind
 glob:=I.ok.glob
 blt:=I.ok.blt
 above:=hC
 inj:=fun x y c h1 h2=>by
  have old:∀z,(dy X.env.cells scope.names []).lookup z=some c->c<s.heap.objs.size:=fun z hz=>let⟨_,hv⟩:=I.cell z c (fg hz);hv.lt
  rcases iQ h1 with⟨l1,_,m1⟩|h1<;>rcases iQ h2 with⟨l2,_,m2⟩|h2
  ·exact name_of_addr (ki (l:=[]) (fun _ z=>nomatch z) Pairwise.nil) m1 m2
  ·grind
  ·grind
  ·exact I.ok.inj x y c (fg h1) (fg h2)
 has:=fun x hx=>by
  have hx:(relabel scope X.env).names.lookup x=some .cell \/(relabel scope X.env).names.lookup x=some .free:=hx;have m:(x,NameKind.free)∈ scope.names \/(x,NameKind.cell)∈ scope.names:=by
   rcases hx with h|h
   ·exact ip h (.inl rfl)
   ·exact ip h (.inr rfl)
  refine isSome_iff_exists.mp (mH (l:=dy X.env.cells scope.names []) ?_);rcases m with m|m
  ·obtain⟨c,hc⟩:=I.ok.has x (cs.free _ m rfl);exact .inr (by rw[gQ (fh (acc:=[]) fun _ z=>nomatch z) (gw hc m)];rfl)
  ·exact .inl m
 cab:=fun x c h hc=>by
  have h':(scope.names.lookup x==some NameKind.cell)=true:=h;have hx:scope.names.lookup x=some .cell:=by simpa using h'
  have hs:s.heap.objs.size<=C:=hC;have hc:(oK X scope C).lookup x=some c:=hc;obtain⟨d,hd⟩:=isSome_iff_exists.mp (mH (a:=C+1) (l:=[]) (.inl (PySem.mem_of_lookup hx)));unfold oK at hc;rw[show dy X.env.cells scope.names []=[]++ dy X.env.cells scope.names []from rfl,kh,j8,hd]at hc;cases hc;rcases kg (PySem.mem_of_lookup hd)with z|z
  ·cases z
  ·exact Nat.le_trans hs (Nat.le_trans (le_succ _) z.1)
 hd:=I.ok.hd
 frames:=I.ok.frames
 stk:=.inl rfl
 exf:=fun b hb=>⟨Nat.ne_of_lt (Nat.lt_of_lt_of_le (hlt b hb) hC),fun x c h=>by
  rcases iQ h with⟨l1,_,_⟩|h
  ·exact fun z=>absurd (Nat.lt_of_lt_of_le (hlt b hb) (Nat.le_trans hC (Nat.le_trans (le_succ _) l1))) (by rw[z];exact Nat.lt_irrefl _)
  ·exact(hf b hb).2.2.2.2.1 x c (fg h)⟩
 bs:=I.bs
 bsz:=Nat.le_trans I.ok.bsz I.sz
 noex:=fun b o e hb=>by
  rcases(hf b hb).2.2.2.1 with z|z
  ·exact I.ok.noex b o e z
  ·exact absurd (Nat.lt_of_lt_of_le (lt_size e) (Nat.le_trans I.ok.bsz z)) (Nat.lt_irrefl _)
 exfs:=fun b hb hs=>by
  rcases mem_cons.mp (I.stkSub b hs)with z|z
  ·exact(hf b hb).2.1 z
  ·exact(hf b hb).2.2.1 z
 funs:=I.stack
 frf:=I.stkFree
def mI(caps:List Nat)(k:Nat)(Y:St):St:=caps.map (fun i=>(Y[i]?).join)++ replicate k none
def vW(cs:dz X scope caps N tn)(I:Inv X js Y H s)(hf:∀b∈fp,ku X js H b)(hlt:∀b∈fp,b<s.heap.objs.size)
  (hns:h₁.Ns (s.heap.objs.size+1) fun _=>none) (hD:h₁.get? s.heap.objs.size=some {cls:=.type "list",data:=.seq ([]:Gj).toArray}) (old:∀b o,s.heap.get? b=some o->h₁.get? b=some o)
  (hcl:∀n c,(n,c)∈ cellsFrom (s.heap.objs.size+1+1) scope.names []->h₁.IsCell c none) :
  Inv (cxC X scope (s.heap.objs.size+1) N s H fp) [] (mI caps tn.length Y) (upd H s.heap.objs.size (.lst [])) {s with heap:=h₁,toks:=t}:=by
 have fresh:∀b,s.heap.objs.size<=b->H b=none:=fun b hb=>I.hok.fresh hb;have neD:s.heap.objs.size+1≠s.heap.objs.size:=Nat.succ_ne_self _;have ltc:∀x c,(dy X.env.cells scope.names []).lookup x=some c->∃v,s.heap.IsCell c v:=fun x c h=>I.cell x c (fg h);refine⟨mF cs I hf hlt (le_succ _),rfl,I.bare,Un.laid old (Nat.le_refl _) (fresh _ (Nat.le_refl _)),⟨_,hns,fun i y v h1 h2 h3=>?_⟩,fun x c h=>?_,?_,fun x c h=>?_,fun p hp=>absurd (show p ∈([]:Gg)from hp) (by simp),?_,?_⟩
 ·have hi:i<caps.length:=by
   unfold mI at h2;by_cases hi:i<caps.length
   ·exact hi
   ·rw[getElem?_append_right (by simpa using hi),getElem?_replicate]at h2;split at h2<;>cases h2
  unfold mI at h2;rw[getElem?_append_left (by simpa using hi),getElem?_map]at h2;obtain⟨j,hj,e2⟩:=map_eq_some_iff.mp h2;have hjc:j∈caps:=List.mem_of_getElem? hj;have hjN:=cs.capN j hjc;have hy:X.N[j]?=some y:=by
   have h1':N[i]?=some y:=h1;rw[cs.eN,getElem?_append_left (by simpa using hi),getElem?_map,hj]at h1';have:X.N.getD j ""=y:=by simpa using h1'
   rw[<- this];simp[hjN]
  have hσ:Y[j]?=some (some v):=by
   cases e:Y[j]? with
   |none=>rw[e]at e2;cases e2
   |some w=>rw[e]at e2;simp only[join_some]at e2;rw[e2]
  obtain⟨m0,hn0,hl⟩:=I.loc;obtain⟨hm,hlk⟩:=cs.capF j hjc y hy;have hk:=cs.free _ hm rfl;dsimp only at hk;have hvis:Vis X.env.scope y:=by
   rcases hk with z|z
   ·exact .inr (.inl z)
   ·exact .inr (.inr z)
  obtain⟨u,ru,lk⟩:=hl j y v hy hσ hvis;refine⟨u,ru,.inr ?_⟩;rcases lk with⟨z,_⟩ |⟨_,c,hc,hcell⟩
  ·rcases hk with w|w
   ·rw[z]at w;cases w
   ·rw[z]at w;cases w
  ·refine⟨iq (scope:=scope) hlk,c,BU (fun z=>?_) (gQ (fh (acc:=[]) fun _ z=>nomatch z) (gw hc hm)),hcell.keeps old⟩;have:=cs.cel _ z rfl;rw[hlk]at this;cases this
 ·rcases iQ h with⟨_,_,m⟩|h
  ·exact⟨none,hcl x c m⟩
  ·obtain⟨v,hv⟩:=ltc x c h;exact⟨v,hv.keeps old⟩
 ·show upd H _ _ (s.heap.objs.size+1)=none;rw[az neD];exact fresh _ (le_succ _)
 ·rcases iQ h with⟨l1,_,_⟩|h2
  ·rw[az (Nat.ne_of_gt (Nat.lt_of_lt_of_le (Nat.lt_succ_of_lt (lt_succ_self _)) l1))];exact .inl (fresh _ (Nat.le_trans (Nat.le_succ_of_le (le_succ _)) l1))
  ·obtain⟨v,hv⟩:=ltc x c h2;rw[az (Nat.ne_of_lt hv.lt)];exact(I.freeC x c (fg h2)).imp (fun z=>z) fun q=>⟨Bool.eq_false_iff.mpr fun e=>Nat.lt_irrefl _ (Nat.lt_of_lt_of_le hv.lt ((mF cs I hf hlt (le_succ _)).cab x c e h)),q.2⟩
 ·exact I.hok.laid old (Nat.le_refl _) ⟨zero_le _,[],_,.nil,hD⟩
 ·show(mI caps tn.length Y).length=N.length;rw[cs.eN];simp[mI]
end
end L2
namespace PR
open PySem PySem.Spec L2
def Fl.Gy:Fl->Fl
 |.own|.lnt=>.bor
 |f=>f
def PV.Gy(x:PV):PV:=x.GJ Fl.Gy
def sK(hB:∀a,B a->B' a)(hL:∀a,L a->B' a):Mp T Fl.Gy (fun _=>false) (fun _=>[]) B' F B L H F B' L' H:=
 ⟨fun f a vs _ c h=>by
  cases f with
  |own=>exact⟨c rfl,.inl h⟩
  |bor=>exact⟨hB a h.1,h.2⟩
  |lnt=>exact⟨hL a h.1,.inl h.2⟩
  | _=>exact h,fun f a _ c h=>⟨by
  cases f with
  |own=>exact c rfl
  |bor=>exact hB a h
  |lnt=>exact hL a h
  |_=>exact h,fun _ q=>q⟩,fun f a x y h=>by cases f<;>exact⟨rfl,rfl⟩,rfl,fun _ _=>rfl,fun _ _ q _=>q⟩
def Rel.Gy(hB:∀a,B a->B' a)(hL:∀a,L a->B' a)(hp:∀a∈fo,B' a)(h:Rel T F B L H x v fo):Rel T F B' L' H (x.GJ Fl.Gy) v []:=(sK hB hL).rel (kc x) hp h
mutual
def ib:∀x:PV,(x.GJ Fl.Gy).has Fl.Gz=false
 |.non|.bl _|.int _|.str _=>rfl
 |.lst f xs=>by simp only[PV.GJ,PV.has,borrow_ownL xs,Bool.or_false];cases f<;>rfl
 |.tup xs=>by simp only[PV.GJ,PV.has,borrow_ownL xs]
 |.obj f c ks xs=>by simp only[PV.GJ,PV.has,borrow_ownL xs,Bool.or_false];cases f<;>rfl
 |.exc _=>rfl
 |.box k xs=>by simp only[PV.GJ,PV.has,borrow_ownL xs]
def borrow_ownL:∀xs:Gs,hasL Fl.Gz (mapL Fl.Gy xs)=false
 | []=>rfl
 |x::xs=>by simp only[mapL,hasL,ib x,borrow_ownL xs,Bool.or_false]
end
def ItC(T:Tb)(F B L:Gh)(H1:Hp)(J:It)(xs:Gs):Prop:=
 ∀H2,Ext H1 H2->(∀(i:Nat) x,xs[i]?=some x->J.go i H2/\∀v H3,J.yld i H2 v H3->Ext H2 H3/\∃f,(∀a∈f,∃o,H1 a=some o)/\Rel T F B L H3 x v f)/\J.stop xs.length H2
def ItC.of0(h:∀H2,Ext H1 H2->(∀(i:Nat) x,xs[i]?=some x->J.go i H2/\∀v H3,J.yld i H2 v H3->H3=H2/\∃f,Rel T F B L H1 x v f)/\J.stop xs.length H2):ItC T F B L H1 J xs:=fun H2 hk=>by obtain⟨a,b⟩:=h H2 hk;refine⟨fun i x e=>⟨(a i x e).1,fun v H3 hy=>?_⟩,b⟩;obtain⟨rfl,f,r⟩:=(a i x e).2 v H3 hy;exact⟨Ext.refl,f,fun a ha=>r.there a ha,r.ext hk fun _ h=>h⟩
def GIc(T:Tb)(W:Nat->St->Gq)(B F L:Gh)(Y:St)(H:Hp)(R:It->Gq):Res (Gs)->Prop
 |.ok xs=>∀J H1 F1,Gr F H F1 H1->ItC T F1 B L H1 J xs->R J H1
 |.exc c=>∀H',Ext H H'->W c Y H'
 |.stuck=>False
def tIc(T:Tb)(W:Nat->St->Gq)(m:MI):TI:=fun Y H R=>∃Z F env fp,ak T Z F H Y env fp/\GIc T W Z.B F (Own fp) Y H R (m env)
abbrev SIc(X:Cx)(T:Tb)(W:Nat->St->Gq)(tg iter:Expr)(m:MI):Prop:=PI X tg iter (tIc T W m)
def cq(m:ME):MI:=fun env=>(m env).bind fun x=>match aN x with
 |some xs=>.ok xs
 |none=>.stuck
section
variable{X:Cx}{T:Tb}{W:Nat->St->Gq}{Z:Zn}{F F1 B L:Gh}{H H1:Hp}{Y:St}{env:En}{fp:Nat->Gk}{D:Ends}
def bM(hK:X.K=T.K)(he:SE X T W e m):SIc X T W tg e (cq m):=fun js s Y H R I h=>uW he js s Y H R I (by
 obtain⟨Z,F,env,fp,S,q⟩:=h;unfold cq at q;refine tE.bq S fun x v H1 F1 f1 e1 g1 r1 n1 d1 w1=>?_;rw[e1]at q;simp only[Res.GL]at q;cases es:aN x with
 |none=>rw[es]at q;exact q.elim
 |some xs=>
  rw[es]at q;obtain⟨a,vs,f',rfl,hs,hr,_⟩:=r1.seq es;refine⟨a,rfl,?_⟩;rw[hK];rcases hs with hs|hs
  ·refine .inl ⟨vs,hs,q _ H1 F1 g1 (ItC.of0 fun H2 hx=>?_)⟩;have h2:SqL T.K H2 a vs:=by
    rcases hs with z|z
    ·exact .inl (Rd.tr (fun o q=>hx a o q) z)
    ·exact .inr z
   refine⟨fun i x ex=>?_,⟨vs,h2,by rw[hr.length];exact Nat.le_refl _⟩⟩;obtain⟨v,f,ev,rv,_⟩:=hr.get ex;refine⟨⟨vs,v,h2,ev⟩,fun w H3 hy=>⟨hy.1,f,?_⟩⟩;have:=hy.2 vs h2;rw[ev]at this;cases this;exact rv
  ·refine .inr ⟨vs,hs,q _ H1 F1 g1 (ItC.of0 fun H2 hx=>?_)⟩;have h2:SqT T.K H2 a vs:=SqT.tr (fun o q _=>hx a o q) hs;refine⟨fun i x ex=>?_,⟨vs,h2,by rw[hr.length];exact Nat.le_refl _⟩⟩;obtain⟨v,f,ev,rv,_⟩:=hr.get ex;refine⟨⟨vs,v,h2,ev⟩,fun w H3 hy=>⟨hy.1,f,?_⟩⟩;have:=hy.2 vs h2;rw[ev]at this;cases this;exact rv)
def yN:ItC T F1 B L H1 (Itr lo n) (ck lo n):=by
 apply ItC.of0;intro H2 _;refine⟨fun i x ex=>?_,by simp[ck,Itr]⟩;have hi:i<n:=by have:=(List.getElem?_eq_some_iff.mp ex).1;simpa[ck]using this
 refine⟨hi,fun v H3 hy=>⟨hy.1,[],?_⟩⟩;obtain⟨_,rfl⟩:=hy;have:x=.int (lo+(i:Nat)):=by simp[ck,hi]at ex;exact ex.symm
 subst this;exact dE
def cM(hg:Gl X "range")(hm:X.mg "range" = none)(ha:SA X T W [a] ms)(hs:starEach [a] X.env=[(false,eval a X.env)]:=by rfl):SIc X T W tg (.Call (.Name "range" p) [a] [] pos) (b7 ms):=fun js s Y H R I h=>k6 hg hm ha hs js s Y H R I (by
 obtain⟨Z,F,env,fp,S,q⟩:=h;unfold b7 at q;refine tA.bq S fun xs vs H1 F1 f1 e1 g1 r1 n1 d1 w1=>?_;rw[e1]at q;simp only[Res.GL]at q;split at q
 ·rename_i n
  split at q
  ·rename_i hc
   obtain⟨v,rfl,r2⟩:=r1.one;unfold Rel at r2;obtain⟨rfl,_⟩:=r2;have hc':-(2 ^ 62)<= n/\n<2 ^ 62:=by simpa[inR]using hc
   exact⟨n,rfl,hc'.1,hc'.2,q _ H1 F1 g1 yN⟩
  ·exact q.elim
 ·exact q.elim)
abbrev WF:Nat->St->Gq:=fun _ _ _=>False
def STs(X:Cx)(T:Tb)(W:Nat->St->Gq)(ifs:List Expr)(m:MT):Prop:=
 ∀(js:Gg) (s:Shared) (Y:St) (H:Hp) (Q:Bool->Gq),L2.Inv X js Y H s->tT T W m Y H Q ->
  wpAny (model X.prog X.w) X.A (forIn ifs true fun c r=>if r=true then do let ok <- isTrue c X.env (eval c X.env);pure (ForInStep.yield ok)else pure (ForInStep.yield r)) (TP X js Y Q) X.xe s
def bT:MT:=fun _=>.ok true
def bL:STs X T W [] bT:=fun js s Y H Q I ⟨Z,F,env,fp,S,q⟩=>wpAny_tests_nil ⟨H,I,q H F (Gr.refl S.hp.ft)⟩
def cT(h:ST X T W c m):STs X T W [c] m:=fun js s Y H Q I q=>wpAny_tests_one (h js s Y H Q I q)
structure fO(g:TgM)(k:Nat):Prop where
 keep:∀x env e',g x env=some e'->e'.length=env.length/\∀j<k,e'[j]?=env[j]?
 own:∀x env e',g x env=some e'->x.has Fl.Gz=false->∀(j:Nat) pv,e'[j]?=some (some pv)->env[j]?=some (some pv)\/ pv.has Fl.Gz=false
structure jH(g:qb)(k:Nat):Prop where
 keep:∀x env e',g x env=some e'->e'.length=env.length/\∀j<k,e'[j]?=env[j]?
 own:∀x env e',g x env=some e'->hasL Fl.Gz x=false->∀(j:Nat) pv,e'[j]?=some (some pv)->env[j]?=some (some pv)\/ pv.has Fl.Gz=false
def ui(h:k<=i):fO (tgN i) k:=by
 refine⟨fun x env e' e=>?_,fun x env e' e hx j pv hj=>?_⟩
 ·unfold tgN at e;split at e
  ·cases e;exact⟨by simp,fun j hj=>getElem?_set_ne (by omega)⟩
  ·cases e
 ·unfold tgN at e;split at e
  ·cases e;by_cases hij:i=j
   ·subst hij;have hl:i<env.length:=by have:=(List.getElem?_eq_some_iff.mp hj).1;simpa using this
    rw[getElem?_set_self hl]at hj;cases hj;exact .inr hx
   ·rw[getElem?_set_ne hij]at hj;exact .inl hj
  ·cases e
def jJ:jH fX k:=by
 refine⟨fun x env e' e=>?_,fun x env e' e _ j pv hj=>?_⟩
 ·cases x with
  |nil=>cases e;exact⟨rfl,fun _ _=>rfl⟩
  |cons _ _=>cases e
 ·cases x with
  |nil=>cases e;exact .inl hj
  |cons _ _=>cases e
def d7(h1:fO g k)(h2:jH u k):jH (bF g u) k:=by
 refine⟨fun x env e' e=>?_,fun x env e' e hx j pv hj=>?_⟩
 ·cases x with
  |nil=>cases e
  |cons y ys=>
   simp only[bF]at e;cases e1:g y env with
   |none=>rw[e1]at e;cases e
   |some e2=>rw[e1]at e;obtain⟨l1,k1⟩:=h1.keep y env e2 e1;obtain⟨l2,k2⟩:=h2.keep ys e2 e' e;exact⟨l2.trans l1,fun j hj=>(k2 j hj).trans (k1 j hj)⟩
 ·cases x with
  |nil=>cases e
  |cons y ys=>
   simp only[hasL,or_eq_false_iff]at hx;simp only[bF]at e;cases e1:g y env with
   |none=>rw[e1]at e;cases e
   |some e2=>
    rw[e1]at e;rcases h2.own ys e2 e' e hx.2 j pv hj with z|z
    ·exact h1.own y env e2 e1 hx.1 j pv z
    ·exact .inr z
def lL(h:jH u k):fO (tgT n u) k:=by
 refine⟨fun x env e' e=>?_,fun x env e' e hx j pv hj=>?_⟩
 ·cases x with
  |tup xs=>
   simp only[tgT]at e;split at e
   ·exact h.keep xs env e' e
   ·cases e
  |_=>cases e
 ·cases x with
  |tup xs=>
   simp only[tgT]at e;simp only[PV.has]at hx;split at e
   ·exact h.own xs env e' e hx j pv hj
   ·cases e
  |_=>cases e
def bE(caps:List Nat)(k:Nat)(env:En):En:=caps.map (fun i=>((env[i]?).join).map PV.Gy)++ replicate k none
def cI(g:TgM)(mc:MT)(me:ME)(env:En):Gs->Res (Gs)
 | []=>.ok []
 |x::xs=>match g x.Gy env with
  |none=>.stuck
  |some e=>(mc e).bind fun b=>if b then(me e).bind fun y=>if y.has Fl.GD||y.has Fl.GB then .stuck else(cI g mc me env xs).bind fun ys=>.ok (y::ys)else cI g mc me env xs
def aZ(caps:List Nat)(k:Nat)(mi:MI)(g:TgM)(mc:MT)(me:ME):ME:=fun env=>(mi env).bind fun xs=>if xs.length <= 10000000 then (match cI g mc me (bE caps k env) xs with
 |.ok ys=>.ok (.lst .own ys)
 |_=>.stuck)else .stuck
end
section
variable{prog:Program}{w:World}{A:Around}{R:Result->Shared->Prop}{s:Shared}
def mG(I:Nat->Shared->Prop)
  (turn:∀ n s,I n s->wpAny (model prog w) A (pyNext it) (fun r s₁=>match r with
   |none=>R (.ok .next) s₁
   | some v=>wpAny (model prog w) A (letOwnedTupleGo target it v) (fun _ s₁'=>wpAny (model prog w) A (assign target env v) (fun _ s₂=>
     wpAny (model prog w) A (forIn ifs true fun c r=>if r=true then do let ok <- isTrue c env (eval c env);pure (ForInStep.yield ok) else pure (ForInStep.yield r)) (fun ok s₃=>
      if ok=true then wpAny (model prog w) A (eval elt env) (fun x s₄=>
       wpAny (model prog w) A (call (.builtin "list.append") [acc,x]) (fun _ s₅=>∃m,m<n/\I m s₅) (notedBy (model prog w) A env fun e s'=>R (.error e) s') s₄) (notedBy (model prog w) A env fun e s'=>R (.error e) s') s₃
      else ∃m,m<n/\I m s₃) (notedBy (model prog w) A env fun e s'=>R (.error e) s') s₂) (notedBy (model prog w) A env fun e s'=>R (.error e) s') s₁') (notedBy (model prog w) A env fun e s'=>R (.error e) s') s₁) (notedBy (model prog w) A env fun e s'=>R (.error e) s') s)
  (n:Nat) (h:I n s) :
  codeAny (model prog w) A (.compLoop (.ListComp elt [⟨target,iter,ifs,0⟩] scope pos) 0 it acc env) R s:=by
 refine codeAny_loop rfl I (fun n s hI=>?_) n h;show wpAny _ A ((compTurn (.ListComp elt [⟨target,iter,ifs,0⟩] scope pos) 0 it acc env).onRaise (fun x=>do noteFrame x env;theTreesLotGoes x)) _ _ s;refine wpAny_noted ?_;rw[compTurn_list];refine wpAny_bind (wpAny_standAt (wpAny_bind (wpAny_mono (turn n s hI) (fun r s₁ h₁=>?_) fun _ _ h'=>h')));cases r with
 |none=>exact wpAny_pure h₁
 |some v=>
  refine wpAny_bind (wpAny_mono h₁ (fun _ s₁' h₁'=>?_) fun _ _ h'=>h');refine wpAny_bind (wpAny_mono h₁' (fun _ s₂ h₂=>wpAny_bind (wpAny_mono h₂ (fun ok s₃ h₃=>?_) fun _ _ h'=>h')) fun _ _ h'=>h');cases ok with
  |false=>exact wpAny_pure ⟨rfl,h₃⟩
  |true=>exact wpAny_bind (wpAny_bind (wpAny_mono h₃ (fun x s₄ h₄=>wpAny_bind (wpAny_mono h₄ (fun _ s₅ h₅=>wpAny_pure (wpAny_pure ⟨rfl,h₅⟩)) fun _ _ h'=>h')) fun _ _ h'=>h'))
end
end PR
namespace PR
open PySem PySem.Spec L2
section
variable{X:Cx}{T:Tb}{W:Nat->St->Gq}{Z:Zn}{F F1 B L:Gh}{H H1:Hp}{Y:St}{env:En}{fp:Nat->Gk}{D:Ends}
def ak.wk(S:ak T Z F H Y env fp)(hpin:Z.pin=none)(hl:e2.length=env.length)(h:∀(i:Nat) pv,e2[i]?=some (some pv)->env[i]?=some (some pv)):ak T Z F H Y e2 fp:=
 ⟨S.hp,S.len.trans hl.symm,fun i pv e=>S.rel i pv (h i pv e),S.nd,S.dj,S.dis,S.new,S.ch,fun v hv=>by rw[hpin]at hv;cases hv⟩
def ak.GK(S:ak T Z F H Y env fp)(h:∀(i:Nat) pv,env[i]?=some (some pv)->pv.has Fl.Gz=false):ak T Z F H Y env (fun _=>[]):=
 ⟨S.hp,S.len,fun i pv e=>by
  obtain⟨v,h1,h2⟩:=S.rel i pv e;have:=Rel.GK (h i pv e) h2;rw[this]at h2;exact⟨v,h1,h2⟩,fun _=>nodup_nil,fun _ _ _ _ z=>(nomatch z),fun _ _ z=>(nomatch z),fun _ _ z=>(nomatch z),fun _ _ z=>(nomatch z),S.pn⟩
def ak.updD(S:ak T Z F H Y env (fun _=>[]))(hF:¬F Dd)(h0:Z.H0 Dd=none)(hD:H Dd=some o)(hfx:¬dQ o):ak T Z F (upd H Dd o') Y env (fun _=>[]):=by
 have ne:∀a u,H a=some u->(F a\/Z.B a\/NoL a\/dQ u)->a≠Dd:=(by grind[aI,ak,bB,Gr])
 refine⟨⟨S.hp.bo,fun a u e n=>?_,S.hp.f0,S.hp.fn,fun a h=>?_⟩,S.len,fun i pv e=>?_,S.nd,S.dj,fun _ _ z=>(nomatch z),S.new,fun _ _ z=>(nomatch z),S.pn⟩
 ·have:a≠Dd:=fun z=>by rw[z,h0]at e;cases e
  rw[az this];exact S.hp.keep a u e n
 ·obtain⟨u,e⟩:=S.hp.ft a h;exact⟨u,by rw[az (show a≠Dd from fun z=>hF (by rw[<- z];exact h))];exact e⟩
 ·obtain⟨v,h1,h2⟩:=S.rel i pv e;refine⟨v,h1,Rel.tr (fun _ h=>h) (fun _ h=>h) (fun _ h=>h) (fun a u q h=>?_) (fun _ z=>(nomatch z)) h2⟩;rw[az (ne a u q h)];exact q
def zC(F:Gh)(H:Hp):Zn:=⟨H,F,fun _=>False,fun a=>∃o,H a=some o,none⟩
def tZ(S:ak T Z F H Y env fp)(hD:H Dd=none)(hFD:¬F Dd) :
  ak T (zC F H) F (upd H Dd (.lst [])) (mI caps k Y) (bE caps k env) (fun _=>[]):=by
 have ext:Ext H (upd H Dd (.lst [])):=Ext.upd hD;refine⟨⟨⟨fun a h=>⟨h,fun z=>z⟩,S.tbo Ext.refl fun _ z=>False.elim z⟩,fun a o h _=>ext a o h,fun _ h=>h,fun _ h=>.inl h,fun a h=>let⟨o,e⟩:=S.hp.ft a h;⟨o,ext a o e⟩⟩,by simp[mI,bE],fun i pv e=>?_,fun _=>nodup_nil,fun _ _ _ _ z=>(nomatch z),fun _ _ z=>(nomatch z),fun _ _ z=>(nomatch z),fun _ _ z=>(nomatch z),fun _ h=>(nomatch h)⟩;unfold bE at e;unfold mI;by_cases hi:i<caps.length
 ·rw[getElem?_append_left (by simpa using hi),getElem?_map]at e ⊢;obtain⟨j,hj,e2⟩:=map_eq_some_iff.mp e;rw[hj];obtain⟨pv0,e3,rfl⟩:=map_eq_some_iff.mp e2;have e4:env[j]?=some (some pv0):=by
   cases e5:env[j]? with
   |none=>rw[e5]at e3;cases e3
   |some w=>rw[e5]at e3;simp only[join_some]at e3;rw[e3]
  obtain⟨v,h1,h2⟩:=S.rel j pv0 e4;refine⟨v,by simp[h1],?_⟩;refine Rel.Gy (B:=fun a=>∃o,H a=some o) (L:=NoL) (fun _ h=>h) (fun _ h=>h.elim) (fun a ha=>(S.dis j a ha).2) ?_;exact Rel.tr (fun _ h=>h) (fun a h=>let⟨⟨o,h1⟩,h2⟩:=S.hp.bo.1 a h;⟨o,S.hp.keep a o h1 h2⟩) (fun _ h=>h) (fun a o q _=>ext a o q) (fun a _ o q=>ext a o q) h2
 ·rw[getElem?_append_right (by simpa using hi),getElem?_replicate]at e;split at e<;>cases e
set_option maxHeartbeats 1000000 in
def lB
  (cs:dz X scope caps N tn) (hc:X.calm=true) (hi:SIc X T W tg iter mi) (hk:fO g caps.length)
  (hb:∀C s H ex,SG (cxC X scope C N s H ex) T tg g/\STs (cxC X scope C N s H ex) T WF ifs mc/\SE (cxC X scope C N s H ex) T WF elt me)
  (hs:∀x,foldedSetIterable iter X.env x=pure x) (I:L2.Inv X js Y H s) (h:tE T W (aZ caps tn.length mi g mc me) Y H Q)
  (hfin:∀(Dd C:Addr) (H':Hp) (s6:Shared) (m:Ge),Q (.ref Dd) H'->L2.Inv X js Y H' s6->s6.heap.Ns C m->H' C=none->C≠X.env.locals->C∉X.fs->X.s₀.heap.objs.size<=C->(∀x c,X.env.cells.lookup x=some c->c≠C)->(∀p∈X.pn++js,p.1≠C)->compPost (model X.prog X.w) X.A X.xe use Q' (.ref Dd) C (.ok .next) s6) :
  wpAny (model X.prog X.w) X.A (comprehension (.ListComp elt [⟨tg,iter,ifs,0⟩] scope pos) scope X.env p' (newList []) false (eval iter X.env) use) Q' X.xe s:=by
 obtain⟨Z,F,env,fp,S,q⟩:=h;unfold aZ at q;refine wpAny_comprehension_free (use:=use) rfl hs (kE fun y hy hf=>I.ok.has y.1 (cs.free y hy hf)) cs.kind cs.names ?_;refine thn (hi js s Y H (fun J H1=>∃F1 xs,mi env=.ok xs/\Gr F H F1 H1/\ItC T F1 Z.B (Own fp) H1 J xs) I ⟨Z,F,env,fp,S,?_⟩) fun xv s1 h1=>thn h1 fun itv s2 h2=>?_
 ·cases em:mi env with
  |ok xs=>exact fun J H1 F1 g1 it=>⟨F1,xs,rfl,g1,it⟩
  |exc c|stuck=>rw[em]at q;exact q
 obtain⟨it,fpi,tn_,J,H2,rfl,I2,Tn,st2,f2,F1,xs,em,g1,itc⟩:=h2;rw[em]at q;simp only[Res.GL]at q;split at q
 case isFalse=>exact q.elim
 rename_i hlen
 cases ec:cI g mc me (bE caps tn.length env) xs with
 |exc c|stuck=>rw[ec]at q;exact q.elim
 |ok full=>
 rw[ec]at q;dsimp only at q;have S2:=S.grow g1;have hlt:∀b∈fpi,b<s2.heap.objs.size:=fun b hb=>by obtain⟨o,ho,_⟩:=Tn.obj 0 _ st2 b hb;exact lt_size ho
 refine PySem.wpAny_newObj_type (nY fun h₁ hns₁ hsb₁ hcl₁=>?_);dsimp only at hns₁ hsb₁ hcl₁ ⊢;generalize hH2:s2.heap.push {cls:=.type "list",dict:=none,data:=.seq ([]:Gj).toArray}=P2 at hns₁ hsb₁ hcl₁ ⊢;have hC:P2.objs.size=s2.heap.objs.size+1:=by rw[<- hH2,size_push]
 have old:∀b o,s2.heap.get? b=some o->h₁.get? b=some o:=fun b o e=>hsb₁ b o (hH2▸get?_push_of_some _ e);have hDo:h₁.get? s2.heap.objs.size=some {cls:=.type "list",data:=.seq ([]:Gj).toArray}:=hsb₁ _ _ (hH2▸get?_push_size _ rfl);rw[hC]at hns₁ hcl₁;have inv0:=vW (t:=s2.toks) cs I2 f2 hlt hns₁ hDo old hcl₁;have hDH:H2 s2.heap.objs.size=none:=I2.hok.fresh (Nat.le_refl _);have hDF:¬F1 s2.heap.objs.size:=fun z=>by obtain⟨o,e⟩:=g1.dom _ z;rw[hDH]at e;cases e
 have SB:=tZ (caps:=caps) (k:=tn.length) S2 hDH hDF;obtain⟨hgN,hts,hel⟩:=hb (s2.heap.objs.size+1) s2 H2 fpi;have never:∀{α:Type}{t:Sem α}{Qa:α->Shared->Prop}{E':Gc}{s':Shared},wpAny (model X.prog X.w) X.A t Qa (fun _ _=>False) s'->wpAny (model X.prog X.w) X.A t Qa E' s':=fun h=>wpAny_mono h (fun _ _ x=>x) fun _ _ z=>z.elim;have fpok:∀{H':Hp}{pins':Gg},(∀p∈pins',p.1∉fpi)->(∀b∈fpi,H' b=none)->∀b∈fpi,ku (cxC X scope (s2.heap.objs.size+1) N s2 H2 fpi) pins' H' b:=fun {H' pins'} hp hn b hb=>by
  refine⟨hn b hb,Nat.ne_of_lt (Nat.lt_succ_of_lt (hlt b hb)),(mF cs I2 f2 hlt (le_succ _)).exfs b hb,.inl hb,((mF cs I2 f2 hlt (le_succ _)).exf b hb).2,fun p hp' z=>?_⟩;rcases mem_append.mp hp' with w|w
  ·exact absurd (show p ∈([]:Gg)from w) (by simp)
  ·exact hp p w (z▸hb)
 have key:∀s4:Shared,L2.Inv (cxC X scope (s2.heap.objs.size+1) N s2 H2 fpi) [] (mI caps tn.length Y) (upd H2 s2.heap.objs.size (.lst [])) s4->tn_ 0 s4.heap ->
   codeAny (model X.prog X.w) X.A (.compLoop (.ListComp elt [⟨tg,iter,ifs,0⟩] scope pos) 0 (.ref it) (.ref s2.heap.objs.size) (compEnvC scope (oK X scope (s2.heap.objs.size+1)) (s2.heap.objs.size+1) X.env))
    (compPost (model X.prog X.w) X.A X.xe use Q' (.ref s2.heap.objs.size) (s2.heap.objs.size+1)) s4:=by
  intro s4 inv4 st4;refine mG (fun n s'=>∃ (i:Nat) (σ':St) (H':Hp) (Fi:Gh) (ys zs:Gs) (vs:Gp) (f:Gk),n=xs.length - i/\i <= xs.length/\L2.Inv (cxC X scope (s2.heap.objs.size+1) N s2 H2 fpi) [] σ' H' s'/\tn_ i s'.heap/\(∀ b ∈ fpi,H' b=none) /\
   ak T (zC F1 H2) Fi H' σ' (bE caps tn.length env) (fun _=>[])/\H' s2.heap.objs.size=some (.lst vs)/\RelL T Fi Z.B (Own fp) H' ys vs f/\f.Nodup/\(∀a∈f,¬Fi a/\H2 a=none/\a≠s2.heap.objs.size)/\¬Fi s2.heap.objs.size/\ys.length<=i /\
   cI g mc me (bE caps tn.length env) (xs.drop i)=.ok zs/\full=ys++zs) ?_ xs.length ?_
  case refine_2=>
   refine⟨0,_,_,F1,[],full,[],[],by simp,zero_le _,inv4,st4,fun b hb=>?_,SB,aM,by unfold RelL;exact⟨rfl,rfl⟩,nodup_nil,fun _ z=>(nomatch z),hDF,zero_le _,ec,rfl⟩;rw[az (Nat.ne_of_lt (hlt b hb))];exact(f2 b hb).1
  rintro n s5 ⟨i,σ',H',Fi,ys,zs,vs,f,rfl,hil,inv5,st5,fr5,SI5,hD5,ry,nd5,nf5,nFD,hyl,ecl,efull⟩;have ext5:Ext H2 H':=fun a o e=>SI5.hp.keep a o e fun z=>z;have gr5:Gr F1 H2 Fi H':=⟨ext5,SI5.hp.f0,fun a h=>by
   rcases SI5.hp.fn a h with z|z|z
   ·exact .inl z
   ·exact .inr z
   ·exact z.elim,SI5.hp.ft⟩
  obtain⟨go,stop⟩:=itc H' ext5;by_cases hlt5:i<xs.length
  ·have hx:xs[i]?=some xs[i]:=by simp[hlt5]
   obtain⟨g5,yl⟩:=go i _ hx;rw[List.drop_eq_getElem_cons hlt5]at ecl;unfold cI at ecl;cases eg:g xs[i].Gy (bE caps tn.length env)with
   |none=>rw[eg]at ecl;cases ecl
   |some e'=>
   rw[eg]at ecl;dsimp only at ecl;refine thn (Tn.item (cxC X scope (s2.heap.objs.size+1) N s2 H2 fpi) rfl rfl rfl hc i [] s5 σ' H' _ inv5 (fpok (fun _ z=>absurd z (by simp)) fr5) st5 g5) fun r s6 hz1=>?_;obtain⟨u,hr,h6⟩:=hz1;subst hr;refine thn h6 fun _ s7 hz1=>?_;obtain⟨v,H7,inv7,rv,yy,st7,fr7⟩:=hz1;obtain⟨ex7,fx,tx,rx⟩:=yl v H7 yy
   replace SI5:=SI5.grow (Gr.same SI5.hp.ft ex7)
   replace ry:=ry.ext ex7 fun _ h=>h
   replace hD5:=ex7 _ _ hD5
   replace gr5:=gr5.trans (Gr.same gr5.dom ex7)
   replace ext5:=gr5.ext
   have pinv:=inv7.pinned (fpok (fun _ z=>absurd z (by simp)) fr7) (Tn.obj _ _ st7);have rxb:Rel T Fi (zC F1 H2).B NoL H7 xs[i].Gy v []:=by refine Rel.Gy (B:=fun a=>∃o,H2 a=some o) (L:=Own fp) (fun _ h=>h) (fun a ⟨j,hj⟩=>(S2.dis j a hj).2) (fun a ha=>tx a ha) ?_;exact Rel.tr SI5.hp.f0 (fun a h=>let⟨⟨o,h1⟩,h2⟩:=S2.hp.bo.1 a h;⟨o,S2.hp.keep a o h1 h2⟩) (fun _ h=>h) (fun a o q _=>q) (fun a _ o q=>q) rx
   refine never (thn (hgN _ s7 σ' H7 v u (fun σ8 H8=>H8=H7/\∃fp8,ak T (zC F1 H2) Fi H7 σ8 e' fp8) pinv rv ⟨zC F1 H2,Fi,bE caps tn.length env,fun _=>[],xs[i].Gy,[],SI5,rxb,ub.nil,?_⟩) fun _ s8 ⟨σ8,H8,inv8,e8,fp8,S8⟩=>?_)
   ·rw[eg];exact fun σ8 fp8 S8=>⟨rfl,fp8,S8⟩
   subst e8;obtain⟨kl,kk⟩:=hk.keep _ _ _ eg;have capOwn:∀(j:Nat) pv,(bE caps tn.length env)[j]?=some (some pv)->pv.has Fl.Gz=false:=fun j pv ej=>by
    unfold bE at ej;by_cases hj:j<caps.length
    ·rw[getElem?_append_left (by simpa using hj),getElem?_map]at ej;obtain⟨jj,_,e2⟩:=map_eq_some_iff.mp ej;obtain⟨pv0,_,rfl⟩:=map_eq_some_iff.mp e2;exact ib pv0
    ·rw[getElem?_append_right (by simpa using hj),getElem?_replicate]at ej;split at ej<;>cases ej
   have S8':ak T (zC F1 H2) Fi H8 σ8 e' (fun _=>[]):=S8.GK fun j pv ej=>by
    rcases hk.own _ _ _ eg (ib _) j pv ej with z|z
    ·exact capOwn j pv z
    ·exact z
   have back:∀{F9:Gh}{H9:Hp},ak T (zC F1 H2) F9 H9 σ8 e' (fun _=>[])->ak T (zC F1 H2) F9 H9 σ8 (bE caps tn.length env) (fun _=>[]):=fun S9=>S9.wk rfl kl.symm fun j pv ej=>by
    have hj:j<caps.length:=by
     by_cases hj:j<caps.length
     ·exact hj
     ·unfold bE at ej;rw[getElem?_append_right (by simpa using hj),getElem?_replicate]at ej;split at ej<;>cases ej
    rw[kk j hj];exact ej
   have pinback:∀{H9:Hp}{s9:Shared},L2.Inv (cxC X scope (s2.heap.objs.size+1) N s2 H2 fpi) ([]++ jW fpi s7.heap) σ8 H9 s9->L2.Inv (cxC X scope (s2.heap.objs.size+1) N s2 H2 fpi) [] σ8 H9 s9/\tn_ (i+1) s9.heap/\∀b∈fpi,H9 b=none:=fun {H9 s9} i9=>
    ⟨i9.unpinned,Tn.keep _ _ _ st7 fun b hb o e=>(i9.pin (b,o) (mem_append_right _ (mem_append_right _ (fK hb e)))).1,fun b hb=>by
     obtain⟨o,e,_⟩:=Tn.obj _ _ st7 b hb;exact(i9.pin (b,o) (mem_append_right _ (mem_append_right _ (fK hb e)))).2.1⟩
   cases emc:mc e' with
   |exc c|stuck=>rw[emc]at ecl;cases ecl
   |ok bb=>
   rw[emc]at ecl;simp only[Res.GL]at ecl;refine never (thn (hts _ s8 σ8 H8 (fun b H9=>b=bb/\∃F9,Gr Fi H8 F9 H9) inv8 ⟨zC F1 H2,Fi,e',fun _=>[],S8',?_⟩) fun ok s9 ⟨H9,inv9,eb,F9,g9⟩=>?_)
   ·rw[emc];exact fun H9 F9 g9=>⟨rfl,F9,g9⟩
   subst eb;have S9:=S8'.grow g9;have ry9:=ry.ext g9.ext g9.mono;have nf9:∀a∈f,¬F9 a:=fun a ha z=>by
    rcases g9.only a z with z|z
    ·exact(nf5 a ha).1 z
    ·obtain⟨o,e⟩:=ry.there a ha;rw[e]at z;cases z
   have nFD9:¬F9 s2.heap.objs.size:=fun z=>by
    rcases g9.only _ z with z|z
    ·exact nFD z
    ·rw[hD5]at z;cases z
   cases ok with
   |false=>simp only[false_eq_true,if_false]at ecl ⊢;obtain⟨i10,st10,fr10⟩:=pinback inv9;exact⟨xs.length-(i+1),by omega,i+1,σ8,H9,F9,ys,zs,vs,f,rfl,hlt5,i10,st10,fr10,back S9,g9.ext _ _ hD5,ry9,nd5,fun a ha=>⟨nf9 a ha,(nf5 a ha).2⟩,nFD9,by omega,ecl,efull⟩
   |true=>
    simp only[if_true]at ecl ⊢;cases eme:me e' with
    |exc c|stuck=>rw[eme]at ecl;cases ecl
    |ok y=>
    rw[eme]at ecl;simp only[Res.GL]at ecl;split at ecl
    case isTrue=>cases ecl
    rename_i hyb
    simp only[or_eq_true,not_or,Bool.not_eq_true]at hyb;cases ecr:cI g mc me (bE caps tn.length env) (xs.drop (i+1))with
    |exc c|stuck=>rw[ecr]at ecl;cases ecl
    |ok zs'=>
    rw[ecr]at ecl;simp only[Res.GL]at ecl;cases ecl;refine never (thn (hel _ s9 σ8 H9 (fun v' H10=>∃F10 f10,Gr F9 H9 F10 H10/\Rel T F10 (zC F1 H2).B (Own fun _=>[]) H10 y v' f10/\(∀a∈f10,¬F10 a)/\f10.Nodup/\∀a∈f10,H9 a=none) inv9 ⟨zC F1 H2,F9,e',fun _=>[],S9,?_⟩) fun w s10 ⟨v',H10,inv10,rw10,F10,f10,g10,r10,n10,d10,w10⟩=>?_)
    ·rw[eme];exact fun v' H10 F10 f10 g10 r10 n10 d10 w10=>⟨F10,f10,g10,r10,n10,d10,w10⟩
    have hvl:vs.length<sizeLine:=by have h1:=ry.length;have h2:sizeLine=16777216:=sizeLine_eq;omega
    have hD10:H10 s2.heap.objs.size=some (.lst vs):=g10.ext _ _ (g9.ext _ _ hD5);refine never (thn (e_ _ s10 σ8 H10 (.ref s2.heap.objs.size) [v'] (.ref s2.heap.objs.size) [w] (fun _ H11=>H11=upd H10 s2.heap.objs.size (.lst (vs++[v']))) inv10 rfl (.cons rw10 .nil) ⟨s2.heap.objs.size,vs,v',rfl,rfl,hD10,hvl,rfl⟩) fun _ s11 zz=>?_);obtain⟨_,H11,inv11,_,e11⟩:=zz;subst e11;obtain⟨i12,st12,fr12⟩:=pinback inv11;have S10:=S9.grow g10;have nFD10:¬F10 s2.heap.objs.size:=fun z=>by
     rcases g10.only _ z with z|z
     ·exact nFD9 z
     ·rw[g9.ext _ _ hD5]at z;cases z
    have ry10:=ry9.ext g10.ext g10.mono;have ryy:RelL T F10 Z.B (Own fp) (upd H10 s2.heap.objs.size (.lst (vs++[v']))) (ys++[y]) (vs++[v']) (f++f10):=by
     have ry1:Rel T F10 Z.B (Own fp) H10 y v' f10:=Rel.noL hyb.2 (Rel.noB (B':=Z.B) hyb.1 r10);have all:RelL T F10 Z.B (Own fp) H10 (ys++[y]) (vs++[v']) (f++f10):=RelL.append ry10 (by unfold RelL;exact⟨v',[],f10,[],rfl,ry1,by unfold RelL;exact⟨rfl,rfl⟩,by simp⟩);refine RelL.tr (fun _ h=>h) (fun _ h=>h) (fun _ h=>h) (fun a o e h=>?_) (fun a ha o e=>?_) all
     ·refine(az fun z=>?_).trans e;subst z;rcases h with h|h|h|h
      ·exact nFD10 h
      ·obtain⟨⟨o',h1⟩,h2⟩:=S2.hp.bo.1 _ h;rw[S2.hp.keep _ o' h1 h2]at hDH;cases hDH
      ·obtain⟨j,hj⟩:=h;obtain⟨_,o',ho'⟩:=S2.dis j _ hj;rw[hDH]at ho';cases ho'
      ·rw[hD10]at e;cases e;exact h
     ·refine(az fun z=>?_).trans e;subst z;rcases mem_append.mp ha with ha|ha
      ·exact(nf5 _ ha).2.2 rfl
      ·have:=w10 _ ha;rw[g9.ext _ _ hD5]at this;cases this
    have nf10:∀a∈f,¬F10 a:=fun a ha z=>by
     rcases g10.only a z with z|z
     ·exact nf9 a ha z
     ·obtain⟨o,e⟩:=ry9.there a ha;rw[e]at z;cases z
    refine⟨xs.length-(i+1),by omega,i+1,σ8,_,F10,ys++[y],zs',vs++[v'],f++f10,rfl,hlt5,i12,st12,fr12,back (S10.updD nFD10 hDH hD10 (fun z=>z)),aM,ryy,?_,fun a ha=>?_,nFD10,by simp;omega,ecr,by rw[efull,append_assoc];rfl⟩
    ·refine nodup_append.mpr ⟨nd5,d10,fun a ha b hb z=>?_⟩;subst z;obtain⟨o,e⟩:=ry9.there a ha;rw[w10 a hb]at e;cases e
    ·rcases mem_append.mp ha with ha|ha
     ·exact⟨nf10 a ha,(nf5 a ha).2⟩
     ·refine⟨n10 a ha,?_,fun z=>?_⟩
      ·have:=w10 a ha;exact ext5.free (g9.ext.free this)
      ·subst z;have:=w10 _ ha;rw[g9.ext _ _ hD5]at this;cases this
  ·have e:i=xs.length:=by omega
   subst e;rw[List.drop_length]at ecl;unfold cI at ecl;cases ecl;rw[append_nil]at efull;subst efull;refine thn (Tn.done (cxC X scope (s2.heap.objs.size+1) N s2 H2 fpi) rfl rfl rfl hc xs.length [] s5 σ' H' _ inv5 (fpok (fun _ z=>absurd z (by simp)) fr5) st5 stop) fun r s6 hz1=>?_;obtain⟨hr,inv6⟩:=hz1;subst hr;obtain⟨m,hn,_⟩:=id inv6.loc;have hlc:X.env.locals<s2.heap.objs.size+1:=Nat.lt_succ_of_lt I2.lt;have iX:L2.Inv X js Y H' s6:=I2.call' inv6.os inv6.base inv6.hok inv6.bare fun b hb=>⟨(f2 b hb).2.2.2.1,(f2 b hb).2.1,(f2 b hb).2.2.2.2.1,(f2 b hb).2.2.2.2.2⟩
   refine hfin _ (s2.heap.objs.size+1) H' s6 m ?_ iX hn inv6.free (Nat.ne_of_gt hlc) (I2.nofs (le_succ _)) (Nat.le_trans I2.sz (le_succ _)) (fun x c e z=>?_) (fun p hp z=>?_)
   case refine_2=>
    obtain⟨v,hv⟩:=I2.cell x c e;rw[z]at hv;exact absurd hv.lt (Nat.not_lt.mpr (le_succ _))
   case refine_3=>
    have:=lt_size (I2.pin p hp).1;rw[z]at this;exact absurd this (Nat.not_lt.mpr (le_succ _))
   refine q (.ref s2.heap.objs.size) H' Fi (s2.heap.objs.size::f) (g1.trans gr5) ?_ (fun a ha=>?_) ?_ (fun a ha=>?_)
   ·unfold Rel;exact⟨_,vs,f,rfl,hD5,ry,rfl⟩
   ·grind
   ·exact nodup_cons.mpr ⟨fun z=>(nf5 _ z).2.2 rfl,nd5⟩
   ·rcases mem_cons.mp ha with rfl|ha
    ·exact g1.ext.free hDH
    ·exact g1.ext.free (nf5 a ha).2.1
 have st0:tn_ 0 h₁:=Tn.keep _ _ _ st2 fun b _ o e=>old b o e;have lp:=key _ inv0 st0;simp only[hC];exact codeAny_compStart_list lp (Tn.self _ 0 _ _ _ st0 lp)
def xK
  (cs:dz X scope caps N tn) (hc:X.calm=true) (hi:SIc X T W tg iter mi) (hk:fO g caps.length)
  (hb:∀C s H ex,SG (cxC X scope C N s H ex) T tg g/\STs (cxC X scope C N s H ex) T WF ifs mc/\SE (cxC X scope C N s H ex) T WF elt me)
  (hs:∀x,foldedSetIterable iter X.env x=pure x:=by intro _;rfl):SE X T W (.ListComp elt [⟨tg,iter,ifs,0⟩] scope pos) (aZ caps tn.length mi g mc me):=by
 intro js s Y H Q I h;rw[eval_ListComp];refine lB cs hc hi hk hb hs I h fun Dd C H' s6 m hq iX hn hCn hCl hCf hC0 hCc hCp=>⟨m,hn,fun h' hs'=>⟨.ref Dd,H',?_,rfl,hq⟩⟩
 exact iX.turned (t':=s6.toks) (fun b o hb e=>(hs'.2 b hb).trans e) hCn hCl (.inr hC0) hCc hCp
def xq
  (cs:dz X scope caps N tn) (hc:X.calm=true) (hN:X.N.Nodup) (hy:X.N[i]?=some y) (hx:Loc X.env.scope y) (hi:SIc X T W tg iter mi) (hk:fO g caps.length)
  (hb:∀C s H ex,SG (cxC X scope C N s H ex) T tg g/\STs (cxC X scope C N s H ex) T WF ifs mc/\SE (cxC X scope C N s H ex) T WF elt me)
  (hsw:swapsWith (.ListComp elt [⟨tg,iter,ifs,0⟩] scope pos) (some (.Name y py)) spos.line X.env=pure true:=by rfl)
  (hs:∀x,foldedSetIterable iter X.env x=pure x:=by intro _;rfl)
  (hf:X.fn y=true\/X.env.scope.names.lookup y=some .local:=by first|exact .inl rfl|exact .inr rfl|assumption) :
  SS X T W (.Assign [.Name y py] (.ListComp elt [⟨tg,iter,ifs,0⟩] scope pos) spos) (a6 i (aZ caps tn.length mi g mc me)):=by
 intro js s Y H D I h;obtain⟨Z,F,env,fp,S,q⟩:=h;unfold a6 at q;rw[exec_Assign_Name_used _ _ _ _ hsw];refine wpAny_bind (wpAny_standAt (wpAny_bind ?_));show wpAny _ X.A (do let _ <- comprehension (.ListComp elt [⟨tg,iter,ifs,0⟩] scope pos) scope X.env _ (newList []) false (eval iter X.env) (some (assign (.Name y py) X.env))) _ _ s;refine wpAny_bind (wpAny_mono (lB (use:=some (assign (.Name y py) X.env)) (Q':=fun _ s'=>SP X js D .next s') (Q:=fun v H1=>D.nx (Y.set i (some v)) H1) cs hc hi hk hb hs I ?_ fun Dd C H' s6 m hq iX hn hCn hCl hCf hC0 hCc hCp=>?_) (fun _ s' hq=>wpAny_pure (wpAny_pure hq)) fun _ _ e=>e)
 ·refine tE.bind S (fun c e H' x=>?_) (fun e=>by rw[e]at q;exact q) fun pv v H1 F1 f e g r h1 h2 h3=>?_
  ·rw[e]at q;exact q F H' Y fp (S.grow (Gr.same S.hp.ft x))
  ·rw[e]at q;simp only at q;split at q
   ·rename_i hl
    rw[and_eq_true]at hl;exact q F1 H1 _ _ (S.putN g hl.2 r hl.1 h1 h2 h3)
   ·exact q.elim
 ·refine wpAny_assign_Name (kP (v:=.ref Dd) (u:=.ref Dd) iX hN hy hx rfl (fun s7 i7 ⟨a,hsa,ha⟩=>?_) hf);have hCa:C≠a:=by
   rcases ha with ha|ha
   ·rw[ha];exact hCl
   ·exact fun z=>hCc y a ha z.symm
  refine⟨m,hn.sameBut hsa hCa,fun h' hs'=>⟨_,H',?_,hq⟩⟩;exact i7.turned (t':=s7.toks) (fun b o hb e=>(hs'.2 b hb).trans e) hCn hCl (.inr hC0) hCc hCp
end
def GFI(T:Tb)(Z:Zn)(v0:V)(Q:VK)(E:XK):Gu->Prop
 |.ok pv=>∀F H f,bB T Z F H->Rel T F Z.B NoL H pv v0 f->f.Nodup->(∀a∈f,¬F a)->(∀a∈f,Z.H0 a=none\/Z.fp0 a)->Q .non H
 |.exc c=>∀H,(∀a o,Z.H0 a=some o->¬Z.fp0 a->H a=some o)->E (.ref (T.xcl c)) none H
 |.stuck=>False
def spI(T:Tb)(n:Nat)(m:Gs->Gu):Sp:=fun vs H Q E=>vs.length=n/\∃v0 pvs F B f,vs[0]?=some v0/\mV T F B H pvs vs f/\(∃fl c ks xs,pvs[0]?=some (.obj fl c ks xs))/\GFI T ⟨H,F,(·∈f),B,some v0⟩ v0 Q E (m pvs)
def gJ(n:Nat)(m:MS)(args:Gs):Gu:=match m (args.map some++replicate (n-args.length) none)with
 |.next e=>match e[0]? with
  |some (some o)=>.ok o
  |_=>.stuck
 |.exc c _=>.exc c
 |_=>.stuck
section
variable{P:Program}{w:World}{K:PySem.W.Frag}{mg:Ge}{base:Heap}{T:Tb}
def Bu(F:Fun K x qual st f fd)(S:cL N ps (aw st))
  (body:∀ (cdv:Value) (A:Around) (outer:List Env) (s:Shared) (H:Hp) (E:XK),cG k (A.deeper (PyProof.Rows.envOfC qual (aw st) s.heap.objs.size f cdv)) ->
   SSs (cy (CXP P w) P w K mg base N qual (aw st) f cdv A outer s H E) T (WD T E) (bu st) m):b8 P w K mg base (CXP P w) (k+1) f fd ps (spI T ps.length (gJ N.length m)):=by
 obtain⟨oc,od,kV,doc,pm,an,cdv,ct,osl,rfl,lk,hcd⟩:=F.ex;refine v9 lk hcd S (fun vs H Q E h=>h.1) fun A outer s H vs Q E hr hsp=>⟨_,body cdv A outer s H E hr,?_⟩
 obtain⟨_,v0,pvs,F,B,fl,hv0,R,hob,q⟩:=hsp;obtain⟨fp,S0⟩:=gI N R (some v0) (fun v hv=>by cases hv;exact⟨hv0,hob⟩);refine⟨_,F,_,fp,S0,?_⟩;unfold gJ at q;cases e:m (pvs.map some++replicate (N.length-pvs.length) none)with
 |next e'=>
  rw[e]at q;dsimp only at q;intro F' H' σ' fp' S';obtain⟨h1,_⟩:=S'.pn v0 rfl;cases e0:e'[0]? with
  |none=>rw[e0]at q;exact q.elim
  |some o0=>
   cases o0 with
   |none=>rw[e0]at q;exact q.elim
   |some o=>rw[e0]at q;obtain⟨v,h2,r⟩:=S'.rel 0 o e0;rw[h1]at h2;cases h2;exact q F' H' (fp' 0) S'.hp r (S'.nd 0) (fun a ha=>(S'.dis 0 a ha).1) (S'.new 0)
 |ret v|brk e'|cont e'=>rw[e]at q;exact q.elim
 |exc c e'=>rw[e]at q;exact fun F' H' σ' fp' S'=>q H' S'.hp.keep
 |stuck=>rw[e]at q;exact q.elim
end
section
variable{X:Cx}{T:Tb}{W:Nat->St->Gq}{Z:Zn}{F F1 B L:Gh}{H H1:Hp}{Y:St}{env:En}{fp:Nat->Gk}{D:Ends}
def Ap
  (M:Mk X.K (T.cls c) f) (hcn:c<T.nc) (G:b8 X.prog X.w X.K X.mg X.base (CXP X.prog X.w) k f fd ps (spI T ps.length m)) (hr:cG (k+1) X.A) (hb:dR X.K fd ps ds) (hd:aE dvs ds) (hdp:∀F B L H,RelL T F B L H dps dvs []) (hx:XF X T W)
  (S:ak T Z F H Y env fp) (g:Gr F H F1 H1) (r:RelL T F1 Z.B (Own fp) H1 xs vs fx) (nf:∀a∈fx,¬F1 a) (nd:fx.Nodup) (new:∀a∈fx,H a=none) (q:GE T W Z.B F (Own fp) Y H Q (aP m (.obj .own c [] []::(xs++dps))))
  (I1:L2.Inv X js Y H1 s1) (rv:aE vs us) (hlen:vs.length+dvs.length+1=ps.length):wpAny (model X.prog X.w) X.A (call (.ref (T.cls c)) us) (EP X js Y Q) X.xe s1:=by
 have hxn:H1 (s1.heap.objs.size+1)=none:=I1.hok.fresh (le_succ _);have hdn:H1 s1.heap.objs.size=none:=I1.hok.fresh (Nat.le_refl _);have hne:s1.heap.objs.size≠s1.heap.objs.size+1:=Nat.ne_of_lt (lt_succ_self _);generalize hH2:upd (upd H1 s1.heap.objs.size (.own (s1.heap.objs.size+1))) (s1.heap.objs.size+1) (.ins (T.cls c) s1.heap.objs.size [])=H2;have ext2:Ext H1 H2:=by rw[<- hH2];exact(Ext.upd hdn).trans (Ext.upd (by rw[az hne.symm];exact hxn))
 have free2:∀a,H2 a=none->H1 a=none:=fun a h=>ext2.free h;have hx2:H2 (s1.heap.objs.size+1)=some (.ins (T.cls c) s1.heap.objs.size []):=by rw[<- hH2];exact aM
 have I2:=L2.Inv.made (C:=T.cls c) I1;rw[hH2]at I2;have r2:aE (V.ref (s1.heap.objs.size+1)::(vs++dvs)) (Value.ref (s1.heap.objs.size+1)::(us++ds)):=.cons rfl (rv.append hd);have hl:(Value.ref (s1.heap.objs.size+1)::us++ds).length=ps.length:=by have e:=r2.length;simp only[length_cons,length_append]at e hlen ⊢;omega
 have rr:RelL T F1 Z.B (Own fp) H1 (xs++dps) (vs++dvs) fx:=by
  have:=RelL.append r (hdp F1 Z.B (Own fp) H1)
  rwa [append_nil]at this
 have nx:s1.heap.objs.size+1∉fx:=fun z=>by obtain⟨o,ho⟩:=r.there _ z;rw[hxn]at ho;cases ho
 have hBo:∀a,Z.B a->(∃o,H2 a=some o)/\a ∉(s1.heap.objs.size+1)::fx:=fun a h=>by
  obtain⟨⟨o,h1⟩,h2⟩:=S.hp.bo.1 a h;have h3:=S.hp.keep a o h1 h2;refine⟨⟨o,ext2 a o (g.ext a o h3)⟩,fun z=>?_⟩;rcases mem_cons.mp z with z|z
  ·rw[z]at h3;rw[g.ext _ _ h3]at hxn;cases hxn
  ·rw[new a z]at h3;cases h3
 have hOw:∀a,Own fp a->(∃o,H2 a=some o)/\a ∉(s1.heap.objs.size+1)::fx:=fun a hz1=>by
  obtain⟨i,hi⟩:=hz1;obtain⟨_,o,ho⟩:=S.dis i a hi;refine⟨⟨o,ext2 a o (g.ext a o ho)⟩,fun z=>?_⟩;rcases mem_cons.mp z with z|z
  ·rw[z]at ho;rw[g.ext _ _ ho]at hxn;cases hxn
  ·rw[new a z]at ho;cases ho
 have nF:¬F1 (s1.heap.objs.size+1):=fun z=>by obtain⟨o,ho⟩:=g.dom _ z;rw[hxn]at ho;cases ho
 have R:mV T F1 (fun a=>(∃o,H2 a=some o)/\a ∉(s1.heap.objs.size+1)::fx) H2 (.obj .own c [] []::mapL Fl.Gw (xs++dps)) (.ref (s1.heap.objs.size+1)::(vs++dvs)) ((s1.heap.objs.size+1)::fx):=by
  refine⟨?_,nodup_cons.mpr ⟨nx,nd⟩,fun a ha=>?_,⟨fun a h=>h,S.tbo (g.ext.trans ext2) fun a z=>.inl ((mem_cons.mp z).elim (fun z=>by rw[z];exact g.ext.free hxn) (new a))⟩,fun a h=>let⟨o,ho⟩:=g.dom a h;⟨o,ext2 a o ho⟩⟩
  ·unfold RelL;refine⟨_,_,[s1.heap.objs.size+1],fx,rfl,?_,RelL.Gw hBo hOw (rr.ext ext2 fun _ h=>h),rfl⟩;unfold Rel;exact⟨_,s1.heap.objs.size,[],[],rfl,by simpa using hx2,⟨rfl,hcn⟩,by unfold RelL;exact⟨rfl,rfl⟩,rfl,True.intro⟩
  ·rcases mem_cons.mp ha with rfl|ha
   ·exact nF
   ·exact nf a ha
 have newx:∀a ∈(s1.heap.objs.size+1)::fx,H a=none:=fun a ha=>by
  rcases mem_cons.mp ha with rfl|ha
  ·exact g.ext.free hxn
  ·exact new a ha
 refine wpAny_call (vQ (f:=f) I1.kIn M.makes M.init (beq_iff_eq.mp M.fn) (codeAny_mono (G.run _ X.stack _ _ ⟨Value.ref (s1.heap.objs.size+1)::us,[]⟩ (Value.ref (s1.heap.objs.size+1)::(us ++ ds)) _ (fun v H3=>v=.non/\Q (.ref (s1.heap.objs.size+1)) H3) (fun cls _ H'=>∃ c,cls=.ref (T.xcl c)/\W c Y H') (hr.make (T.cls c) us [])
  (I2.env0.make (T.cls c) us []) (hb _ (Value.ref (s1.heap.objs.size+1)::us) I2.kIn hl) r2 ⟨by rw[r2.length];exact hl,_,_,F1,_,_,rfl,R,⟨.own,c,[],[],rfl⟩,?_⟩) fun rs s' hq'=>?_))
 ·unfold aP at q;have e0:mapL Fl.Gw (PV.obj .own c [] []::(xs++dps))=.obj .own c [] []::mapL Fl.Gw (xs++dps):=by simp[mapL,PV.GJ,Fl.Gw]
  rw[e0]at q;cases e:m (.obj .own c [] []::mapL Fl.Gw (xs++dps))with
  |ok v=>
   rw[e]at q;dsimp only at q;intro F3 H3 f3 hp3 r3 nd3 nf3 new3;refine⟨rfl,?_⟩;by_cases hbr:v.has Fl.GD=true
   ·rw[if_pos hbr]at q;exact q.elim
   ·rw[if_neg hbr]at q;have hbr':v.has Fl.GD=false:=by simpa using hbr
    refine q _ H3 F3 f3 ⟨fun a o h=>hp3.keep a o (ext2 a o (g.ext a o h)) fun z=>(by rw[newx a z]at h;cases h),fun a h=>hp3.f0 a (g.mono a h),fun a h=>?_,hp3.ft⟩ ?_ nf3 nd3 fun a ha=>?_
    ·rcases hp3.fn a h with z|z|z
     ·exact g.only a z
     ·exact .inr (g.ext.free (free2 a z))
     ·exact .inr (newx a z)
    ·exact Rel.tr (fun _ h=>h) (fun _ h=>h) (fun _ h=>h.elim) (fun _ _ h _=>h) (fun _ _ _ h=>h) (Rel.noB (B':=Z.B) hbr' r3)
    ·rcases new3 a ha with z|z
     ·exact g.ext.free (free2 a z)
     ·exact newx a z
  |exc c'=>rw[e]at q;exact fun H' h=>⟨c',rfl,q H' fun a o z=>h a o (ext2 a o (g.ext a o z)) fun z'=>by rw[newx a z']at z;cases z⟩
  |stuck=>rw[e]at q;exact q.elim
 ·cases rs with
  |error e=>obtain⟨cls,H',fl,c',rfl,hw⟩:=hq';exact hx js Y H2 _ c' H' e s' I2 fl hw
  |ok fl=>
   cases fl with
   |ret u=>obtain⟨v,H',I3,rv',ev,q3⟩:=I2.after hq';subst ev;exact⟨rv',⟨V.ref (s1.heap.objs.size+1),H',I3,rfl,q3⟩⟩
   |next|brk|cont=>exact False.elim hq'
def xI
  (M:Mk X.K (T.cls c) f) (hcn:c<T.nc) (G:b8 X.prog X.w X.K X.mg X.base (CXP X.prog X.w) k f fd ps (spI T ps.length m)) (hr:cG (k+1) X.A) (hg:Gl X x) (hm:X.mg x=some (.ref (T.cls c))) (hb:dR X.K fd ps ds) (hd:aE dvs ds) (hdp:∀F B L H,RelL T F B L H dps dvs []) (hx:XF X T W)
  (hn:fk ms n) (hps:n+dvs.length+1=ps.length) (ha:SA X T W (e::es) ms)
  (hdb:(x ==("__debug__":Str))=false:=by decide) (he:starEach (e::es) X.env=(false,eval e X.env)::starEach es X.env:=by rfl) (hpl:(backTo pos (starEach es X.env)).any (·.1)=false:=by rfl) :
  SE X T W (.Call (.Name x p) (e::es) [] pos) (au (fun xs=>aP m (.obj .own c [] []::(xs++dps))) ms):=by
 intro js s Y H Q I h;obtain⟨Z,F,env,fp,S,q⟩:=h;unfold au at q;refine wpAny_Call_Name_kw (gE I hg hm ?_ hdb);refine callWith_K (h₀:=X.base) I.ok.mod.kin M.kp (thn (ha pos js s Y H (fun vs H1=>∀ us s1,L2.Inv X js Y H1 s1->aE vs us->wpAny (model X.prog X.w) X.A (call (.ref (T.cls c)) us) (EP X js Y Q) X.xe s1) I
  (tA.bq S fun xs vs H1 F1 f1 e1 g1 r1 n1 d1 w1 us s1 I1 rv=>?_)) fun us s1 ⟨vs,H1,I1,r,q1⟩=>⟨I1.kIn,q1 us s1 I1 r⟩) he hpl
 rw[e1]at q;exact Ap M hcn G hr hb hd hdp hx S g1 r1 n1 d1 w1 q I1 rv (by rw[<- r1.length,hn env xs e1];exact hps)
def ak.mut(S:ak T Z F H Y env fp)(hi:i<env.length)(hv:Y[i]?=some (some v))(ha:a∈fp i)(r:Rel T F Z.B NoL (upd H a o') pv' v f')(nd:f'.Nodup)(nf:∀b∈f',¬F b)
  (new:∀b∈f',Z.H0 b=none\/Z.fp0 b) (dj:∀b∈f',∀j,j≠i->b∉fp j) (ho:i=0->cE env=true->∃fl c ks xs,pv'=.obj fl c ks xs):ak T Z F (upd H a o') Y (env.set i (some pv')) (aI fp i f'):=by
 obtain⟨oa,hoa,hch⟩:=S.ch i a ha;have nFa:¬F a:=(S.dis i a ha).1;have nBa:¬Z.B a:=fun z=>S.bow a z ⟨i,ha⟩;have ne:∀b u,H b=some u->(F b\/Z.B b\/NoL b\/dQ u)->b≠a:=fun b u e h z=>by
  subst z;rcases h with h|h|h|h
  ·exact nFa h
  ·exact nBa h
  ·exact h
  ·rw[hoa]at e;cases e;cases oa with
   |lst _|ins _ _ _=>exact h
   |_=>exact hch
 have nz:∀b u,Z.H0 b=some u->¬Z.fp0 b->b≠a:=(by grind[aI,ak,bB,Gr])
 have nj:∀j,j≠i->∀b∈fp j,b≠a:=fun j hj b hb z=>by subst z;exact S.dj j i hj _ hb ha
 refine⟨⟨S.hp.bo,fun b u e n=>by rw[az (nz b u e n)];exact S.hp.keep b u e n,S.hp.f0,S.hp.fn,fun b h=>?_⟩,by rw[length_set,S.len],fun j pv e=>?_,fun j=>?_,fun j k hjk b hb=>?_,fun j b hb=>?_,fun j b hb=>?_,fun j b hb=>?_,fun w hw=>?_⟩
 ·obtain⟨u,e⟩:=S.hp.ft b h;exact⟨u,by rw[az (show b≠a from fun z=>nFa (by rw[<- z];exact h))];exact e⟩
 ·by_cases hj:j=i
  ·subst hj;rw[getElem?_set_self hi]at e;cases e;refine⟨v,hv,?_⟩;unfold aI;rw[if_pos rfl];exact r
  ·rw[getElem?_set_ne (Ne.symm hj)]at e;obtain⟨w,h1,h2⟩:=S.rel j pv e;refine⟨w,h1,?_⟩;unfold aI;rw[if_neg hj];exact Rel.tr (fun _ h=>h) (fun _ h=>h) (fun _ h=>h) (fun b u q h=>by rw[az (ne b u q h)];exact q) (fun b hb u q=>by rw[az (nj j hj b hb)];exact q) h2
 ·unfold aI;split
  ·exact nd
  ·exact S.nd j
 ·grind[aI,ak,bB,Gr]
 ·unfold aI at hb;by_cases h1:j=i
  ·rw[if_pos h1]at hb;exact⟨nf b hb,r.there b hb⟩
  ·rw[if_neg h1]at hb;obtain⟨n,u,e⟩:=S.dis j b hb;exact⟨n,u,by rw[az (nj j h1 b hb)];exact e⟩
 ·unfold aI at hb;by_cases h1:j=i
  ·rw[if_pos h1]at hb;exact new b hb
  ·rw[if_neg h1]at hb;exact S.new j b hb
 ·unfold aI at hb;by_cases h1:j=i
  ·rw[if_pos h1]at hb;exact r.chg b hb
  ·rw[if_neg h1]at hb;obtain⟨u,e,c⟩:=S.ch j b hb;exact⟨u,by rw[az (nj j h1 b hb)];exact e,c⟩
 ·obtain⟨h1,h2⟩:=S.pn w hw;refine⟨h1,?_⟩;by_cases hi0:i=0
  ·obtain⟨fl,c,ks,xs,e⟩:=ho hi0 h2;subst hi0 e;unfold cE;rw[getElem?_set_self hi]
  ·unfold cE at h2 ⊢;rw[getElem?_set_ne hi0];exact h2
def fe(i k:Nat)(e:ME):MS:=fun env=>match e env with
 | .ok v=>(match env[i]? with
  |some (some (.obj .own c ks vs))=>if v.GH&&!ks.contains k&&decide (ks.length<900)then .next (env.set i (some (.obj .own c (ks++[k]) (vs++[v]))))else .stuck
  |_=>.stuck)
 |.exc c=>.exc c env
 |.stuck=>.stuck
def nG:∀{ks:List Nat}{ws:Gp},ks.contains k=false->ks.length=ws.length->fB (T.att k) y ((ks.map T.att).zip ws)=((ks++[k]).map T.att).zip (ws++[y])
 | [],[],_,_=>rfl
 |j::ks,w::ws,h,hl=>by simp only[List.contains_cons,or_eq_false_iff,beq_eq_false_iff_ne]at h;show fB (T.att k) y ((T.att j,w)::(ks.map T.att).zip ws)=(T.att j,w)::((ks++[k]).map T.att).zip (ws++[y]);unfold fB;rw[if_neg (fun z=>h.1 (T.inj _ _ z).symm),nG h.2 (by simpa using hl)]
 | [],_::_,_,hl|_::_,[],_,hl=>by simp at hl
def z_(hK:X.K=T.K)(hf:T.att k=f)(hc:∀c<T.nc,Cls T.K (T.cls c))(hn:∀c<T.nc,dO T.K (T.cls c) f)(hN:X.N[i]?=some x)(hv:Vis X.env.scope x)(he:SE X T W e m)
  (hs:swapsWith e (some (.Attribute (.Name x px) f pos')) pos.line X.env=pure false:=by rfl) (hd:(x ==("__debug__":Str))=false:=by decide) (hcd:(x ==("__classdict__":Str))=false:=by decide) :
  SS X T W (.Assign [.Attribute (.Name x px) f pos'] e pos) (fe i k m):=PS.wk (Aw (pos:=pos) (pos':=pos') (bV (pos:=px) hN hv hd hcd) he hs) fun D Y H hz1=>by
 obtain⟨Z,F,env,fp,S,q⟩:=hz1;unfold fe at q;refine tE.bind S (fun c e H' x=>?_) (fun e=>by rw[e]at q;exact q) fun pv v H1 F1 f1 e g r h1 h2 h3=>?_
 ·rw[e]at q;exact q F H' Y fp (S.grow (Gr.same S.hp.ft x))
 ·rw[e]at q;dsimp only at q;split at q
  ·rename_i c ks vs eo
   split at q
   ·rename_i hcnd
    simp only[and_eq_true,not_eq_true',decide_eq_true_eq]at hcnd;obtain⟨⟨hln,hkn⟩,hkl⟩:=hcnd;have S1:=S.grow g;obtain⟨vo,ho1,ho2⟩:=S1.rel i _ eo;have ho3:=ho2;unfold Rel at ho3;obtain⟨a,dx,ws,fp',rfl,hl,hk,hr,hfl,_⟩:=ho3;have hfl':fp i=a::fp':=hfl;have hil:i<env.length:=(List.getElem?_eq_some_iff.mp eo).1;refine⟨_,ho1,a,_,dx,_,rfl,hl,by rw[hK];exact hc c hk.2,by rw[hK];exact hn c hk.2,?_,?_⟩
    ·have:=hr.length;rw[List.length_zip,length_map];omega
    ·rw[<- hf,nG hkn (by rw[<- hr.length];exact hk.1)];have ha:a∈fp i:=by rw[hfl'];exact mem_cons_self
     have nd:(a::fp').Nodup:=by rw[<- hfl'];exact S1.nd i
     have old:∀b∈f1,∀j,b∉fp j:=fun b hb j hj=>by obtain⟨_,o,e⟩:=S.dis j b hj;rw[h3 b hb]at e;cases e
     have hrv:Rel T F1 Z.B NoL H1 pv v f1:=Rel.noL (by simpa[PV.GH]using hln) r;have nea:∀b u,H1 b=some u->(F1 b\/Z.B b\/NoL b\/dQ u)->b≠a:=fun b u e h z=>by
      subst z;rcases h with h|h|h|h
      ·exact(S1.dis i _ ha).1 h
      ·exact S1.bow _ h ⟨i,ha⟩
      ·exact h
      ·rw[hl]at e;cases e;exact h
     refine q F1 _ Y _ (S1.mut (f':=a::(fp'++f1)) hil ho1 ha ?_ ?_ (fun b hb=>?_) (fun b hb=>?_) (fun b hb j hj=>?_) fun _ _=>⟨_,_,_,_,rfl⟩)
     ·unfold Rel;have hrr:RelL T F1 Z.B NoL H1 (vs++[pv]) (ws++[v]) (fp'++f1):=RelL.append hr (by unfold RelL;exact⟨v,[],f1,[],rfl,hrv,by unfold RelL;exact⟨rfl,rfl⟩,by simp⟩);refine⟨a,dx,ws++[v],fp'++f1,rfl,aM,⟨by simp[hk.1],hk.2⟩,?_,rfl,True.intro⟩;refine RelL.tr (fun _ h=>h) (fun _ h=>h) (fun _ h=>h) (fun b u e h=>by rw[az (nea b u e h)];exact e) (fun b hb u e=>?_) hrr;refine(az fun z=>?_).trans e
      grind
     ·grind
     ·grind[aI,ak,bB,Gr]
     ·rcases mem_cons.mp hb with rfl|hb
      ·exact S1.new i _ ha
      ·rcases mem_append.mp hb with hb|hb
       ·exact S1.new i b (by rw[hfl'];exact mem_cons_of_mem _ hb)
       ·exact S.hp.newE h3 b hb
     grind[aI,ak,bB,Gr]
   ·exact q.elim
  ·exact q.elim
def ak.mutL{i:Nat}{xs ys:Gs}{ws us:Gp}{a:Addr}{v:V}{f' fp':Gk}(S:ak T Z F H Y env fp)(eo:env[i]?=some (some (.lst .own xs)))(hv:Y[i]?=some (some (.ref a)))(hfp:fp i=a::fp')(r:RelL T F Z.B NoL H ys us f')(nd:f'.Nodup)
  (hf:∀b∈f',(b∈fp')\/(¬F b/\(Z.H0 b=none\/Z.fp0 b)/\∀j,b∉fp j)) (hl:H a=some (.lst ws)):ak T Z F (upd H a (.lst us)) Y (env.set i (some (.lst .own ys))) (aI fp i (a::f')):=by
 have ha:a∈fp i:=by rw[hfp];exact mem_cons_self
 have ndi:(a::fp').Nodup:=by rw[<- hfp];exact S.nd i
 have sub:∀b∈fp',b∈fp i:=fun b hb=>by rw[hfp];exact mem_cons_of_mem _ hb
 have na:∀b∈f',b≠a:=(by grind)
 have hil:i<env.length:=(List.getElem?_eq_some_iff.mp eo).1;have nea:∀b u,H b=some u->(F b\/Z.B b\/NoL b\/dQ u)->b≠a:=fun b u e h z=>by
  subst z;rcases h with h|h|h|h
  ·exact(S.dis i _ ha).1 h
  ·exact S.bow _ h ⟨i,ha⟩
  ·exact h
  ·rw[hl]at e;cases e;exact h
 refine S.mut hil hv ha ?_ (nodup_cons.mpr ⟨fun z=>na a z rfl,nd⟩) (fun b hb=>?_) (fun b hb=>?_) (fun b hb j hj=>?_) fun h0 h1=>?_
 ·unfold Rel;exact⟨a,us,f',rfl,aM,RelL.tr (fun _ h=>h) (fun _ h=>h) (fun _ h=>h) (fun b u e h=>by rw[az (nea b u e h)];exact e) (fun b hb u e=>by rw[az (na b hb)];exact e) r,rfl⟩
 ·rcases mem_cons.mp hb with rfl|hb
  ·exact(S.dis i _ ha).1
  ·rcases hf b hb with h|h
   ·exact(S.dis i b (sub b h)).1
   ·exact h.1
 ·grind[aI,ak,bB,Gr]
 ·grind[aI,ak,bB,Gr]
 ·subst h0;unfold cE at h1;rw[eo]at h1;cases h1
def ak.lst{i:Nat}{xs:Gs}(S:ak T Z F H Y env fp)(eo:env[i]?=some (some (.lst .own xs))):∃a ws fp',Y[i]?=some (some (.ref a))/\H a=some (.lst ws)/\RelL T F Z.B NoL H xs ws fp'/\fp i=a::fp':=by obtain⟨v,h1,h2⟩:=S.rel i _ eo;unfold Rel at h2;obtain⟨a,ws,fp',rfl,hl,hr,hf⟩:=h2;exact⟨a,ws,fp',h1,hl,hr,hf⟩
def ak.beside{f1:Gk}(S:ak T Z F H Y env fp)(g:Gr F H F1 H1)(h1:∀ a ∈ f1,¬ F1 a)(h3:∀ a ∈ f1,H a=none):∀ b ∈ f1,¬ F1 b/\(Z.H0 b=none \/ Z.fp0 b)/\∀ j,b ∉ fp j:=fun b hb=>⟨h1 b hb,S.hp.newE h3 b hb,fun j hj=>by
 obtain⟨_,o,e⟩:=S.dis j b hj;rw[h3 b hb]at e;cases e⟩
def cz(i:Nat)(e:ME):MS:=fun env=>match e env with
 | .ok v=>(match env[i]? with
  |some (some (.lst .own xs))=>if v.GH&&decide (xs.length<10000000)then .next (env.set i (some (.lst .own (xs++[v]))))else .stuck
  |_=>.stuck)
 | .exc c=>(match env[i]? with
  |some (some (.lst .own _))=>.exc c env
  |_=>.stuck)
 |.stuck=>.stuck
def rP{i:Nat}{x:Str}{e:Expr}{m:ME}{pos px apos cpos:Pos}(hK:X.K=T.K)(hN:X.N[i]?=some x)(hv:Vis X.env.scope x)(he:SE X T W e m)
  (hs:swapsWith (.Call (.Attribute (.Name x px) "append" apos) [e] [] cpos) none pos.line X.env=pure false:=by rfl) (hst:starEach [e] X.env=[(false,eval e X.env)]:=by rfl)
  (hfew:((backTo cpos (starEach [e] X.env)).all (fun x=>!x.1)&&(backToKw cpos (keywordEach [] X.env)).all (fun x=>x.1.isSome)&&decide ([e].length+([]:List Keyword).length+(if([]:List Keyword).isEmpty then 0 else 1)<30))=true:=by rfl)
  (hline:(apos.endLine==cpos.line)=true:=by rfl) (hd:(x ==("__debug__":Str))=false:=by decide) (hcd:(x ==("__classdict__":Str))=false:=by decide) :
  SS X T W (.Expr (.Call (.Attribute (.Name x px) "append" apos) [e] [] cpos) pos) (cz i m):=
 PS.wk (dS (pos:=pos) (nO (cpos:=cpos) (apos:=apos) PySem.F.plainAttrs_list PySem.F.slot_list_append PySem.F.type_list_append e_ (bV (pos:=px) hN hv hd hcd) (ac he ag hst) rfl hfew hline hst) hs) fun D Y H hz1=>by
  obtain⟨Z,F,env,fp,S,q⟩:=hz1;unfold cz at q;cases em:m env with
  |stuck=>rw[em]at q;exact q.elim
  |exc c=>
   rw[em]at q;dsimp only at q;split at q
   ·rename_i xs eo
    obtain⟨a,ws,fp',h1,hl,hr,hf⟩:=S.lst eo;refine⟨_,h1,.inl ⟨rfl,ws,by rw[hK];exact SqL.of hl⟩,Z,F,env,fp,S,?_⟩;unfold ae;rw[em];exact fun H' x=>q F H' Y fp (S.grow (Gr.same S.hp.ft x))
   ·exact q.elim
  |ok v=>
   rw[em]at q;dsimp only at q;split at q
   ·rename_i xs eo
    split at q
    ·rename_i hc
     simp only[and_eq_true,decide_eq_true_eq]at hc;obtain⟨a,ws,fp',h1,hl,hr,hf⟩:=S.lst eo;refine⟨_,h1,.inl ⟨rfl,ws,by rw[hK];exact SqL.of hl⟩,Z,F,env,fp,S,?_⟩;unfold ae ah;rw[em];intro vs H1 F1 f1 g r n1 d1 w1;obtain⟨u,rfl,ru⟩:=r.one;have S1:=S.grow g;have hl1:=g.ext a _ hl;refine⟨a,ws,u,rfl,rfl,hl1,?_,?_⟩
     ·rw[<- hr.length,sizeLine_eq];omega
     ·have rone:RelL T F1 Z.B NoL H1 [v] [u] f1:=by unfold RelL;exact⟨u,[],f1,[],rfl,Rel.noL (by simpa[PV.GH]using hc.1) ru,by unfold RelL;exact⟨rfl,rfl⟩,by simp⟩
      refine q F1 _ Y _ (S1.mutL (v:=u) eo h1 hf (RelL.append (hr.ext g.ext g.mono) rone) ?_ (fun b hb=>?_) hl1)
      ·have ndi:(a::fp').Nodup:=by rw[<- hf];exact S.nd i
       refine nodup_append.mpr ⟨(nodup_cons.mp ndi).2,d1,fun b hb b' hb' z=>?_⟩;subst z;exact(S.beside g n1 w1 b hb').2.2 i (by rw[hf];exact mem_cons_of_mem _ hb)
      ·rcases mem_append.mp hb with hb|hb
       ·exact .inl hb
       ·exact .inr (S.beside g n1 w1 b hb)
    ·exact q.elim
   ·exact q.elim
def i6(i:Nat):MS:=fun env=>match env[i]? with
 |some (some (.lst .own _))=>.next (env.set i (some (.lst .own [])))
 |_=>.stuck
def g_(i:Nat)(k e:ME):MS:=fun env=>match e env with
 | .ok v=>(match env[i]? with
  | some (some (.lst .own xs))=>(match k env with
   | .ok (.int j)=>(match ixN xs.length j with
    |some n=>if v.GH then .next (env.set i (some (.lst .own (xs.set n v))))else .stuck
    |none=>.stuck)
   |_=>.stuck)
  |_=>.stuck)
 |.exc c=>.exc c env
 |.stuck=>.stuck
def RelL.set{y:PV}{w:V}{g:Gk}(ry:Rel T F B L H y w g):∀{xs:Gs}{vs:Gp}{f:Gk} (n:Nat),RelL T F B L H xs vs f->(f++g).Nodup->∃f',RelL T F B L H (xs.set n y) (vs.set n w) f'/\f'.Nodup/\∀b∈f',b∈f\/b∈g
 | [],vs,f,n,h,nd=>by unfold RelL at h;obtain⟨rfl,rfl⟩:=h;exact⟨[],by simp[RelL],nodup_nil,fun _ z=>(nomatch z)⟩
 |x::xs,_,_,0,h,nd=>by
  unfold RelL at h;obtain⟨v,ws,f1,f2,rfl,h1,h2,rfl⟩:=h;obtain⟨n1,n2,n3⟩:=nodup_append.mp nd;obtain⟨m1,m2,m3⟩:=nodup_append.mp n1;refine⟨g++f2,?_,(by grind),fun b hb=>?_⟩
  ·rw[List.set_cons_zero,List.set_cons_zero];unfold RelL;exact⟨w,ws,g,f2,rfl,ry,h2,rfl⟩
  grind
 |x::xs,_,_,n+1,h,nd=>by
  unfold RelL at h;obtain⟨v,ws,f1,f2,rfl,h1,h2,rfl⟩:=h;obtain⟨n1,n2,n3⟩:=nodup_append.mp nd;obtain⟨m1,m2,m3⟩:=nodup_append.mp n1;obtain⟨f',r,d,s⟩:=RelL.set ry n h2 (nodup_append.mpr ⟨m2,n2,fun a ha b hb=>n3 a (mem_append_right _ ha) b hb⟩);refine⟨f1++f',?_,nodup_append.mpr ⟨m1,d,fun a ha b hb z=>?_⟩,fun b hb=>?_⟩
  ·rw[List.set_cons_succ,List.set_cons_succ];unfold RelL;exact⟨v,_,f1,f',rfl,h1,r,rfl⟩
  ·grind
  grind
def ni{i:Nat}{x:Str}{k e:Expr}{mk me:ME}{pos px tpos:Pos}(hN:X.N[i]?=some x)(hv:Vis X.env.scope x)(hk:SE X T W k mk)(he:SE X T W e me)
  (ha:∀ v,assign (.Subscript (.Name x px) k tpos) X.env v=(do
   let ov <- holding [v] (eval (.Name x px) X.env)
   let iv <- holding [v,ov] (eval k X.env)
   standAt tpos
   holding [v,ov,iv] (setItem ov iv v)
   release [v,ov,iv] []):=by intro _;rfl)
  (hs:swapsWithSole [.Subscript (.Name x px) k tpos] e pos.line X.env=pure false:=by rfl) (hw:swappedStores [.Subscript (.Name x px) k tpos] e X.env=pure none:=by rfl)
  (h1:(assignEach [.Subscript (.Name x px) k tpos] X.env).map (·.2)=[assign (.Subscript (.Name x px) k tpos) X.env]:=by rfl) (hd:(x ==("__debug__":Str))=false:=by decide) (hcd:(x ==("__classdict__":Str))=false:=by decide) :
  SS X T W (.Assign [.Subscript (.Name x px) k tpos] e pos) (g_ i mk me):=
 PS.wk (Ax (pos:=pos) he (AA (pos:=tpos) (bV (pos:=px) hN hv hd hcd) hk uw ha) hs hw h1) fun D Y H hz1=>by
  obtain⟨Z,F,env,fp,S,q⟩:=hz1;unfold g_ at q;refine tE.bind S (fun c e H' x=>?_) (fun e=>by rw[e]at q;exact q) fun pv v H1 F1 f1 e g r n1 d1 w1=>?_
  ·rw[e]at q;exact q F H' Y fp (S.grow (Gr.same S.hp.ft x))
  ·rw[e]at q;dsimp only at q;split at q
   ·rename_i xs eo
    have S1:=S.grow g;obtain⟨a,ws,fp',h1,hl,hr,hf⟩:=S1.lst eo;cases ek:mk env with
    |stuck|exc c=>rw[ek]at q;exact q.elim
    |ok kv=>
     rw[ek]at q;refine⟨_,h1,Z,F1,env,fp,S1,?_⟩;rw[ek];intro u H2 F2 f2 g2 r2 _ _ _;cases kv with
     |int j=>
      dsimp only at q;unfold Rel at r2;obtain⟨rfl,_⟩:=r2;cases en:ixN xs.length j with
      |none=>rw[en]at q;exact q.elim
      |some n=>
       rw[en]at q;dsimp only at q;split at q
       ·rename_i hln
        have S2:=S1.grow g2;have hr2:=hr.ext g2.ext g2.mono;have ndi:(a::fp').Nodup:=by rw[<- hf];exact S.nd i
        have g12:=g.trans g2;have nn:∀b∈f1,¬F2 b:=fun b hb z=>by
         rcases g2.only b z with z|z
         ·exact n1 b hb z
         ·obtain⟨o,ho⟩:=r.there b hb;rw[ho]at z;cases z
        obtain ⟨f',r',nd',sub'⟩:=RelL.set (T:=T) (Rel.noL (L':=NoL) (by simpa [PV.GH] using hln) (r.ext g2.ext g2.mono)) n hr2 (nodup_append.mpr ⟨(nodup_cons.mp ndi).2,d1,fun b hb b' hb' z=>by
         subst z;exact(S.beside g12 nn w1 b hb').2.2 i (by rw[hf];exact mem_cons_of_mem _ hb)⟩)
        refine⟨a,ws,j,n,rfl,rfl,g2.ext a _ hl,by rw[<- hr.length];exact en,?_⟩;refine q F2 _ Y _ (S2.mutL (v:=v) eo h1 hf r' nd' (fun b hb=>?_) (g2.ext a _ hl));rcases sub' b hb with h|h
        ·exact .inl h
        ·exact .inr (S.beside g12 nn w1 b h)
       ·exact q.elim
     |_=>exact q.elim
   ·exact q.elim
end
def yr(i:Nat):Str:=⟨#[1114112+i]⟩
def iR(l:Gm)(i:Nat):Str:=match l[i]? with
 |some x=>x
 |none=>yr i
def iY(x:Str):Bool:=x.cps.all fun c=>decide (c<1114112)
def eP(i:Nat):iY (yr i)=false:=by simp[iY,yr]
def t_(nd:l.Nodup)(h:l.all iY=true)(i j:Nat)(e:iR l i=iR l j):i=j:=by
 have pl:∀(i:Nat) x,l[i]?=some x->iY x=true:=fun i x hx=>all_eq_true.mp h x (List.mem_of_getElem? hx);unfold iR at e;cases ei:l[i]? with
 |some x=>
  cases ej:l[j]? with
  |some y=>rw[ei,ej]at e;dsimp only at e;subst e;obtain⟨h1,e1⟩:=List.getElem?_eq_some_iff.mp ei;obtain⟨h2,e2⟩:=List.getElem?_eq_some_iff.mp ej;exact(getElem_inj nd).mp (e1.trans e2.symm)
  |none=>rw[ei,ej]at e;dsimp only at e;have:=pl i x ei;rw[e,eP]at this;cases this
 |none=>
  cases ej:l[j]? with
  |some y=>rw[ei,ej]at e;dsimp only at e;have:=pl j y ej;rw[<- e,eP]at this;cases this
  |none=>rw[ei,ej]at e;dsimp only at e;simpa[yr]using e
def w6(hp:iY m=true)(hm:m∉l)(k:Nat):iR l k≠m:=by
 unfold iR;cases e:l[k]? with
 |some x=>exact fun z=>hm (z▸List.mem_of_getElem? e)
 |none=>intro z;dsimp only at z;rw[<- z,eP]at hp;cases hp
structure Ctx(X:Cx)(T:Tb)(W:Nat->St->Gq)(k:Nat):Prop where
 hK:X.K=T.K
 calm:X.calm=true
 room:cG k X.A
 xf:XF X T W
 po:PassesOwn (model X.prog X.w) X.A X.env X.xe
def Ctx.hu(c:Ctx X T W k):X.A.units+64<cLine:=c.room.units
def Ctx.hu2(c:Ctx X T W k):X.A.units+66<cLine:=by have:=c.room.un;omega
def jG
  (hr:cG k (A.deeper (PyProof.Rows.envOfC qual scope s.heap.objs.size f cd))):Ctx (cy (CXP P w) P w T.K mg base N qual scope f cd A outer s H E) T (WD T E) k:=⟨rfl,rfl,hr,zW,PassesOwn.leaving⟩
def Ctx.comp(c:Ctx X T W k):Ctx (cxC X scope C N s H ex) T WF k:=⟨c.hK,c.calm,c.room,fun _ _ _ _ _ _ _ _ _ _ h=>h.elim,PassesOwn.never⟩
def kf(scD scope:Scope)(NX:Gm)(caps:List Nat)(N tn:Gm):Bool:=
 decide (scope.kind=.function)&&scope.names.all (fun y=>decide (y.2=.cell->scope.names.lookup y.1=some .cell))&&scope.names.all (fun y=>decide (y.2=.local->scope.names.lookup y.1=some .local)) &&
 scope.names.all (fun y=>decide (y.2=.free->scD.names.lookup y.1=some .cell\/scD.names.lookup y.1=some .free))&&decide (N=caps.map (fun i=>NX.getD i "")++ tn)&&caps.all (fun i=>decide (i<NX.length)) &&
 caps.all (fun i=>match NX[i]? with|some x=>decide ((x,NameKind.free)∈ scope.names/\scope.names.lookup x=some .free)|none=>false)&&decide N.Nodup
def zh(h:kf scD scope NX caps N tn=true)(hs:X.env.scope=scD)(hN:X.N=NX):dz X scope caps N tn:=by simp only[kf,and_eq_true,decide_eq_true_eq,all_eq_true]at h;obtain⟨⟨⟨⟨⟨⟨⟨h1,h2⟩,h3⟩,h4⟩,h5⟩,h6⟩,h7⟩,h9⟩:=h;subst hs hN;refine⟨h1,h2,h3,h4,h5,h6,fun i hi x hx=>?_,h9⟩;have:=h7 i hi;rw[hx]at this;simpa using this
section
variable{X:Cx}{T:Tb}{W:Nat->St->Gq}
def sv(i:Nat)(hN:X.N[i]?=some x:=by rfl)(hv:Vis X.env.scope x:=by first|exact Or.inl rfl|exact Or.inr (Or.inl rfl)|exact Or.inr (Or.inr rfl))(hd:(x ==("__debug__":Str))=false:=by decide)
  (hcd:(x ==("__classdict__":Str))=false:=by decide):SE X T W (.Name x pos) (aa i):=Ac hN hv hd hcd
def tyP:PV->String
 |.non=>"NoneType"
 |.bl _=>"bool"
 |.int _=>"int"
 |.str _=>"str"
 |.lst _ _=>"list"
 |.tup _=>"tuple"
 |_=>""
def jd(t c:String):Bool:=t==c ||(t=="bool"&&c=="int")
def nU(c:String):PV->Gu:=fun x=>if tyP x="" then .stuck else .ok (.bl (jd (tyP x) c))
def m7(m:ME)(c:String):ME:=fun env=>(m env).bind (nU c)
def ua(K:PySem.W.Frag)(c:String):Prop:=∀t∈["NoneType","bool","int","str","list","tuple"],kitOne K (.type t) (.type c)=some (jd t c)
def yO(hK:X.K=T.K)(hc:ua T.K c)(I:L2.Inv X js Y H s)(r:Rel T F B L H x v f)(ru:bf v u)(hx:tyP x≠"")
  (h:∀tk,Q (.bool (jd (tyP x) c)) {s with toks:=tk}):wpAny (model X.prog X.w) A (call (.builtin "isinstance") [u,.type c]) Q E s:=by
 have kin:T.K.In s.heap:=by rw[<- hK];exact I.kIn
 cases x with
 |non=>unfold Rel at r;obtain⟨rfl,_⟩:=r;cases ru;exact kia_one PySem.W.kitx_none kin True.intro (hc _ (by simp)) (fun z=>nomatch z) h
 |bl b=>unfold Rel at r;obtain⟨rfl,_⟩:=r;cases ru;exact kia_one PySem.W.kitx_bool kin True.intro (hc _ (by simp)) (fun z=>nomatch z) h
 |int i=>unfold Rel at r;obtain⟨rfl,_⟩:=r;obtain⟨t,rfl⟩:=ru;exact kia_one PySem.W.kitx_int kin True.intro (hc _ (by simp)) (fun z=>nomatch z) h
 |str i=>unfold Rel at r;obtain⟨rfl,_⟩:=r;obtain⟨t,rfl⟩:=ru;exact kia_one PySem.W.kitx_str kin True.intro (hc _ (by simp)) (fun z=>nomatch z) h
 |lst f xs=>unfold Rel at r;obtain⟨a,vs,fp',rfl,hl,hr,_⟩:=r;cases ru;obtain⟨its,_,⟨o,n,ho,hcl,_,_⟩,_⟩:=I.list (by rw[hK];exact hl.sq);exact kia_one PySem.W.kitx_list kin ⟨_,ho,hcl⟩ (hc _ (by simp)) (fun z=>nomatch z) h
 |tup xs=>unfold Rel at r;obtain⟨a,vs,rfl,hl,hr⟩:=r;cases ru;obtain⟨its,_,⟨o,ho,hcl,_⟩,_⟩:=I.tuple (by rw[hK];exact hl);exact kia_one PySem.W.kitx_tuple kin ⟨_,ho,hcl⟩ (hc _ (by simp)) (fun z=>nomatch z) h
 |obj f c ks xs|exc c|box k xs=>exact absurd rfl hx
def jP(hK:X.K=T.K)(hc:ua T.K c)(hg:Gl X "isinstance")(hm:X.mg "isinstance"=none)(hb:bootBuiltins "isinstance"=some (.builtin "isinstance"))(hgc:Gl X cn)(hmc:X.mg cn=none)(hvc:bootBuiltins cn=some (.type c))(he:SE X T W e m)
  (hcn:cn≠"__name__":=by decide) (hcd:(cn ==("__debug__":Str))=false:=by decide) (hst:starEach [e,.Name cn pc] X.env=[(false,eval e X.env),(false,eval (.Name cn pc) X.env)]:=by rfl)
  (hst2:starEach [.Name cn pc] X.env=[(false,eval (.Name cn pc) X.env)]:=by rfl):SE X T W (.Call (.Name "isinstance" p) [e,.Name cn pc] [] pos) (m7 m c):=by
 have ht:PE X (.Name cn pc) (tC (.ty c)):=yi hgc hmc hvc rfl hcn hcd;have hcall:dq X (.builtin "isinstance") (fun vs H Q=>∃v x F B L f,vs=[v,.ty c]/\Rel T F B L H x v f/\tyP x≠"" /\ Q (.bl (jd (tyP x) c)) H):=by
  intro js s Y H vs us Q I rv h;obtain⟨v,x,F,B,L,f,rfl,r,hx,q⟩:=h;cases rv with
  |cons r1 r2=>
   cases r2 with
   |cons r3 r4=>cases r4;cases r3;exact yO hK hc I r r1 hx fun tk=>⟨.bl _,H,I.tok tk,rfl,q⟩
 have hargs:PA X [e,.Name cn pc] (qj (tE T W m) (qj (tC (.ty c)) z5)):=bW he (bW ht fD hst2) (by rw[hst,hst2]);refine PE.wk (jY (pos:=pos) (p:=p) hcall hg hm hb hargs (he:=by rw[hst,hst2]) (hpl:=by rw[hst2];rfl)) fun Y H Q hz1=>?_;obtain⟨Z,F,env,fp,S,q⟩:=hz1;unfold m7 at q;refine tE.bq S fun x v H1 F1 f1 e1 g1 r1 n1 d1 w1=>?_;rw[e1]at q;simp only[Res.GL,nU]at q;by_cases hx:tyP x=""
 ·rw[if_pos hx]at q;exact q.elim
 ·rw[if_neg hx]at q;exact⟨v,x,F1,Z.B,Own fp,f1,rfl,r1,hx,q.scal g1 jU⟩
end
def uA(hg:Gl X x)(hm:X.mg x=some (.int i t))(hd:(x ==("__debug__":Str))=false:=by decide):SE X T W (.Name x pos) (mC (.int i)):=
 jN (v:=.int i) (yg hg hm ⟨t,rfl⟩ hd) fun _ _ _ _=>dE
end PR
namespace PR
open PySem PySem.Spec
structure FY(K:PySem.W.Frag)(C:Addr):Prop where
 ga:PySem.W.findIn K (.ref C) "__getattribute__"=some (some (.builtin "BaseException.__getattribute__"))
 gt:PySem.W.findIn K (.ref C) "__getattr__"=some none
 ca:PySem.W.findIn K (.ref C) "__class__"=some (some (.builtin "object.__class__"))
 sb:mroIn K C (.type "BaseException")=some true
 so:mroIn K C (.type "object")=some true
 cl:(clsIn K C).isSome=true
end PR
namespace PR
open PySem PySem.Spec L2
def eZ(F B L:Gh)(H:Hp):RelL T F B L H [] [] []:=by unfold RelL;exact⟨rfl,rfl⟩
def bH(disp:Nat->Option (Gs->Gu))(o:ME)(ms:MA):ME:=fun env=>(o env).bind fun ov=>match ov with
 |.obj _ c _ _=>match disp c with
  |some m=>(ms env).bind fun xs=>aP m (ov::xs)
  |none=>.stuck
 |_=>.stuck
def yH(disp:Nat->Option (Gs->Gu))(o:ME)(ms:MA):qL disp [] o ms=bH disp o ms:=by
 funext env;unfold qL bH;congr 1;funext ov;cases ov with
 |obj f c ks vs=>simp only[append_nil,List.cons_append]<;>rfl
 |_=>rfl
def hV(c:Nat)(m:Gs->Gu)(ms:MA):ME:=au (fun xs=>aP m (.obj .own c [] []::xs)) ms
section
variable{X:Cx}{T:Tb}{W:Nat->St->Gq}
def uC
  (G:b8 X.prog X.w X.K X.mg X.base (CXP X.prog X.w) k f fd ps (spM T ps.length m)) (cx:Ctx X T W kk) (hk:k<=kk) (hg:Gl X x) (hm:X.mg x=some (.ref f)) (hkp:PySem.W.keepIn X.K (.ref f)=true) (hb:dR X.K fd ps [])
  (hn:fk ms n) (hps:n=ps.length) (ha:SA X T W (e::es) ms)
  (hdb:(x ==("__debug__":Str))=false:=by decide) (he:starEach (e::es) X.env=(false,eval e X.env)::starEach es X.env:=by rfl) (hpl:(backTo pos (starEach es X.env)).any (·.1)=false:=by rfl) :
  SE X T W (.Call (.Name x p) (e::es) [] pos) (au (aP m) ms):=by
 have h:=xL (dvs:=[]) (dps:=[]) (p:=p) (pos:=pos) G (cx.room.mono hk) hg hm hkp hb .nil eZ cx.xf (fun env xs q=>by rw[hn env xs q];exact hps) ha hdb he hpl;simpa using h
def Ak
  (cx:Ctx X T W kk) (hc:∀c<T.nc,Cls T.K (T.cls c)) (hm:∀k,T.att k≠mn) (D:fV X T k mn ps [] disp) (hk:k<=kk)
  (hn:fk ms n) (hps:n+1=ps.length) (ho:SE X T W o mo) (ha:SA X T W (e::es) ms)
  (hst:starEach (e::es) X.env=(false,eval e X.env)::starEach es X.env:=by rfl) (hpl:(backTo pos (starEach es X.env)).any (·.1)=false:=by rfl)
  (ht:eval (.Call (.Attribute o mn apos) (e::es) [] pos) X.env=(do
   let ov <- eval o X.env
   standAt apos.atName
   let(f,first) <- holding [ov] (getMethod ov mn pl)
   callWith pos f first (backTo pos (starEach (e::es) X.env)) (backToKw pos (keywordEach [] X.env))):=by rfl) :
  SE X T W (.Call (.Attribute o mn apos) (e::es) [] pos) (bH disp mo ms):=by
 rw[<- yH];exact xH (pl:=pl) (dvs:=[]) (dps:=[]) cx.hK hc hm D (cx.room.mono hk) .nil eZ cx.xf (fun env xs q=>by rw[hn env xs q];exact hps) ho ha hst hpl ht
def Ai
  (M:Mk X.K (T.cls c) f) (hcn:c<T.nc) (G:b8 X.prog X.w X.K X.mg X.base (CXP X.prog X.w) k f fd ps (spI T ps.length m)) (cx:Ctx X T W kk) (hk:k+1<=kk) (hg:Gl X x) (hm:X.mg x=some (.ref (T.cls c))) (hb:dR X.K fd ps [])
  (hn:fk ms n) (hps:n+1=ps.length) (ha:SA X T W (e::es) ms)
  (hdb:(x ==("__debug__":Str))=false:=by decide) (he:starEach (e::es) X.env=(false,eval e X.env)::starEach es X.env:=by rfl) (hpl:(backTo pos (starEach es X.env)).any (·.1)=false:=by rfl) :
  SE X T W (.Call (.Name x p) (e::es) [] pos) (hV c m ms):=by
 have h:=xI (dvs:=[]) (dps:=[]) (p:=p) (pos:=pos) M hcn G (cx.room.mono hk) hg hm hb .nil eZ cx.xf hn hps ha hdb he hpl;unfold hV;simpa using h
end
def yV(X:K.In h)(q:excIn K C [.type "ValueError",.type "Exception",.type "BaseException",.type "object"] "ValueError.__new__"=true) :
  ∃bm N nm q bs hdct sn sub ab col dd k0 k1 k2 k3 k5 mN,h.get? C=some (excClassObj nm q C N bs bm hdct sn sub ab col dd k0 k1 k2 k3 k5 "ValueError.__new__")/\h.Ns N mN/\mN "__init__"=none /\
   OwnTail h [.type "ValueError",.type "Exception",.type "BaseException",.type "object"] bm:=by
 unfold excIn at q;split at q
 ·rename_i dd cd sl ho
  split at q
  ·rename_i C' bm k0 k1 k2 k3 n k5 hm hs
   simp only[and_eq_true,beq_iff_eq,not_eq_true']at q;obtain⟨⟨⟨⟨⟨rfl,rfl⟩,hdel⟩,ht⟩,hok⟩,hni⟩:=q;cases cd;cases sl;dsimp only at hm hdel hok hni hs;subst hm hdel hs;exact⟨bm,_,_,_,_,_,_,_,_,_,dd,k0,k1,k2,k3,k5,_,X _ _ ho,.of_isNs (PySem.W.isNs_of_in X hok),PySem.W.nsMap_none_of_in X hok hni,PySem.W.tail_of_in X ht⟩
  ·cases q
 ·cases q
def a_(c:Nat)(ms:MA):MS:=fun env=>match ms env with
 |.ok _=>.exc c env
 |.exc k=>.exc k env
 |.stuck=>.stuck
def rM(cx:Ctx X T W k)(hm:X.mg x=some (.ref (T.xcl c)))(hB:T.K.In X.base)
  (hE:excIn T.K (T.xcl c) [.type "ValueError",.type "Exception",.type "BaseException",.type "object"] "ValueError.__new__"=true) (hx:XM X T W) (hg:Gl X x) (hn:fk ms n) (hn2:n<=100) (ha:SA X T W (e::es) ms)
  (hd:(x ==("__debug__":Str))=false:=by decide)
  (he:starEach (e::es) X.env=(false,eval e X.env)::starEach es X.env:=by rfl) (hpl:(backTo cpos (starEach es X.env)).any (·.1)=false:=by rfl) :
  SS X T W (.Raise (some (.Call (.Name x np) (e::es) [] cpos)) none pos) (a_ c ms):=
 uq (np:=np) (cpos:=cpos) (pos:=pos) ⟨hm,yV hB hE⟩ hx cx.calm hg ha (fun env pvs q=>by rw[hn env pvs q];exact hn2) hd he hpl
structure Scr(fl:Fl):Prop where
 is:fl=.frz\/fl=.mod
def Scr.Gv(h:Scr fl):fl.Gv=fl:=by rcases h.is with rfl|rfl<;>rfl
def Scr.Gw(h:Scr fl):fl.Gw=fl:=by rcases h.is with rfl|rfl<;>rfl
def iV:∀ns:Gi,RelL T F B L H (ns.map PV.int) (ns.map V.int) []
 | []=>eZ _ _ _ _
 |n::ns=>by rw[map_cons,map_cons];unfold RelL;exact⟨_,_,[],[],rfl,dE,iV ns,rfl⟩
def ut(K:PySem.W.Frag)(tb:Addr->Option (Go):=fun _=>none):Sp:=fun vs H Q _=>(∀b ps,tb b=some ps->H b=some (.tbl ps))/\∃(a:Addr) (ns:Gi),vs=[.ref a]/\SqL K H a (ns.map V.int)/\ns.length<=63/\∀v H',v=.bl true->Q v H'
def Bc(G:b8 P w T.K mg base (CXP P w) k f fd [x] (spM T 1 m))
  (h:∀(fl:Fl) (ns:Gi),Scr fl->ns.length<=63->m [.lst fl (ns.map .int)]=.ok (.bl true)):b8 P w T.K mg base (CXP P w) k f fd [x] (ut T.K T.tb):=by
 refine G.imp fun vs H Q E q=>?_;obtain⟨hT,a,ns,rfl,hS,hl,hQ⟩:=q;have hTb:zt T H (· ∈([]:Gk)):=fun b ps h=>⟨hT b ps h,fun z=>nomatch z⟩
 have fin:∀fl,Scr fl->∀Z:Zn,GF T Z Q E (m [.lst fl (ns.map .int)]):=fun fl hf Z=>by rw[h fl ns hf hl];intro F H' v f' _ r _ _ _;unfold Rel at r;exact hQ v H' r.1
 refine⟨rfl,?_⟩;rcases hS with hS|hS
 ·refine⟨[.lst .frz (ns.map .int)],(·=a),fun _=>False,[],⟨?_,nodup_nil,fun _ z=>(nomatch z),⟨fun _ z=>False.elim z,hTb⟩,fun b hb=>?_⟩,fin _ ⟨.inl rfl⟩ _⟩
  ·unfold RelL;refine⟨_,_,[],[],rfl,?_,eZ _ _ _ _,rfl⟩;unfold Rel;exact⟨a,_,[],rfl,⟨rfl,hS⟩,iV ns,rfl,rfl⟩
  ·subst hb;rcases hS with e |⟨o,e⟩
   ·exact⟨_,e⟩
   ·exact⟨_,e⟩
 ·refine⟨[.lst .mod (ns.map .int)],fun _=>False,fun _=>False,[],⟨?_,nodup_nil,fun _ z=>(nomatch z),⟨fun _ z=>False.elim z,hTb⟩,fun _ z=>z.elim⟩,fin _ ⟨.inr rfl⟩ _⟩;unfold RelL;refine⟨_,_,[],[],rfl,?_,eZ _ _ _ _,rfl⟩;unfold Rel;exact⟨a,_,[],rfl,hS,iV ns,rfl,rfl⟩
def yL:ua K "int":=by intro t ht;simp only[mem_cons,not_mem_nil,or_false]at ht;rcases ht with rfl|rfl|rfl|rfl|rfl|rfl<;>kernel_rfl
def vT:ua K "bool":=by intro t ht;simp only[mem_cons,not_mem_nil,or_false]at ht;rcases ht with rfl|rfl|rfl|rfl|rfl|rfl<;>kernel_rfl
def om:ua K "list":=by intro t ht;simp only[mem_cons,not_mem_nil,or_false]at ht;rcases ht with rfl|rfl|rfl|rfl|rfl|rfl<;>kernel_rfl
def sV:ua K "tuple":=by intro t ht;simp only[mem_cons,not_mem_nil,or_false]at ht;rcases ht with rfl|rfl|rfl|rfl|rfl|rfl<;>kernel_rfl
def cJ:bootBuiltins "isinstance"=some (.builtin "isinstance"):=by decide +kernel
def wB:bootBuiltins "int"=some (.type "int"):=by decide +kernel
def zo:bootBuiltins "bool"=some (.type "bool"):=by decide +kernel
def dZ:bootBuiltins "list"=some (.type "list"):=by decide +kernel
def fj:bootBuiltins "tuple"=some (.type "tuple"):=by decide +kernel
def tJ(K:PySem.W.Frag)(C:Addr):Bool:=
 decide (PySem.W.findIn K (.ref C) "__getattribute__"=some (some (.builtin "BaseException.__getattribute__")))&&decide (PySem.W.findIn K (.ref C) "__getattr__"=some none) &&
 decide (PySem.W.findIn K (.ref C) "__class__"=some (some (.builtin "object.__class__")))&&decide (mroIn K C (.type "BaseException")=some true)&&decide (mroIn K C (.type "object")=some true)&&(clsIn K C).isSome &&
 excIn K C [.type "ValueError",.type "Exception",.type "BaseException",.type "object"] "ValueError.__new__"
def yW(h:tJ K C=true):FY K C/\excIn K C [.type "ValueError",.type "Exception",.type "BaseException",.type "object"] "ValueError.__new__"=true:=by simp only[tJ,and_eq_true,decide_eq_true_eq]at h;obtain⟨⟨⟨⟨⟨⟨h1,h2⟩,h3⟩,h4⟩,h5⟩,h6⟩,h7⟩:=h;exact⟨⟨h1,h2,h3,h4,h5,h6⟩,h7⟩
def yd(l:Gk)(i:Nat):Addr:=l.getD i (l.headD 0)
def nL(l:List Bool)(i:Nat):Bool:=l.getD i (l.headD false)
def uV{α:Type}{f:Addr->Option α}{g:α->Bool}{l:Gk}{bs:List Bool}{r:Bool->Option α}(hl:l≠[])(h:l.map f=bs.map r)(i:Nat):f (yd l i)=r (nL bs i):=by
 have hlen:l.length=bs.length:=by simpa using congrArg List.length h
 unfold yd nL;rw[getD_eq_getElem?_getD,getD_eq_getElem?_getD];have key:∀j,(l[j]?).map f=(bs[j]?).map r:=fun j=>by rw[<- getElem?_map,<- getElem?_map,h]
 cases e:l[i]? with
 |some C=>
  have:=key i;rw[e]at this;cases e2:bs[i]? with
  |some b=>rw[e2]at this;simpa using this
  |none=>rw[e2]at this;simp at this
 |none=>
  have hb:bs[i]?=none:=by rw[List.getElem?_eq_none_iff]at e ⊢;omega
  rw[hb];cases l with
  |nil=>exact absurd rfl hl
  |cons a l=>
   cases bs with
   |nil=>simp at hlen
   |cons b bs=>simpa using key 0
def qh:∀(xs:Gp) (ys:Gj),xs.length=ys.length->(∀(i:Nat) x y,xs[i]?=some x->ys[i]?=some y->bf x y)->aE xs ys
 | [],[],_,_=>.nil
 |x::xs,y::ys,hl,h=>.cons (h 0 x y rfl rfl) (qh xs ys (by simpa using hl) fun i a b e1 e2=>h (i+1) a b (by simpa using e1) (by simpa using e2))
 | [],_::_,hl,_|_::_,[],hl,_=>by simp at hl
def pA(lo:Int)(n:Nat):Gp:=(range n).map fun k=>.int (lo+(k:Nat))
section
variable{X:Cx}{T:Tb}{W:Nat->St->Gq}{Z:Zn}{F F1 B L:Gh}{H H1:Hp}{Y:St}{env:En}{fp:Nat->Gk}
def uK(lo:Int)(n:Nat):RelL T F B L H (ck lo n) (pA lo n) []:=by
 unfold ck pA;have:∀l:List Nat,RelL T F B L H (l.map fun k=>PV.int (lo+(k:Nat))) (l.map fun k=>V.int (lo+(k:Nat))) []:=by
  intro l
  induction l with
  |nil=>exact eZ _ _ _ _
  |cons a l ih=>rw[map_cons,map_cons];unfold RelL;exact⟨_,_,[],[],rfl,dE,ih,rfl⟩
 exact this _
def sA(hg:Gl X "range")(hm:X.mg "range"=none)(ha:PA X [a] ta)(hs:starEach [a] X.env=[(false,eval a X.env)]:=by rfl) :
  PE X (.Call (.Name "range" p) [a] [] pos) (fun Y H Q=>ta Y H fun vs H1=>∃j:Int,vs=[.int j]/\∀r,H1 r=none->Q (.ref r) (upd H1 r (.rng 0 j))):=by
 intro js s Y H Q I h;refine PyProof.Rows.Call_ (dL I hg hm PyProof.Rows.boot_range (PyProof.Rows.callWith_type1 (thn (ha pos js s Y H _ I h) fun us s1 zz=>?_) hs rfl));obtain⟨vs,H1,I1,r1,q1⟩:=zz;obtain⟨j,e,q⟩:=q1;subst e;cases r1 with
 |cons r rr=>cases rr;obtain⟨t,rfl⟩:=r;refine call_range_1 ⟨.ref s1.heap.objs.size,_,I1.laid (fun b u e=>get?_push_of_some _ e) (Nat.le_refl _) ?_,rfl,q _ (I1.hok.fresh (Nat.le_refl _))⟩;exact⟨_,_,_,get?_push_size _ rfl⟩
def kH(hc:X.calm=true):dq X (.type "list") (fun xs H Q=>∃r hi,xs=[.ref r]/\H r=some (.rng 0 hi)/\(0<=hi/\hi<=1000000)/\∀l,H l=none->Q (.ref l) (upd H l (.lst (pA 0 hi.toNat)))):=by
 intro js s Y H xs us Q I rv h;obtain⟨r,hi,rfl,hr,⟨h0,h1⟩,q⟩:=h;obtain⟨u,rfl,rx⟩:=cP rv;cases rx;obtain⟨t,u,v,e⟩:=I.hok r _ hr;have hsz:Builtin.Range.rangeSize 0 hi 1=(hi.toNat:Int):=by unfold Builtin.Range.rangeSize;rw[if_pos (by decide)];split<;>omega
 have hsm:Builtin.Range.small 0 hi 1=true:=by unfold Builtin.Range.small;rw[hsz];simp only[Builtin.Range.rangeFitsLong,and_eq_true,or_eq_true,decide_eq_true_eq,show(1:Int)>0 by decide,if_true];refine⟨⟨⟨⟨by decide,by omega⟩,by decide⟩,by omega⟩,.inr (by omega)⟩
 refine call_list_range (I.ok.hd hc) e hsm hsz (by omega) fun h' tk acc c' kp eS hacc=>?_;refine⟨.ref s.heap.objs.size,_,I.laid (t':=tk) kp (Nat.le_refl _) ?_,rfl,q _ (I.hok.fresh (Nat.le_refl _))⟩;refine⟨?_,acc.toList,c',qh _ _ ?_ fun i x y e1 e2=>?_,?_⟩
 ·rw[sizeLine_eq];simp[pA];omega
 ·simp[pA,hacc.1]
 ·have:=hacc.2 i y (by simpa using e2);obtain⟨t,rfl⟩:=this;have hi:i<hi.toNat:=by have:=(List.getElem?_eq_some_iff.mp e1).1;simpa[pA]using this
  simp[pA,hi]at e1;subst e1;exact⟨t,by simp⟩
 ·simpa using eS
def iw:Gs->Gu
 | [.int n]=>if decide (0<=n/\n<=1000000)then .ok (.lst .own (ck 0 n.toNat))else .stuck
 |_=>.stuck
def rV(hc:X.calm=true)(hg:Gl X "list")(hm:X.mg "list"=none)(hv:bootBuiltins "list"=some (.type "list"))(hg2:Gl X "range")(hm2:X.mg "range"=none)(ha:SA X T W [a] ms)
  (hs:starEach [a] X.env=[(false,eval a X.env)]:=by rfl)
  (he:starEach [.Call (.Name "range" p2) [a] [] pos2] X.env=[(false,eval (.Call (.Name "range" p2) [a] [] pos2) X.env)]:=by rfl) :
  SE X T W (.Call (.Name "list" p) [.Call (.Name "range" p2) [a] [] pos2] [] pos) (au iw ms):=by
 refine PE.wk (i3 (p:=p) (pos:=pos) (kH hc) hg hm hv (bW (sA (p:=p2) (pos:=pos2) hg2 hm2 ha hs) fD (by rw[he];rfl)) (he:=by rw[he];rfl) (hpl:=rfl)) fun Y H Q hz1=>?_;obtain⟨Z,F,env,fp,S,q⟩:=hz1;unfold au at q;refine tA.bq S fun pvs vs H1 F1 f1 e1 g1 r1 n1 d1 w1=>?_;rw[e1]at q;simp only[Res.GL]at q
 match pvs,r1,q with
 | [.int n],r1,q=>
  obtain⟨v,rfl,rv⟩:=RelL.one r1;unfold Rel at rv;obtain⟨rfl,rfl⟩:=rv;simp only[iw]at q;refine⟨n,rfl,fun r hr=>?_⟩;by_cases hn:decide (0<=n/\n<=1000000)=true
  ·rw[if_pos hn]at q;have g2:Gr F H F1 (upd H1 r (.rng 0 n)):=g1.trans (Gr.same g1.dom (Ext.upd hr));exact⟨r,n,rfl,aM,of_decide_eq_true hn,fun l hl=>GE.newL q g2 (uK 0 n.toNat) (fun _ z=>(nomatch z)) nodup_nil (fun _ z=>(nomatch z)) l hl⟩
  ·rw[if_neg hn]at q;exact q.elim
 | [],_,q|[.non],_,q|[.bl _],_,q|[.str _],_,q|[.lst _ _],_,q|[.tup _],_,q|[.obj _ _ _ _],_,q|[.exc _],_,q|[.box _ _],_,q|.int _::_::_,_,q|.non::_::_,_,q|.bl _::_::_,_,q|.str _::_::_,_,q|.lst _ _::_::_,_,q|.tup _::_::_,_,q|.obj _ _ _ _::_::_,_,q|.exc _::_::_,_,q|.box _ _::_::_,_,q=>exact q.elim
end
def bh:Gs->Option (Gi)
 | []=>some []
 |.int i::xs=>(bh xs).map (i::·)
 |_::_=>none
def lz(ns:Gi):Nat:=(firstMet (fun i=>ns.getD i 0) ns.length).length
def gC:PV->Gu
 |.lst _ xs=>match bh xs with
  |some ns=>if decide (ns.length<=1000)then .ok (.int (lz ns))else .stuck
  |none=>.stuck
 |_=>.stuck
section
variable{X:Cx}{T:Tb}{W:Nat->St->Gq}{Z:Zn}{F F1 B L:Gh}{H H1:Hp}{Y:St}{env:En}{fp:Nat->Gk}
def cO:∀{xs:Gs}{vs:Gp}{f:Gk}{ns:Gi},bh xs=some ns->RelL T F B L H xs vs f->vs=ns.map V.int
 | [],_,_,_,e,r=>by cases e;unfold RelL at r;exact r.1
 |.int i::xs,_,_,ns,e,r=>by
  unfold RelL at r;obtain⟨v,ws,f1,f2,rfl,h1,h2,rfl⟩:=r;simp only[bh]at e;cases e2:bh xs with
  |none=>rw[e2]at e;cases e
  |some ms=>rw[e2]at e;cases e;unfold Rel at h1;rw[h1.1,cO e2 h2];rfl
 |.non::_,_,_,_,e,_|.bl _::_,_,_,_,e,_|.str _::_,_,_,_,e,_|.lst _ _::_,_,_,_,e,_|.tup _::_,_,_,_,e,_|.obj _ _ _ _::_,_,_,_,e,_|.exc _::_,_,_,_,e,_|.box _ _::_,_,_,_,e,_=>by simp[bh]at e
def fq:∀{ns:Gi}{its:Gj},aE (ns.map V.int) its->PyProof.Rows.IntsAre its ns
 | [],_,r=>by cases r;exact .nil
 |n::ns,_,r=>by
  cases r with
  |cons h t=>obtain⟨tk,rfl⟩:=h;exact .cons _ _ (fq t)
def kG(hc:X.calm=true):dq X (.type "set") (fun xs H Q=>∃p ns,xs=[.ref p]/\SqL X.K H p (ns.map V.int)/\ns.length<=1000/\∀r S,H r=none->Q (.ref r) (upd H r (.set S (lz ns)))):=by
 intro js s Y H xs us Q I rv h;obtain⟨p,ns,rfl,hS,hl,q⟩:=h;obtain⟨u,rfl,rx⟩:=cP rv;cases rx;obtain⟨its,r',pl,hz⟩:=I.list hS;have hlen:=r'.length;rw[length_map]at hlen;refine call_set_list (I.ok.hd hc) pl.isList (ns:=ns) (by simpa using fq r') (by simp only[size_toArray,<- hlen];unfold scanBound;omega) fun h' tk hs kp=>?_;have e:its.toArray.size=ns.length:=by simp[hlen]
 rw[e]at hs;exact⟨.ref s.heap.objs.size,_,I.laid (t':=tk) (o:=.set (fun k'=>(firstMet (fun i=>ns.getD i 0) ns.length).any (·==k')) (lz ns)) (fun b o e=>kp b o (lt_size e) e) (Nat.le_refl _) hs,rfl,q _ _ (I.hok.fresh (Nat.le_refl _))⟩
def kI:dq X (.builtin "len") (fun xs H Q=>∃r S n,xs=[.ref r]/\H r=some (.set S n)/\Q (.int n) H):=by intro js s Y H xs us Q I rv h;obtain⟨r,S,n,rfl,hr,q⟩:=h;obtain⟨u,rfl,rx⟩:=cP rv;cases rx;obtain⟨o,es,ep,t,ho,hex,hd,_,_,hb,hf,hn⟩:=I.hok r _ hr;have hb':es.size<4096:=hb;exact call_len_set ho hex hd hf (by omega) ⟨.int n,H,I.tok _,⟨s.toks+1,by rw[hn]⟩,q⟩
def B2:bootBuiltins "set"=some (.type "set"):=by decide +kernel
def kW(hK:X.K=T.K)(hc:X.calm=true)(hg:Gl X "len")(hm:X.mg "len"=none)(hg2:Gl X "set")(hm2:X.mg "set"=none)(he:SE X T W e m)
  (hs:starEach [e] X.env=[(false,eval e X.env)]:=by rfl)
  (hs2:starEach [.Call (.Name "set" p2) [e] [] pos2] X.env=[(false,eval (.Call (.Name "set" p2) [e] [] pos2) X.env)]:=by rfl) :
  SE X T W (.Call (.Name "len" p) [.Call (.Name "set" p2) [e] [] pos2] [] pos) (mUn gC m):=by
 refine PE.wk (jY (p:=p) (pos:=pos) kI hg hm boot_len (bW (i3 (p:=p2) (pos:=pos2) (kG hc) hg2 hm2 B2 (bW he fD (by rw[hs];rfl)) (he:=by rw[hs];rfl) (hpl:=rfl)) fD (by rw[hs2];rfl)) (he:=by rw[hs2];rfl) (hpl:=rfl)) fun Y H Q hz1=>?_;obtain⟨Z,F,env,fp,S,q⟩:=hz1;unfold mUn at q;refine tE.bq S fun x v H1 F1 f1 e1 g1 r1 n1 d1 w1=>?_;rw[e1]at q;cases x with
 |lst fl xs=>
  simp only[Res.GL,gC]at q;cases en:bh xs with
  |none=>rw[en]at q;exact q.elim
  |some ns=>
   rw[en]at q;dsimp only at q;unfold Rel at r1;obtain⟨a,vs,fp',rfl,hl,hr,_⟩:=r1;by_cases hn:decide (ns.length<=1000)=true
   ·rw[if_pos hn]at q;have hv:=cO en hr;subst hv;exact⟨a,ns,rfl,by rw[hK];exact hl.sq,of_decide_eq_true hn,fun r S hr=>⟨r,S,_,rfl,aM,q.scal (g1.trans (Gr.same g1.dom (Ext.upd hr))) dE⟩⟩
   ·rw[if_neg hn]at q;exact q.elim
 |_=>exact q.elim
end
def eQ:Gi->Int
 | []=>0
 | [a]=>a
 |a::b::l=>min a (eQ (b::l))
def iz:Gi->Int
 | []=>0
 | [a]=>a
 |a::b::l=>max a (iz (b::l))
def j2:∀{l:Gi},l≠[]->eQ l∈l/\∀x∈l,eQ l<=x
 | [],h=>absurd rfl h
 | [a],_=>by simp[eQ]
 |a::b::l,_=>by
  obtain⟨h1,h2⟩:=j2 (l:=b::l) (by simp);unfold eQ
  grind
def j3:∀{l:Gi},l≠[]->iz l∈l/\∀x∈l,x<=iz l
 | [],h=>absurd rfl h
 | [a],_=>by simp[iz]
 |a::b::l,_=>by
  obtain⟨h1,h2⟩:=j3 (l:=b::l) (by simp);unfold iz;refine⟨?_,fun x hx=>?_⟩
  ·rcases Int.le_total a (iz (b::l))with h|h
   ·rw[Int.max_eq_right h];exact mem_cons_of_mem _ h1
   ·rw[Int.max_eq_left h];exact mem_cons_self
  ·rcases mem_cons.mp hx with rfl|hx
   ·exact Int.le_max_left _ _
   ·exact Int.le_trans (h2 x hx) (Int.le_max_right _ _)
section
variable{X:Cx}{T:Tb}{W:Nat->St->Gq}{Z:Zn}{F F1 B L:Gh}{H H1:Hp}{Y:St}{env:En}{fp:Nat->Gk}{js:Gg}{s:Shared}
def eE{h':Heap}{t:Nat}(I:L2.Inv X js Y H s)(k:∀b o,s.heap.get? b=some o->h'.get? b=some o):L2.Inv X js Y H {s with heap:=h',toks:=t}:=I.un (Un.kept k) (I.hok.kept k)
def c_{its:Gj}{ns:Gi}(r:aE (ns.map V.int) its):∀(i:Nat) (v:Value),its.toArray[i]?=some v->∃t,v=.int (ns.getD i 0) t:=by
 intro i v e;have e':its[i]?=some v:=by simpa using e
 have hi:i<ns.length:=by have h1:=(List.getElem?_eq_some_iff.mp e').1;have h2:=r.length;rw[length_map]at h2;omega
 have:∀{ns:Gi}{its:Gj}{i:Nat}{v:Value},aE (ns.map V.int) its->its[i]?=some v->∃t,v=.int (ns.getD i 0) t:=by
  intro ns
  induction ns with
  |nil=>intro its i v r e;cases r;simp at e
  |cons n ns ih=>
   intro its i v r e;cases r with
   |cons h t=>
    obtain⟨tk,rfl⟩:=h;cases i with
    |zero=>simp at e;exact⟨tk,by rw[<- e];rfl⟩
    |succ i=>obtain⟨tk',h'⟩:=ih t (by simpa using e);exact⟨tk',by rw[h'];rfl⟩
 exact this r e'
def oS{ns:Gi}(h:0<ns.length):ns.getD (argBest (fun i j=>decide (ns.getD i 0<ns.getD j 0)) (ns.length-1)) 0=eQ ns:=by
 obtain⟨h1,h2⟩:=argBest_lt (fun i=>ns.getD i 0) (ns.length-1);obtain⟨m1,m2⟩:=j2 (l:=ns) (by intro z;simp[z]at h);refine Int.le_antisymm ?_ (m2 _ ?_)
 ·obtain⟨i,hi,e⟩:=getElem_of_mem m1;have:=h2 i (by omega)
  grind
 ·rw[getD_eq_getElem?_getD,getElem?_eq_getElem (by omega)];exact List.getElem_mem _
def wA{ns:Gi}(h:0<ns.length):ns.getD (argBest (fun i j=>decide (ns.getD i 0>ns.getD j 0)) (ns.length-1)) 0=iz ns:=by
 obtain⟨h1,h2⟩:=argBest_gt (fun i=>ns.getD i 0) (ns.length-1);obtain⟨m1,m2⟩:=j3 (l:=ns) (by intro z;simp[z]at h);refine Int.le_antisymm (m2 _ ?_) ?_
 ·rw[getD_eq_getElem?_getD,getElem?_eq_getElem (by omega)];exact List.getElem_mem _
 ·obtain⟨i,hi,e⟩:=getElem_of_mem m1;have:=h2 i (by omega)
  grind
def fW{n:Nat}{l I:Addr}(hl:l<n)(e:I=n):∀b∈[I,l],b<n+1:=(by grind)
def cY{h h':Heap}{o:Obj}(hk:∀b u,b∉[h.objs.size]->(h.push o).get? b=some u->h'.get? b=some u):∀b u,h.get? b=some u->h'.get? b=some u:=fun b u e=>
 hk b u (fun hm=>by
  rcases mem_cons.mp hm with z|z
  ·exact absurd (z▸lt_size e) (Nat.lt_irrefl _)
  ·cases z) (get?_push_of_some _ e)
def mL(hc:X.calm=true):dq X (.builtin "min") (fun xs H Q=>∃p ns,xs=[.ref p]/\(SqL X.K H p (ns.map V.int)\/ SqT X.K H p (ns.map V.int))/\0<ns.length/\Q (.int (eQ ns)) H):=by
 intro js s Y H xs us Q I rv h;obtain⟨p,ns,rfl,hq,hn,q⟩:=h;obtain⟨u,rfl,rx⟩:=cP rv;cases rx;have hh:=I.ok.hd hc;have key:∀{its:Gj},aE (ns.map V.int) its->∀{v:Value}{h':Heap}{tk:Nat},its.toArray[argBest (fun i j=>decide (ns.getD i 0<ns.getD j 0)) (its.toArray.size-1)]?=some v->(∀b o,s.heap.get? b=some o->h'.get? b=some o)->EP X js Y Q v {s with heap:=h',toks:=tk}:=by
  intro its r v h' tk hv k;have hl:its.toArray.size=ns.length:=by have:=r.length;simpa using this.symm
  rw[hl]at hv;obtain⟨t,rfl⟩:=c_ r _ _ hv;rw[oS hn];exact⟨.int _,H,eE I k,⟨t,rfl⟩,q⟩
 rcases hq with hq|hq
 ·obtain⟨its,r,pl,hz⟩:=I.list hq;have hl:its.toArray.size=ns.length:=by have:=r.length;simpa using this.symm
  obtain⟨o,ho,hcl,n,hd⟩:=pl.isList;have hlt:=lt_size ho;refine call_min_walk (wpAny_pyIter_list pl.isList ?_);refine⟨_,_,_,_,_,_,_,rfl,Walks.list (A:=X.A.in1) hh _ p (Nat.ne_of_lt hlt) its.toArray,⟨⟨_,get?_push_size _ rfl,rfl,rfl⟩,pl.isList.push _⟩,fun b hb=>?_,by omega,CmpOf.ints_lt (fun i=>ns.getD i 0) (c_ r),fun v h' tk hP hk=>key r hP (cY hk)⟩;show b <(s.heap.push _).objs.size;rw[size_push];exact fW hlt rfl b hb
 ·obtain⟨its,r,pl,hz⟩:=I.tuple hq;have hl:its.toArray.size=ns.length:=by have:=r.length;simpa using this.symm
  have pt:s.heap.IsTuple p its.toArray:=pl;obtain⟨o,ho,hcl,n,hd⟩:=pl;have hlt:=lt_size ho;refine call_min_walk (wpAny_pyIter_tuple pt ?_);refine⟨_,_,_,_,_,_,_,rfl,Walks.tuple (A:=X.A.in1) hh _ p (Nat.ne_of_lt hlt) its.toArray,⟨⟨_,get?_push_size _ rfl,rfl,rfl⟩,pt.push _⟩,fun b hb=>?_,by omega,CmpOf.ints_lt (fun i=>ns.getD i 0) (c_ r),fun v h' tk hP hk=>key r hP (cY hk)⟩;show b <(s.heap.push _).objs.size;rw[size_push];exact fW hlt rfl b hb
def mM(hc:X.calm=true):dq X (.builtin "max") (fun xs H Q=>∃p ns,xs=[.ref p]/\(SqL X.K H p (ns.map V.int)\/ SqT X.K H p (ns.map V.int))/\0<ns.length/\Q (.int (iz ns)) H):=by
 intro js s Y H xs us Q I rv h;obtain⟨p,ns,rfl,hq,hn,q⟩:=h;obtain⟨u,rfl,rx⟩:=cP rv;cases rx;have hh:=I.ok.hd hc;have key:∀{its:Gj},aE (ns.map V.int) its->∀{v:Value}{h':Heap}{tk:Nat},its.toArray[argBest (fun i j=>decide (ns.getD i 0>ns.getD j 0)) (its.toArray.size-1)]?=some v->(∀b o,s.heap.get? b=some o->h'.get? b=some o)->EP X js Y Q v {s with heap:=h',toks:=tk}:=by
  intro its r v h' tk hv k;have hl:its.toArray.size=ns.length:=by have:=r.length;simpa using this.symm
  rw[hl]at hv;obtain⟨t,rfl⟩:=c_ r _ _ hv;rw[wA hn];exact⟨.int _,H,eE I k,⟨t,rfl⟩,q⟩
 rcases hq with hq|hq
 ·obtain⟨its,r,pl,hz⟩:=I.list hq;have hl:its.toArray.size=ns.length:=by have:=r.length;simpa using this.symm
  obtain⟨o,ho,hcl,n,hd⟩:=pl.isList;have hlt:=lt_size ho;refine call_max_walk (wpAny_pyIter_list pl.isList ?_);refine⟨_,_,_,_,_,_,_,rfl,Walks.list (A:=X.A.in1) hh _ p (Nat.ne_of_lt hlt) its.toArray,⟨⟨_,get?_push_size _ rfl,rfl,rfl⟩,pl.isList.push _⟩,fun b hb=>?_,by omega,CmpOf.ints_gt (fun i=>ns.getD i 0) (c_ r),fun v h' tk hP hk=>key r hP (cY hk)⟩;show b <(s.heap.push _).objs.size;rw[size_push];exact fW hlt rfl b hb
 ·obtain⟨its,r,pl,hz⟩:=I.tuple hq;have hl:its.toArray.size=ns.length:=by have:=r.length;simpa using this.symm
  have pt:s.heap.IsTuple p its.toArray:=pl;obtain⟨o,ho,hcl,n,hd⟩:=pl;have hlt:=lt_size ho;refine call_max_walk (wpAny_pyIter_tuple pt ?_);refine⟨_,_,_,_,_,_,_,rfl,Walks.tuple (A:=X.A.in1) hh _ p (Nat.ne_of_lt hlt) its.toArray,⟨⟨_,get?_push_size _ rfl,rfl,rfl⟩,pt.push _⟩,fun b hb=>?_,by omega,CmpOf.ints_gt (fun i=>ns.getD i 0) (c_ r),fun v h' tk hP hk=>key r hP (cY hk)⟩;show b <(s.heap.push _).objs.size;rw[size_push];exact fW hlt rfl b hb
def e9(g:Gi->Int):PV->Gu:=fun x=>match aN x with
 |some xs=>match bh xs with
  |some ns=>if ns.isEmpty then .stuck else .ok (.int (g ns))
  |none=>.stuck
 |none=>.stuck
def n5(hK:X.K=T.K):Mir T W (p1 (e9 g)) (fun xs H Q=>∃p ns,xs=[.ref p]/\(SqL X.K H p (ns.map V.int)\/ SqT X.K H p (ns.map V.int))/\0<ns.length/\Q (.int (g ns)) H):=by
 intro B F L Y H Q F' H' xs vs fx gr r nf nd new q
 match xs,r,q with
 | [x],r,q=>
  obtain⟨v,rfl,rv⟩:=RelL.one r;simp only[p1,e9]at q;cases e:aN x with
  |none=>rw[e]at q;exact q.elim
  |some ys=>
   rw[e]at q;dsimp only at q;cases e2:bh ys with
   |none=>rw[e2]at q;exact q.elim
   |some ns=>
    rw[e2]at q;dsimp only at q;obtain⟨a,us,fx',rfl,hs,hr,_⟩:=rv.seq e;have hu:=cO e2 hr;subst hu;cases ns with
    |nil=>exact q.elim
    |cons n ns=>exact⟨a,_,rfl,by rw[hK];exact hs,by simp,q.scal gr dE⟩
 | [],_,q=>exact q.elim
 |_::_::_,_,q=>simp only[p1]at q;exact q.elim
def p0:bootBuiltins "min"=some (.builtin "min"):=by decide +kernel
def B3:bootBuiltins "max"=some (.builtin "max"):=by decide +kernel
def qq(hK:X.K=T.K)(hc:X.calm=true)(hg:Gl X "min")(hm:X.mg "min"=none)(ha:SE X T W e m)(he:starEach [e] X.env=[(false,eval e X.env)]:=by rfl):SE X T W (.Call (.Name "min" p) [e] [] pos) (au (p1 (e9 eQ)) (ae m ah)):=
 eB (mL hc) (n5 hK) hg hm p0 (ac ha ag (by rw[he];rfl)) (he:=by rw[he];rfl) (hpl:=rfl)
def qr(hK:X.K=T.K)(hc:X.calm=true)(hg:Gl X "max")(hm:X.mg "max"=none)(ha:SE X T W e m)(he:starEach [e] X.env=[(false,eval e X.env)]:=by rfl):SE X T W (.Call (.Name "max" p) [e] [] pos) (au (p1 (e9 iz)) (ae m ah)):=
 eB (mM hc) (n5 hK) hg hm B3 (ac ha ag (by rw[he];rfl)) (he:=by rw[he];rfl) (hpl:=rfl)
def fE(g:Int->Int->Int):Gs->Gu
 | [.int i,.int j]=>.ok (.int (g i j))
 |_=>.stuck
def sN{g:Int->Int->Int}{g':Int->Int->Int}(hg:∀i j,g' i j=g i j):Mir T W (fE g) (fun xs H Q=>∃i j,xs=[.int i,.int j]/\Q (.int (g' i j)) H):=by
 intro B F L Y H Q F' H' xs vs fx gr r nf nd new q
 match xs,r,q with
 | [x,y],r,q=>
  cases x with
  |int i=>
   cases y with
   |int j=>unfold RelL at r;obtain⟨v,ws,f1,f2,rfl,h1,h2,rfl⟩:=r;obtain⟨u,rfl,h3⟩:=RelL.one h2;unfold Rel at h1 h3;obtain⟨rfl,_⟩:=h1;obtain⟨rfl,_⟩:=h3;exact⟨i,j,rfl,by rw[hg];exact q.scal gr dE⟩
   |_=>exact q.elim
  |_=>exact q.elim
 | [],_,q=>exact q.elim
 | [x],_,q=>cases x<;>exact q.elim
 |x::y::z::l,_,q=>cases x<;>cases y<;>exact q.elim
def lR(hc:X.calm=true)(hg:Gl X "min")(hm:X.mg "min"=none)(ha:SA X T W [a,b] ms)(he:starEach [a,b] X.env=[(false,eval a X.env),(false,eval b X.env)]:=by rfl)(he2:starEach [b] X.env=[(false,eval b X.env)]:=by rfl) :
  SE X T W (.Call (.Name "min" p) [a,b] [] pos) (au (fE min) ms):=
 eB (t5 hc) (sN fun i j=>by simp only[Int.min_def];split<;>split<;>omega) hg hm p0 ha (he:=by rw[he,he2]) (hpl:=by rw[he2];rfl)
end
end PR
namespace PR
open PySem PySem.W PyProof.Rows
structure Ord(N:Nat)(lt:Nat->Nat->Bool):Prop where
 tr:∀i j k,i<N->j<N->k<N->lt i j=true->lt j k=true->lt i k=true
 tot:∀i j,i<N->j<N->i≠j->lt i j=false->lt j i=true
 irr:∀i,i<N->lt i i=false
structure Plc(N:Nat)(p:Array Nat):Prop where
 pm:p.toList.Perm (range N)
abbrev at_(p:Array Nat)(i:Nat):Nat:=p.getD i 0
section
variable{N:Nat}{lt:Nat->Nat->Bool}{p:Array Nat}
def Plc.sz(P:Plc N p):p.size=N:=by simpa using P.pm.length_eq
def Plc.get(P:Plc N p)(h:i<N):p[i]?=some (at_ p i):=by
 have:i<p.size:=by rw[P.sz];exact h
 simp[at_,this]
def Plc.bd(P:Plc N p)(h:i<N):at_ p i<N:=by
 have hm:at_ p i∈p.toList:=by have:=P.get h;exact Array.mem_toList_iff.mpr (Array.mem_of_getElem? this)
 simpa using P.pm.mem_iff.mp hm
def Plc.inj(P:Plc N p)(hi:i<N)(hj:j<N)(e:at_ p i=at_ p j):i=j:=by
 have nd:p.toList.Nodup:=P.pm.nodup_iff.mpr nodup_range;have h1:=P.get hi;have h2:=P.get hj;rw[e]at h1;have h1':p.toList[i]?=some (at_ p j):=by simpa using h1
 have h2':p.toList[j]?=some (at_ p j):=by simpa using h2
 obtain⟨a1,b1⟩:=List.getElem?_eq_some_iff.mp h1';obtain⟨a2,b2⟩:=List.getElem?_eq_some_iff.mp h2';exact(getElem_inj nd).mp (b1.trans b2.symm)
def Asc(lt:Nat->Nat->Bool)(p:Array Nat)(n:Nat):Prop:=∀a b,a<b->b<n->lt (at_ p a) (at_ p b)=true
def Dsc(lt:Nat->Nat->Bool)(p:Array Nat)(n:Nat):Prop:=∀a b,a<b->b<n->lt (at_ p b) (at_ p a)=true
def Asc.more(O:Ord N lt)(P:Plc N p)(h:Asc lt p n)(h1:1<=n)(hn:n<N)(hl:lt (at_ p (n-1)) (at_ p n)=true):Asc lt p (n+1):=fun a b hab hb=>by
 by_cases hbn:b<n
 ·exact h a b hab hbn
 ·obtain rfl:b=n:=by omega
  by_cases ha:a=b-1
  ·rw[ha];exact hl
  ·exact O.tr _ _ _ (P.bd (by omega)) (P.bd (by omega)) (P.bd (by omega)) (h a (b-1) (by omega) (by omega)) hl
def Dsc.more(O:Ord N lt)(P:Plc N p)(h:Dsc lt p n)(h1:1<=n)(hn:n<N)(hl:lt (at_ p n) (at_ p (n-1))=true):Dsc lt p (n+1):=fun a b hab hb=>by
 by_cases hbn:b<n
 ·exact h a b hab hbn
 ·obtain rfl:b=n:=by omega
  by_cases ha:a=b-1
  ·rw[ha];exact hl
  ·exact O.tr _ _ _ (P.bd (by omega)) (P.bd (by omega)) (P.bd (by omega)) hl (h a (b-1) (by omega) (by omega))
def Dsc.rev(P:Plc N p)(h:Dsc lt p n)(hn:n<=N):Asc lt (kas_rev p 0 n) n/\Plc N (kas_rev p 0 n):=by
 have hp:(kas_rev p 0 n).toList.Perm p.toList:=Array.perm_iff_toList_perm.mp (mirror_perm _ _ _ _);have P':Plc N (kas_rev p 0 n):=⟨hp.trans P.pm⟩
 have ix:∀k,k<n->at_ (kas_rev p 0 n) k=at_ p (n-1-k):=fun k hk=>by
  have e:=getElem?_mirror_all (xs:=p) (i:=0) (j:=n) (by rw[P.sz];exact hn) k;have h1:(kas_rev p 0 n)[k]?=p[0+n-1-k]?:=by unfold kas_rev;rw[e,if_pos ⟨by omega,hk⟩]
  rw[P'.get (by omega),show 0+n-1-k=n-1-k by omega,P.get (by omega)]at h1;exact Option.some.inj h1
 refine⟨fun a b hab hb=>?_,P'⟩;rw[ix a (by omega),ix b hb];exact h _ _ (by omega) (by omega)
variable{cmp:Nat->Nat->(Bool->Shared->Prop)->Shared->Prop}{s:Shared}
abbrev Cmp(N:Nat)(lt:Nat->Nat->Bool)(cmp:Nat->Nat->(Bool->Shared->Prop)->Shared->Prop)(s:Shared):Prop:=∀(i j:Nat) (C:Bool->Shared->Prop),i<N->j<N->C (lt i j) s->cmp i j C s
def p_(O:Ord N lt)(C:Cmp N lt cmp s)(P:Plc N p):∀(f n:Nat) (Q:Nat->Shared->Prop),1<=n->n+f=N->Asc lt p n->(∀m,n<=m->m<=N->Asc lt p m->(m<N->lt (at_ p m) (at_ p (m-1))=true)->Q m s)->(kas_asc p f n).kasWp cmp Q s
 |0,n,Q,h1,hn,ha,k=>k n (Nat.le_refl _) (by omega) ha (by omega)
 |f+1,n,Q,h1,hn,ha,k=>by
  refine C _ _ _ (P.bd (by omega)) (P.bd (by omega)) ?_;cases e:lt (at_ p n) (at_ p (n-1))with
  |true=>exact k n (Nat.le_refl _) (by omega) ha fun _=>e
  |false=>have hl:=O.tot _ _ (P.bd (by omega)) (P.bd (by omega)) (fun z=>by have:=P.inj (by omega) (by omega) z;omega) e;exact p_ O C P f (n+1) Q (by omega) (by omega) (ha.more O P h1 (by omega) hl) fun m hm=>k m (by omega)
def wq(O:Ord N lt)(C:Cmp N lt cmp s)(P:Plc N p):∀(f n:Nat) (Q:Array Nat×Nat×Nat->Shared->Prop),1<=n->n+f=N->Dsc lt p n->(∀m,n<=m->m<=N->Dsc lt p m->Q (p,m,0) s)->(kas_desc f p n 0).kasWp cmp Q s
 |0,n,Q,h1,hn,ha,k=>k n (Nat.le_refl _) (by omega) ha
 |f+1,n,Q,h1,hn,ha,k=>by
  refine C _ _ _ (P.bd (by omega)) (P.bd (by omega)) ?_;cases e:lt (at_ p n) (at_ p (n-1))with
  |true=>exact wq O C P f (n+1) Q (by omega) (by omega) (ha.more O P h1 (by omega) e) fun m hm=>k m (by omega)
  |false=>have hl:=O.tot _ _ (P.bd (by omega)) (P.bd (by omega)) (fun z=>by have:=P.inj (by omega) (by omega) z;omega) e;refine C _ _ _ (P.bd (by omega)) (P.bd (by omega)) ?_;have e2:lt (p.getD (n-1) 0) (p.getD n 0)=true:=hl;rw[e2];exact k n (Nat.le_refl _) (by omega) ha
def wu(O:Ord N lt)(C:Cmp N lt cmp s)(P:Plc N p)(h2:2<=N)(Q:Nat×Array Nat->Shared->Prop)(k:∀m p',1<=m->m<=N->Plc N p'->Asc lt p' m->Q (m,p') s):(kas_count N p).kasWp cmp Q s:=by
 unfold kas_count;rw[KasT.kasWp_bind];refine p_ O C P (N-1) 1 _ (Nat.le_refl _) (by omega) (fun a b _ hb=>by omega) fun n h1 hn ha hs=>?_;by_cases e:n=N
 ·rw[if_pos (by simpa using e)];exact k n p h1 hn P ha
 ·rw[if_neg (by simpa using e)];by_cases hn1:n>1
  ·rw[if_pos hn1];refine C _ _ _ (P.bd (by omega)) (P.bd (by omega)) ?_;have e2:lt (p.getD 0 0) (p.getD (n-1) 0)=true:=ha 0 (n-1) (by omega) (by omega);rw[e2];exact k n p h1 hn P ha
  ·rw[if_neg hn1];obtain rfl:n=1:=by omega
   unfold kas_descPart;rw[KasT.kasWp_bind];refine wq O C P (N-2) 2 _ (by omega) (by omega) (fun a b hab hb=>?_) fun m hm1 hm2 hd=>?_
   ·obtain rfl:a=0:=by omega
    obtain rfl:b=1:=by omega
    exact hs (by omega)
   ·dsimp only;rw[if_neg (Nat.lt_irrefl 0)];obtain⟨ha',P'⟩:=hd.rev P hm2;unfold kas_tail3;rw[KasT.kasWp_bind];exact p_ O C P' (N-m) m _ (by omega) (by omega) ha' fun n' h1' hn' ha'' _=>k n' _ (by omega) hn' P' ha''
def jV(O:Ord N lt)(C:Cmp N lt cmp s)(P:Plc N p)(hk:k<N)(ha:Asc lt p k):∀(f l r:Nat) (Q:Nat->Shared->Prop),l<=r->r<=k->r-l<=f->(∀a,a<l->lt (at_ p a) (at_ p k)=true)->(∀a,r<=a->a<k->lt (at_ p k) (at_ p a)=true)->
  (∀m,m<=k->(∀a,a<m->lt (at_ p a) (at_ p k)=true)->(∀a,m<=a->a<k->lt (at_ p k) (at_ p a)=true)->Q m s)->(kas_place p k f l r).kasWp cmp Q s
 |0,l,r,Q,h1,h2,h3,h4,h5,q=>by
  obtain rfl:l=r:=by omega
  exact q l h2 h4 h5
 |f+1,l,r,Q,h1,h2,h3,h4,h5,q=>by
  unfold kas_place;by_cases e:l >= r
  ·rw[if_pos e];obtain rfl:l=r:=by omega
   exact q l h2 h4 h5
  ·rw[if_neg e];have hm:(l+r) / 2<r:=by omega
   have hm2:l <=(l+r) / 2:=by omega
   refine C _ _ _ (P.bd hk) (P.bd (by omega)) ?_;cases e2:lt (at_ p k) (at_ p ((l+r) / 2))with
   |true=>
    refine jV O C P hk ha f l ((l+r) / 2) Q hm2 (by omega) (by omega) h4 (fun a h6 h7=>?_) q;by_cases hae:a=(l+r) / 2
    ·rw[hae];exact e2
    ·exact O.tr _ _ _ (P.bd hk) (P.bd (by omega)) (P.bd (by omega)) e2 (ha _ a (by omega) h7)
   |false=>
    have hl:=O.tot _ _ (P.bd hk) (P.bd (by omega)) (fun z=>by have:=P.inj hk (by omega) z;omega) e2;refine jV O C P hk ha f ((l+r) / 2+1) r Q (by omega) h2 (by omega) (fun a h6=>?_) h5 q;by_cases hae:a=(l+r) / 2
    ·rw[hae];exact hl
    ·exact O.tr _ _ _ (P.bd (by omega)) (P.bd (by omega)) (P.bd hk) (ha a _ (by omega) (by omega)) hl
def wz(O:Ord N lt)(C:Cmp N lt cmp s):∀(f k:Nat) (p:Array Nat) (Q:Array Nat->Shared->Prop),Plc N p->Asc lt p k->k+f=N->(∀p',Plc N p'->Asc lt p' N->Q p' s)->(kas_bin f p k).kasWp cmp Q s
 |0,k,p,Q,P,ha,hk,q=>q p P (by rw[<- hk];exact ha)
 |f+1,k,p,Q,P,ha,hk,q=>by
  unfold kas_bin;rw[KasT.kasWp_bind];refine jV O C P (by omega) ha k 0 k _ (zero_le _) (Nat.le_refl _) (by omega) (fun _ z=>absurd z (Nat.not_lt_zero _)) (fun a h1 h2=>by omega) fun m hm h1 h2=>?_;have P':Plc N (bubble p k (k-m)):=⟨(Array.perm_iff_toList_perm.mp (bubble_perm _ _ _)).trans P.pm⟩
  have ix:=getElem?_bubble (xs:=p) (src:=k) (by rw[P.sz];omega) (k-m) (by omega);have g:∀i,i<k+1->at_ (bubble p k (k-m)) i=if i=m then at_ p k else if m<i then at_ p (i-1)else at_ p i:=fun i hi=>by
   have e:=ix i;rw[P'.get (by omega)]at e;have hkm:k-(k-m)=m:=by omega
   rw[hkm]at e;by_cases c1:i=m
   ·rw[if_pos c1];rw[if_pos c1,P.get (by omega)]at e;exact Option.some.inj e
   ·rw[if_neg c1]at e ⊢;by_cases c2:m<i
    ·rw[if_pos c2];rw[if_pos ⟨c2,by omega⟩,P.get (by omega)]at e;exact Option.some.inj e
    ·rw[if_neg c2];rw[if_neg (fun z=>c2 z.1),P.get (by omega)]at e;exact Option.some.inj e
  refine wz O C f (k+1) _ Q P' (fun a b hab hb=>?_) (by omega) q;rw[g a (by omega),g b hb];by_cases a1:a=m
  ·rw[if_pos a1,if_neg (by omega),if_pos (by omega)];exact h2 (b-1) (by omega) (by omega)
  ·rw[if_neg a1];by_cases a2:m<a
   ·rw[if_pos a2,if_neg (by omega),if_pos (by omega)];exact ha _ _ (by omega) (by omega)
   ·rw[if_neg a2];by_cases b1:b=m
    ·rw[if_pos b1];exact h1 a (by omega)
    ·rw[if_neg b1];by_cases b2:m<b
     ·rw[if_pos b2];by_cases hh:a=b-1
      ·omega
      ·exact ha _ _ (by omega) (by omega)
     ·rw[if_neg b2];exact ha _ _ hab (by omega)
def xu(O:Ord N lt)(C:Cmp N lt cmp s)(h2:2<=N)(Q:Array Nat->Shared->Prop)(q:∀p,Plc N p->Asc lt p N->Q p s):(kas_sort N).kasWp cmp Q s:=by
 unfold kas_sort;rw[KasT.kasWp_bind];refine wu O C (p:=List.toArray (range N)) ⟨by simp⟩ h2 _ fun m p' h1 hm P ha=>?_;dsimp only;by_cases e:m<N
 ·rw[if_pos e,Nat.max_eq_left h1];exact wz O C (N-m) m p' Q P ha (by omega) q
 ·rw[if_neg e];obtain rfl:m=N:=by omega
  exact q p' P ha
end
end PR
namespace PR
open PySem PySem.Spec L2 PyProof.Rows PySem.W
section
variable{prog:Program}{w:World}{A:Around}{E:Gc}{s:Shared}
def jZ(vs:Gj)(p:Array Nat):Go:=(p.toList.map fun i=>vs.getD i Value.none).toArray
def sw(N:Nat):Plc N (range N).toArray:=⟨by simp⟩
def jq:jZ vs (range vs.length).toArray=vs.toArray:=by unfold jZ;congr 1;refine List.ext_getElem (by simp) fun i h1 h2=>?_;simp[h2]
def xh{vs:Gj}(h:vs.length<2):(vs.toArray.zip vs.toArray).map (·.2)=vs.toArray:=by
 cases vs with
 |nil=>simp
 |cons v l=>cases l with
  |nil=>simp
  |cons w l=>simp only[List.length_cons]at h;omega
def sQ{κ:SortKind}(ho:s.heap.get? a=some (seqObj "list" vs.toArray n))(h64:vs.length<64)
  (hK:2<=vs.length->∀s':Shared,(∀b o,b≠a->s.heap.get? b=some o->s'.heap.get? b=some o)->Ord vs.length lt/\(∀Q:SortKind->Shared->Prop,Q κ s'->wpAny (model prog w) A (keyKind' vs.toArray) Q E s')/\Cmp vs.length lt (kas_ask prog w A κ vs) s')
  (h:∀p,Plc vs.length p->Asc lt p vs.length->P (.done (.ret .none)) {s with heap:=sortedHeap s.heap a vs (jZ vs p)}) :
  wpAny (model prog w) A (Builtin.«list.sort» ⟨[.ref a],[]⟩) P E s:=by
 have lo:=lt_size ho;obtain⟨e1,g1⟩:∃e1,(s.heap.update a (Obj.mapSeq fun _=>#[])).get? a=some (seqObj "list" #[] e1):=⟨_,get?_update_seq ho (fun _=>#[])⟩
 have g6:(((s.heap.update a (Obj.mapSeq fun _=>#[])).push (seqObj "tuple" vs.toArray 0)).push (seqObj "list" #[] 0)).get? a=some (seqObj "list" #[] e1):=get?_push_of_some _ (get?_push_of_some _ g1);have kp:∀b o,b≠a->s.heap.get? b=some o->(((s.heap.update a (Obj.mapSeq fun _=>#[])).push (seqObj "tuple" vs.toArray 0)).push (seqObj "list" #[] 0)).get? b=some o:=fun b o hb q=>
  get?_push_of_some _ (get?_push_of_some _ ((Heap.get?_update_ne _ _ _ _ hb).trans q))
 rw[list_sort_plain];refine wpAny_bind (listItems_at ho rfl (wpAny_bind (listUpdate_at ho rfl (wpAny_bind (seqEpoch_at g1 rfl (wpAny_bind (wpAny_newTuple (wpAny_bind (wpAny_newList (wpAny_holding ?_))))))))))<;>try (simp only[size_toArray,sizeLine_eq];omega)
 show wpAny (model prog w) A _ P E {s with heap:=((s.heap.update a (Obj.mapSeq fun _=>#[])).push (seqObj "tuple" vs.toArray 0)).push (seqObj "list" #[] 0)};dsimp only;by_cases h2:vs.toArray.size<2
 ·have h2':vs.length<2:=by simpa using h2
  rw[if_pos h2,if_pos h2];refine wpAny_bind (wpAny_pure ?_);rw[StateT.run_pure];refine wpAny_bind (wpAny_pure ?_);dsimp only;have e3:(arrOf (SortSt.mk' general' (vs.toArray.zip vs.toArray) #[] 7 none)).map (·.2)=jZ vs (range vs.length).toArray:=by rw[jq];show(vs.toArray.zip vs.toArray).map (·.2)=vs.toArray;exact xh h2'
  rw[e3];refine wpAny_bind (seqEpoch_at g6 rfl (wpAny_bind (listUpdate_at g6 rfl ?_ (zero_le _) (by rw[jq];simp only[size_toArray,sizeLine_eq];omega))));simp only[bne_self_eq_false,false_eq_true,if_false];exact wpAny_pure (h _ (sw _) fun x y hxy hy=>by omega)
 ·have h2':2<=vs.length:=by simp at h2;omega
  rw[if_neg h2,if_neg h2];obtain⟨O,hk,C⟩:=hK h2' {s with heap:=((s.heap.update a (Obj.mapSeq fun _=>#[])).push (seqObj "tuple" vs.toArray 0)).push (seqObj "list" #[] 0)} kp;refine wpAny_bind (hk _ ?_);refine wpAny_bind (wpAny_mono (kat_run (κ:=κ) (ks:=vs) (vs:=vs) (Q:=fun st' s'=>∃ p:Array Nat,arrOf st'=p.map (kas_item (vs.toArray.zip vs.toArray))/\failedOf st'=none/\Plc vs.length p/\Asc lt p vs.length/\s'=_) rfl h2' h64
   (fun p st' s' _ a2 a3 a4=>⟨p,a2,a3,a4⟩) (xu O C h2' _ fun p c1 c2=>⟨c1,c2,rfl⟩)) ?_ fun _ _ e=>e)
  rintro⟨⟨⟩,st'⟩ s' ⟨p,har,hf,c1,c2,rfl⟩;dsimp only;have e3:=kat_snds (ks:=vs) (vs:=vs) rfl har;rw[e3];refine wpAny_bind (seqEpoch_at g6 rfl (wpAny_bind (listUpdate_at g6 rfl ?_ (zero_le _) (by
   rw[size_toArray,length_map,Array.length_toList,c1.sz,sizeLine_eq];omega))))
  rw[hf];simp only[bne_self_eq_false,false_eq_true,if_false];exact wpAny_pure (h _ c1 c2)
def pd{κ:SortKind}(hl:s.heap.IsList l vs.toArray)(h64:vs.length<64)
  (hK:2<=vs.length->∀s':Shared,(∀b o,s.heap.get? b=some o->s'.heap.get? b=some o)->Ord vs.length lt/\(∀(E:Gc) (Q:SortKind->Shared->Prop),Q κ s'->wpAny (model prog w) A.in1.in1 (keyKind' vs.toArray) Q E s')/\Cmp vs.length lt (kas_ask prog w A.in1.in1 κ vs) s')
  (h:∀p,Plc vs.length p->Asc lt p vs.length->Q (.ref (s.heap.objs.size+1)) {s with heap:=sortedAll s.heap vs (jZ vs p)}) :
  wpAny (model prog w) A (call (.builtin "sorted") [.ref l]) Q E s:=by
 refine Calls.call_function_entry kind_sorted plain_sorted entry_sorted (args_sorted1 _) ?_;unfold Builtin.«sorted»;have sz:((s.heap.push (seqObj "list" #[] 0)).update s.heap.objs.size (Obj.mapSeq (·++vs.toArray))).objs.size=s.heap.objs.size+1:=(Heap.size_update _ _ _).trans (size_push' _ _);refine wpAny_bind (m:=checkCount "sorted" 1 1 _) (wpAny_pure (wpAny_bind (collect_list hl (wpAny_bind (wpAny_newList ?_ (by rw[sizeLine_eq];omega))) (by rw[sizeLine_eq];omega))));have g:(((s.heap.push (seqObj "list" #[] 0)).update s.heap.objs.size (Obj.mapSeq (·++vs.toArray))).push (seqObj "list" vs.toArray 0)).get? (s.heap.objs.size+1)=some (seqObj "list" vs.toArray 0):=sz▸get?_push_size _ rfl;have kp:∀b o,s.heap.get? b=some o->(((s.heap.push (seqObj "list" #[] 0)).update s.heap.objs.size (Obj.mapSeq (·++vs.toArray))).push (seqObj "list" vs.toArray 0)).get? b=some o:=fun b o q=>
  get?_push_of_some _ ((Heap.get?_update_ne _ _ _ _ (Nat.ne_of_lt (lt_size q))).trans (get?_push_of_some _ q))
 show wpAny _ _ _ _ _ {s with heap:=((s.heap.push (seqObj "list" #[] 0)).update s.heap.objs.size (Obj.mapSeq (·++vs.toArray))).push (seqObj "list" vs.toArray 0)};rw[sz];refine wpAny_bind (wpAny_holding (wpAny_call_entry slot_list_sort ⟨_,g,rfl⟩ entry_list_sort ?body (args_list_sort _)));refine sQ (κ:=κ) (lt:=lt) g h64 (fun h2 s' k'=>?_) fun p c1 c2=>⟨_,rfl,wpAny_pure ⟨_,rfl,h p c1 c2⟩⟩
 obtain⟨O,hk,C⟩:=hK h2 s' fun b o q=>k' b o (Nat.ne_of_lt (Nat.lt_succ_of_lt (lt_size q))) (kp b o q);exact⟨O,fun Q q=>hk _ Q q,C⟩
def dU(x y:Int×Int):Bool:=decide (x.1<y.1) ||(x.1==y.1&&decide (x.2<y.2))
def gX(h1:dU x y=true)(h2:dU y z=true):dU x z=true:=by simp only[dU,or_eq_true,and_eq_true,decide_eq_true_eq,beq_iff_eq]at *;omega
def nK(x:Int×Int):dU x x=false:=by simp[dU]
def nJ(h:x≠y):dU x y=true\/dU y x=true:=by
 obtain⟨a,b⟩:=x;obtain⟨c,d⟩:=y;have:a≠c\/b≠d:=by
  by_cases e:a=c
  ·right;intro e2;exact h (by rw[e,e2])
  ·exact .inl e
 simp only[dU,or_eq_true,and_eq_true,decide_eq_true_eq,beq_iff_eq];omega
def cf(h:Heap):Gj->Gf->Prop
 | [],[]=>True
 |v::vs,x::ps=>(∃a o n t u,v=.ref a/\h.get? a=some o/\o.cls=.type "tuple" /\ o.data=.seq #[.int x.1 t,.int x.2 u] n)/\cf h vs ps
 |_,_=>False
def cf.len:∀{vs:Gj}{ps:Gf},cf h vs ps->vs.length=ps.length
 | [],[],_=>rfl
 |_::_,_::_,q=>by simp[q.2.len]
def cf.kept(k:∀b o,h.get? b=some o->h'.get? b=some o):∀{vs:Gj}{ps:Gf},cf h vs ps->cf h' vs ps
 | [],[],_=>trivial
 |_::_,_::_,⟨⟨a,o,n,t,u,e1,e2,e3⟩,q⟩=>⟨⟨a,o,n,t,u,e1,k _ _ e2,e3⟩,q.kept k⟩
def cf.at:∀{vs:Gj}{ps:Gf},cf h vs ps->∀i,i<ps.length->∃a o n t u,vs.getD i Value.none=.ref a/\h.get? a=some o/\o.data=.seq #[.int (ps.getD i (0,0)).1 t,.int (ps.getD i (0,0)).2 u] n
 |_::_,_::_,⟨⟨a,o,n,t,u,e1,e2,e3⟩,q⟩,0,_=>⟨a,o,n,t,u,by simp[e1],e2,by simpa using e3.2⟩
 |v::vs,x::ps,⟨_,q⟩,i+1,hi=>by have:=q.at i (by simpa using hi);simpa using this
 | [],[],_,i,hi=>by simp at hi
def cf.firsts:∀{vs:Gj}{ps:Gf},cf h vs ps->∃fs,KatTups h vs fs/\fs.length=ps.length/\∀v∈fs,∃i t,v=.int i t
 | [],[],_=>⟨[],.nil,rfl,fun v hv=>by cases hv⟩
 |_::_,_::_,⟨⟨a,o,n,t,u,e1,e2,e3,e4⟩,q⟩=>by
  obtain⟨fs,h1,h2,h3⟩:=q.firsts;subst e1;refine⟨_::fs,.cons e2 e3 e4 rfl h1,by simp[h2],fun v hv=>?_⟩;rcases mem_cons.mp hv with rfl|hv
  ·exact⟨_,_,rfl⟩
  ·exact h3 v hv
def sB{ps:Gf}(hd:ps.Nodup):Ord ps.length (fun i j=>dU (ps.getD i (0,0)) (ps.getD j (0,0))):=by
 refine⟨fun i j k _ _ _ h1 h2=>gX h1 h2,fun i j hi hj hn h=>?_,fun i _=>nK _⟩;have:ps.getD i (0,0)≠ ps.getD j (0,0):=by simp only[getD_eq_getElem?_getD,getElem?_eq_getElem hi,getElem?_eq_getElem hj,Option.getD_some];exact fun e=>hn ((getElem_inj hd).mp e)
 rcases nJ this with q|q
 ·rw[q]at h;cases h
 ·exact q
def k9(h:Q (decide (x<y)) s):wpAny (model prog w) A (oneLt' b (.int x t) (.int y u)) Q E s:=by
 cases b with
 |true=>exact oneLt_int h
 |false=>exact kat_one _ _ (wpAny_lt_int h)
def sC(hp:cf s.heap vs ps):Cmp vs.length (fun i j=>dU (ps.getD i (0,0)) (ps.getD j (0,0))) (kas_ask prog w A (tuples' true) vs) s:=by
 intro i j C hi hj q;rw[hp.len]at hi hj;obtain⟨a,o,n,t,u,e1,e2,e3⟩:=hp.at i hi;obtain⟨a',o',n',t',u',e1',e2',e3'⟩:=hp.at j hj;unfold kas_ask;rw[e1,e1'];dsimp only at q;generalize ps.getD i (0,0)=x at *;generalize ps.getD j (0,0)=y at *;refine kat_lt e2 e3 e2' e3' (kat_cons (wpAny_eqBool_int (kat_go (fun h1=>kat_yes (kat_cons (wpAny_eqBool_int (kat_go (fun h2=>kat_yes (kat_nil ?_)) fun h2=>kat_no (k9 ?_))))) fun h1=>kat_no (k9 ?_))))
 ·simp only[beq_iff_eq]at h1 h2;have:dU x y=false:=by simp[dU,h1,h2]
  rw[this]at q;exact q
 ·simp only[beq_iff_eq]at h1;have:dU x y=decide (x.2<y.2):=by simp[dU,h1]
  rw[this]at q;exact q
 ·have:dU x y=decide (x.1<y.1):=by simp[dU,h1]
  rw[this]at q;exact q
def pD(hp:cf s.heap vs ps)(h2:2<=vs.length){Q:SortKind->Shared->Prop}(q:Q (tuples' true) s):wpAny (model prog w) A (keyKind' vs.toArray) Q E s:=by obtain⟨fs,h1,hl,hi⟩:=hp.firsts;refine kat_kind (T:=.type "int") h1 (by rw[hl,<- hp.len];omega) (fun v hv=>?_) rfl q;obtain⟨i,t,rfl⟩:=hi v hv;exact Looks.of_pure rfl
def lN(hl:s.heap.IsList l vs.toArray)(h64:vs.length<64)(hp:cf s.heap vs ps)(hd:ps.Nodup)
  (h:∀p,Plc vs.length p->Asc (fun i j=>dU (ps.getD i (0,0)) (ps.getD j (0,0))) p vs.length->Q (.ref (s.heap.objs.size+1)) {s with heap:=sortedAll s.heap vs (jZ vs p)}) :
  wpAny (model prog w) A (call (.builtin "sorted") [.ref l]) Q E s:=
 pd hl h64 (fun h2 s' k=>⟨hp.len▸sB hd,fun E Q q=>pD (hp.kept k) h2 q,sC (hp.kept k)⟩) h
end
end PR
namespace PR
open PySem PySem.Spec L2 PyProof.Rows
def pS(x:Int):Gi->Gi
 | []=>[x]
 |y::l=>if x<=y then x::y::l else y::pS x l
def ij:Gi->Gi
 | []=>[]
 |x::l=>pS x (ij l)
def jf(x:Int):∀l,(pS x l).Perm (x::l)
 | []=>.refl _
 |y::l=>by
  unfold pS;split
  ·exact .refl _
  ·exact((jf x l).cons y).trans (.swap x y l)
def eA:∀l,(ij l).Perm l
 | []=>.refl _
 |x::l=>(jf x _).trans ((eA l).cons x)
def oy(x:Int):∀{l:Gi},l.Pairwise (·<=·)->(pS x l).Pairwise (·<=·)
 | [],_=>by simp[pS]
 |y::l,h=>by
  obtain⟨h1,h2⟩:=pairwise_cons.mp h;unfold pS;split
  ·refine pairwise_cons.mpr ⟨fun z hz=>?_,h⟩;rcases mem_cons.mp hz with rfl|hz
   ·assumption
   ·have:=h1 z hz;omega
  ·refine pairwise_cons.mpr ⟨fun z hz=>?_,oy x h2⟩;rcases mem_cons.mp ((jf x l).mem_iff.mp hz)with rfl|hz
   ·omega
   ·exact h1 z hz
def kS:∀l,(ij l).Pairwise (·<=·)
 | []=>.nil
 |x::l=>oy x (kS l)
def ph{l l':Gi}(h1:l'.Perm l)(h2:l'.Pairwise (·<=·)):l'=ij l:=
 List.Perm.eq_of_pairwise (fun a b _ _ x y=>Int.le_antisymm x y) h2 (kS l) (h1.trans (eA l).symm)
def pR(x:Int×Int):Gf->Gf
 | []=>[x]
 |y::l=>if dU x y then x::y::l else y::pR x l
def bY:Gf->Gf
 | []=>[]
 |x::l=>pR x (bY l)
def je(x:Int×Int):∀l,(pR x l).Perm (x::l)
 | []=>.refl _
 |y::l=>by
  unfold pR;split
  ·exact .refl _
  ·exact((je x l).cons y).trans (.swap x y l)
def cj:∀l,(bY l).Perm l
 | []=>.refl _
 |x::l=>(je x _).trans ((cj l).cons x)
def ox(x:Int×Int):∀{l:Gf},x∉l->l.Pairwise (fun a b=>dU a b=true)->(pR x l).Pairwise (fun a b=>dU a b=true)
 | [],_,_=>by simp[pR]
 |y::l,hn,h=>by
  obtain⟨h1,h2⟩:=pairwise_cons.mp h;unfold pR;split
  ·refine pairwise_cons.mpr ⟨fun z hz=>?_,h⟩;rcases mem_cons.mp hz with rfl|hz
   ·assumption
   ·exact gX ‹_› (h1 z hz)
  ·refine pairwise_cons.mpr ⟨fun z hz=>?_,ox x (fun z=>hn (mem_cons_of_mem _ z)) h2⟩;rcases mem_cons.mp ((je x l).mem_iff.mp hz)with rfl|hz
   ·rcases nJ (x:=y) (y:=z) (fun e=>hn (e▸mem_cons_self))with q|q
    ·exact q
    ·contradiction
   ·exact h1 z hz
def kR:∀{l:Gf},l.Nodup->(bY l).Pairwise (fun a b=>dU a b=true)
 | [],_=>.nil
 |x::l,h=>by obtain⟨h1,h2⟩:=nodup_cons.mp h;exact ox x (fun z=>h1 ((cj l).mem_iff.mp z)) (kR h2)
def pf(hd:l.Nodup)(h1:l'.Perm l)(h2:l'.Pairwise (fun a b=>dU a b=true)):l'=bY l:=
 List.Perm.eq_of_pairwise (fun a b _ _ x y=>by
  have:=gX x y;rw[nK]at this;cases this) h2 (kR hd) (h1.trans (cj l).symm)
def sj{α:Type}(l:List α)(d:α):(range l.length).map (fun i=>l.getD i d)=l:=by refine List.ext_getElem (by simp) fun i h1 h2=>?_;simp[h2]
def sr{ps:Gf}{p:Array Nat}(hd:ps.Nodup)(P:Plc ps.length p)(a:Asc (fun i j=>dU (ps.getD i (0,0)) (ps.getD j (0,0))) p ps.length):p.toList.map (fun i=>ps.getD i (0,0))=bY ps:=by
 refine pf hd (by have:=P.pm.map (fun i=>ps.getD i (0,0));rwa [sj]at this) ?_;refine List.pairwise_iff_getElem.mpr fun i j hi hj hij=>?_;have hs:=P.sz;have hi':i<p.size:=by simpa using hi
 have hj':j<p.size:=by simpa using hj
 have:=a i j hij (by omega);simpa[at_,Array.getD,hi',hj']using this
def PrH(K:PySem.W.Frag)(H:Hp):Gp->Gf->Prop
 | [],[]=>True
 |v::vs,x::ps=>(∃a,v=.ref a/\SqT K H a [.int x.1,.int x.2])/\PrH K H vs ps
 |_,_=>False
def PrH.len{K:PySem.W.Frag}{H:Hp}:∀{vs:Gp}{ps:Gf},PrH K H vs ps->vs.length=ps.length
 | [],[],_=>rfl
 |_::_,_::_,q=>by simp[q.2.len]
section
variable{X:Cx}{T:Tb}{W:Nat->L2.St->Gq}{Z:Zn}{F F1 B L:Gh}{H H1:Hp}{Y:L2.St}{env:En}{fp:Nat->Gk}{js:Gg}{s:Shared}
def PrH.at(I:L2.Inv X js Y H s):∀{vs:Gp}{its:Gj}{ps:Gf},PrH X.K H vs ps->aE vs its->cf s.heap its ps
 | [],_,[],_,r=>by cases r;trivial
 |_::_,_,_::_,⟨⟨a,e,h⟩,q⟩,r=>by
  cases r with
  |cons h1 h2=>
   subst e;cases h1;refine⟨?_,q.at I h2⟩;obtain⟨its,r,pl,_⟩:=I.tuple h;obtain⟨u,r2,rfl,⟨t,rfl⟩,r3⟩:∃u r2,its=u::r2/\bf _ u/\aE _ r2:=by cases r with|cons a b=>exact⟨_,_,rfl,a,b⟩
   obtain⟨u',rfl,⟨t',rfl⟩⟩:=cP r3;obtain⟨o,ho,hcl,n,hd⟩:=pl;exact⟨a,o,n,t,t',rfl,ho,hcl,hd⟩
def ue{vs:Gp}{its:Gj}(r:aE vs its)(q:List Nat)(hq:∀i∈q,i<vs.length):aE (q.map fun i=>vs.getD i .non) (q.map fun i=>its.getD i Value.none):=by
 induction q with
 |nil=>exact .nil
 |cons i q ih=>
  refine .cons ?_ (ih fun j hj=>hq j (mem_cons_of_mem _ hj));have hi:=hq i mem_cons_self;have:∀{vs:Gp}{its:Gj}{i:Nat},aE vs its->i<vs.length->bf (vs.getD i .non) (its.getD i Value.none):=by
   intro vs its i r
   induction r generalizing i with
   |nil=>intro h;simp at h
   |cons a b ih=>
    intro h;cases i with
    |zero=>simpa using a
    |succ i=>simpa using ih (by simpa using h)
  exact this r hi
def mz:∀{ns:Gi}{its:Gj},PyProof.Rows.IntsAre its ns->aE (ns.map V.int) its:=by
 intro ns its h
 induction h with
 |nil=>exact .nil
 |cons=>exact .cons ⟨_,rfl⟩ ‹_›
def oO:dq X (.builtin "sorted") (fun xs H Q=>∃ p ys,xs=[.ref p]/\SqL X.K H p ys/\ys.length < 64 /\
    ((∃ ns,ys=ns.map V.int/\∀ l,H l=none->Q (.ref l) (upd H l (.lst ((ij ns).map V.int)))) \/
     (∃ps,PrH X.K H ys ps/\ps.Nodup/\∀l (q:List Nat),H l=none->q.Perm (range ys.length)->q.map (fun i=>ps.getD i (0,0))=bY ps->Q (.ref l) (upd H l (.lst (q.map fun i=>ys.getD i .non)))))):=by
  intro js s Y H xs us Q I rv h;obtain⟨p,ys,rfl,hq,h64,h⟩:=h;obtain⟨u,rfl,rx⟩:=cP rv;cases rx;obtain⟨its,r,pl,hz⟩:=I.list hq;have hlen:=r.length;have hfr:=I.hok.fresh (le_succ s.heap.objs.size);rcases h with⟨ns,rfl,q⟩ |⟨ps,hp,hd,q⟩
  . refine sorted_ints pl.isList (fq r) (by omega) fun out ns' a1 a2 a3=>?_;obtain⟨c,hc⟩:=sortedAll_at s.heap its out;have e:=ph a2 a3;subst e;refine⟨.ref (s.heap.objs.size+1),_,I.laid (fun b o=>sortedAll_old) (le_succ _) ?_,rfl,q _ hfr⟩;refine⟨?_,out.toList,c,mz a1,by simpa using hc⟩;rw[sizeLine_eq];simp[(eA ns).length_eq]at h64 ⊢;omega
  . refine lN pl.isList (by omega) (hp.at I r) hd fun p P a=>?_;obtain⟨c,hc⟩:=sortedAll_at s.heap its (jZ its p);have hl:=hp.len;have pm:p.toList.Perm (range ys.length):=by rw[hlen];exact P.pm
    refine⟨.ref (s.heap.objs.size+1),_,I.laid (fun b o=>sortedAll_old) (le_succ _) ?_,rfl,q _ p.toList hfr pm (sr hd (by rw[<- hl,hlen];exact P) (by rw[<- hl,hlen];exact a))⟩;refine⟨?_,_,c,ue r p.toList (fun i hi=>by simpa using pm.mem_iff.mp hi),hc⟩;rw[sizeLine_eq];simp[P.sz,<- hlen];omega
end
end PR
namespace PR
open PySem PySem.Spec L2
def prV(x:Int×Int):PV:=.tup [.int x.1,.int x.2]
def gc:PV->Option (Int×Int)
 |.tup [.int a,.int b]=>some (a,b)
 |_=>none
def eO:Gs->Option (Gf)
 | []=>some []
 |x::xs=>match gc x,eO xs with
  |some y,some ys=>some (y::ys)
  |_,_=>none
def dW:PV->Gu
 | .lst _ xs=>if decide (xs.length < 64) then (match bh xs with
  |some ns=>.ok (.lst .own ((ij ns).map .int))
  |none=>match eO xs with
   |some ps=>if decide ps.Nodup then .ok (.lst .own ((bY ps).map prV))else .stuck
   |none=>.stuck)else .stuck
 |_=>.stuck
section
variable{X:Cx}{T:Tb}{W:Nat->St->Gq}{Z:Zn}{F F1 B L:Gh}{H H1:Hp}{Y:St}{env:En}{fp:Nat->Gk}
def sD(e:gc x=some y):x=prV y:=by
 unfold gc at e;split at e
 ·cases e;rfl
 ·cases e
def gY:∀{xs:Gs}{vs:Gp}{f:Gk}{ps:Gf},eO xs=some ps->RelL T F B L H xs vs f->PrH T.K H vs ps/\f=[]
 | [],_,_,_,e,r=>by cases e;unfold RelL at r;obtain⟨rfl,rfl⟩:=r;exact⟨trivial,rfl⟩
 |x::xs,_,_,ps,e,r=>by
  unfold RelL at r;obtain⟨v,ws,f1,f2,rfl,h1,h2,rfl⟩:=r;unfold eO at e;cases e1:gc x with
  |none=>rw[e1]at e;cases e
  |some y=>
   cases e2:eO xs with
   |none=>rw[e1,e2]at e;cases e
   |some ys=>rw[e1,e2]at e;cases e;obtain⟨q,rfl⟩:=gY e2 h2;have:=sD e1;subst this;unfold prV Rel at h1;obtain⟨a,us,rfl,hs,hr⟩:=h1;unfold RelL at hr;obtain⟨v1,w1,g1,g2,rfl,k1,k2,rfl⟩:=hr;obtain⟨v2,rfl,k3⟩:=RelL.one k2;unfold Rel at k1 k3;obtain⟨rfl,rfl⟩:=k1;obtain⟨rfl,rfl⟩:=k3;exact⟨⟨⟨a,rfl,hs⟩,q⟩,rfl⟩
def PrH.rel:∀{vs:Gp}{ps:Gf},PrH T.K H vs ps->RelL T F B L H (ps.map prV) vs []
 | [],[],_=>eZ _ _ _ _
 |_::_,x::ps,⟨⟨a,e,h⟩,q⟩=>by subst e;rw[map_cons];unfold RelL;refine⟨_,_,[],[],rfl,?_,q.rel,rfl⟩;unfold prV Rel;refine⟨a,_,rfl,h,?_⟩;unfold RelL;refine⟨_,_,[],[],rfl,dE,?_,rfl⟩;unfold RelL;exact⟨_,_,[],[],rfl,dE,eZ _ _ _ _,rfl⟩
def PrH.get:∀{vs:Gp}{ps:Gf},PrH K H vs ps->∀i,i<vs.length->∃a,vs.getD i .non=.ref a/\SqT K H a [.int (ps.getD i (0,0)).1,.int (ps.getD i (0,0)).2]
 |_::_,_::_,⟨h,q⟩,0,_=>by simpa using h
 |_::_,_::_,⟨_,q⟩,i+1,hi=>by simpa using q.get i (by simpa using hi)
 | [],[],_,_,hi=>by simp at hi
def PrH.map(h:PrH K H vs ps)(q:List Nat)(hq:∀i∈q,i<vs.length):PrH K H (q.map fun i=>vs.getD i .non) (q.map fun i=>ps.getD i (0,0)):=by
 induction q with
 |nil=>trivial
 |cons i q ih=>exact⟨h.get i (hq i mem_cons_self),ih fun j hj=>hq j (mem_cons_of_mem _ hj)⟩
def qt(ns:Gi):RelL T F B L H (ns.map PV.int) (ns.map V.int) []:=by
 induction ns with
 |nil=>exact eZ _ _ _ _
 |cons a l ih=>rw[map_cons,map_cons];unfold RelL;exact⟨_,_,[],[],rfl,dE,ih,rfl⟩
def RelL.len2:∀{xs:Gs}{vs:Gp}{f:Gk},RelL T F B L H xs vs f->xs.length=vs.length
 | [],_,_,r=>by unfold RelL at r;rw[r.1];rfl
 |x::xs,_,_,r=>by unfold RelL at r;obtain⟨v,ws,f1,f2,rfl,_,h2,_⟩:=r;simp[h2.len2]
def pI(hK:X.K=T.K):Mir T W (p1 dW) (fun xs H Q=>∃ p ys,xs=[.ref p]/\SqL X.K H p ys/\ys.length < 64 /\
    ((∃ ns,ys=ns.map V.int/\∀ l,H l=none->Q (.ref l) (upd H l (.lst ((ij ns).map V.int)))) \/
     (∃ps,PrH X.K H ys ps/\ps.Nodup/\∀l (q:List Nat),H l=none->q.Perm (range ys.length)->q.map (fun i=>ps.getD i (0,0))=bY ps->Q (.ref l) (upd H l (.lst (q.map fun i=>ys.getD i .non)))))):=by
  intro B F L Y H Q F' H' xs vs fx g r nf nd new q
  match xs,r,q with
  | [x],r,q=>
    obtain⟨v,rfl,r1⟩:=r.one;simp only[p1]at q;cases x with
    |lst f xs=>
      unfold Rel at r1;obtain⟨a,ws,fp',rfl,hl,hr,_⟩:=r1;simp only[dW]at q;by_cases hn:decide (xs.length<64)=true
      . rw[if_pos hn]at q;refine⟨a,ws,rfl,by rw[hK];exact hl.sq,by rw[<- hr.len2];exact of_decide_eq_true hn,?_⟩;cases e1:bh xs with
        |some ns=>rw[e1]at q;dsimp only at q;exact .inl ⟨ns,cO e1 hr,GE.newL q g (qt _) (fun _ h=>by cases h) .nil (fun _ h=>by cases h)⟩
        |none=>
          rw[e1]at q;dsimp only at q;cases e2:eO xs with
          |none=>rw[e2]at q;exact q.elim
          |some ps=>
            rw[e2]at q;dsimp only at q;by_cases hd:decide ps.Nodup=true
            . rw[if_pos hd]at q;obtain⟨hp,rfl⟩:=gY e2 hr;refine .inr ⟨ps,by rw[hK];exact hp,of_decide_eq_true hd,fun l q' hl' pm e=>?_⟩;have h2:=hp.map q' fun i hi=>by simpa using pm.mem_iff.mp hi
              rw[e]at h2;exact GE.newL q g h2.rel (fun _ h=>by cases h) .nil (fun _ h=>by cases h) l hl'
            . rw[if_neg hd]at q;exact q.elim
      . rw[if_neg hn]at q;exact q.elim
    |_=>exact q.elim
  | [],_,q=>exact q.elim
  |_::_::_,_,q=>simp only[p1]at q;exact q.elim
def t9:bootBuiltins "sorted"=some (.builtin "sorted"):=by decide +kernel
def kU(hK:X.K=T.K)(hg:Gl X "sorted")(hm:X.mg "sorted"=none)(ha:SE X T W e m)(he:starEach [e] X.env=[(false,eval e X.env)]:=by rfl):SE X T W (.Call (.Name "sorted" p) [e] [] pos) (au (p1 dW) (ae m ah)):=
 eB oO (pI hK) hg hm t9 (ac ha ag (by rw[he];rfl)) (he:=by rw[he];rfl) (hpl:=rfl)
end
def ot:Out->Out
 |.exc _ _=>.stuck
 |o=>o
section
variable{X:Cx}{T:Tb}{W:Nat->St->Gq}{Z:Zn}{F:Gh}{H:Hp}{Y:St}{env:En}{fp:Nat->Gk}
def cX(hg:Gl X x)(hm:∃t,X.mg x=some (.int i t))(hd:(x ==("__debug__":Str))=false:=by decide):SE X T W (.Name x pos) (mC (.int i)):=by obtain⟨t,h⟩:=hm;exact uA hg h hd
end
def bZ{α:Type}(n:Nat)(y:α)(xs:List α):List α:=xs.take n++y::xs.drop n
def xX:V->Gp->Hp->VK->Prop:=fun x vs H Q=>∃l xs k y,x=.ref l/\vs=[.int k,y]/\H l=some (.lst xs)/\xs.length<sizeLine/\(0<=k/\k<=xs.length)/\Q .non (upd H l (.lst (bZ k.toNat y xs)))
def rJ(r:aE xs its)(n:Nat):aE (xs.take n) (its.take n):=by
 induction r generalizing n with
 |nil=>simp;exact .nil
 |cons a b ih=>cases n with
  |zero=>exact .nil
  |succ n=>exact .cons a (ih n)
def rK(r:aE xs its)(n:Nat):aE (xs.drop n) (its.drop n):=by
 induction r generalizing n with
 |nil=>simp;exact .nil
 |cons a b ih=>cases n with
  |zero=>exact .cons a b
  |succ n=>exact ih n
section
variable{X:Cx}{T:Tb}{W:Nat->St->Gq}{Z:Zn}{F F1 B L:Gh}{H H1:Hp}{Y:St}{env:En}{fp:Nat->Gk}{D:Ends}
def sI:MtM X "list.insert" xX:=by
 intro js s Y H x vs v us Q I rx rv h;obtain⟨l,xs,k,y,rfl,rfl,hH,hz,⟨h0,h1⟩,q⟩:=h;cases rx;obtain⟨u0,u,rfl,⟨t,rfl⟩,ru⟩:∃u0 u,us=[u0,u]/\bf (.int k) u0/\bf y u:=by
  cases rv with
  |cons a b=>obtain⟨u,rfl,ru⟩:=cP b;exact⟨_,u,rfl,a,ru⟩
 obtain⟨z,its,n,r,hl,e⟩:=I.lstM hH;have hlen:=r.length;have fits:¬(!Builtin.List.listFitsIndex k)=true:=by rw[sizeLine_eq]at hz;simp[Builtin.List.listFitsIndex];omega
 refine call_meets PySem.F.slot_list_insert ⟨_,e,rfl⟩ PySem.F.entry_list_insert (PySem.F.args_list_insert_3 _ _ _) (PySem.AutoSeq1.list_insert_list_int_val_1 l its.toArray n k t u fits (by rw[size_toArray];omega)) ⟨e,?_⟩;refine⟨.non,_,I.lset (its':=bZ k.toNat u its) hH e ?_ ?_ ?_,rfl,q⟩
 ·have hk:min k.toNat its.toArray.size=k.toNat:=by rw[size_toArray];omega
  dsimp only;rw[if_neg (by omega),hk];apply Array.toList_inj.mp;simp[bZ,List.take_of_length_le]
 ·exact(rJ r _).append (.cons ru (rK r _))
 ·simp[bZ];omega
def RelL.ins(hv:Rel T F B L H v u []):∀(n:Nat) {xs:Gs}{ws:Gp}{f:Gk},RelL T F B L H xs ws f->RelL T F B L H (bZ n v xs) (bZ n u ws) f
 |0,xs,ws,f,h=>by show RelL T F B L H (v::xs) (u::ws) f;unfold RelL;exact⟨u,ws,[],f,rfl,hv,h,rfl⟩
 |n+1,[],ws,f,h=>by unfold RelL at h;obtain⟨rfl,rfl⟩:=h;show RelL T F B L H [v] [u] [];unfold RelL;exact⟨u,[],[],[],rfl,hv,eZ _ _ _ _,rfl⟩
 |n+1,x::xs,ws,f,h=>by unfold RelL at h;obtain⟨w,ws,f1,f2,rfl,h1,h2,rfl⟩:=h;show RelL T F B L H (x::bZ n v xs) (w::bZ n u ws) _;unfold RelL;exact⟨w,_,f1,f2,rfl,h1,RelL.ins hv n h2,rfl⟩
def qU:PV->Bool
 |.int _=>true
 |x=>(gc x).isSome
def v_(h:qU v=true)(r:Rel T F B L H v u f):f=[]:=by
 have two:∀{v:PV},(gc v).isSome=true->Rel T F B L H v u f->f=[]:=fun {v} h r=>by
  obtain⟨y,e⟩:=isSome_iff_exists.mp h;have:eO [v]=some [y]:=by simp[eO,e]
  refine(gY (T:=T) (F:=F) (B:=B) (L:=L) (H:=H) (vs:=[u]) this ?_).2;unfold RelL;exact⟨u,[],f,[],rfl,r,eZ _ _ _ _,by simp⟩
 cases v with
 |int i=>unfold Rel at r;exact r.2
 |tup xs=>exact two h r
 |_=>simp[qU,gc]at h
def iB(i:Nat)(k e:ME):MS:=fun env=>match k env with
 | .ok (.int j)=>(match e env with
  | .ok v=>(match env[i]? with
   |some (some (.lst .own xs))=>if qU v&&v.GH&&decide (0<=j/\j<=xs.length)&&decide (xs.length<10000000)then .next (env.set i (some (.lst .own (bZ j.toNat v xs))))else .stuck
   |_=>.stuck)
  |_=>.stuck)
 |_=>.stuck
def rN(hK:X.K=T.K)(hN:X.N[i]?=some x)(hv:Vis X.env.scope x)(hk:SE X T W k mk)(he:SE X T W e m)
  (hs:swapsWith (.Call (.Attribute (.Name x px) "insert" apos) [k,e] [] cpos) none pos.line X.env=pure false:=by rfl) (hst:starEach [k,e] X.env=[(false,eval k X.env),(false,eval e X.env)]:=by rfl) (hst2:starEach [e] X.env=[(false,eval e X.env)]:=by rfl)
  (hfew:((backTo cpos (starEach [k,e] X.env)).all (fun x=>!x.1)&&(backToKw cpos (keywordEach [] X.env)).all (fun x=>x.1.isSome)&&decide ([k,e].length+([]:List Keyword).length+(if([]:List Keyword).isEmpty then 0 else 1)<30))=true:=by rfl)
  (hline:(apos.endLine==cpos.line)=true:=by rfl) (hd:(x ==("__debug__":Str))=false:=by decide) (hcd:(x ==("__classdict__":Str))=false:=by decide) :
  SS X T W (.Expr (.Call (.Attribute (.Name x px) "insert" apos) [k,e] [] cpos) pos) (iB i mk m):=
 PS.wk (dS (pos:=pos) (nO (cpos:=cpos) (apos:=apos) PySem.F.plainAttrs_list PySem.F.slot_list_insert PySem.F.type_list_insert sI (bV (pos:=px) hN hv hd hcd) (ac hk (ac he ag (by rw[hst2];rfl)) (by rw[hst,hst2])) rfl hfew hline (by rw[hst,hst2]) (by rw[hst2];rfl)) hs) fun D Y H hz1=>by
  obtain⟨Z,F,env,fp,S,q⟩:=hz1;unfold iB at q;split at q
  ·rename_i j ek
   split at q
   ·rename_i v em
    split at q
    ·rename_i xs eo
     split at q
     ·rename_i hc
      simp only[and_eq_true,decide_eq_true_eq]at hc;obtain⟨⟨⟨c1,c2⟩,c3⟩,c4⟩:=hc;obtain⟨a,ws,fp',h1,hl,hr,hf⟩:=S.lst eo;refine⟨_,h1,.inl ⟨rfl,ws,by rw[hK];exact SqL.of hl⟩,Z,F,env,fp,S,?_⟩;unfold ae ah;rw[ek,em];intro vs H1 F1 f1 g r n1 d1 w1;unfold RelL at r;obtain⟨u0,us,f2,f3,rfl,r0,r1,rfl⟩:=r;obtain⟨u,rfl,ru⟩:=r1.one;unfold Rel at r0;obtain⟨rfl,rfl⟩:=r0;have f0:=v_ c1 ru;subst f0;have S1:=S.grow g;have hl1:=g.ext a _ hl;have hln:=hr.length;refine⟨a,ws,j,u,rfl,rfl,hl1,?_,by omega,?_⟩
      ·rw[<- hln,sizeLine_eq];omega
      ·have ndi:(a::fp').Nodup:=by rw[<- hf];exact S.nd i
       exact q F1 _ Y _ (S1.mutL (v:=u) eo h1 hf (RelL.ins (Rel.noL (by simpa[PV.GH]using c2) ru) j.toNat (hr.ext g.ext g.mono)) (nodup_cons.mp ndi).2 (fun b hb=>.inl hb) hl1)
     ·exact q.elim
    ·exact q.elim
   ·exact q.elim
  ·exact q.elim
end
def vd:PV->PV->Gu:=eD (fun _ j=>decide (0<=j)) fun i j=>.int (i / 2 ^ j.toNat)
def cV(ns:Gi):Bool:=ns.all fun v=>decide (-1000000<=v/\v<=1000000)
def lZ:PV->Gu:=fun x=>match aN x with
 |some xs=>match bh xs with
  |some ns=>if decide (ns.length<=1000)&&cV ns then .ok (.int ns.sum)else .stuck
  |none=>.stuck
 |none=>.stuck
def lX(ns:Gi):∀n,n<=ns.length->preSum (fun i=>ns.getD i 0) n=(ns.take n).sum
 |0,_=>rfl
 |n+1,h=>by have hn:n<ns.length:=h;have e:preSum (fun i=>ns.getD i 0) (n+1)=preSum (fun i=>ns.getD i 0) n+ns.getD n 0:=rfl;rw[e,lX ns n (by omega),take_add_one,getElem?_eq_getElem hn,Option.toList_some,List.sum_append,List.sum_singleton];simp[hn]
def kO:∀{ns:Gi},cV ns=true->-(1000000*ns.length:Int)<= ns.sum/\ns.sum<=1000000*ns.length
 | [],_=>by simp
 |n::ns,h=>by simp only[cV,all_cons,and_eq_true,decide_eq_true_eq]at h;have:=kO (ns:=ns) (by simpa[cV]using h.2);simp only[List.sum_cons,length_cons];omega
def pj(h:cV ns=true)(k:Nat):cV (ns.take k)=true:=by simp only[cV,all_eq_true]at h ⊢;exact fun x hx=>h x (List.mem_of_mem_take hx)
section
variable{X:Cx}{T:Tb}{W:Nat->St->Gq}{Z:Zn}{F F1 B L:Gh}{H H1:Hp}{Y:St}{env:En}{fp:Nat->Gk}{js:Gg}{s:Shared}{a b:Expr}{ma mb:ME}{pos:Pos}
def Ae(ha:SE X T W a ma)(hb:SE X T W b mb):SE X T W (.BinOp a .RShift b pos) (mOp vd ma mb):=jp AK (n6 (fun _ _ h=>of_decide_eq_true h) fun _ _ _ _ _ _=>dE) ha hb
def mK(hc:X.calm=true):dq X (.builtin "sum") (fun xs H Q=>∃p ns,xs=[.ref p]/\(SqL X.K H p (ns.map V.int)\/ SqT X.K H p (ns.map V.int))/\ns.length<=1000/\cV ns=true/\Q (.int ns.sum) H):=by
 intro js s Y H xs us Q I rv h;obtain⟨p,ns,rfl,hq,hn,hsm,q⟩:=h;obtain⟨u,rfl,rx⟩:=cP rv;cases rx;have hh:=I.ok.hd hc;have fit:∀m,m=ns.length->∀j,j<m->InLong (ns.getD j 0)/\InLong (preSum (fun i=>ns.getD i 0) (j+1)):=fun m e j hj=>by
  subst e;have h1:ns.getD j 0∈ns:=by simp[hj]
  simp only[cV,all_eq_true,decide_eq_true_eq]at hsm;have h2:=hsm _ h1;have h3:=kO (pj (k:=j+1) (show cV ns=true by simpa[cV,all_eq_true]using hsm));rw[lX ns (j+1) hj];have h4:(ns.take (j+1)).length<=1000:=by simp;omega
  unfold InLong;omega
 have key:∀{its:Gj},aE (ns.map V.int) its->∀{h':Heap}{tk t':Nat},(∀b o,s.heap.get? b=some o->h'.get? b=some o)->EP X js Y Q (.int (preSum (fun i=>ns.getD i 0) its.toArray.size) t') {s with heap:=h',toks:=tk}:=by
  intro its r h' tk t' k;have hl:its.toArray.size=ns.length:=by have:=r.length;simpa using this.symm
  rw[hl,lX ns _ (Nat.le_refl _),take_length];exact⟨.int _,H,eE I k,⟨t',rfl⟩,q⟩
 rcases hq with hq|hq
 ·obtain⟨its,r,pl,hz⟩:=I.list hq;have hl:its.toArray.size=ns.length:=by have:=r.length;simpa using this.symm
  obtain⟨o,ho,hcl,n,hd⟩:=pl.isList;have hlt:=lt_size ho;refine call_sum_walk (wpAny_pyIter_list pl.isList ?_);refine⟨_,_,_,_,_,_,(fun i=>ns.getD i 0),rfl,Walks.list (A:=X.A.in1) hh _ p (Nat.ne_of_lt hlt) its.toArray,⟨⟨_,get?_push_size _ rfl,rfl,rfl⟩,pl.isList.push _⟩,fun b hb=>?_,c_ r,fit _ hl,fun h' tk t' hk=>key r (cY hk)⟩;show b <(s.heap.push _).objs.size;rw[size_push];exact fW hlt rfl b hb
 ·obtain⟨its,r,pl,hz⟩:=I.tuple hq;have hl:its.toArray.size=ns.length:=by have:=r.length;simpa using this.symm
  have pt:s.heap.IsTuple p its.toArray:=pl;obtain⟨o,ho,hcl,n,hd⟩:=pl;have hlt:=lt_size ho;refine call_sum_walk (wpAny_pyIter_tuple pt ?_);refine⟨_,_,_,_,_,_,(fun i=>ns.getD i 0),rfl,Walks.tuple (A:=X.A.in1) hh _ p (Nat.ne_of_lt hlt) its.toArray,⟨⟨_,get?_push_size _ rfl,rfl,rfl⟩,pt.push _⟩,fun b hb=>?_,c_ r,fit _ hl,fun h' tk t' hk=>key r (cY hk)⟩;show b <(s.heap.push _).objs.size;rw[size_push];exact fW hlt rfl b hb
def yx(hK:X.K=T.K):Mir T W (p1 lZ) (fun xs H Q=>∃p ns,xs=[.ref p]/\(SqL X.K H p (ns.map V.int)\/ SqT X.K H p (ns.map V.int))/\ns.length<=1000/\cV ns=true/\Q (.int ns.sum) H):=by
 intro B F L Y H Q F' H' xs vs fx gr r nf nd new q
 match xs,r,q with
 | [x],r,q=>
  obtain⟨v,rfl,rv⟩:=RelL.one r;simp only[p1,lZ]at q;cases e:aN x with
  |none=>rw[e]at q;exact q.elim
  |some ys=>
   rw[e]at q;dsimp only at q;cases e2:bh ys with
   |none=>rw[e2]at q;exact q.elim
   |some ns=>
    rw[e2]at q;dsimp only at q;obtain⟨a,us,fx',rfl,hs,hr,_⟩:=rv.seq e;have hu:=cO e2 hr;subst hu;split at q
    ·rename_i hc
     simp only[and_eq_true,decide_eq_true_eq]at hc;exact⟨a,_,rfl,by rw[hK];exact hs,hc.1,hc.2,q.scal gr dE⟩
    ·exact q.elim
 | [],_,q=>exact q.elim
 |_::_::_,_,q=>simp only[p1]at q;exact q.elim
def B1:bootBuiltins "sum"=some (.builtin "sum"):=by decide +kernel
def ux(hK:X.K=T.K)(hc:X.calm=true)(hg:Gl X "sum")(hm:X.mg "sum"=none)(ha:SE X T W e m)(he:starEach [e] X.env=[(false,eval e X.env)]:=by rfl):SE X T W (.Call (.Name "sum" p) [e] [] pos) (au (p1 lZ) (ae m ah)):=
 eB (mK hc) (yx hK) hg hm B1 (ac ha ag (by rw[he];rfl)) (he:=by rw[he];rfl) (hpl:=rfl)
end
def nV:PV->PV->Gu
 |x,.int i=>match aN x with
  |some xs=>match atI xs i with
   |some y=>.ok y
   |none=>.stuck
  |none=>.stuck
 |_,_=>.stuck
section
variable{X:Cx}{T:Tb}{W:Nat->St->Gq}
def vN(hK:X.K=T.K):iS T W nV (fun x y H Q=>xW X.K x y H Q \/(xU X.K x y H Q\/xV x y H Q)):=by
 intro B F L Y H Q F' H' x y v u fx fy g rx ry nf nd new q;cases y with
 |int i=>
  simp only[nV]at q;cases e:aN x with
  |none=>rw[e]at q;exact q.elim
  |some xs=>
   rw[e]at q;dsimp only at q;obtain⟨a,ws,fx',rfl,hs,hr,sl⟩:=rx.seq e;cases e2:atI xs i with
   |none=>rw[e2]at q;exact q.elim
   |some z=>
    rw[e2]at q;dsimp only at q;obtain⟨w,f',h1,h2,h3⟩:=rG hr e2;unfold Rel at ry;obtain⟨rfl,rfl⟩:=ry;rw[append_nil]at nf nd new;have s2:=h3.trans sl;have q':Q w H':=q w H' F' f' g h2 (fun a ha=>nf a (s2.subset ha)) (nd.sublist s2) (fun a ha=>new a (s2.subset ha));rcases hs with hs|hs
    ·exact .inl ⟨a,ws,i,w,rfl,rfl,by rw[hK];exact hs,h1,q'⟩
    ·exact .inr (.inl ⟨a,ws,i,w,rfl,rfl,by rw[hK];exact hs,h1,q'⟩)
 |_=>exact q.elim
def xJ(hK:X.K=T.K)(ha:SE X T W a ma)(hb:SE X T W b mb)(hs:d0 b):SE X T W (.Subscript a b pos) (mOp nV ma mb):=
 zA jb (vN hK) ha hb hs
end
structure Sup(K:PySem.W.Frag)(C f:Addr):Prop where
 ga:specialIn K (.ref C) "__getattribute__"=some (some (.builtin "type.__getattribute__"))
 rd:readsIn K C (.type "type")=true
 fc:findCls K (.ref C) (.type "type") "__init__"=some (.val (.ref f))
 kp:PySem.W.keepIn K (.ref f)=true
def fU(m:Gs->Gu)(ms:MA):MS:=fun env=>match (env[(0:Nat)]?:Option (Option PV))with
 |some (some (.obj .own c ks vs))=>match ms env with
  |.ok xs=>if hasL Fl.GB xs then .stuck else match m (.obj .own c ks vs::mapL Fl.Gw xs)with
   |.ok (.obj fl c' ks' vs')=>if(PV.obj fl c' ks' vs').has Fl.GD then .stuck else .next (env.set 0 (some (.obj fl c' ks' vs')))
   |_=>.stuck
  |.exc c=>.exc c env
  |.stuck=>.stuck
 |_=>.stuck
section
variable{X:Cx}{T:Tb}{W:Nat->St->Gq}{Z:Zn}{F F1 F3:Gh}{H H1 H3:Hp}{Y:St}{env:En}{fp:Nat->Gk}
def ak.sup(S:ak T Z F H Y env fp)(h0:Y[0]?=some (some v0))(hl:0<env.length)
  (nx:∀a∈fx,Z.H0 a=none\/Z.fp0 a) (nj:∀a∈fx,∀i,a∉fp i) (nF:∀a∈fx,¬F a) (cx:∀a∈fx,∃o,H a=some o/\Chg o)
  (hp3:bB T ⟨H,F,(·∈fp 0++fx),B',some v0⟩ F3 H3) (r:Rel T F3 B' NoL H3 o v0 f3) (hb:o.has Fl.GD=false) (nd3:f3.Nodup) (nf3:∀a∈f3,¬F3 a) (new3:∀a∈f3,H a=none\/a∈fp 0++fx)
  (ho:∃fl c ks xs,o=.obj fl c ks xs):ak T Z F3 H3 Y (env.set 0 (some o)) (aI fp 0 f3):=by
 have zfree:∀a,H a=none->Z.H0 a=none\/Z.fp0 a:=fun a z=>by
  by_cases q:Z.fp0 a
  ·exact .inr q
  ·refine .inl ?_;cases w:Z.H0 a with
   |none=>rfl
   |some o=>rw[S.hp.keep a o w q]at z;exact(nomatch z)
 have inn:∀a∈fp 0++fx,Z.H0 a=none\/Z.fp0 a:=fun a h=>by
  rcases mem_append.mp h with h|h
  ·exact S.new 0 a h
  ·exact nx a h
 have jn:∀j,j≠0->∀a∈fp j,a∉fp 0++fx:=fun j hj a ha z=>by
  rcases mem_append.mp z with z|z
  ·exact S.dj j 0 hj a ha z
  ·exact nj a z j ha
 have chgn:∀a∈fp 0++fx,∃o,H a=some o/\Chg o:=fun a h=>by
  rcases mem_append.mp h with h|h
  ·exact S.ch 0 a h
  ·exact cx a h
 have rel':Rel T F3 Z.B NoL H3 o v0 f3:=Rel.noB hb r;refine⟨⟨S.hp.bo,fun a u e n=>hp3.keep a u (S.hp.keep a u e n) fun z=>?_,fun a h=>hp3.f0 a (S.hp.f0 a h),fun a h=>?_,hp3.ft⟩,by rw[length_set,S.len],fun j pv e=>?_,fun j=>?_,fun j k hjk b hb=>?_,fun j b hb=>?_,fun j b hb=>?_,fun j b hb=>?_,fun w hw=>?_⟩
 ·rcases inn a z with q|q
  ·rw[e]at q;cases q
  ·exact n q
 ·rcases hp3.fn a h with z|z|z
  ·exact S.hp.fn a z
  ·exact .inr (zfree a z)
  ·exact .inr (inn a z)
 ·by_cases hj:j=0
  ·subst hj;rw[getElem?_set_self hl]at e;cases e;refine⟨v0,h0,?_⟩;unfold aI;rw[if_pos rfl];exact rel'
  ·rw[getElem?_set_ne (Ne.symm hj)]at e;obtain⟨w,h1,h2⟩:=S.rel j pv e;refine⟨w,h1,?_⟩;unfold aI;rw[if_neg hj];refine Rel.tr (fun a h=>hp3.f0 a h) (fun _ h=>h) (fun _ h=>h) (fun b u q h=>hp3.keep b u q fun z=>?_) (fun b hb u q=>hp3.keep b u q (jn j hj b hb)) h2;rcases h with h|h|h|h
   ·rcases mem_append.mp z with z|z
    ·exact(S.dis 0 b z).1 h
    ·exact nF b z h
   ·obtain⟨⟨o',e1⟩,e2⟩:=S.hp.bo.1 b h;rcases inn b z with q'|q'
    ·rw[e1]at q';cases q'
    ·exact e2 q'
   ·exact h
   ·obtain⟨o',e1,e2⟩:=chgn b z;have q1:H b=some u:=q;rw[q1]at e1;cases e1;cases u with
    |lst _|ins _ _ _=>exact h
    |_=>exact e2
 ·unfold aI;split
  ·exact nd3
  ·exact S.nd j
 ·grind[aI,ak,bB,Gr]
 ·unfold aI at hb;by_cases h1:j=0
  ·rw[if_pos h1]at hb;exact⟨nf3 b hb,r.there b hb⟩
  ·rw[if_neg h1]at hb;obtain⟨n,u,e⟩:=S.dis j b hb;refine⟨fun z=>?_,u,hp3.keep b u e (jn j h1 b hb)⟩;rcases hp3.fn b z with q|q|q
   ·exact n q
   ·have q':H b=none:=q;rw[e]at q';cases q'
   ·exact jn j h1 b hb q
 ·unfold aI at hb;by_cases h1:j=0
  ·rw[if_pos h1]at hb;rcases new3 b hb with q|q
   ·exact zfree b q
   ·exact inn b q
  ·rw[if_neg h1]at hb;exact S.new j b hb
 ·unfold aI at hb;by_cases h1:j=0
  ·rw[if_pos h1]at hb;exact r.chg b hb
  ·rw[if_neg h1]at hb;obtain⟨u,e,c⟩:=S.ch j b hb;exact⟨u,hp3.keep b u e (jn j h1 b hb),c⟩
 ·obtain⟨h1,h2⟩:=S.pn w hw;refine⟨h1,?_⟩;obtain⟨fl,c,ks,xs,e⟩:=ho;subst e;unfold cE;rw[getElem?_set_self hl]
def z7
  (cx:Ctx X T W kk) (U:Sup X.K C f) (G:b8 X.prog X.w X.K X.mg X.base (CXP X.prog X.w) k f fd ps (spI T ps.length m)) (hk:k<=kk) (hg:Gl X x) (hm:X.mg x=some (.ref C)) (hb:dR X.K fd ps [])
  (hN:X.N[0]?=some y) (hv:Vis X.env.scope y) (hn:fk ms n) (hps:n+1=ps.length) (ha:SA X T W es ms)
  (hdb:(x ==("__debug__":Str))=false:=by decide) (hdy:(y ==("__debug__":Str))=false:=by decide) (hcy:(y ==("__classdict__":Str))=false:=by decide)
  (hst:starEach (.Name y px::es) X.env=(false,eval (.Name y px) X.env)::starEach es X.env:=by rfl) (hpl:(backTo pos (starEach es X.env)).any (·.1)=false:=by rfl)
  (ht:eval (.Call (.Attribute (.Name x p) "__init__" apos) (.Name y px::es) [] pos) X.env=(do
   let ov <- eval (.Name x p) X.env
   standAt apos.atName
   let(f,first) <- holding [ov] (getMethod ov "__init__" pl)
   callWith pos f first (backTo pos (starEach (.Name y px::es) X.env)) (backToKw pos (keywordEach [] X.env))):=by rfl)
  (hs:swapsWith (.Call (.Attribute (.Name x p) "__init__" apos) (.Name y px::es) [] pos) none pos'.line X.env=pure false:=by rfl) :
  SS X T W (.Expr (.Call (.Attribute (.Name x p) "__init__" apos) (.Name y px::es) [] pos) pos') (fU m ms):=by
 have pe:PE X (.Call (.Attribute (.Name x p) "__init__" apos) (.Name y px::es) [] pos) (fun Y H Q=>∃ Z F env fp,ak T Z F H Y env fp/\(match fU m ms env with
   |.next e=>∀F' H' fp',ak T Z F' H' Y e fp'->Q .non H'
   |.exc c e=>∀F' H' fp',ak T Z F' H' Y e fp'->W c Y H'
   |_=>False)):=by
  intro js s Y H Q I h;obtain⟨Z,F,env,fp,S,q⟩:=h;refine PySem.W.methodCall_KW (pl:=pl) (gE I hg hm ?_ hdb) ht;refine PySem.W.method_cls I.kIn U.ga (PySem.W.cls_value I.kIn U.rd U.fc rfl ?_);have I':=I.tok (s.toks+1);unfold fU at q;cases e0:env[0]? with
  |none=>rw[e0]at q;exact q.elim
  |some o0=>
  cases o0 with
  |none=>rw[e0]at q;exact q.elim
  |some ov=>
  obtain⟨v0,hv0,r0⟩:=S.rel 0 ov e0;have hl0:0<env.length:=(List.getElem?_eq_some_iff.mp e0).1;rw[e0]at q;by_cases hob:∃c ks vs,ov=.obj .own c ks vs
  case neg=>
   exfalso;cases ov with
   |obj fl c ks vs=>
    cases fl with
    |own=>exact hob ⟨_,_,_,rfl⟩
    |_=>exact q
   |_=>exact q
  obtain⟨c,ks,vs0,rfl⟩:=hob;dsimp only at q;have pa:=bW (X:=X) (bV (pos:=px) hN hv hdy hcy) ha hst;refine callWith_K (first:=[]) (h₀:=X.base) I'.ok.mod.kin U.kp (thn (pa pos js _ Y H (fun vs H1=>∀ us s1,L2.Inv X js Y H1 s1->aE vs us->wpAny (model X.prog X.w) X.A (call (.ref f) us) (EP X js Y Q) X.xe s1) I'
   ⟨v0,hv0,tA.bind S (fun c e=>?_) (fun e=>by rw[e]at q;exact q) fun xs vs H1 F1 f1 e1 g1 r1 n1 d1 w1 us s1 I1 rv=>?_⟩) fun us s1 ⟨vs,H1,I1,r,q1⟩=>⟨I1.kIn,q1 us s1 I1 r⟩) hst hpl
  ·rw[e]at q;exact fun H' x=>q F H' fp (S.grow (Gr.same S.hp.ft x))
  rw[e1]at q;dsimp only at q;by_cases hln:hasL Fl.GB xs=true
  ·rw[if_pos hln]at q;exact q.elim
  rw[if_neg hln]at q;have hln':hasL Fl.GB xs=false:=by simpa using hln
  have S1:=S.grow g1;obtain⟨v0',hv0',r0'⟩:=S1.rel 0 _ e0;rw[hv0]at hv0';cases hv0';have xn:∀a∈f1,∀i,a∉fp i:=fun a ha i hi=>by obtain⟨_,o,e⟩:=S.dis i a hi;rw[w1 a ha]at e;cases e
  have xz:∀a∈f1,Z.H0 a=none\/Z.fp0 a:=fun a ha=>by
   by_cases q:Z.fp0 a
   ·exact .inr q
   ·refine .inl ?_;cases w:Z.H0 a with
    |none=>rfl
    |some o=>have:=w1 a ha;rw[S.hp.keep a o w q]at this;cases this
  have hBo:∀a,Z.B a->(∃o,H1 a=some o)/\a∉fp 0++f1:=fun a h=>by
   obtain⟨⟨o,h1⟩,h2⟩:=S.hp.bo.1 a h;have h3:=S.hp.keep a o h1 h2;refine⟨⟨o,g1.ext a o h3⟩,fun z=>?_⟩;rcases mem_append.mp z with z|z
   ·exact S.bow a h ⟨0,z⟩
   ·rw[w1 a z]at h3;cases h3
  have R:mV T F1 (fun a=>(∃o,H1 a=some o)/\a∉fp 0++f1) H1 (.obj .own c ks vs0::mapL Fl.Gw xs) (v0::vs) (fp 0++f1):=by
   refine⟨?_,nodup_append.mpr ⟨S.nd 0,d1,fun a ha b hb z=>by subst z;exact xn a hb 0 ha⟩,fun a ha=>?_,⟨fun a h=>h,S.tbo g1.ext fun a z=>(mem_append.mp z).elim (fun z=>.inr ⟨0,z⟩) fun z=>.inl (w1 a z)⟩,g1.dom⟩
   ·unfold RelL;refine⟨v0,vs,fp 0,f1,rfl,Rel.tr (fun _ h=>h) hBo (fun _ h=>h) (fun _ _ q _=>q) (fun _ _ _ q=>q) r0',?_,rfl⟩;exact RelL.Gw hBo (fun _ h=>h.elim) (RelL.noL (L':=NoL) hln' r1)
   ·rcases mem_append.mp ha with ha|ha
    ·exact(S1.dis 0 a ha).1
    ·exact n1 a ha
  have r2:aE (v0::vs) us:=rv;have hl:us.length=ps.length:=by rw[<- r2.length,length_cons,<- r1.length,hn env xs e1];exact hps
  refine wpAny_call (codeAny_mono (G.run X.A X.stack s1 H1 ⟨us,[]⟩ us (v0::vs) Q (fun cls _ H'=>∃ c,cls=.ref (T.xcl c)/\W c Y H') (cx.room.mono hk) I1.env0 (by simpa using hb s1 us I1.kIn (by simpa using hl)) r2
   ⟨by rw[r2.length,hl],v0,_,F1,_,_,rfl,R,⟨.own,c,ks,vs0,rfl⟩,?_⟩) fun rs s' hq=>?_)
  ·cases e:m (.obj .own c ks vs0::mapL Fl.Gw xs)with
   |ok o=>
    rw[e]at q;cases o with
    |obj fl c' ks' vs'=>
     dsimp only at q;by_cases hbr:(PV.obj fl c' ks' vs').has Fl.GD=true
     ·rw[if_pos hbr]at q;exact q.elim
     ·rw[if_neg hbr]at q;dsimp only at q;have hbr':(PV.obj fl c' ks' vs').has Fl.GD=false:=by simpa using hbr
      intro F3 H3 f3 hp3 r3 nd3 nf3 new3;exact q F3 H3 _ (S1.sup hv0 hl0 xz xn n1 r1.chg hp3 r3 hbr' nd3 nf3 new3 ⟨_,_,_,_,rfl⟩)
    |_=>exact q.elim
   |exc c|stuck=>rw[e]at q;exact q.elim
  ·cases rs with
   |error e=>obtain⟨cls,H',fl,c,rfl,hw⟩:=hq;exact cx.xf js Y H1 s1 c H' e s' I1 fl hw
   |ok fl=>
    cases fl with
    |ret u=>exact I1.after hq
    |next|brk|cont=>exact False.elim hq
 exact PS.wk (dS (pos:=pos') pe hs) fun D Y H hz1=>by
  obtain⟨Z,F,env,fp,S,q⟩:=hz1;refine⟨Z,F,env,fp,S,?_⟩;cases e:fU m ms env with
  |next e'|exc c e'=>rw[e]at q;exact fun F' H' fp' S'=>q F' H' Y fp' S'
  |ret v=>
   exfalso;revert e;unfold fU;split
   ·split
    ·split
     ·simp
     ·split
      ·split<;>simp
      ·simp
    ·simp
    ·simp
   ·simp
  |brk e'=>
   exfalso;revert e;unfold fU;split
   ·split
    ·split
     ·simp
     ·split
      ·split<;>simp
      ·simp
    ·simp
    ·simp
   ·simp
  |cont e'=>
   exfalso;revert e;unfold fU;split
   ·split
    ·split
     ·simp
     ·split
      ·split<;>simp
      ·simp
    ·simp
    ·simp
   ·simp
  |stuck=>rw[e]at q;exact q
end
end PR
namespace PR
open PySem PySem.Spec L2 PyProof.Rows
def rZ(lo c:Int)(n:Nat):Gs:=(range n).map fun k=>.int (lo+(k:Nat)*c)
def zv(lo c:Int)(n:Nat):It:=⟨fun i _=>i<n,fun i H x H'=>H'=H/\x=.int (lo+(i:Nat)*c),fun i _=>n<=i⟩
def m5{P:Program}{w:World}{K:PySem.W.Frag}(it:Addr)(lo c:Int)(n:Nat):qa P w K tg (zv lo c n) [it] it (fun i h=>IsRangeIter h it (lo+(i:Nat)*c) ((n:Int)-(i:Nat)) c) where
 mem:=by simp
 obj:=fun i h st b hb=>by
  have e:b=it:=by simpa using hb
  subst e;exact ⟨_,st,fun v z=>by
   have z':Data.fields _=Data.cell v:=z;cases z'⟩
 keep:=fun i h h' st k=>k it (by simp) _ st
 item:=by intro X hP hw hK hc i js s Y H E I hf st hg;subst hP hw hK;obtain⟨f0,f1,f2,f3,f4,f5⟩:=hf it (by simp);have W:=Walks.range (prog:=X.prog) (w:=X.w) (I.ok.hd hc) it lo c n;refine W.item i s _ _ hg st fun v h' tk hv st' kk=>?_;obtain⟨t,rfl⟩:=hv;have I1:L2.Inv X js Y H {s with heap:=h',toks:=tk}:=I.turned (fun b o hb e=>kk b o (by simpa using hb) e) f0 f1 f3 f4 f5;exact⟨_,rfl,qR (s:={s with heap:=h',toks:=tk}) (n:="range_iterator") st' rfl rfl (by decide) ⟨.int (lo+(i:Nat)*c),H,I1,⟨t,rfl⟩,⟨rfl,rfl⟩,st',fun b hb=>(hf b hb).1⟩⟩
 done:=by intro X hP hw hK hc i js s Y H E I hf st hg;subst hP hw hK;obtain⟨f0,f1,f2,f3,f4,f5⟩:=hf it (by simp);exact wpAny_pyNext_range_end (I.ok.hd hc) st (by have:n<=i:=hg;omega) fun h' eb=>⟨rfl,I.turned (t':=s.toks) (fun b o hb e=>eb b o hb e) f0 f1 f3 f4 f5⟩
 self:=fun _ _ _ _ _ st h=>wpAny_pyIter_rangeiter st h
section
variable{X:Cx}{T:Tb}{W:Nat->L2.St->Gq}{Z:Zn}{F F1 B L:Gh}{H H1:Hp}{Y:L2.St}{env:En}{fp:Nat->Gk}{D:Ends}
def vV{lo c:Int}{n:Nat}:ItC T F1 B L H1 (zv lo c n) (rZ lo c n):=by
 apply ItC.of0;intro H2 _;refine⟨fun i x ex=>?_,by simp[rZ,zv]⟩;have hi:i<n:=by have:=(List.getElem?_eq_some_iff.mp ex).1;simpa[rZ]using this
 refine⟨hi,fun v H3 hy=>⟨hy.1,[],?_⟩⟩;obtain⟨_,rfl⟩:=hy;have:x=.int (lo+(i:Nat)*c):=by simp[rZ,hi]at ex;exact ex.symm
 subst this;exact dE
end
end PR
namespace PR
open PySem PySem.Spec L2
def whL(c:MT)(b:MS):Nat->MS
 |0,_=>.stuck
 |k+1,env=>match c env with
  |.ok true=>match b env with
   |.next e|.cont e=>whL c b k e
   |.brk e=>.next e
   |.ret v=>.ret v
   |.exc x e=>.exc x e
   |.stuck=>.stuck
  |.ok false=>.next env
  |.exc x=>.exc x env
  |.stuck=>.stuck
def mt(c:MT)(b:MS):MS:=whL c b 100000
section
variable{X:Cx}{T:Tb}{W:Nat->St->Gq}
def um(hp:PassesOwn (model X.prog X.w) X.A X.env X.xe)(hc:ST X T W c mc)(hb:SSs X T W body mb):SS X T W (.While c body [] pos) (mt mc mb):=
 PS.wk (nH (pos:=pos) hp hc hb) fun D Y H hz1=>by
  obtain⟨Z,F,env,fp,S,q⟩:=hz1;unfold mt at q;refine⟨fun m σ' H'=>∃F' env' fp',ak T Z F' H' σ' env' fp'/\GS T W Z D (whL mc mb m env'),⟨100000,F,env,fp,S,q⟩,?_⟩;rintro m σ' H' ⟨F',env',fp',S',q'⟩;cases m with
  |zero=>exact q'.elim
  |succ k=>
   unfold whL at q';refine tT.bind S' (fun c e H2 x=>?_) (fun e=>by rw[e]at q';exact q') fun b H1 F1 e g=>?_
   ·rw[e]at q';exact q' F' H2 σ' fp' (S'.grow (Gr.same S'.hp.ft x))
   ·cases b with
    |false=>rw[e]at q';exact(if_neg (by decide)).mpr (q' F1 H1 σ' fp' (S'.grow g))
    |true=>
     rw[e]at q';dsimp only at q';refine(if_pos rfl).mpr ⟨fun σ2 H2=>∃F2 env2 fp2,ak T Z F2 H2 σ2 env2 fp2/\GS T W Z D (whL mc mb k env2),fun σ2 H2 h=>⟨k,lt_succ_self k,h⟩,Z,F1,env',fp',S'.grow g,?_⟩;cases eb:mb env' with
     |next e2|cont e2=>rw[eb]at q';exact fun F3 H3 σ3 fp3 S3=>⟨F3,e2,fp3,S3,q'⟩
     |brk e2|ret v|exc c e2|stuck=>rw[eb]at q';exact q'
end
def dH:Gs->Option (List Bool)
 | []=>some []
 |.bl b::xs=>(dH xs).map (b::·)
 |_=>none
def sF(f:List Bool->Bool):PV->Gu
 |.lst _ xs=>match dH xs with
  |some bs=>.ok (.bl (f bs))
  |none=>.stuck
 |_=>.stuck
def mT(bs:List Bool):Bool:=bs.all id
section
variable{X:Cx}{T:Tb}{W:Nat->St->Gq}{Z:Zn}{F F1 B L:Gh}{H H1:Hp}{Y:St}{env:En}{fp:Nat->Gk}{js:Gg}{s:Shared}
def lE:∀{xs:Gs}{vs:Gp}{f:Gk}{bs:List Bool},dH xs=some bs->RelL T F B L H xs vs f->vs=bs.map V.bl
 | [],_,_,_,e,h=>by simp only[dH,Option.some.injEq]at e;subst e;unfold RelL at h;rw[h.1];rfl
 |.bl b::xs,_,_,bs,e,h=>by
  simp only[dH]at e;cases e2:dH xs with
  |none=>rw[e2]at e;cases e
  |some ms=>rw[e2]at e;cases e;unfold RelL at h;obtain⟨v,ws,f1,f2,rfl,h1,h2,_⟩:=h;unfold Rel at h1;rw[h1.1,lE e2 h2];rfl
 |.non::_,_,_,_,e,_|.int _::_,_,_,_,e,_|.str _::_,_,_,_,e,_|.lst _ _::_,_,_,_,e,_|.tup _::_,_,_,_,e,_|.obj _ _ _ _::_,_,_,_,e,_|.exc _::_,_,_,_,e,_|.box _ _::_,_,_,_,e,_=>by simp[dH]at e
def wy:∀{bs:List Bool}{its:Gj},aE (bs.map V.bl) its->∀(i:Nat) (v:Value),its.toArray[i]?=some v->v=.bool (bs.getD i false)
 | [],_,r,i,v,e=>by cases r;simp at e
 |b::bs,_,r,i,v,e=>by
  cases r with
  |cons r1 r2=>
   cases i with
   |zero=>simp at e;subst e;exact r1
   |succ i=>exact wy r2 i v (by simpa using e)
def xO(bs:List Bool)(n:Nat)(h:n=bs.length):(range n).all (fun i=>bs.getD i false)=mT bs:=by
 subst h;unfold mT;rw[Bool.eq_iff_iff,all_eq_true,all_eq_true];refine⟨fun z x hx=>?_,fun z i hi=>?_⟩
 ·obtain⟨i,hi,e⟩:=getElem_of_mem hx;have:=z i (mem_range.mpr hi);rw[<- e];simpa[hi]using this
 ·have hi':=mem_range.mp hi;have:=z bs[i] (List.getElem_mem hi');simpa[hi']using this
def t6{bs:List Bool}{its:Gj}(r:aE (bs.map V.bl) its):TruthOf X.prog X.w A (fun i v=>its.toArray[i]?=some v) (fun i=>bs.getD i false):=fun i v s Q E hP hQ=>by rw[wy r i v hP];exact wpAny_truthy_bool hQ
def mQ(hc:X.calm=true):dq X (.builtin "all") (fun xs H Q=>∃p bs,xs=[.ref p]/\SqL X.K H p (bs.map V.bl)/\Q (.bl (mT bs)) H):=by
 intro js s Y H xs us Q I rv h;obtain⟨p,bs,rfl,hq,q⟩:=h;obtain⟨u,rfl,rx⟩:=cP rv;cases rx;have hh:=I.ok.hd hc;obtain⟨its,r,pl,hz⟩:=I.list hq;have hl:its.toArray.size=bs.length:=by have:=r.length;simpa using this.symm
 obtain⟨o,ho,hcl,n,hd⟩:=pl.isList;have hlt:=lt_size ho;have key:∀{h':Heap}{tk:Nat},(∀b o,s.heap.get? b=some o->h'.get? b=some o)->EP X js Y Q (.bool (mT bs)) {s with heap:=h',toks:=tk}:=fun k=>⟨.bl _,H,eE I k,rfl,q⟩
 refine call_all_walk (wpAny_pyIter_list pl.isList ?_);refine⟨_,_,_,_,_,_,(fun i=>bs.getD i false),rfl,Walks.list (A:=X.A.in1) hh _ p (Nat.ne_of_lt hlt) its.toArray,⟨⟨_,get?_push_size _ rfl,rfl,rfl⟩,pl.isList.push _⟩,t6 r,fun h' tk hk=>?_⟩;rw[xO bs _ hl];exact key (cY hk)
def yC(hK:X.K=T.K)(f:List Bool->Bool):Mir T W (p1 (sF f)) (fun xs H Q=>∃p bs,xs=[.ref p]/\SqL X.K H p (bs.map V.bl)/\Q (.bl (f bs)) H):=by
 intro B F L Y H Q F' H' xs vs fx gr r nf nd new q
 match xs,r,q with
 | [x],r,q=>
  obtain⟨v,rfl,rv⟩:=RelL.one r;simp only[p1]at q;cases x with
  |lst fl ys=>
   simp only[sF]at q;cases e2:dH ys with
   |none=>rw[e2]at q;exact q.elim
   |some bs=>rw[e2]at q;dsimp only at q;unfold Rel at rv;obtain⟨a,us,fp',rfl,hl,hr,_⟩:=rv;have hu:=lE e2 hr;subst hu;exact⟨a,_,rfl,by rw[hK];exact hl.sq,q.scal gr jU⟩
  |_=>exact q.elim
 | [],_,q=>exact q.elim
 |_::_::_,_,q=>simp only[p1]at q;exact q.elim
def B4:bootBuiltins "all"=some (.builtin "all"):=by decide +kernel
def An(hK:X.K=T.K)(hc:X.calm=true)(hg:Gl X "all")(hm:X.mg "all"=none)(ha:SE X T W e m)(he:starEach [e] X.env=[(false,eval e X.env)]:=by rfl):SE X T W (.Call (.Name "all" p) [e] [] pos) (au (p1 (sF mT)) (ae m ah)):=
 eB (mQ hc) (yC hK mT) hg hm B4 (ac ha ag (by rw[he];rfl)) (he:=by rw[he];rfl) (hpl:=rfl)
end
end PR
namespace PR
open PySem PySem.Spec L2
def i4:PV->Gu
 |.bl b=>.ok (.int (if b then 1 else 0))
 |.int i=>.ok (.int i)
 |_=>.stuck
section
variable{X:Cx}{T:Tb}{W:Nat->St->Gq}
def oP:dq X (.type "int") (fun xs H Q=>(∃b,xs=[.bl b]/\Q (.int (if b then 1 else 0)) H)\/ ∃i,xs=[.int i]/\Q (.int i) H):=by
 intro js s Y H xs us Q I rv h;rcases h with⟨b,rfl,q⟩ |⟨i,rfl,q⟩
 ·obtain⟨u,rfl,rx⟩:=cP rv;cases rx;exact PySem.call_int_bool ⟨.int _,H,eE I fun _ _ e=>e,⟨_,rfl⟩,q⟩
 ·obtain⟨u,rfl,rx⟩:=cP rv;obtain⟨t,rfl⟩:=rx;exact PySem.call_int_int ⟨.int _,H,I,⟨_,rfl⟩,q⟩
def sM:Mir T W (p1 i4) (fun xs H Q=>(∃b,xs=[.bl b]/\Q (.int (if b then 1 else 0)) H)\/ ∃i,xs=[.int i]/\Q (.int i) H):=by
 intro B F L Y H Q F' H' xs vs fx g r nf nd new q
 match xs,r,q with
 | [x],r,q=>
  obtain⟨v,rfl,r1⟩:=r.one;cases x with
  |bl b=>unfold Rel at r1;obtain⟨rfl,_⟩:=r1;exact .inl ⟨b,rfl,q.scal g dE⟩
  |int i=>unfold Rel at r1;obtain⟨rfl,_⟩:=r1;exact .inr ⟨i,rfl,q.scal g dE⟩
  |_=>exact q.elim
 | [],_,q|_::_::_,_,q=>exact q.elim
def uz(hg:Gl X "int")(hm:X.mg "int"=none)(ha:SE X T W e m)(he:starEach [e] X.env=[(false,eval e X.env)]:=by rfl):SE X T W (.Call (.Name "int" p) [e] [] pos) (au (p1 i4) (ae m ah)):=
 iT oP sM hg hm wB (ac ha ag he) (he:=he)
end
open AutoSeq1 (wpAny_loadPart')
section
variable{prog:Program}{w:World}{A:Around}{E:Gc}{s:Shared}
def jk(ft:TypeCalled T nI iI)
  (c1:checkTypeCall T ⟨us,kw⟩=pure ()) (c2:checkBuiltinCall nI ⟨.type T::us,kw⟩=pure ()) (eN:entryFor table nI=some Bn) (eI:entryFor table iI=some Bi) (g:Meets (Bn ⟨.type T::us,kw⟩) S)
  (h:S A.in1 (wants Q1 E) s) (nx:∀ob s1,Q1 ob s1->s1.TypeIs ob T/\argsOk iI ⟨ob::us,kw⟩/\∃Si,Meets (Bi ⟨ob::us,kw⟩) Si/\Si A.in1 (wants (fun r s2=>r=.none/\Q ob s2) E) s1) :
  wpAny (model prog w) A (call (.type T) us kw) Q E s:=by
 obtain⟨cc,tt,hmro⟩:=ft.mro;have hmade:=ft.made;have hsub:=ft.sub;have h1:=ft.notType;have h2:=ft.canCreate;refine wpAny_call (codeAny_of_tree (show wpAny _ _ (callAny (.type T) _) _ _ _ from wpAny_pure ⟨Code.quiet_builtin _ (by decide +kernel),codeAny_builtin F.entry_type_call ?_⟩));rw[Around.under_plain (weight_type_call_type T us kw) (units_type_call_type T us kw)]
 repeat (any_goals (first|assumption|wp_step|fail))
 refine codeAny_mono (codeAny_call_builtin ft.plain eN (wpAny_of_eq c2 (g prog w A.in1 _ s h))) fun r s1 hr=>?_;cases r with
 |error e=>exact hr
 |ok fl=>
  cases fl with
  |ret ob=>
   obtain⟨hT,hok,Si,gi,hsi⟩:=nx _ _ hr;have hli:=ft.init.lookup;have hbi:=ft.init.bind ob
   repeat (any_goals (first|assumption|wp_step|fail))
   refine codeAny_mono (codeAny_call_builtin ft.init.plain eI (ft.init.check _ _ _ _ _ _ _ _ hT hok (gi prog w A.in1 _ s1 hsi))) fun r2 s2 hr2=>?_;cases r2 with
   |error e=>exact hr2
   |ok fl2=>
    cases fl2 with
    |ret r=>
     obtain⟨rfl,hq⟩:=hr2
     repeat (any_goals (first|assumption|wp_step|fail))
    |_=>exact hr2.elim
  |_=>exact hr.elim
def zP(hl:typeLookup (.type T) "__init__"=pure (some (.builtin "object.__init__")))(hm:Bind.madeBy (.type T)=pure (some nI))(hne:(some nI != some "object.__new__")=true) :
  Meets (Builtin.«object.__init__» ⟨[self,a],kw⟩) (fun _ R s=>s.TypeIs self T/\R (.ok (.ret .none)) s):=by
 refine Meets.of_wp fun pr w A R s0 hs=>?_;obtain⟨hT,hq⟩:=hs
 repeat (any_goals (first|assumption|wp_step|fail))
 exact⟨_,rfl,hq⟩
def cK1(a v:Value):checkTypeCall "enumerate" ⟨[a],[("start",v)]⟩=pure ():=by kernel_rfl
def cK2(a v:Value):checkBuiltinCall "enumerate.__new__" ⟨[.type "enumerate",a],[("start",v)]⟩=pure ():=by kernel_rfl
def cK3(a b v:Value):argsOk "object.__init__" ⟨[a,b],[("start",v)]⟩:=by
 unfold argsOk;rw[signature?_of (id:="object.__init__") (n:=['_','_','t','i','n','i','_','_']) (o:=['t','c','e','j','b','o']) (by kernel_rfl) F.owner_object]
 kernel_rfl
abbrev itO(n:String)(l:Addr):Obj:={cls:=.type n,data:=.fields #[.ref l,.int 0 0]}
abbrev enO(it:Addr)(i:Int):Obj:={cls:=.type "enumerate",data:=.fields #[.none,.bool false,.ref it,rawInt i,.none,.none]}
def lJ(n:String)(l:Addr)(s:Shared):Prop:=∀(pr:Program) (w:World) (A:Around) (Q:Gc) (E:Gc),Q (.ref s.heap.objs.size) {s with heap:=s.heap.push (itO n l)}->wpAny (model pr w) A (pyIter (.ref l)) Q E s
def Et(n:String)(l:Addr)(t:Tok) :
  Meets (Builtin.«enumerate.__new__» ⟨[.type "enumerate",.ref l],[("start",.int 1 t)]⟩) (fun _ R s=>lJ n l s/\R (.ok (.ret (.ref (s.heap.push (itO n l)).objs.size))) {s with heap:=(s.heap.push (itO n l)).push (enO s.heap.objs.size 1)}):=
 .of_wp fun pr w A R s0 h=>by
  obtain⟨hp,g,d,tk,os⟩:=s0;obtain⟨hI,h⟩:=h;have hsub:=sub_enumerate;have hJ:∀{Q:Gc}{E:Gc},Q (.ref hp.objs.size) ⟨hp.push (itO n l),g,d,tk,os⟩->wpAny (model pr w) A.in1 (pyIter (.ref l)) Q E ⟨hp,g,d,tk,os⟩:=fun {Q E} q=>hI pr w A.in1 Q E q;have hJ':∀{Q:Gc}{E:Gc},Q (.ref hp.objs.size) ⟨hp.push (itO n l),g,d,tk,os⟩->wpAny (model pr w) A (pyIter (.ref l)) Q E ⟨hp,g,d,tk,os⟩:=fun {Q E} q=>hI pr w A Q E q
  wp_walk
  refine wpAny_stack_any fun st=>wpAny_pure ?_;split<;>try (rename_i c _ _ _ _ _;cases(c==Value.type "enumerate"))
  all_goals (wp_walk using hJ,hJ')
  all_goals exact⟨_,rfl,h⟩
def BV(hI:lJ n l s)(h:Q (.ref (s.heap.objs.size+1)) {s with heap:=(s.heap.push (itO n l)).push (enO s.heap.objs.size 1)}) :
  wpAny (model prog w) A (call (.type "enumerate") [.ref l] [("start",.int 1 t)]) Q E s:=by
 have hz:(s.heap.push (itO n l)).objs.size=s.heap.objs.size+1:=size_push ..
 refine jk (Q1:=fun ob s1=>s1.TypeIs ob "enumerate" /\ Q ob s1) F.called_enumerate (cK1 _ _) (cK2 _ _) F.entry_enumerate_new F.entry_object_init (Et n l t) ⟨hI,?_⟩ fun ob s1 hq=>⟨hq.1,cK3 ob _ _,_,zP F.called_enumerate.init.lookup F.called_enumerate.made (by decide),hq.1,rfl,hq.2⟩
 show _/\_;rw[hz];have:=get?_push_size (s.heap.push (itO n l)) (o:=enO s.heap.objs.size 1) rfl;rw[hz]at this;exact⟨⟨_,this,rfl⟩,h⟩
def nD(t:Addr):¬((Value.ref t==Value.none)=true):=Bool.false_ne_true
def vy(hit:s.heap.IsTupleIter it t i)(ht:s.heap.IsTuple t items)(hx:items[i]?=some x)
  (hQ:∀h',h'.IsTupleIter it t (i+1)->SameBut it s.heap h'->Q x {s with heap:=h'}):wpAny (model prog w) A (Builtin.SmallTypes.nextOf (.ref it)) Q E s:=by
 obtain⟨o,ho,hc,hd⟩:=id hit;obtain⟨o2,ho2,_,n2,hd2⟩:=ht;unfold Builtin.SmallTypes.nextOf;refine wpAny_bind (wpAny_callSpecial?_slot (name:=Str.ofString "__next__") hit.typeIs F.slot_tuple_iterator_next (wpAny_call_entry F.slot_tuple_iterator_next hit.typeIs F.entry_tuple_iterator_next ?_ (F.args_tuple_iterator_next_1 _)));refine(show wpAny _ _ (field (.ref it) 0 >>= _) _ _ s from wpAny_bind (wpAny_field ho hd (x:=.ref t) rfl ?_));refine(show wpAny _ _ (if(Value.ref t==Value.none)=true then _ else _) _ _ s from ?_);rw[if_neg (nD t)];refine(show wpAny _ _ (field (.ref it) 1 >>= _) _ _ s from wpAny_bind (wpAny_field ho hd (x:=.int i 0) rfl ?_));refine(show wpAny _ _ (seqItems? (.ref t) >>= _) _ _ s from wpAny_bind (wpAny_seqItems ho2 hd2 ?_));simp only[toNat_natCast,hx];refine wpAny_bind (wpAny_setField ho hd (by simp) (wpAny_pure ⟨x,rfl,wpAny_pure (hQ _ ⟨_,Heap.get?_update_self _ ho (Obj.isFreed_of_fields (Obj.data_mapFields hd _)),(Obj.cls_mapFields ..).trans hc,by rw[Obj.data_mapFields hd];simp[rawInt]⟩ (SameBut.update ..))⟩))
def yu(hh:A.handled=none)(hit:s.heap.IsTupleIter it t i)(ht:s.heap.IsTuple t items)(hx:items[i]?=none)
  (hE:∀h' e,ExtBut it s.heap h'->(∃o,h'.get? e=some o/\o.cls=.type "StopIteration")->E (.ref e) {s with heap:=h'}):wpAny (model prog w) A (Builtin.SmallTypes.nextOf (.ref it)) Q E s:=by
 obtain⟨o,ho,hc,hd⟩:=id hit;obtain⟨o2,ho2,_,n2,hd2⟩:=ht;unfold Builtin.SmallTypes.nextOf;refine wpAny_bind (wpAny_callSpecial?_slot (name:=Str.ofString "__next__") hit.typeIs F.slot_tuple_iterator_next (wpAny_call_entry F.slot_tuple_iterator_next hit.typeIs F.entry_tuple_iterator_next ?_ (F.args_tuple_iterator_next_1 _)));refine(show wpAny _ _ (field (.ref it) 0 >>= _) _ _ s from wpAny_bind (wpAny_field ho hd (x:=.ref t) rfl ?_));refine(show wpAny _ _ (if(Value.ref t==Value.none)=true then _ else _) _ _ s from ?_);rw[if_neg (nD t)];refine(show wpAny _ _ (field (.ref it) 1 >>= _) _ _ s from wpAny_bind (wpAny_field ho hd (x:=.int i 0) rfl ?_));refine(show wpAny _ _ (seqItems? (.ref t) >>= _) _ _ s from wpAny_bind (wpAny_seqItems ho2 hd2 ?_));simp only[toNat_natCast,hx];refine wpAny_bind (wpAny_rule (wpAny_bind (wpAny_setField ho hd (by simp) (show wpAny _ _ (newExc (.type "StopIteration") [] >>= _) _ _ _ from wpAny_bind ?_))));simp only[newExc,newTuple];refine wpAny_bind (wpAny_newObj_type (wpAny_bind (m:=firstArgMember _ _) (wpAny_of_eq (a:=Value.none) (by first|rfl |(simp only[firstArgMember];rfl)) (wpAny_newObj_type ?_ (by size_fits)))) (by size_fits));simp only[raiseNew];refine wpAny_bind (wpAny_handled ?_)
 first|rw[show A.in1.handled=none from hh]|rw[hh]|skip
 exact wpAny_bind (wpAny_pure (wpAny_throw (hE _ _ (((SameBut.update ..).extBut.push _).push _) ⟨_,get?_push_size _ rfl,rfl⟩)))
inductive ig(h:Heap)(it l:Addr)(its:Go)(i:Nat):Prop
 |lst (a:h.IsListIter it l i) (b:h.IsList l its)
 |tup (a:h.IsTupleIter it l i) (b:h.IsTuple l its)
def ig.at(x:ig h it l its i)(k1:∀o,h.get? it=some o->h'.get? it=some o)(k2:∀o,h.get? l=some o->h'.get? l=some o):ig h' it l its i:=by
 rcases x with⟨⟨o,e,r⟩,⟨o2,e2,r2⟩⟩ |⟨⟨o,e,r⟩,⟨o2,e2,r2⟩⟩
 ·exact .lst ⟨o,k1 o e,r⟩ ⟨o2,k2 o2 e2,r2⟩
 ·exact .tup ⟨o,k1 o e,r⟩ ⟨o2,k2 o2 e2,r2⟩
def ig.obj(x:ig h it l its i):∃o,h.get? it=some o/\∀v,o.data≠.cell v:=by
 rcases x with⟨⟨o,e,_,d⟩,_⟩ |⟨⟨o,e,_,d⟩,_⟩
 ·exact⟨o,e,fun v z=>by rw[d]at z;cases z⟩
 ·exact⟨o,e,fun v z=>by rw[d]at z;cases z⟩
def yt(hi:ig s.heap it l its i)(hne:l≠it)(hx:its[i]?=some x)(hQ:∀h',ig h' it l its (i+1)->SameBut it s.heap h'->Q x {s with heap:=h'}) :
  wpAny (model prog w) A (Builtin.SmallTypes.nextOf (.ref it)) Q E s:=by
 rcases hi with⟨a,b⟩ |⟨a,b⟩
 ·exact wpAny_nextOf_list_item a b hx fun h' q sb=>hQ h' (.lst q (b.extBut sb.extBut hne)) sb
 ·exact vy a b hx fun h' q sb=>hQ h' (.tup q (b.extBut sb.extBut hne)) sb
def A8(hh:A.handled=none)(hi:ig s.heap it l its i)(hx:its[i]?=none)
  (hE:∀h' e,ExtBut it s.heap h'->(∃o,h'.get? e=some o/\o.cls=.type "StopIteration")->E (.ref e) {s with heap:=h'}):wpAny (model prog w) A (Builtin.SmallTypes.nextOf (.ref it)) Q E s:=by
 rcases hi with⟨a,b⟩ |⟨a,b⟩
 ·exact wpAny_nextOf_list_end hh a b hx hE
 ·exact yu hh a b hx hE
def y4{Q:Gc}(he:IsEnum s.heap e it k old)(hi:ig s.heap it l its i)(hne:e≠it)(hli:l≠it)(hle:l≠e)(hx:its[i]?=some x)
  (hQ:∀ h',IsEnumOut h' e it (k+1) x s.heap.objs.size->ig h' it l its (i+1)->h'.get? s.heap.objs.size=some { cls:=.type "tuple", data:=.seq #[.int k s.toks,x] }->h'.objs.size=s.heap.objs.size+1 ->
   (∀b o,b≠e->b≠it->s.heap.get? b=some o->h'.get? b=some o)->Q (.ref s.heap.objs.size) {s with heap:=h',toks:=s.toks+1}) :
  wpAny (model prog w) A (Builtin.«enumerate.__next__» ⟨[.ref e],[]⟩) (fun fin s'=>∃v,fin=.done (.ret v)/\Q v s') E s:=by
 obtain⟨hp,g,d,tk,os⟩:=s;refine(show wpAny _ _ (field (.ref e) 2 >>= _) _ _ _ from wpAny_bind (wpAny_field he rfl (x:=.ref it) rfl ?_));refine wpAny_bind (yt hi hli hx fun h1 i1 s1=>?_)
 replace s1:SameBut it hp h1:=s1
 have e1:IsEnum h1 e it k old:=(s1.2 e hne).trans he;refine(show wpAny _ _ (field (.ref e) 3 >>= _) _ _ ⟨h1,g,d,tk,os⟩from wpAny_bind (wpAny_field e1 rfl (x:=rawInt k) rfl ?_));refine(show wpAny _ _ (field (.ref e) 4 >>= _) _ _ ⟨h1,g,d,tk,os⟩from wpAny_bind (wpAny_field e1 rfl (x:=.none) rfl ?_));refine(show wpAny _ _ (mkInt k >>= _) _ _ ⟨h1,g,d,tk,os⟩from wpAny_bind (wpAny_mkInt ?_));refine(show wpAny _ _ (setField (.ref e) 3 (rawInt (k+1)) >>= _) _ _ ⟨h1,g,d,tk+1,os⟩from wpAny_bind (wpAny_setField_rec e1 (by simp) fun h2 e2 s2=>?_))
 replace s2:SameBut e h1 h2:=s2
 replace e2:IsEnum h2 e it (k+1) old:=e2
 refine(show wpAny _ _ (setField (.ref e) 4 .none >>= _) _ _ ⟨h2,g,d,tk+1,os⟩from wpAny_bind (wpAny_setField_rec e2 (by simp) fun h3 e3 s3=>?_))
 replace s3:SameBut e h2 h3:=s3
 replace e3:IsEnum h3 e it (k+1) old:=e3
 refine(show wpAny _ _ (newTuple [.int k tk,x] >>= _) _ _ ⟨h3,g,d,tk+1,os⟩from wpAny_bind (wpAny_newTuple ?_));have e4:IsEnum (h3.push {cls:=.type "tuple",data:=.seq #[.int k tk,x]}) e it (k+1) old:=get?_push_of_some _ e3;generalize hh4:h3.push {cls:=.type "tuple",data:=.seq #[.int k tk,x]}=h4 at e4;have z3:h3.objs.size=hp.objs.size:=by rw[s3.1,s2.1,s1.1]
 have lte:e<hp.objs.size:=lt_size he;have t4:h4.get? hp.objs.size=some {cls:=.type "tuple",data:=.seq #[.int k tk,x]}:=by rw[<- hh4,<- z3];exact get?_push_size _ rfl
 have z4:h4.objs.size=hp.objs.size+1:=by rw[<- hh4,size_push,z3]
 have k4:∀b o,b≠e->h1.get? b=some o->h4.get? b=some o:=fun b o hb q=>by rw[<- hh4];exact get?_push_of_some _ (s3.extBut b o hb (s2.extBut b o hb q))
 refine(show wpAny _ _ (Builtin.SmallTypes.ownedTupleIsFree (.ref e) >>= _) _ _ ⟨h4,g,d,tk+1,os⟩from ?_);rw[z3];refine wpAny_bind ?_;unfold Builtin.SmallTypes.ownedTupleIsFree;refine wpAny_bind (wpAny_field e4 rfl (x:=.none) rfl (wpAny_pure ?_));simp only[if_true];refine wpAny_bind (wpAny_rule (wpAny_bind (wpAny_field e4 rfl (x:=old) rfl (wpAny_bind (wpAny_setField_rec e4 (by simp) fun h5 e5 s5=>?_)))))
 replace s5:SameBut e h4 h5:=s5
 replace e5:IsEnum h5 e it (k+1) x:=e5
 refine(show wpAny _ _ (Builtin.SmallTypes.ownedTupleHandOut (.ref e) (.ref hp.objs.size) >>= _) _ _ ⟨h5,g,d,tk+1,os⟩from wpAny_bind ?_);unfold Builtin.SmallTypes.ownedTupleHandOut;refine wpAny_bind (wpAny_setField_rec e5 (by simp) fun h6 e6 s6=>?_)
 replace s6:SameBut e h5 h6:=s6
 replace e6:IsEnumOut h6 e it (k+1) x hp.objs.size:=e6
 refine wpAny_setField_rec e6 (by simp) fun h7 e7 s7=>?_
 replace s7:SameBut e h6 h7:=s7
 replace e7:IsEnumOut h7 e it (k+1) x hp.objs.size:=e7
 have up:∀b o,b≠e->h4.get? b=some o->h7.get? b=some o:=fun b o hb q=>s7.extBut b o hb (s6.extBut b o hb (s5.extBut b o hb q));refine wpAny_bind (wpAny_letGo (wpAny_pure ⟨_,rfl,hQ h7 e7 (i1.at (fun o q=>up it o hne.symm (k4 it o hne.symm q)) fun o q=>up l o hle (k4 l o hle q)) (up _ _ (Nat.ne_of_gt lte) t4) (by rw[s7.1,s6.1,s5.1,z4]) fun b o hb hb2 q=>up b o hb (k4 b o hb (s1.extBut b o hb2 q))⟩))
def yc(he:IsEnum s.heap e it k old)(hi:ig s.heap it l its i)(hne:e≠it)(hli:l≠it)(hle:l≠e)(hx:its[i]?=some x)
  (hQ:∀ h',IsEnumOut h' e it (k+1) x s.heap.objs.size->ig h' it l its (i+1)->h'.get? s.heap.objs.size=some { cls:=.type "tuple", data:=.seq #[.int k s.toks,x] }->h'.objs.size=s.heap.objs.size+1 ->
   (∀b o,b≠e->b≠it->s.heap.get? b=some o->h'.get? b=some o)->Q (some (.ref s.heap.objs.size)) {s with heap:=h',toks:=s.toks+1}):wpAny (model prog w) A (pyNext (.ref e)) Q E s:=by
 have hT:s.TypeIs (.ref e) "enumerate":=⟨_,he,rfl⟩
 unfold pyNext;exact wpAny_bind (wpAny_attempt (wpAny_callSpecial?_slot (name:=Str.ofString "__next__") hT F.slot_enumerate_next (wpAny_call_entry F.slot_enumerate_next hT F.entry_enumerate_next (y4 he hi hne hli hle hx fun h' a b c d q=>wpAny_pure (hQ h' a b c d q)) (F.args_enumerate_next_1 _))))
def Ay(hh:A.handled=none)(he:IsEnum s.heap e it k old)(hi:ig s.heap it l its i)(hx:its[i]?=none)
  (hQ:∀h',ExtBut it s.heap h'->Q none {s with heap:=h'}):wpAny (model prog w) A (pyNext (.ref e)) Q E s:=by
 have hT:s.TypeIs (.ref e) "enumerate":=⟨_,he,rfl⟩
 unfold pyNext;refine wpAny_bind (wpAny_attempt (wpAny_callSpecial?_slot (name:=Str.ofString "__next__") hT F.slot_enumerate_next (wpAny_call_entry F.slot_enumerate_next hT F.entry_enumerate_next ?_ (F.args_enumerate_next_1 _))));refine(show wpAny _ _ (field (.ref e) 2 >>= _) _ _ _ from wpAny_bind (wpAny_field he rfl (x:=.ref it) rfl ?_));refine wpAny_bind (A8 hh hi hx fun h' y q ⟨o,ho,hc⟩=>?_);exact wpAny_bind (wpAny_isInstance (T:="StopIteration") (b:=true) ⟨o,ho,hc⟩ isSubtype_stop (wpAny_pure (hQ _ q)))
end
section
variable{X:Cx}{T:Tb}{W:Nat->St->Gq}{Z:Zn}{F F1 B L:Gh}{H H1:Hp}{Y:St}{env:En}{js:Gg}{s:Shared}
def lb{fp:Gk}{vs:Gp}(I:L2.Inv X js Y H s)(hf:∀b∈fp,ku X js H b)(k:∀b o,b∉fp->s.heap.get? b=some o->h'.get? b=some o)(hp:s.heap.objs.size<=a)(new:cD X.prog X.w (upd H a (.tup vs)) h' a (.tup vs)) :
  L2.Inv X js Y (upd H a (.tup vs)) {s with heap:=h',toks:=t'}:=by
 have hn:H a=none:=I.hok.fresh hp;have nit:∀b u,H b=some u->b∉fp:=fun b u e z=>by rw[(hf b z).1]at e;cases e
 refine I.step (g':=s.gens) (d':=s.drawn) (ch:=fp) (fun b hb=>?_) (fun b o _ _ hc e _=>k b o hc e) (fun b o _ _ hc e _=>⟨o.slots,k b o hc e⟩) (fun b o _ e n=>?_) (fun b o hc e=>⟨o,k b o hc e⟩)
  (fun b xs e=>by rw[az (aY e hn)];exact e) (fun b o u e=>by rw[az (aY e hn)];exact e) (fun b ps e=>⟨#[],by rw[az (aY e hn),e];simp⟩) (fun m hm=>?_) (fun b u e=>?_) I.bare
 ·obtain⟨_,q1,_,q3,q4,q5⟩:=hf b hb;exact⟨q3,q1,q4,q5⟩
 ·rw[az (Nat.ne_of_lt (Nat.lt_of_lt_of_le (lt_size e) hp))];exact n
 ·obtain⟨o,es,ep,ho,r⟩:=hm;exact⟨o,es,ep,k _ o (fun z=>(hf _ z).2.1 rfl) ho,r⟩
 ·by_cases hb:b=a
  ·subst hb;rw[aM]at e;cases e;exact new
  ·rw[az hb]at e;refine(I.hok b u e).stay (fun c v hc q=>k c v ?_ q) (fun c q=>by rw[az (aY q hn)];exact q) fun c xs _ q=>by rw[az (aY q hn)];exact q
   rcases hc with z|z
   ·rw[z];exact nit b u e
   ·exact nit c _ z
def Sq(tp:Bool)(K:PySem.W.Frag)(H:Hp)(l:Addr)(xs:Gp):Prop:=match tp with
 |true=>SqT K H l xs
 |false=>SqL K H l xs
def w9(tp:Bool)(h:Heap)(it l:Addr)(i:Nat):Prop:=match tp with
 |true=>h.IsTupleIter it l i
 |false=>h.IsListIter it l i
def Ite(tp:Bool)(K:PySem.W.Frag)(st:Int)(l:Addr):It:=
 ⟨fun i H=>∃xs x,Sq tp K H l xs/\xs[i]?=some x,fun i H v H'=>∃p y,H p=none/\v=.ref p/\H'=upd H p (.tup [.int (st+i),y])/\∀xs,Sq tp K H l xs->xs[i]?=some y,fun i H=>∃xs,Sq tp K H l xs/\xs.length<=i⟩
def zx(I:L2.Inv X js Y H s)(hq:Sq tp X.K H l xs)(ha:w9 tp s.heap it l i):∃its:Gj,aE xs its/\ig s.heap it l its.toArray i/\l≠it/\∀e k old,IsEnum s.heap e it k old->e≠it/\l≠e:=by
 cases tp with
 |false=>
  obtain⟨its,rv,p,_⟩:=I.list hq;obtain⟨o,ho,hc,_⟩:=id p.isList;obtain⟨o2,ho2,hc2,_⟩:=id (show s.heap.IsListIter it l i from ha);refine⟨its,rv,.lst ha p.isList,fun z=>?_,fun e k old he=>⟨fun z=>?_,fun z=>?_⟩⟩
  ·rw[z,ho2]at ho;cases ho;rw[hc2]at hc;exact absurd hc (by decide)
  ·grind
  grind
 |true=>
  obtain⟨its,rv,p,_⟩:=I.tuple hq;have p':s.heap.IsTuple l its.toArray:=p;obtain⟨o,ho,hc,_⟩:=id p';obtain⟨o2,ho2,hc2,_⟩:=id (show s.heap.IsTupleIter it l i from ha);refine⟨its,rv,.tup ha p',fun z=>?_,fun e k old he=>⟨fun z=>?_,fun z=>?_⟩⟩
  ·rw[z,ho2]at ho;cases ho;rw[hc2]at hc;exact absurd hc (by decide)
  ·grind
  grind
def Ab(I:L2.Inv X js Y H s)(h1:Sq tp X.K H l xs)(h2:Sq tp X.K H l ys):xs=ys:=by
 cases tp with
 |false=>exact I.list_inj h1 h2
 |true=>exact I.tuple_inj h1 h2
def Ea(x:ig h it l its i)(hl:tp=true->∃o,h.get? l=some o/\o.cls=.type "tuple")(hl2:tp=false->∃o,h.get? l=some o/\o.cls=.type "list"):w9 tp h it l i:=by
 cases tp with
 |false=>
  obtain⟨o,ho,hc⟩:=hl2 rfl;rcases x with⟨a,b⟩ |⟨a,⟨o2,ho2,hc2,_⟩⟩
  ·exact a
  ·rw[ho]at ho2;cases ho2;rw[hc]at hc2;exact absurd hc2 (by decide)
 |true=>
  obtain⟨o,ho,hc⟩:=hl rfl;rcases x with⟨a,⟨o2,ho2,hc2,_⟩⟩ |⟨a,b⟩
  ·rw[ho]at ho2;cases ho2;rw[hc]at hc2;exact absurd hc2 (by decide)
  ·exact a
def kN{els:List Expr}{x1}(tp:Bool)(st:Int)(l e it:Addr) :
  qa P w K (.Tuple els x1 tpos) (Ite tp K st l) [e,it] e (fun i h=>(∃old,IsEnum h e it (st+i) old)/\w9 tp h it l i) where
 mem:=by simp
 obj:=fun i h st b hb=>by
  obtain⟨⟨old,he⟩,ha⟩:=st;simp only[mem_cons,not_mem_nil,or_false]at hb;rcases hb with rfl|rfl
  ·exact⟨_,he,fun v z=>by cases z⟩
  ·cases tp with
   |false=>obtain⟨o,e,c,d⟩:=id (show h.IsListIter b l i from ha);exact⟨o,e,fun v z=>by rw[d]at z;cases z⟩
   |true=>obtain⟨o,e,c,d⟩:=id (show h.IsTupleIter b l i from ha);exact⟨o,e,fun v z=>by rw[d]at z;cases z⟩
 keep:=fun i h h' st k=>by
  obtain⟨⟨old,he⟩,ha⟩:=st;refine⟨⟨old,k e (by simp) _ he⟩,?_⟩;cases tp with
  |false=>obtain⟨o,e,r⟩:=id (show h.IsListIter it l i from ha);exact⟨o,k it (by simp) o e,r⟩
  |true=>obtain⟨o,e,r⟩:=id (show h.IsTupleIter it l i from ha);exact⟨o,k it (by simp) o e,r⟩
 item:=by
  intro X hP hw hK hc i js s Y H E I hf stt hg;subst hP hw hK;obtain⟨⟨old,he⟩,ha⟩:=stt;obtain⟨xs,x,hq,hx⟩:=hg;obtain⟨its,rv,hi,hli,hen⟩:=zx I hq ha;obtain⟨hne,hle⟩:=hen e _ old he;obtain⟨u,hu,ru⟩:=rv.get hx;refine yc he hi hne hli hle (x:=u) (by simpa using hu) fun h1 eo in1 tu sz kp=>?_;refine⟨_,rfl,wpAny_letOwnedTupleGo_enum eo fun h2 e2 s2=>?_⟩
  replace s2:SameBut e h1 h2:=s2
  have lte:e<s.heap.objs.size:=lt_size he;have kp2:∀b o,b∉[e,it]->s.heap.get? b=some o->h2.get? b=some o:=fun b o hb q=>by simp only[mem_cons,not_mem_nil,or_false,not_or]at hb;exact s2.extBut b o hb.1 (kp b o hb.1 hb.2 q)
  have tu2:h2.get? s.heap.objs.size=some {cls:=.type "tuple",data:=.seq #[.int (st+i) s.toks,u]}:=s2.extBut _ _ (Nat.ne_of_gt lte) tu;refine⟨.ref s.heap.objs.size,upd H s.heap.objs.size (.tup [.int (st+i),x]),(lb (h':=h2) (t':=s.toks+1) (vs:=[.int (st+i),x]) I hf kp2 (Nat.le_refl _) ⟨by rw[sizeLine_eq];simp,[.int (st+i) s.toks,u],.cons ⟨_,rfl⟩ (.cons ru .nil),⟨_,tu2,rfl,_,rfl⟩⟩ :),rfl,⟨_,x,I.hok.fresh (Nat.le_refl _),rfl,rfl,fun ys hy=>by rw[Ab I hy hq];exact hx⟩,⟨⟨u,?_⟩,?_⟩,fun b hb=>?_⟩
  ·have:st+((i+1:Nat):Int)=st+i+1:=by omega
   rw[this];exact e2
  ·have in2:=in1.at (fun o q=>s2.extBut it o hne.symm q) fun o q=>s2.extBut l o hle q;refine Ea in2 (fun z=>?_) fun z=>?_
   ·subst z;obtain⟨_,_,p,_⟩:=I.tuple hq;obtain⟨o,ho,hc,_⟩:=id (show s.heap.IsTuple l _ from p);exact⟨o,kp2 l o (by simp[hle,hli]) ho,hc⟩
   ·subst z;obtain⟨_,_,p,_⟩:=I.list hq;obtain⟨o,ho,hc,_⟩:=id p.isList;exact⟨o,kp2 l o (by simp[hle,hli]) ho,hc⟩
  ·have:b<s.heap.objs.size:=by
    simp only[mem_cons,not_mem_nil,or_false]at hb;rcases hb with rfl|rfl
    ·exact lte
    ·obtain⟨o,ho,_⟩:=hi.obj;exact lt_size ho
   rw[az (Nat.ne_of_lt this)];exact(hf b hb).1
 done:=by intro X hP hw hK hc i js s Y H E I hf stt hg;subst hP hw hK;obtain⟨⟨old,he⟩,ha⟩:=stt;obtain⟨xs,hq,hx⟩:=hg;obtain⟨its,rv,hi,hli,hen⟩:=zx I hq ha;obtain⟨f0,f1,f2,f3,f4,f5⟩:=hf it (by simp);have hl:=rv.length;exact Ay (I.ok.hd hc) he hi (by simp;omega) fun h' eb=>⟨rfl,I.turned (t':=s.toks) (fun b o hb e=>eb b o hb e) f0 f1 f3 f4 f5⟩
 self:=fun _ _ _ _ _ st h=>by obtain⟨⟨old,he⟩,_⟩:=st;exact wpAny_pyIter_enum he h
def mR{M:Model}{A:Around}{E:Gc}{s:Shared}{env:Env}{Ty:String}{aV:List Expr}{kws:List Keyword}{Q:Gc}
  (h:wpAny M A (spliced (backTo pos (starEach (e::aV) env))) (fun vs s1=>wpAny M A (evalAll ((backToKw pos (keywordEach kws env)).map (·.2))) (fun ks s2=>wpAny M A (call (.type Ty) vs (((backToKw pos (keywordEach kws env)).filterMap (·.1)).zip ks)) Q E s2) E s1) E s)
  (hall:(backToKw pos (keywordEach kws env)).all (·.1.isSome)=true:=by rfl) (hkw:(backToKw pos (keywordEach kws env)).any (·.1.isNone)=false:=by rfl)
  (he:starEach (e::aV) env=(false,eval e env)::starEach aV env:=by rfl) (hpl:(backTo pos (starEach (e::aV) env)).any (·.1)=false:=by rfl) :
  wpAny M A (callWith pos (.type Ty) [] (backTo pos (starEach (e::aV) env)) (backToKw pos (keywordEach kws env))) Q E s:=by
 unfold callWith;refine wpAny_bind (wpAny_holding (wpAny_mono (evalArgs_kw2 (Q:=fun a s1=>wpAny M A (call (.type Ty) ([]++ a.pos) a.kw) Q E s1) hall h he) (fun a s1 h1=>wpAny_bind (wpAny_standAt ?_)) fun _ _ x=>x));simp only[hpl,hkw,Bool.or_false];exact wpAny_bind (wpAny_pure (wpAny_bind (wpAny_mono h1 (fun r s2 hr=>wpAny_bind (wpAny_holding (wpAny_point (wpAny_pure hr)))) fun _ _ x=>x)))
def rE:bootBuiltins "enumerate"=some (.type "enumerate"):=by decide +kernel
abbrev enE(l:Expr)(p pos kp cp:Pos)(j:Nat):Expr:=.Call (.Name "enumerate" p) [l] [⟨some "start",.Constant (.int 1) j cp,kp⟩] pos
def qy{x1}(hg:Gl X "enumerate")(hm:X.mg "enumerate"=none)(hl:PE X l tl)(hs:starEach [l] X.env=[(false,eval l X.env)]:=by rfl) :
  PI X (.Tuple els x1 tpos) (enE l p pos kp cp j) (fun Y H R=>tl Y H fun x H1=>∃a tp xs,[x]=[V.ref a]/\Sq tp X.K H1 a xs/\R (Ite tp X.K 1 a) H1):=by
 intro js s Y H R I h;refine wpAny_Call_Name_kw (dL I hg hm rE ?_ (by decide) (by decide));refine mR ?_ rfl rfl hs (by rw[hs];rfl);refine thn (bW (te:=tl) hl fD (by rw[hs];rfl) pos js s Y H (fun vs H1=>∃a tp xs,vs=[.ref a]/\Sq tp X.K H1 a xs/\R (Ite tp X.K 1 a) H1) I h) fun us s1 hz1=>?_;obtain⟨vs,H1,I1,r1,a,tp,xs,ev,hq,q⟩:=hz1;subst ev;obtain⟨u,rfl,rx⟩:=cP r1;cases rx;refine thn (qx (nm:=some "start") (kpos:=kp) (iZ (i:=1) (j:=j) (pos:=cp)) uS pos js s1 Y H1 (fun zs H2=>zs=[.int 1]/\H2=H1) I1 ⟨rfl,rfl⟩) fun ws s2 hz1=>?_;obtain⟨zs,H2,I2,r2,ez,eh⟩:=hz1;subst ez;rw[eh]at I2;clear eh;obtain⟨u2,rfl,rx2⟩:=cP r2;obtain⟨t,rfl⟩:=rx2;have hI:∃n,lJ n a s2/\∀h',h'.get? s2.heap.objs.size=some (itO n a)->w9 tp h' s2.heap.objs.size a 0:=by
  cases tp with
  |false=>obtain⟨its,rv,pl,_⟩:=I2.list hq;exact⟨"list_iterator",fun _ _ _ _ _ q=>wpAny_pyIter_list pl.isList q,fun h' e=>⟨_,e,rfl,rfl⟩⟩
  |true=>obtain⟨its,rv,pl,_⟩:=I2.tuple hq;exact⟨"tuple_iterator",fun _ _ _ _ _ q=>wpAny_pyIter_tuple (show s2.heap.IsTuple a its.toArray from pl) q,fun h' e=>⟨_,e,rfl,rfl⟩⟩
 obtain⟨n,hI,hA⟩:=hI;have hz:(s2.heap.push (itO n a)).objs.size=s2.heap.objs.size+1:=size_push ..
 have he:((s2.heap.push (itO n a)).push (enO s2.heap.objs.size 1)).get? (s2.heap.objs.size+1)=some (enO s2.heap.objs.size 1):=by have:=get?_push_size (s2.heap.push (itO n a)) (o:=enO s2.heap.objs.size 1) rfl;rw[hz]at this;exact this
 refine BV hI (wpAny_pyIter_enum (i:=1) (old:=.none) he ?_);refine⟨s2.heap.objs.size+1,[s2.heap.objs.size+1,s2.heap.objs.size],_,_,H1,rfl,I2.kept (t':=s2.toks) fun b o e=>get?_push_of_some _ (get?_push_of_some _ e),kN tp 1 a _ _,⟨⟨.none,by simpa using he⟩,hA _ (get?_push_of_some _ (get?_push_size _ rfl))⟩,fun b hb=>?_,q⟩;simp only[mem_cons,not_mem_nil,or_false]at hb;rcases hb with rfl|rfl
 ·exact I2.fpOk (le_succ _) (I2.hok.fresh (le_succ _))
 ·exact I2.fpOk (Nat.le_refl _) (I2.hok.fresh (Nat.le_refl _))
end
def enP(k:Int):Gs->Gs
 | []=>[]
 |x::xs=>.tup [.int k,x]::enP (k+1) xs
def iO:∀(k:Int) (xs:Gs) (i:Nat),(enP k xs)[i]?=(xs[i]?).map fun x=>.tup [.int (k+i),x]
 |_,[],i|k,x::xs,0=>by simp[enP]
 |k,x::xs,i+1=>by simp only[enP,getElem?_cons_succ,iO (k+1) xs i];congr 1;funext y;congr 3;omega
def gH:∀(k:Int) (xs:Gs),(enP k xs).length=xs.length
 |_,[]=>rfl
 |k,_::xs=>by simp[enP,gH (k+1) xs]
def sP(m:ME):MI:=fun env=>(m env).bind fun x=>match x with
 |.lst f xs=>if !f.GB&&dg xs then .ok (enP 1 xs)else .stuck
 |.tup xs=>if dg xs then .ok (enP 1 xs)else .stuck
 |_=>.stuck
def yJ(m:ME):MI:=fun env=>(m env).bind fun x=>match aN x with
 |some xs=>.ok (enP 1 xs)
 |none=>.stuck
section
variable{X:Cx}{T:Tb}{W:Nat->St->Gq}{Z:Zn}{F F1 B L:Gh}{H H1:Hp}{Y:St}{env:En}{fp:Nat->Gk}
def jT(hp:H2 p=none)(r:Rel T F B L H2 x v f):Rel T F B L (upd H2 p (.tup [.int k,v])) (.tup [.int k,x]) (.ref p) f:=by unfold Rel;refine⟨p,_,rfl,SqT.of aM,?_⟩;have r2:Rel T F B L (upd H2 p (.tup [.int k,v])) x v f:=r.ext (Ext.upd hp) fun _ h=>h;unfold RelL;refine⟨.int k,[v],[],f,rfl,dE,?_,rfl⟩;unfold RelL;exact⟨v,[],f,[],rfl,r2,by unfold RelL;exact⟨rfl,rfl⟩,by simp⟩
def xC{x1}(hK:X.K=T.K)(hg:Gl X "enumerate")(hm:X.mg "enumerate"=none)(he:SE X T W e m)(hs:starEach [e] X.env=[(false,eval e X.env)]:=by rfl) :
  SI X T W (.Tuple els x1 tpos) (enE e p pos kp cp j) (sP m):=fun js s Y H R I h=>qy hg hm he hs js s Y H R I (by
 obtain⟨Z,F,env,fp,S,q⟩:=h;unfold sP at q;refine tE.bq S fun x v H1 F1 f1 e1 g1 r1 n1 d1 w1=>?_;rw[e1]at q;simp only[Res.GL]at q;have S1:=S.grow g1;rw[hK];have key:∀(tp:Bool) (a:Addr) (xs:Gs) (vs:Gp),RelL T F1 Z.B NoL H1 xs vs []->(∀H2,(∀a o,H1 a=some o->¬Own fp a->H2 a=some o)->Sq tp T.K H2 a vs)->ItR T F1 Z.B (Own fp) H1 (Ite tp T.K 1 a) (enP 1 xs):=by intro tp a xs vs hr hq H2 hk;have hq2:=hq H2 hk;refine⟨fun i x ex=>?_,⟨vs,hq2,by rw[gH,hr.length];exact Nat.le_refl _⟩⟩;rw[iO]at ex;obtain⟨y,ey,rfl⟩:=map_eq_some_iff.mp ex;obtain⟨v,_,ev,_,_⟩:=hr.get ey;refine⟨⟨vs,v,hq2,ev⟩,fun w H3 hy=>?_⟩;obtain⟨p,y',hp,rfl,rfl,hall⟩:=hy;have:=hall vs hq2;rw[ev]at this;cases this;exact⟨Ext.upd hp,jT hp (hZ S1.fow S1.bow S1.oow hk hr ey ev)⟩
 cases x with
 |lst f xs=>
  dsimp only at q;by_cases hc:(!f.GB&&dg xs)=true
  ·rw[if_pos hc]at q;rw[and_eq_true]at hc;unfold Rel at r1;obtain⟨a,vs,fp',rfl,hl,hr,hf⟩:=r1;obtain⟨rfl,hr'⟩:=cZ hc.2 hr;refine⟨a,false,vs,rfl,hl.sq,q _ H1 F1 g1 (key false a xs vs hr' fun H2 hk=>?_)⟩;have na:f≠.mod->∀o,H1 a=some o->H2 a=some o:=fun hn o ho=>by
    refine hk a o ho ?_;cases f with
    |own=>rintro⟨i,hi⟩;obtain⟨_,o',ho'⟩:=S.dis i a hi;obtain rfl:f1=[a]:=hf;rw[w1 a mem_cons_self]at ho';cases ho'
    |frz=>exact S1.fow a hl.1
    |bor=>exact S1.bow a hl.1
    |lnt=>exact absurd hc.1 (by decide)
    |mod=>exact absurd rfl hn
   show SqL T.K H2 a vs;by_cases hn:f=.mod
   ·subst hn;exact .inr hl
   ·exact .inl (Rd.tr (na hn) (hl.rd hn))
  ·rw[if_neg hc]at q;exact q.elim
 |tup xs=>
  dsimp only at q;by_cases hc:dg xs=true
  ·rw[if_pos hc]at q;unfold Rel at r1;obtain⟨a,vs,rfl,hl,hr⟩:=r1;obtain⟨rfl,hr'⟩:=cZ hc hr;refine⟨a,true,vs,rfl,hl,q _ H1 F1 g1 (key true a xs vs hr' fun H2 hk=>?_)⟩;exact SqT.tr (fun o ho hfx=>hk a o ho fun z=>by
    have:=S1.oow a o z ho;cases o with
    |lst _|ins _ _ _=>exact hfx
    |_=>exact this) hl
  ·rw[if_neg hc]at q;exact q.elim
 |_=>exact q.elim)
def uv{x1}(hK:X.K=T.K)(hg:Gl X "enumerate")(hm:X.mg "enumerate"=none)(he:SE X T W e m)(hs:starEach [e] X.env=[(false,eval e X.env)]:=by rfl) :
  SIc X T W (.Tuple els x1 tpos) (enE e p pos kp cp j) (yJ m):=fun js s Y H R I h=>qy hg hm he hs js s Y H R I (by
 obtain⟨Z,F,env,fp,S,q⟩:=h;unfold yJ at q;refine tE.bq S fun x v H1 F1 f1 e1 g1 r1 n1 d1 w1=>?_;rw[e1]at q;simp only[Res.GL]at q;cases es:aN x with
 |none=>rw[es]at q;exact q.elim
 |some xs=>
  rw[es]at q;obtain⟨a,vs,f',rfl,hs,hr,_⟩:=r1.seq es;rw[hK];have key:∀(tp:Bool),Sq tp T.K H1 a vs->(∀H2,Ext H1 H2->Sq tp T.K H2 a vs)->ItC T F1 Z.B (Own fp) H1 (Ite tp T.K 1 a) (enP 1 xs):=by intro tp _ hq H2 hx;have hq2:=hq H2 hx;refine⟨fun i x ex=>?_,⟨vs,hq2,by rw[gH,hr.length];exact Nat.le_refl _⟩⟩;rw[iO]at ex;obtain⟨y,ey,rfl⟩:=map_eq_some_iff.mp ex;obtain⟨v,f,ev,rv,_⟩:=hr.get ey;refine⟨⟨vs,v,hq2,ev⟩,fun w H3 hy=>?_⟩;obtain⟨p,y',hp,rfl,rfl,hall⟩:=hy;have:=hall vs hq2;rw[ev]at this;cases this;exact⟨Ext.upd hp,f,fun b hb=>rv.there b hb,jT hp (rv.ext hx fun _ h=>h)⟩
  rcases hs with hs|hs
  ·refine⟨a,false,vs,rfl,hs,q _ H1 F1 g1 (key false hs fun H2 hx=>?_)⟩;rcases hs with z|z
   ·exact .inl (Rd.tr (fun o q=>hx a o q) z)
   ·exact .inr z
  ·exact⟨a,true,vs,rfl,hs,q _ H1 F1 g1 (key true hs fun H2 hx=>SqT.tr (fun o q _=>hx a o q) hs)⟩)
end
section
variable{X:Cx}{T:Tb}{W:Nat->St->Gq}{Z:Zn}{F F1 B L:Gh}{H H1:Hp}{Y:St}{env:En}{fp:Nat->Gk}{D:Ends}
def RelL.nest:∀{xs:Gs}{ws:Gp}{f:Gk}{n:Nat}{ys:Gs},RelL T F B NoL H xs ws f->xs[n]?=some (.lst .own ys)->
  ∃b f0 f1 f2 vs,f=f0 ++(b::f1)++ f2/\ws[n]?=some (.ref b)/\H b=some (.lst vs)/\RelL T F B NoL H ys vs f1 /\
   ∀(H':Hp) (ys':Gs) (vs':Gp) (f1':Gk),f.Nodup->H' b=some (.lst vs')->RelL T F B NoL H' ys' vs' f1'->(∀a o,H a=some o->a≠b->H' a=some o)->¬F b->¬B b->RelL T F B NoL H' (xs.set n (.lst .own ys')) ws (f0 ++(b::f1')++ f2)
 | [],_,_,n,ys,_,e=>by simp at e
 |x::xs,ws,f,0,ys,h,e=>by
  simp at e;subst e;unfold RelL at h;obtain⟨v,ws',fa,fb,rfl,r1,r2,rfl⟩:=h;unfold Rel at r1;obtain⟨b,vs,f1,rfl,hl,hr,hf⟩:=r1;obtain rfl:fa=b::f1:=hf;have hl':H b=some (.lst vs):=hl;refine⟨b,[],f1,fb,vs,by simp,rfl,hl',hr,fun H' ys' vs' f1' nd h1 h2 kp nF nB=>?_⟩;have nd2:=nodup_append.mp nd;have tr:RelL T F B NoL H' xs ws' fb:=by
   refine RelL.tr (fun _ h=>h) (fun _ h=>h) (fun _ h=>h) (fun a o q h=>kp a o q fun z=>?_) (fun a ha o q=>kp a o q fun z=>?_) r2
   ·subst z;rcases h with h|h|h|h
    ·exact nF h
    ·exact nB h
    ·exact h
    ·rw[hl']at q;cases q;exact h
   ·subst z;exact nd2.2.2 a mem_cons_self a ha rfl
  rw[List.set_cons_zero];unfold RelL;refine⟨.ref b,ws',b::f1',fb,rfl,?_,tr,by simp⟩;unfold Rel;exact⟨b,vs',f1',rfl,h1,h2,rfl⟩
 |x::xs,ws,f,n+1,ys,h,e=>by
  unfold RelL at h;obtain⟨v,ws',fa,fb,rfl,r1,r2,rfl⟩:=h;obtain⟨b,f0,f1,f2,vs,rfl,h1,h2,h3,h4⟩:=RelL.nest (n:=n) r2 (by simpa using e);refine⟨b,fa++f0,f1,f2,vs,by simp,by simpa using h1,h2,h3,fun H' ys' vs' f1' nd g1 g2 kp nF nB=>?_⟩;have nd2:=nodup_append.mp nd;have tr:Rel T F B NoL H' x v fa:=by
   refine Rel.tr (fun _ h=>h) (fun _ h=>h) (fun _ h=>h) (fun a o q h=>kp a o q fun z=>?_) (fun a ha o q=>kp a o q fun z=>?_) r1
   ·subst z;rcases h with h|h|h|h
    ·exact nF h
    ·exact nB h
    ·exact h
    ·rw[h2]at q;cases q;exact h
   ·subst z;exact nd2.2.2 a ha a (by simp) rfl
  have:=h4 H' ys' vs' f1' nd2.2.1 g1 g2 kp nF nB;rw[List.set_cons_succ];unfold RelL;exact⟨v,ws',fa,f0 ++(b::f1')++ f2,rfl,tr,this,by simp⟩
end
open AutoSeq1 (wpAny_loadPart')
section
variable{prog:Program}{w:World}{A:Around}{E:Gc}{s:Shared}
abbrev zTI(n:Addr):Obj:={cls:=.type "tuple",data:=.seq #[.ref n,.ref (n+1)]}
abbrev zTO:Obj:={cls:=.type "tuple",data:=.seq #[.none,.none]}
abbrev zO(n:Addr):Obj:={cls:=.type "zip",data:=.fields #[.none,.bool false,.bool false,.ref (n+2),.ref (n+3)]}
abbrev zw(h:Heap)(l1 l2:Addr):Heap:=((((h.push (itO "list_iterator" l1)).push (itO "list_iterator" l2)).push (zTI h.objs.size)).push zTO).push (zO h.objs.size)
def C3(hl:typeLookup (.type T) "__init__"=pure (some (.builtin "object.__init__")))(hm:Bind.madeBy (.type T)=pure (some nI))(hne:(some nI != some "object.__new__")=true) :
  Meets (Builtin.«object.__init__» ⟨[self,a,b],[]⟩) (fun _ R s=>s.TypeIs self T/\R (.ok (.ret .none)) s):=by
 refine Meets.of_wp fun pr w A R s0 hs=>?_;obtain⟨hT,hq⟩:=hs
 repeat (any_goals (first|assumption|wp_step|fail))
 exact⟨_,rfl,hq⟩
def E6(l1 l2:Addr)(xs ys:Go) :
  Meets (Builtin.«zip.__new__» ⟨[.type "zip",.ref l1,.ref l2],[]⟩) (fun _ R s=>s.heap.IsList l1 xs/\s.heap.IsList l2 ys/\R (.ok (.ret (.ref (s.heap.objs.size+4)))) {s with heap:=zw s.heap l1 l2}):=
 .of_wp fun pr w A R s0 h=>by
  obtain⟨hp,g,d,tk,os⟩:=s0;obtain⟨h1,h2,h⟩:=h;have hsub:=sub_zip;have h2':(hp.push (itO "list_iterator" l1)).IsList l2 ys:=by obtain⟨o,e,r⟩:=h2;exact⟨o,get?_push_of_some _ e,r⟩
  have hz1:(hp.push (itO "list_iterator" l1)).objs.size=hp.objs.size+1:=size_push ..
  have hJ1:∀{Q:Gc}{E:Gc},Q (.ref hp.objs.size) ⟨hp.push (itO "list_iterator" l1),g,d,tk,os⟩->wpAny (model pr w) A.in1 (pyIter (.ref l1)) Q E ⟨hp,g,d,tk,os⟩:=fun {Q E} q=>wpAny_pyIter_list h1 q;have hJ2:∀{Q:Gc}{E:Gc},Q (.ref (hp.push (itO "list_iterator" l1)).objs.size) ⟨(hp.push (itO "list_iterator" l1)).push (itO "list_iterator" l2),g,d,tk,os⟩->wpAny (model pr w) A.in1 (pyIter (.ref l2)) Q E ⟨hp.push (itO "list_iterator" l1),g,d,tk,os⟩:=fun {Q E} q=>wpAny_pyIter_list h2' q
  wp_walk using hJ1,hJ2
  refine⟨_,rfl,?_⟩;simp only[size_push];exact h
def zl(h1:s.heap.IsList l1 xs)(h2:s.heap.IsList l2 ys)(h:Q (.ref (s.heap.objs.size+4)) {s with heap:=zw s.heap l1 l2}) :
  wpAny (model prog w) A (call (.type "zip") [.ref l1,.ref l2] []) Q E s:=by
 have hz:((((s.heap.push (itO "list_iterator" l1)).push (itO "list_iterator" l2)).push (zTI s.heap.objs.size)).push zTO).objs.size=s.heap.objs.size+4:=by simp only[size_push]
 refine jk (Q1:=fun ob s1=>s1.TypeIs ob "zip" /\ Q ob s1) F.called_zip (F.typeCall_zip_2 _ _) (F.newCall_zip_2 _ _) F.entry_zip_new F.entry_object_init (E6 l1 l2 xs ys) ⟨h1,h2,?_⟩ fun ob s1 hq=>⟨hq.1,?_,_,C3 F.called_zip.init.lookup F.called_zip.made (by decide),hq.1,rfl,hq.2⟩
 ·have:=get?_push_size ((((s.heap.push (itO "list_iterator" l1)).push (itO "list_iterator" l2)).push (zTI s.heap.objs.size)).push zTO) (o:=zO s.heap.objs.size) rfl;rw[hz]at this;exact⟨⟨_,this,rfl⟩,h⟩
 ·exact F.args_object_init_3 _ _ _
end
section
variable{X:Cx}{T:Tb}{W:Nat->St->Gq}{Z:Zn}{F F1 B L:Gh}{H H1:Hp}{Y:St}{env:En}{js:Gg}{s:Shared}
def sW{fp:Gk}(I:L2.Inv X js Y H s)(hf:∀b∈fp,ku X js H b)(k:∀b o,b∉fp->s.heap.get? b=some o->h'.get? b=some o) :
  L2.Inv X js Y H {s with heap:=h',toks:=t'}:=by
 have nit:∀b u,H b=some u->b∉fp:=fun b u e z=>by rw[(hf b z).1]at e;cases e
 refine I.step (g':=s.gens) (d':=s.drawn) (ch:=fp) (fun b hb=>?_) (fun b o _ _ hc e _=>k b o hc e) (fun b o _ _ hc e _=>⟨o.slots,k b o hc e⟩) (fun _ _ _ _ n=>n) (fun b o hc e=>⟨o,k b o hc e⟩)
  (fun _ _ e=>e) (fun _ _ _ e=>e) (fun b ps e=>⟨#[],by rw[e];simp⟩) (fun m hm=>?_) (fun b u e=>?_) I.bare
 ·obtain⟨_,q1,_,q3,q4,q5⟩:=hf b hb;exact⟨q3,q1,q4,q5⟩
 ·obtain⟨o,es,ep,ho,r⟩:=hm;exact⟨o,es,ep,k _ o (fun z=>(hf _ z).2.1 rfl) ho,r⟩
 ·refine(I.hok b u e).stay (fun c v hc q=>k c v ?_ q) (fun _ q=>q) fun _ _ _ q=>q;rcases hc with z|z
  ·rw[z];exact nit b u e
  ·exact nit c _ z
def Itz(K:PySem.W.Frag)(l1 l2:Addr):It:=
  ⟨fun i H=>∃ xs ys x y,SqL K H l1 xs/\SqL K H l2 ys/\xs[i]?=some x/\ys[i]?=some y,
   fun i H v H'=>∃p x y,H p=none/\v=.ref p/\H'=upd H p (.tup [x,y])/\(∀xs,SqL K H l1 xs->xs[i]?=some x)/\∀ys,SqL K H l2 ys->ys[i]?=some y,
   fun i H=>∃xs ys,SqL K H l1 xs/\SqL K H l2 ys/\(xs.length<=i\/ys.length<=i)⟩
def iF{h h':Heap}{it l:Addr}{i:Nat}(a:h.IsListIter it l i)(k:∀o,h.get? it=some o->h'.get? it=some o):h'.IsListIter it l i:=by obtain⟨o,e,r⟩:=a;exact⟨o,k o e,r⟩
def uh{P:Program}{w:World}{K:PySem.W.Frag}{els:List Expr}{x1}(l1 l2 z ti to i1 i2:Addr)(D:ZipApart z ti to i1 i2 l1 l2) :
  qa P w K (.Tuple els x1 tpos) (Itz K l1 l2) [z,ti,to,i1,i2] z (fun i h=>IsZip h z ti to .none/\IsPair h ti (.ref i1) (.ref i2)/\(∃a b,IsPair h to a b)/\h.IsListIter i1 l1 i/\h.IsListIter i2 l2 i) where
 mem:=by simp
 obj:=fun i h st b hb=>by
  obtain⟨hz,ht,⟨a',b',ho⟩,h1,h2⟩:=st;simp only[mem_cons,not_mem_nil,or_false]at hb;rcases hb with rfl|rfl|rfl|rfl|rfl
  ·exact⟨_,hz,fun v z=>by cases z⟩
  ·exact⟨_,ht,fun v z=>by cases z⟩
  ·exact⟨_,ho,fun v z=>by cases z⟩
  ·obtain⟨o,e,c,d⟩:=id h1;exact⟨o,e,fun v z=>by rw[d]at z;cases z⟩
  ·obtain⟨o,e,c,d⟩:=id h2;exact⟨o,e,fun v z=>by rw[d]at z;cases z⟩
 keep:=fun i h h' st k=>by obtain⟨hz,ht,⟨a',b',ho⟩,h1,h2⟩:=st;exact⟨k z (by simp) _ hz,k ti (by simp) _ ht,⟨a',b',k to (by simp) _ ho⟩,iF h1 (k i1 (by simp)),iF h2 (k i2 (by simp))⟩
 item:=by
  intro X hP hw hK hc i js s Y H E I hf stt hg;subst hP hw hK;obtain⟨hz,ht,⟨a',b',ho⟩,h1,h2⟩:=stt;obtain⟨xs,ys,x,y,hq1,hq2,hx,hy⟩:=hg;obtain⟨its1,rv1,pl1,_⟩:=I.list hq1;obtain⟨its2,rv2,pl2,_⟩:=I.list hq2;obtain⟨u1,hu1,ru1⟩:=rv1.get hx;obtain⟨u2,hu2,ru2⟩:=rv2.get hy;refine wpAny_pyNext_zip_item D hz ht ho h1 h2 pl1.isList pl2.isList (x:=u1) (y:=u2) (by simpa using hu1) (by simpa using hu2) fun h' z' to' i1' i2' pr sz kp=>?_;refine⟨_,rfl,wpAny_letOwnedTupleGo_zip z' fun h3 z3 s3=>?_⟩
  replace s3:SameBut z h' h3:=s3
  have ltz:z<s.heap.objs.size:=lt_size hz;have kp2:∀b o,b∉[z,ti,to,i1,i2]->s.heap.get? b=some o->h3.get? b=some o:=fun b o hb q=>by simp only[mem_cons,not_mem_nil,or_false,not_or]at hb;exact s3.extBut b o hb.1 (kp b o hb.1 hb.2.2.1 hb.2.2.2.1 hb.2.2.2.2 q)
  have tu2:h3.get? s.heap.objs.size=some {cls:=.type "tuple",data:=.seq #[u1,u2]}:=s3.extBut _ _ (Nat.ne_of_gt ltz) pr;refine⟨.ref s.heap.objs.size,upd H s.heap.objs.size (.tup [x,y]),(lb (h':=h3) (t':=s.toks) (vs:=[x,y]) I hf kp2 (Nat.le_refl _) ⟨by rw[sizeLine_eq];simp,[u1,u2],.cons ru1 (.cons ru2 .nil),⟨_,tu2,rfl,_,rfl⟩⟩ :),rfl,⟨_,x,y,I.hok.fresh (Nat.le_refl _),rfl,rfl,fun zs hz=>by rw[I.list_inj hz hq1];exact hx,fun zs hz=>by rw[I.list_inj hz hq2];exact hy⟩,⟨z3,s3.extBut ti _ D.TIz (kp ti _ D.TIz D.TITO D.TIi1 D.TIi2 ht),⟨_,_,s3.extBut to _ D.TOz to'⟩,iF i1' fun o q=>s3.extBut i1 o D.i1z q,iF i2' fun o q=>s3.extBut i2 o D.i2z q⟩,fun b hb=>?_⟩;have:b<s.heap.objs.size:=by
   simp only[mem_cons,not_mem_nil,or_false]at hb;rcases hb with rfl|rfl|rfl|rfl|rfl
   ·exact ltz
   ·exact lt_size ht
   ·exact lt_size ho
   ·obtain⟨o,e,_⟩:=id h1;exact lt_size e
   ·obtain⟨o,e,_⟩:=id h2;exact lt_size e
  rw[az (Nat.ne_of_lt this)];exact(hf b hb).1
 done:=by
  intro X hP hw hK hc i js s Y H E I hf stt hg;subst hP hw hK;obtain⟨hz,ht,⟨a',b',ho⟩,h1,h2⟩:=stt;obtain⟨xs,ys,hq1,hq2,hx⟩:=hg;obtain⟨its1,rv1,pl1,_⟩:=I.list hq1;obtain⟨its2,rv2,pl2,_⟩:=I.list hq2;have l1':=rv1.length;have l2':=rv2.length;refine wpAny_pyNext_zip_end (I.ok.hd hc) D hz ht ho h1 h2 pl1.isList pl2.isList (by simp;omega) fun h' kp=>⟨rfl,sW (t':=s.toks) I hf fun b o hb q=>?_⟩
  grind
 self:=fun _ _ _ _ _ st h=>wpAny_pyIter_zip st.1 h
def B0:bootBuiltins "zip"=some (.type "zip"):=by decide +kernel
def Az{x1}(hg:Gl X "zip")(hm:X.mg "zip"=none)(ha:PA X [a,b] ta)(hs:starEach [a,b] X.env=[(false,eval a X.env),(false,eval b X.env)]:=by rfl)(hs2:starEach [b] X.env=[(false,eval b X.env)]:=by rfl) :
  PI X (.Tuple els x1 tpos) (.Call (.Name "zip" p) [a,b] [] pos) (fun Y H R=>ta Y H fun vs H1=>∃l1 l2 xs ys,vs=[V.ref l1,V.ref l2]/\SqL X.K H1 l1 xs/\SqL X.K H1 l2 ys/\R (Itz X.K l1 l2) H1):=by
 intro js s Y H R I h;refine PyProof.Rows.Call_ (dL I hg hm B0 (PyProof.Rows.callWith_type1 (thn (ha pos js s Y H _ I h) fun us s1 zz=>?_) (by rw[hs,hs2]) (by rw[hs2];rfl)));obtain⟨vs,H1,I1,r1,q1⟩:=zz;obtain⟨l1,l2,xs,ys,e,hq1,hq2,q⟩:=q1;subst e;cases r1 with
 |cons r rr=>
  cases rr with
  |cons r' rr=>
   cases rr;cases r;cases r';obtain⟨its1,rv1,pl1,_⟩:=I1.list hq1;obtain⟨its2,rv2,pl2,_⟩:=I1.list hq2;have hl1:l1<s1.heap.objs.size:=by obtain⟨o,e,_⟩:=id pl1.isList;exact lt_size e
   have hl2:l2<s1.heap.objs.size:=by obtain⟨o,e,_⟩:=id pl2.isList;exact lt_size e
   have z1:(s1.heap.push (itO "list_iterator" l1)).objs.size=s1.heap.objs.size+1:=size_push ..
   have z2:((s1.heap.push (itO "list_iterator" l1)).push (itO "list_iterator" l2)).objs.size=s1.heap.objs.size+2:=by simp only[size_push]
   have z3:(((s1.heap.push (itO "list_iterator" l1)).push (itO "list_iterator" l2)).push (zTI s1.heap.objs.size)).objs.size=s1.heap.objs.size+3:=by simp only[size_push]
   have z4:((((s1.heap.push (itO "list_iterator" l1)).push (itO "list_iterator" l2)).push (zTI s1.heap.objs.size)).push zTO).objs.size=s1.heap.objs.size+4:=by simp only[size_push]
   have e4:=get?_push_size ((((s1.heap.push (itO "list_iterator" l1)).push (itO "list_iterator" l2)).push (zTI s1.heap.objs.size)).push zTO) (o:=zO s1.heap.objs.size) rfl;have e3:=get?_push_size (((s1.heap.push (itO "list_iterator" l1)).push (itO "list_iterator" l2)).push (zTI s1.heap.objs.size)) (o:=zTO) rfl;have e2:=get?_push_size ((s1.heap.push (itO "list_iterator" l1)).push (itO "list_iterator" l2)) (o:=zTI s1.heap.objs.size) rfl;have e1:=get?_push_size (s1.heap.push (itO "list_iterator" l1)) (o:=itO "list_iterator" l2) rfl;have e0:=get?_push_size s1.heap (o:=itO "list_iterator" l1) rfl;rw[z4]at e4;rw[z3]at e3;rw[z2]at e2;rw[z1]at e1;refine zl pl1.isList pl2.isList (wpAny_pyIter_zip (f0:=.none) e4 ?_);refine⟨s1.heap.objs.size+4,[s1.heap.objs.size+4,s1.heap.objs.size+2,s1.heap.objs.size+3,s1.heap.objs.size,s1.heap.objs.size+1],_,_,H1,rfl,I1.kept (t':=s1.toks) fun b o e=>get?_push_of_some _ (get?_push_of_some _ (get?_push_of_some _ (get?_push_of_some _ (get?_push_of_some _ e)))),uh l1 l2 _ _ _ _ _ (PyProof.Rows.zipApart_new hl1 hl2),⟨e4,get?_push_of_some _ (get?_push_of_some _ e2),⟨.none,.none,get?_push_of_some _ e3⟩,⟨_,get?_push_of_some _ (get?_push_of_some _ (get?_push_of_some _ (get?_push_of_some _ e0))),rfl,rfl⟩,⟨_,get?_push_of_some _ (get?_push_of_some _ (get?_push_of_some _ e1)),rfl,rfl⟩⟩,fun b hb=>?_,q⟩;simp only[mem_cons,not_mem_nil,or_false]at hb;have hb':s1.heap.objs.size<=b:=by rcases hb with rfl|rfl|rfl|rfl|rfl<;>omega
   exact I1.fpOk hb' (I1.hok.fresh hb')
end
def ii:Gs->Gs->Gs
 |x::xs,y::ys=>.tup [x,y]::ii xs ys
 |_,_=>[]
def mX:∀(xs ys:Gs) (i:Nat) {p:PV},(ii xs ys)[i]?=some p->∃x y,xs[i]?=some x/\ys[i]?=some y/\p=.tup [x,y]
 | [],_,i,_,h|_::_,[],i,_,h=>by simp[ii]at h
 |x::xs,y::ys,0,p,h=>by simp only[ii,getElem?_cons_zero]at h;exact⟨x,y,rfl,rfl,(Option.some.inj h).symm⟩
 |x::xs,y::ys,i+1,p,h=>by simp only[ii,getElem?_cons_succ]at h;exact mX xs ys i h
def mW:∀(xs ys:Gs),(ii xs ys).length=min xs.length ys.length
 | [],_|_::_,[]=>by simp[ii]
 |_::xs,_::ys=>by simp only[ii,length_cons,mW xs ys];omega
def qH(ms:MA):MI:=fun env=>(ms env).bind fun zs=>match zs with
 | [.lst _ xs,.lst _ ys]=>if dg xs&&dg ys then .ok (ii xs ys)else .stuck
 |_=>.stuck
section
variable{X:Cx}{T:Tb}{W:Nat->St->Gq}{Z:Zn}{F F1 B L:Gh}{H H1:Hp}{Y:St}{env:En}{fp:Nat->Gk}
def sg(hp:H2 p=none)(r:Rel T F B L H2 x v [])(r':Rel T F B L H2 y u []):Rel T F B L (upd H2 p (.tup [v,u])) (.tup [x,y]) (.ref p) []:=by unfold Rel;refine⟨p,_,rfl,SqT.of aM,?_⟩;have r1:Rel T F B L (upd H2 p (.tup [v,u])) x v []:=r.ext (Ext.upd hp) fun _ h=>h;have r2:Rel T F B L (upd H2 p (.tup [v,u])) y u []:=r'.ext (Ext.upd hp) fun _ h=>h;unfold RelL;refine⟨v,[u],[],[],rfl,r1,?_,rfl⟩;unfold RelL;exact⟨u,[],[],[],rfl,r2,by unfold RelL;exact⟨rfl,rfl⟩,by simp⟩
def qS{xs:Gs}{vs:Gp}{i:Nat}{x:PV}(h:RelL T F B L H xs vs [])(e:xs[i]?=some x):∃v,vs[i]?=some v/\Rel T F B L H x v []:=by obtain⟨v,f,ev,rv,sl⟩:=h.get e;have:f=[]:=List.eq_nil_of_sublist_nil sl;subst this;exact⟨v,ev,rv⟩
def xB{els:List Expr}{x1}(hK:X.K=T.K)(hg:Gl X "zip")(hm:X.mg "zip"=none)(ha:SA X T W [a,b] ms)(hs:starEach [a,b] X.env=[(false,eval a X.env),(false,eval b X.env)]:=by rfl)(hs2:starEach [b] X.env=[(false,eval b X.env)]:=by rfl) :
  SIc X T W (.Tuple els x1 tpos) (.Call (.Name "zip" p) [a,b] [] pos) (qH ms):=fun js s Y H R I h=>Az hg hm ha hs hs2 js s Y H R I (by
 obtain⟨Z,F,env,fp,S,q⟩:=h;unfold qH at q;refine tA.bq S fun zs vs H1 F1 f1 e1 g1 r1 n1 d1 w1=>?_;rw[e1]at q;simp only[Res.GL]at q;split at q
 ·rename_i f xs g ys
  split at q
  ·rename_i hc
   rw[and_eq_true]at hc;unfold RelL at r1;obtain⟨v1,ws,f2,f3,rfl,ra,rb,_⟩:=r1;obtain⟨v2,rfl,rc⟩:=rb.one;unfold Rel at ra rc;obtain⟨a1,us,fp1,rfl,hl1,hr1,_⟩:=ra;obtain⟨a2,ws,fp2,rfl,hl2,hr2,_⟩:=rc;obtain⟨rfl,_⟩:=cZ hc.1 hr1;obtain⟨rfl,_⟩:=cZ hc.2 hr2;rw[hK];refine⟨a1,a2,us,ws,rfl,hl1.sq,hl2.sq,q _ H1 F1 g1 fun H2 hx=>?_⟩;have up:∀{a:Addr}{us:Gp},SqL T.K H1 a us->SqL T.K H2 a us:=fun {a us} hs=>by
    rcases hs with z|z
    ·exact .inl (Rd.tr (fun o q=>hx a o q) z)
    ·exact .inr z
   have s1:=up hl1.sq;have s2:=up hl2.sq;have ln1:=hr1.length;have ln2:=hr2.length;refine⟨fun i x ex=>?_,⟨us,ws,s1,s2,by rw[mW];omega⟩⟩;obtain⟨x1,y1,ex1,ey1,rfl⟩:=mX xs ys i ex;obtain⟨v,ev,rv⟩:=qS hr1 ex1;obtain⟨u,eu,ru⟩:=qS hr2 ey1;refine⟨⟨us,ws,v,u,s1,s2,ev,eu⟩,fun w H3 hy=>?_⟩;obtain⟨p,v',u',hp,rfl,rfl,hall1,hall2⟩:=hy;have q1:=hall1 us s1;have q2:=hall2 ws s2;rw[ev]at q1;rw[eu]at q2;cases q1;cases q2;exact⟨Ext.upd hp,[],fun b hb=>(nomatch hb),sg hp (rv.ext hx fun _ h=>h) (ru.ext hx fun _ h=>h)⟩
  ·exact q.elim
 ·exact q.elim)
end
section
variable{X:Cx}{T:Tb}{W:Nat->St->Gq}{F B L:Gh}{H:Hp}
def uJ{α:Type}(k:Nat)(xs:List α):List α:=(replicate k xs).flatten
def vf:PV->PV->Gu
 |.lst .own xs,.int k=>if dg xs&&decide (0<=k/\k<=1000000)&&decide (xs.length*k.toNat<=10000000)then .ok (.lst .own (uJ k.toNat xs))else .stuck
 |_,_=>.stuck
def RelL.rep(r:RelL T F B L H xs vs []):∀k:Nat,RelL T F B L H (uJ k xs) (uJ k vs) []
 |0=>eZ F B L H
 |k+1=>by have:=RelL.append r (RelL.rep r k);simpa[uJ,replicate_succ]using this
def yz:iS T W vf Dl:=by
 intro B F L Y H Q F' H' x y v u fx fy g rx ry nf nd new q;cases x with
 |lst f xs=>
  cases f with
  |own=>
   cases y with
   |int k=>
    simp only[vf]at q;split at q
    ·rename_i hc
     simp only[and_eq_true,decide_eq_true_eq]at hc;obtain⟨⟨c1,c2⟩,c3⟩:=hc;unfold Rel at rx ry;obtain⟨a,vs,fp1,rfl,hl1,hr1,hf1⟩:=rx;obtain⟨rfl,rfl⟩:=ry;obtain⟨rfl,_⟩:=cZ c1 hr1;have ln:=hr1.length;refine⟨a,k,vs,rfl,rfl,hl1,by omega,by omega,by rw[<- ln,sizeLine_eq];omega,?_⟩;exact GE.newL q g (RelL.rep hr1 k.toNat) (fun b hb=>(nomatch hb)) nodup_nil (fun b hb=>(nomatch hb))
    ·exact q.elim
   |_=>exact q.elim
  |_=>cases y<;>exact q.elim
 |_=>exact q.elim
def Af(ha:SE X T W a ma)(hb:SE X T W b mb):SE X T W (.BinOp a .Mult b pos) (mOp vf ma mb):=jp AL yz ha hb
end
section
variable{prog:Program}{w:World}{A:Around}{R:Result->Shared->Prop}{ia:Addr}{fps wrs:Gk}{len:Nat}{Pv:Nat->Value->Prop}{Sv:Nat->Heap->Prop}
abbrev xF(xs:Go)(c:Nat):Obj:={cls:=.type "list",dict:=none,data:=.seq xs c,slots:=#[]}
def iE:(toString "min"++toString ".loop":String)= "min.loop":=by decide
def pJ(kw:List (Str×Value))(Wk:Walks prog w A.in1 ia fps wrs len Pv Sv)(lt:Nat->Nat->Bool)(hc:CmpOf prog w A.in1 .Lt Pv lt)(best:Addr)(nb:best∉fps) :
  ∀(left j:Nat) (sh:Shared) (u:Value) (cap:Nat),len-(j+1)=left->j+1<=len->Sv (j+1) sh.heap->Pv (argBest lt j) u->sh.heap.get? best=some (xF #[u,u] cap)->
   (∀v h' tk,Pv (argBest lt (len-1)) v->(∀b o,b∉wrs->b≠best->sh.heap.get? b=some o->h'.get? b=some o)->R (.ok (.ret v)) {sh with heap:=h',toks:=tk})->codeAny (model prog w) A (.builtin "min.loop" ⟨[.ref ia,.none,.ref best],kw⟩) R sh
 |0,j,sh,u,cap,e1,e2,st,pu,ob,fin=>by
  have nw:best∉wrs:=fun z=>nb (Wk.sub _ z);have ej:j+1=len:=by omega
  refine codeAny_builtin F.entry_min_loop ?_;rw[Around.under_plainId F.plain_min_loop _];refine(show wpAny _ A.in1 (seqItems? (.ref best) >>= _) _ _ sh from wpAny_bind (wpAny_seqItems ob rfl ?_));refine(show wpAny _ A.in1 (tryCatch (pyNext (.ref ia)) _ >>= _) _ _ sh from wpAny_bind (wpAny_tryCatch (Wk.done sh _ _ (ej▸st) fun h' tk kp=>?_)));refine(show wpAny _ A.in1 (updateSeq best (fun _=>#[]) >>= _) _ _ _ from wpAny_bind (wpAny_updateSeq (kp best _ nw ob) rfl (wpAny_bind (wpAny_letGo (wpAny_pure ?_)))));exact fin u _ tk (by rw[<- ej];exact pu) fun b o q1 q2 e=>(get?_update_other _ _ (Ne.symm q2)).trans (kp b o q1 e)
 |left+1,j,sh,u,cap,e1,e2,st,pu,ob,fin=>by
  have nw:best∉wrs:=fun z=>nb (Wk.sub _ z);have lj:j+1<len:=by omega
  refine codeAny_builtin F.entry_min_loop ?_;rw[Around.under_plainId F.plain_min_loop _];refine(show wpAny _ A.in1 (seqItems? (.ref best) >>= _) _ _ sh from wpAny_bind (wpAny_seqItems ob rfl ?_));refine(show wpAny _ A.in1 (tryCatch (pyNext (.ref ia)) _ >>= _) _ _ sh from wpAny_bind (wpAny_tryCatch (Wk.item (j+1) sh _ _ lj st fun v h' tk pv st' kp=>?_)));have ob':=kp best _ nw ob;refine(show wpAny _ A.in1 (tryCatch (holding [v,v] (richCompare .Lt v u >>= _)) _ >>= _) _ _ _ from wpAny_bind (wpAny_tryCatch (wpAny_holding (wpAny_bind (hc (j+1) (argBest lt j) v u _ _ _ pv pu (wpAny_bind (wpAny_holding (wpAny_truthy_bool (wpAny_bind (wpAny_letGo (wpAny_pure ?_)))))))))));by_cases yes:lt (j+1) (argBest lt j)=true
  ·rw[yes];simp only[if_true];refine wpAny_bind (wpAny_updateSeq ob' rfl (wpAny_bind (wpAny_letGo ?_)));rw[iE];refine wpAny_pure ⟨plainId_quiet F.plain_min_loop _,pJ kw Wk lt hc best nb left (j+1) _ v _ (by omega) lj (Wk.frame _ _ _ st' fun b hb o e=>(get?_update_other _ _ (fun z:best=b=>nb (z▸hb))).trans e) (by simp only[argBest,yes,if_true];exact pv) (Heap.get?_update_self _ ob' rfl) fun v' h2 t2 pv' kp2=>?_⟩;exact fin v' h2 t2 pv' fun b o q1 q2 e=>kp2 b o q1 q2 ((get?_update_other _ _ (Ne.symm q2)).trans (kp b o q1 e))
  ·have no:lt (j+1) (argBest lt j)=false:=by simpa using yes
   rw[no];simp only[false_eq_true,if_false];refine wpAny_bind (wpAny_letGo ?_);rw[iE];refine wpAny_pure ⟨plainId_quiet F.plain_min_loop _,pJ kw Wk lt hc best nb left (j+1) _ u cap (by omega) lj st' (by simp only[argBest,no,false_eq_true,if_false];exact pu) ob' fun v' h2 t2 pv' kp2=>?_⟩;exact fin v' h2 t2 pv' fun b o q1 q2 e=>kp2 b o q1 q2 (kp b o q1 e)
def yF(kw:List (Str×Value))(Wk:Walks prog w A.in1 ia fps wrs len Pv Sv)(lt:Nat->Nat->Bool)(hc:CmpOf prog w A.in1 .Lt Pv lt)(best:Addr)(nb:best∉fps)(pos:0<len)(st:Sv 0 sh.heap)(ob:sh.heap.get? best=some (xF #[] cap))
  (fin:∀v h' tk,Pv (argBest lt (len-1)) v->(∀b o,b∉wrs->b≠best->sh.heap.get? b=some o->h'.get? b=some o)->R (.ok (.ret v)) {sh with heap:=h',toks:=tk}):codeAny (model prog w) A (.builtin "min.loop" ⟨[.ref ia,.none,.ref best],kw⟩) R sh:=by
 have nw:best∉wrs:=fun z=>nb (Wk.sub _ z);refine codeAny_builtin F.entry_min_loop ?_;rw[Around.under_plainId F.plain_min_loop _];refine(show wpAny _ A.in1 (seqItems? (.ref best) >>= _) _ _ sh from wpAny_bind (wpAny_seqItems ob rfl ?_));refine(show wpAny _ A.in1 (tryCatch (pyNext (.ref ia)) _ >>= _) _ _ sh from wpAny_bind (wpAny_tryCatch (Wk.item 0 sh _ _ pos st fun v h' tk pv st' kp=>?_)));have ob':=kp best _ nw ob;refine(show wpAny _ A.in1 (updateSeq best (fun _=>#[v,v]) >>= _) _ _ _ from wpAny_bind (wpAny_updateSeq ob' rfl ?_));rw[iE];refine wpAny_pure ⟨plainId_quiet F.plain_min_loop _,pJ kw Wk lt hc best nb _ 0 _ v _ rfl pos (Wk.frame _ _ _ st' fun b hb o e=>(get?_update_other _ _ (fun z:best=b=>nb (z▸hb))).trans e) pv (Heap.get?_update_self _ ob' rfl) fun v' h2 t2 pv' kp2=>?_⟩;exact fin v' h2 t2 pv' fun b o q1 q2 e=>kp2 b o q1 q2 ((get?_update_other _ _ (Ne.symm q2)).trans (kp b o q1 e))
def Ba(Wk:Walks prog w A.in1 ia fps wrs 0 Pv Sv)(best:Addr)(nb:best∉fps)(st:Sv 0 sh.heap)(ob:sh.heap.get? best=some (xF #[] cap))
  (fin:∀h' tk,(∀b o,b∉wrs->sh.heap.get? b=some o->h'.get? b=some o)->R (.ok (.ret d)) {sh with heap:=h',toks:=tk}):codeAny (model prog w) A (.builtin "min.loop" ⟨[.ref ia,.none,.ref best],[(dn,d)]⟩) R sh:=by
 refine codeAny_builtin F.entry_min_loop ?_;rw[Around.under_plainId F.plain_min_loop _];refine(show wpAny _ A.in1 (seqItems? (.ref best) >>= _) _ _ sh from wpAny_bind (wpAny_seqItems ob rfl ?_));refine(show wpAny _ A.in1 (tryCatch (pyNext (.ref ia)) _ >>= _) _ _ sh from wpAny_bind (wpAny_tryCatch (Wk.done sh _ _ st fun h' tk kp=>?_)));exact wpAny_bind (wpAny_rule (wpAny_pure (fin h' tk kp)))
end
section
variable{prog:Program}{w:World}{A:Around}{E:Gc}{s:Shared}
def w8(y d:Value):argsOk "min" ⟨[y],[(Str.ofString "default",d)]⟩:=by
 unfold argsOk
 kernel_rfl
def oR
  (h:wpAny (model prog w) A.in1 (pyIter x) (fun it s2=>∃ ia fps wrs len Pv Sv lt,it=.ref ia/\Walks prog w A.in1 ia fps wrs len Pv Sv/\Sv 0 s2.heap/\(∀ b ∈ fps,b < s2.heap.objs.size)/\CmpOf prog w A.in1 .Lt Pv lt /\
   ∀v h' tk,(len=0/\v=d\/0<len/\Pv (argBest lt (len-1)) v)->(∀b o,b∉wrs->s2.heap.get? b=some o->h'.get? b=some o)->Q v {s2 with heap:=h',toks:=tk}) E s) :
  wpAny (model prog w) A (call (.builtin "min") [x] [(Str.ofString "default",d)]) Q E s:=by
 refine PyProof.Rows.kmk_tree F.kind_min F.plain_min F.entry_min (w8 _ _) ?_;refine(show wpAny _ A.in1 (Builtin.Builtins.bindParams "min" ["key","default"] 0 ⟨[],[(Str.ofString "default",d)]⟩ >>= _) _ _ s from wpAny_bind (wpAny_of_eq (a:=[none,some d]) (by kernel_rfl) (wpAny_bind (wpAny_pure (wpAny_bind (wpAny_mono h (fun it s2 q=>?_) fun _ _ e=>e))))));obtain⟨ia,fps,wrs,len,Pv,Sv,lt,rfl,Wk,st,hf,hc,fin⟩:=q;refine wpAny_bind (wpAny_newObj_type ?_);rw[iE];have nb:s2.heap.objs.size∉fps:=fun z=>Nat.lt_irrefl _ (hf _ z);have st':=Wk.frame _ _ (s2.heap.push (xF #[] 0)) st fun b _ o e=>get?_push_of_some _ e;refine wpAny_pure ⟨plainId_quiet F.plain_min_loop _,?_⟩;by_cases pos:0<len
 ·exact yF _ Wk lt hc s2.heap.objs.size nb pos st' (get?_push_size _ rfl) fun v h' tk pv kp=>fin v h' tk (.inr ⟨pos,pv⟩) fun b o q e=>kp b o q (Nat.ne_of_lt (lt_size e)) (get?_push_of_some _ e)
 ·have z:len=0:=by omega
  subst z;exact Ba Wk s2.heap.objs.size nb st' (get?_push_size _ rfl) fun h' tk kp=>fin d h' tk (.inl ⟨rfl,rfl⟩) fun b o q e=>kp b o q (get?_push_of_some _ e)
end
section
variable{X:Cx}{T:Tb}{W:Nat->St->Gq}{Z:Zn}{F F1 B L:Gh}{H H1:Hp}{Y:St}{env:En}{fp:Nat->Gk}{js:Gg}{s:Shared}
def oQ{M:Model}{A:Around}{E:Gc}{s:Shared}{env:Env}{id:String}{aV:List Expr}{kws:List Keyword}{Q:Gc}
  (h:wpAny M A (spliced (backTo pos (starEach (e::aV) env))) (fun vs s1=>wpAny M A (evalAll ((backToKw pos (keywordEach kws env)).map (·.2))) (fun ks s2=>wpAny M A (call (.builtin id) vs (((backToKw pos (keywordEach kws env)).filterMap (·.1)).zip ks)) Q E s2) E s1) E s)
  (hall:(backToKw pos (keywordEach kws env)).all (·.1.isSome)=true:=by rfl) (hkw:(backToKw pos (keywordEach kws env)).any (·.1.isNone)=false:=by rfl)
  (he:starEach (e::aV) env=(false,eval e env)::starEach aV env:=by rfl) (hpl:(backTo pos (starEach (e::aV) env)).any (·.1)=false:=by rfl) :
  wpAny M A (callWith pos (.builtin id) [] (backTo pos (starEach (e::aV) env)) (backToKw pos (keywordEach kws env))) Q E s:=by
 unfold callWith;refine wpAny_bind (wpAny_holding (wpAny_mono (evalArgs_kw2 (Q:=fun a s1=>wpAny M A (call (.builtin id) ([]++ a.pos) a.kw) Q E s1) hall h he) (fun a s1 h1=>wpAny_bind (wpAny_standAt ?_)) fun _ _ x=>x));simp only[hpl,hkw,Bool.or_false];exact wpAny_bind (wpAny_pure (wpAny_bind (wpAny_mono h1 (fun r s2 hr=>wpAny_bind (wpAny_holding (wpAny_point (wpAny_pure hr)))) fun _ _ x=>x)))
def Dz(vs:Gp)(P:V->Prop):Prop:=match vs with
 | [v]=>P v
 |_=>False
def yp(h:Dz vs P):∃v,vs=[v]/\P v:=by
 match vs,h with
 | [v],h=>exact⟨v,rfl,h⟩
def vO(ns:Gi):V:=if ns.isEmpty then .non else .int (eQ ns)
def uL(K:PySem.W.Frag):V->Hp->VK->Prop:=fun v H Q=>∃p ns,v=.ref p/\(SqL K H p (ns.map V.int)\/ SqT K H p (ns.map V.int))/\Q (vO ns) H
def t3(hc:X.calm=true)(I:L2.Inv X js Y H s)(hq:SqL X.K H p (ns.map V.int)\/ SqT X.K H p (ns.map V.int))(q:Q (vO ns) H):wpAny (model X.prog X.w) X.A (call (.builtin "min") [.ref p] [(Str.ofString "default",.none)]) (EP X js Y Q) X.xe s:=by
 have hh:=I.ok.hd hc;have key:∀{its:Gj},aE (ns.map V.int) its->∀{v:Value}{h':Heap}{tk:Nat},(its.toArray.size=0/\v=.none\/0<its.toArray.size/\its.toArray[argBest (fun i j=>decide (ns.getD i 0<ns.getD j 0)) (its.toArray.size-1)]?=some v)->(∀b o,s.heap.get? b=some o->h'.get? b=some o)->EP X js Y Q v {s with heap:=h',toks:=tk}:=by
  intro its r v h' tk hv k;have hl:its.toArray.size=ns.length:=by have:=r.length;simpa using this.symm
  rw[hl]at hv;rcases hv with⟨h0,rfl⟩ |⟨hn,hv⟩
  ·have e:ns=[]:=List.length_eq_zero_iff.mp h0;subst e;exact⟨.non,H,eE I k,rfl,q⟩
  ·obtain⟨t,rfl⟩:=c_ r _ _ hv;rw[oS hn];have e:vO ns=.int (eQ ns):=by
    unfold vO;rw[if_neg];intro z;have:ns=[]:=by simpa using z
    rw[this]at hn;exact absurd hn (by decide)
   rw[e]at q;exact⟨.int _,H,eE I k,⟨t,rfl⟩,q⟩
 rcases hq with hq|hq
 ·obtain⟨its,r,pl,hz⟩:=I.list hq;obtain⟨o,ho,hcl,n,hd⟩:=pl.isList;have hlt:=lt_size ho;refine oR (wpAny_pyIter_list pl.isList ?_);refine⟨_,_,_,_,_,_,_,rfl,Walks.list (A:=X.A.in1) hh _ p (Nat.ne_of_lt hlt) its.toArray,⟨⟨_,get?_push_size _ rfl,rfl,rfl⟩,pl.isList.push _⟩,fun b hb=>?_,CmpOf.ints_lt (fun i=>ns.getD i 0) (c_ r),fun v h' tk hP hk=>key r hP (cY hk)⟩;show b <(s.heap.push _).objs.size;rw[size_push];exact fW hlt rfl b hb
 ·obtain⟨its,r,pl,hz⟩:=I.tuple hq;have pt:s.heap.IsTuple p its.toArray:=pl;obtain⟨o,ho,hcl,n,hd⟩:=pl;have hlt:=lt_size ho;refine oR (wpAny_pyIter_tuple pt ?_);refine⟨_,_,_,_,_,_,_,rfl,Walks.tuple (A:=X.A.in1) hh _ p (Nat.ne_of_lt hlt) its.toArray,⟨⟨_,get?_push_size _ rfl,rfl,rfl⟩,pt.push _⟩,fun b hb=>?_,CmpOf.ints_lt (fun i=>ns.getD i 0) (c_ r),fun v h' tk hP hk=>key r hP (cY hk)⟩;show b <(s.heap.push _).objs.size;rw[size_push];exact fW hlt rfl b hb
abbrev mdE(e:Expr)(p pos kp cp:Pos)(j:Nat):Expr:=.Call (.Name "min" p) [e] [⟨some "default",.Constant .none j cp,kp⟩] pos
def yf(hc:X.calm=true)(hg:Gl X "min")(hm:X.mg "min"=none)(he:PE X e te)(hs:starEach [e] X.env=[(false,eval e X.env)]:=by rfl):PE X (mdE e p pos kp cp j) (tUn (uL X.K) te):=by intro js s Y H Q I h;refine wpAny_Call_Name_kw (dL I hg hm p0 ?_ (by decide) (by decide));refine oQ ?_ rfl rfl hs (by rw[hs];rfl);refine thn (bW (te:=te) he fD (by rw[hs];rfl) pos js s Y H (fun vs H1=>Dz vs fun v=>uL X.K v H1 Q) I h) fun us s1 hz1=>?_;obtain⟨vs,H1,I1,r1,q1⟩:=hz1;obtain⟨v,rfl,a,ns,rfl,hq,q⟩:=yp q1;obtain⟨u,rfl,rx⟩:=cP r1;cases rx;refine thn (qx (nm:=some "default") (kpos:=kp) (u6 (j:=j) (pos:=cp)) uS pos js s1 Y H1 (fun zs H2=>zs=[.non]/\H2=H1) I1 ⟨rfl,rfl⟩) fun ws s2 hz1=>?_;obtain⟨zs,H2,I2,r2,ez,eh⟩:=hz1;subst ez;rw[eh]at I2;clear eh;obtain⟨u2,rfl,rx2⟩:=cP r2;cases rx2;exact t3 hc I2 hq q
def k7(x:PV):Gu:=match aN x with
 | some xs=>(match bh xs with
  |some ns=>.ok (if ns.isEmpty then .non else .int (eQ ns))
  |none=>.stuck)
 |none=>.stuck
def vK(hK:X.K=T.K):EA T W k7 (uL X.K):=by
 intro B F L Y H Q F' H' x v fx g rx nf nd new q;unfold k7 at q;cases e:aN x with
 |none=>rw[e]at q;exact q.elim
 |some xs=>
  rw[e]at q;dsimp only at q;cases e2:bh xs with
  |none=>rw[e2]at q;exact q.elim
  |some ns=>
   rw[e2]at q;dsimp only at q;obtain⟨a,us,fx',rfl,hs,hr,_⟩:=rx.seq e;have hu:=cO e2 hr;subst hu;refine⟨a,ns,rfl,by rw[hK];exact hs,q.scal g ?_⟩;unfold vO;split
   ·unfold Rel;exact⟨rfl,rfl⟩
   ·exact dE
def xG(hK:X.K=T.K)(hc:X.calm=true)(hg:Gl X "min")(hm:X.mg "min"=none)(he:SE X T W e m)(hs:starEach [e] X.env=[(false,eval e X.env)]:=by rfl):SE X T W (mdE e p pos kp cp j) (mUn k7 m):=
 PE.wk (yf hc hg hm he hs) fun _ _ _ h=>tE.mir1 (vK hK) h
end
open AutoSeq1 (wpAny_loadPart')
section
variable{prog:Program}{w:World}{A:Around}{E:Gc}{s:Shared}
def dK1(a:Value):checkTypeCall "enumerate" ⟨[a],[]⟩=pure ():=by kernel_rfl
def dK2(a:Value):checkBuiltinCall "enumerate.__new__" ⟨[.type "enumerate",a],[]⟩=pure ():=by kernel_rfl
def dK3(a b:Value):argsOk "object.__init__" ⟨[a,b],[]⟩:=by
 unfold argsOk;rw[signature?_of (id:="object.__init__") (n:=['_','_','t','i','n','i','_','_']) (o:=['t','c','e','j','b','o']) (by kernel_rfl) F.owner_object]
 kernel_rfl
def BR(n:String)(l:Addr) :
  Meets (Builtin.«enumerate.__new__» ⟨[.type "enumerate",.ref l],[]⟩) (fun _ R s=>lJ n l s/\R (.ok (.ret (.ref (s.heap.push (itO n l)).objs.size))) {s with heap:=(s.heap.push (itO n l)).push (enO s.heap.objs.size 0)}):=
 .of_wp fun pr w A R s0 h=>by
  obtain⟨hp,g,d,tk,os⟩:=s0;obtain⟨hI,h⟩:=h;have hsub:=sub_enumerate;have hJ:∀{Q:Gc}{E:Gc},Q (.ref hp.objs.size) ⟨hp.push (itO n l),g,d,tk,os⟩->wpAny (model pr w) A.in1 (pyIter (.ref l)) Q E ⟨hp,g,d,tk,os⟩:=fun {Q E} q=>hI pr w A.in1 Q E q;have hJ':∀{Q:Gc}{E:Gc},Q (.ref hp.objs.size) ⟨hp.push (itO n l),g,d,tk,os⟩->wpAny (model pr w) A (pyIter (.ref l)) Q E ⟨hp,g,d,tk,os⟩:=fun {Q E} q=>hI pr w A Q E q
  wp_walk
  refine wpAny_stack_any fun st=>wpAny_pure ?_;split<;>try (rename_i c _ _ _ _ _;cases(c==Value.type "enumerate"))
  all_goals (wp_walk using hJ,hJ')
  all_goals exact⟨_,rfl,h⟩
def zm(hI:lJ n l s)(h:Q (.ref (s.heap.objs.size+1)) {s with heap:=(s.heap.push (itO n l)).push (enO s.heap.objs.size 0)}) :
  wpAny (model prog w) A (call (.type "enumerate") [.ref l] []) Q E s:=by
 have hz:(s.heap.push (itO n l)).objs.size=s.heap.objs.size+1:=size_push ..
 refine jk (Q1:=fun ob s1=>s1.TypeIs ob "enumerate" /\ Q ob s1) F.called_enumerate (dK1 _) (dK2 _) F.entry_enumerate_new F.entry_object_init (BR n l) ⟨hI,?_⟩ fun ob s1 hq=>⟨hq.1,dK3 ob _,_,zP F.called_enumerate.init.lookup F.called_enumerate.made (by decide),hq.1,rfl,hq.2⟩
 show _/\_;rw[hz];have:=get?_push_size (s.heap.push (itO n l)) (o:=enO s.heap.objs.size 0) rfl;rw[hz]at this;exact⟨⟨_,this,rfl⟩,h⟩
end
def oe(m:ME):MI:=fun env=>(m env).bind fun x=>match aN x with
 |some xs=>.ok (enP 0 xs)
 |none=>.stuck
section
variable{X:Cx}{T:Tb}{W:Nat->St->Gq}{Z:Zn}{F F1 B L:Gh}{H H1:Hp}{Y:St}{env:En}{fp:Nat->Gk}{js:Gg}{s:Shared}
def nM{x1}(hg:Gl X "enumerate")(hm:X.mg "enumerate"=none)(hl:PE X l tl)(hs:starEach [l] X.env=[(false,eval l X.env)]:=by rfl) :
  PI X (.Tuple els x1 tpos) (.Call (.Name "enumerate" p) [l] [] pos) (fun Y H R=>tl Y H fun x H1=>∃a tp xs,[x]=[V.ref a]/\Sq tp X.K H1 a xs/\R (Ite tp X.K 0 a) H1):=by
 intro js s Y H R I h;refine PyProof.Rows.Call_ (dL I hg hm rE (PyProof.Rows.callWith_type1 (thn (bW (te:=tl) hl fD (by rw[hs];rfl) pos js s Y H (fun vs H1=>∃a tp xs,vs=[.ref a]/\Sq tp X.K H1 a xs/\R (Ite tp X.K 0 a) H1) I h) fun us s2 ⟨vs,H1,I2,r1,a,tp,xs,ev,hq,q⟩=>?_) (by rw[hs];rfl) rfl));subst ev;obtain⟨u,rfl,rx⟩:=cP r1;cases rx;have hI:∃n,lJ n a s2/\∀h',h'.get? s2.heap.objs.size=some (itO n a)->w9 tp h' s2.heap.objs.size a 0:=by
  cases tp with
  |false=>obtain⟨its,rv,pl,_⟩:=I2.list hq;exact⟨"list_iterator",fun _ _ _ _ _ q=>wpAny_pyIter_list pl.isList q,fun h' e=>⟨_,e,rfl,rfl⟩⟩
  |true=>obtain⟨its,rv,pl,_⟩:=I2.tuple hq;exact⟨"tuple_iterator",fun _ _ _ _ _ q=>wpAny_pyIter_tuple (show s2.heap.IsTuple a its.toArray from pl) q,fun h' e=>⟨_,e,rfl,rfl⟩⟩
 obtain⟨n,hI,hA⟩:=hI;have hz:(s2.heap.push (itO n a)).objs.size=s2.heap.objs.size+1:=size_push ..
 have he:((s2.heap.push (itO n a)).push (enO s2.heap.objs.size 0)).get? (s2.heap.objs.size+1)=some (enO s2.heap.objs.size 0):=by have:=get?_push_size (s2.heap.push (itO n a)) (o:=enO s2.heap.objs.size 0) rfl;rw[hz]at this;exact this
 refine zm hI (wpAny_pyIter_enum (i:=0) (old:=.none) he ?_);refine⟨s2.heap.objs.size+1,[s2.heap.objs.size+1,s2.heap.objs.size],_,_,H1,rfl,I2.kept (t':=s2.toks) fun b o e=>get?_push_of_some _ (get?_push_of_some _ e),kN tp 0 a _ _,⟨⟨.none,by simpa using he⟩,hA _ (get?_push_of_some _ (get?_push_size _ rfl))⟩,fun b hb=>?_,q⟩;simp only[mem_cons,not_mem_nil,or_false]at hb;rcases hb with rfl|rfl
 ·exact I2.fpOk (le_succ _) (I2.hok.fresh (le_succ _))
 ·exact I2.fpOk (Nat.le_refl _) (I2.hok.fresh (Nat.le_refl _))
def rR{x1}(hK:X.K=T.K)(hg:Gl X "enumerate")(hm:X.mg "enumerate"=none)(he:SE X T W e m)(hs:starEach [e] X.env=[(false,eval e X.env)]:=by rfl) :
  SIc X T W (.Tuple els x1 tpos) (.Call (.Name "enumerate" p) [e] [] pos) (oe m):=fun js s Y H R I h=>nM hg hm he hs js s Y H R I (by
 obtain⟨Z,F,env,fp,S,q⟩:=h;unfold oe at q;refine tE.bq S fun x v H1 F1 f1 e1 g1 r1 n1 d1 w1=>?_;rw[e1]at q;simp only[Res.GL]at q;cases es:aN x with
 |none=>rw[es]at q;exact q.elim
 |some xs=>
  rw[es]at q;obtain⟨a,vs,f',rfl,hs,hr,_⟩:=r1.seq es;rw[hK];have key:∀(tp:Bool),Sq tp T.K H1 a vs->(∀H2,Ext H1 H2->Sq tp T.K H2 a vs)->ItC T F1 Z.B (Own fp) H1 (Ite tp T.K 0 a) (enP 0 xs):=by intro tp _ hq H2 hx;have hq2:=hq H2 hx;refine⟨fun i x ex=>?_,⟨vs,hq2,by rw[gH,hr.length];exact Nat.le_refl _⟩⟩;rw[iO]at ex;obtain⟨y,ey,rfl⟩:=map_eq_some_iff.mp ex;obtain⟨v,f,ev,rv,_⟩:=hr.get ey;refine⟨⟨vs,v,hq2,ev⟩,fun w H3 hy=>?_⟩;obtain⟨p,y',hp,rfl,rfl,hall⟩:=hy;have:=hall vs hq2;rw[ev]at this;cases this;exact⟨Ext.upd hp,f,fun b hb=>rv.there b hb,jT hp (rv.ext hx fun _ h=>h)⟩
  rcases hs with hs|hs
  ·refine⟨a,false,vs,rfl,hs,q _ H1 F1 g1 (key false hs fun H2 hx=>?_)⟩;rcases hs with z|z
   ·exact .inl (Rd.tr (fun o q=>hx a o q) z)
   ·exact .inr z
  ·exact⟨a,true,vs,rfl,hs,q _ H1 F1 g1 (key true hs fun H2 hx=>SqT.tr (fun o q _=>hx a o q) hs)⟩)
end
def pN(i j:Nat):MS:=fun env=>match env[i]?,env[j]? with
 |some (some v),some (some w)=>if i=j then .stuck else .ret (.tup [v,w])
 |_,_=>.stuck
section
variable{X:Cx}{T:Tb}{W:Nat->St->Gq}{Z:Zn}{F F1 B L:Gh}{H H1:Hp}{Y:St}{env:En}{fp:Nat->Gk}{D:Ends}
def uo{x1}(hN:X.N[i]?=some x)(hv:Vis X.env.scope x)(hN2:X.N[j]?=some y)(hv2:Vis X.env.scope y)(hd:(x ==("__debug__":Str))=false:=by decide)(hcd:(x ==("__classdict__":Str))=false:=by decide)(hd2:(y ==("__debug__":Str))=false:=by decide)(hcd2:(y ==("__classdict__":Str))=false:=by decide) :
  SS X T W (.Return (some (.Tuple [.Name x px,.Name y py] x1 tpos)) pos) (pN i j):=
 PS.wk (iW (pos:=pos) (uY (pos:=tpos) (bW (te:=zZ i) (bV (pos:=px) hN hv hd hcd) (bW (te:=zZ j) (bV (pos:=py) hN2 hv2 hd2 hcd2) fD)))) fun D Y H hz1=>by
  obtain⟨Z,F,env,fp,S,q⟩:=hz1;unfold pN at q;split at q
  case h_2=>exact q.elim
  rename_i pv pw ei ej
  split at q
  case isTrue=>exact q.elim
  rename_i hij
  obtain⟨v,e1,r1⟩:=S.rel i pv ei;obtain⟨w,e2,r2⟩:=S.rel j pw ej;refine⟨v,e1,w,e2,small (by simp),fun p hp=>?_⟩;have g:Gr F H F (upd H p (.tup [v,w])):=Gr.same S.hp.ft (Ext.upd hp);have S2:=S.grow g;obtain⟨v',e1',r1'⟩:=S2.rel i pv ei;obtain⟨w',e2',r2'⟩:=S2.rel j pw ej;rw[e1]at e1';cases e1';rw[e2]at e2';cases e2';refine q F (upd H p (.tup [v,w])) (.ref p) (fp i++fp j) S2.hp ?_ (nodup_append.mpr ⟨S.nd i,S.nd j,fun a ha b hb z=>?_⟩) (fun a ha=>?_) (fun a ha=>?_)
  ·unfold Rel;refine⟨p,_,rfl,SqT.of aM,?_⟩;unfold RelL;refine⟨v,[w],fp i,fp j,rfl,r1',?_,rfl⟩;unfold RelL;exact⟨w,[],fp j,[],rfl,r2',by unfold RelL;exact⟨rfl,rfl⟩,by simp⟩
  ·subst z;exact S.dj i j hij a ha hb
  ·rcases mem_append.mp ha with h|h
   ·exact(S2.dis i a h).1
   ·exact(S2.dis j a h).1
  ·rcases mem_append.mp ha with h|h
   ·exact S.new i a h
   ·exact S.new j a h
end
section
variable{P:Program}{w:World}{mg:Ge}{base:Heap}{T:Tb}
def Bs(F:Fun T.K x qual st f fd)(S:cL N ps (aw st))
  (body:∀ (cdv:Value) (A:Around) (outer:List Env) (s:Shared) (H:Hp) (E:XK),Ctx (cy (CXP P w) P w T.K mg base N qual (aw st) f cdv A outer s H E) T (WD T E) k ->
   SSs (cy (CXP P w) P w T.K mg base N qual (aw st) f cdv A outer s H E) T (WD T E) (bu st) m):b8 P w T.K mg base (CXP P w) (k+1) f fd ps (spM T ps.length (bv N.length m)):=
 Em F S fun cdv A outer s H E hr=>body cdv A outer s H E (jG hr)
def yT(F:Fun T.K x qual st f fd)(S:cL N ps (aw st))
  (body:∀ (cdv:Value) (A:Around) (outer:List Env) (s:Shared) (H:Hp) (E:XK),Ctx (cy (CXP P w) P w T.K mg base N qual (aw st) f cdv A outer s H E) T (WD T E) k ->
   SSs (cy (CXP P w) P w T.K mg base N qual (aw st) f cdv A outer s H E) T (WD T E) (bu st) m):b8 P w T.K mg base (CXP P w) (k+1) f fd ps (spI T ps.length (gJ N.length m)):=
 Bu F S fun cdv A outer s H E hr=>body cdv A outer s H E (jG hr)
end
end PR
namespace PR
open PySem PySem.Spec L2
def GSK(T:Tb)(W:Nat->St->Gq)(Z:Zn)(D:Ends)(σ0:St)(ks:List Nat):Out->Prop
 |.next e=>∀F H Y fp,ak T Z F H Y e fp->(∀j∈ks,Y[j]?=σ0[j]?)->D.nx Y H
 |.cont e=>∀F H Y fp,ak T Z F H Y e fp->(∀j∈ks,Y[j]?=σ0[j]?)->D.ct Y H
 |.brk e=>∀F H Y fp,ak T Z F H Y e fp->(∀j∈ks,Y[j]?=σ0[j]?)->D.bk Y H
 |.ret pv=>GS T W Z D (.ret pv)
 |.exc c e=>GS T W Z D (.exc c e)
 |.stuck=>False
def tSK(T:Tb)(W:Nat->St->Gq)(ks:List Nat)(m:MS):TS:=fun D Y H=>∃Z F env fp,ak T Z F H Y env fp/\GSK T W Z D Y ks (m env)
abbrev SSK(X:Cx)(T:Tb)(W:Nat->St->Gq)(ks:List Nat)(st:Stmt)(m:MS):Prop:=PS X st (tSK T W ks m)
abbrev qc(X:Cx)(T:Tb)(W:Nat->St->Gq)(ks:List Nat)(sts:List Stmt)(m:MS):Prop:=PSs X sts (tSK T W ks m)
section
variable{X:Cx}{T:Tb}{W:Nat->St->Gq}{Z:Zn}{F F1 B L:Gh}{H H1:Hp}{Y:St}{env:En}{fp:Nat->Gk}{D:Ends}{ks:List Nat}
def SSK.ss(h:SSK X T W [] st m):SS X T W st m:=PS.wk h fun D Y H hz1=>by
 obtain⟨Z,F,env,fp,S,q⟩:=hz1;refine⟨Z,F,env,fp,S,?_⟩;cases e:m env with
 |next e'|cont e'|brk e'=>rw[e]at q;exact fun F H Y fp S' _=>q F H Y fp S'
 |ret v|exc c e'|stuck=>rw[e]at q;exact q
def lM:qc X T W ks [] aR:=PSs.wk lV fun D Y H ⟨Z,F,env,fp,S,q⟩=>q F H Y fp S fun _ _=>rfl
def jA(h1:SSK X T W ks st a):qc X T W ks [st] a:=gB h1
def eW{aV:List Stmt}(h1:SSK X T W ks st a)(h2:qc X T W ks aV b):qc X T W ks (st::aV) (ax a b):=
 PSs.wk (f_ h1 h2) fun D Y H hz1=>by
  obtain⟨Z,F,env,fp,S,q⟩:=hz1;refine⟨Z,F,env,fp,S,?_⟩;unfold ax at q;cases e:a env with
  |next e'=>
   rw[e]at q;refine fun F' H' σ' fp' S' k=>⟨Z,F',e',fp',S',?_⟩
   dsimp only at q;cases e2:b e' with
   |next e''|cont e''|brk e''=>rw[e2]at q;exact fun F H Y fp S' k'=>q F H Y fp S' fun j hj=>(k' j hj).trans (k j hj)
   |ret v|exc c e'|stuck=>rw[e2]at q;exact q
  |ret v|brk e'|cont e'|exc c e'|stuck=>rw[e]at q;exact q
def o6(hc:ST X T W c mc)(ha:qc X T W ks a ma)(hb:qc X T W ks b mb):SSK X T W ks (.If c a b pos) (mBr mc ma mb):=
 PS.wk (uP (pos:=pos) hc ha hb) fun D Y H hz1=>by
  obtain⟨Z,F,env,fp,S,q⟩:=hz1;unfold mBr at q;refine tT.bind S (fun c e H' x=>?_) (fun e=>by rw[e]at q;exact q) fun b H' F' e g=>?_
  ·rw[e]at q;exact q F H' Y fp (S.grow (Gr.same S.hp.ft x))
  ·cases b with
   |true=>rw[e]at q;exact(if_pos rfl).mpr ⟨Z,F',env,fp,S.grow g,q⟩
   |false=>rw[e]at q;exact(if_neg (by decide)).mpr ⟨Z,F',env,fp,S.grow g,q⟩
def o8(hK:X.K=T.K)(hN:X.N[i]?=some x)(hv:Vis X.env.scope x)(he:SE X T W e m)
  (hs:swapsWith (.Call (.Attribute (.Name x px) "append" apos) [e] [] cpos) none pos.line X.env=pure false:=by rfl) (hst:starEach [e] X.env=[(false,eval e X.env)]:=by rfl)
  (hfew:((backTo cpos (starEach [e] X.env)).all (fun x=>!x.1)&&(backToKw cpos (keywordEach [] X.env)).all (fun x=>x.1.isSome)&&decide ([e].length+([]:List Keyword).length+(if([]:List Keyword).isEmpty then 0 else 1)<30))=true:=by rfl)
  (hline:(apos.endLine==cpos.line)=true:=by rfl) (hd:(x ==("__debug__":Str))=false:=by decide) (hcd:(x ==("__classdict__":Str))=false:=by decide) :
  SSK X T W ks (.Expr (.Call (.Attribute (.Name x px) "append" apos) [e] [] cpos) pos) (cz i m):=
 PS.wk (dS (pos:=pos) (nO (cpos:=cpos) (apos:=apos) PySem.F.plainAttrs_list PySem.F.slot_list_append PySem.F.type_list_append e_ (bV (pos:=px) hN hv hd hcd) (ac he ag hst) rfl hfew hline hst) hs) fun D Y H hz1=>by
  obtain⟨Z,F,env,fp,S,q⟩:=hz1;unfold cz at q;cases em:m env with
  |stuck=>rw[em]at q;exact q.elim
  |exc c=>
   rw[em]at q;dsimp only at q;split at q
   ·rename_i xs eo
    obtain⟨a,ws,fp',h1,hl,hr,hf⟩:=S.lst eo;refine⟨_,h1,.inl ⟨rfl,ws,by rw[hK];exact SqL.of hl⟩,Z,F,env,fp,S,?_⟩;unfold ae;rw[em];exact fun H' x=>q F H' Y fp (S.grow (Gr.same S.hp.ft x))
   ·exact q.elim
  |ok v=>
   rw[em]at q;dsimp only at q;split at q
   ·rename_i xs eo
    split at q
    ·rename_i hc
     simp only[and_eq_true,decide_eq_true_eq]at hc;obtain⟨a,ws,fp',h1,hl,hr,hf⟩:=S.lst eo;refine⟨_,h1,.inl ⟨rfl,ws,by rw[hK];exact SqL.of hl⟩,Z,F,env,fp,S,?_⟩;unfold ae ah;rw[em];intro vs H1 F1 f1 g r n1 d1 w1;obtain⟨u,rfl,ru⟩:=r.one;have S1:=S.grow g;have hl1:=g.ext a _ hl;refine⟨a,ws,u,rfl,rfl,hl1,?_,?_⟩
     ·rw[<- hr.length,sizeLine_eq];omega
     ·have rone:RelL T F1 Z.B NoL H1 [v] [u] f1:=by unfold RelL;exact⟨u,[],f1,[],rfl,Rel.noL (by simpa[PV.GH]using hc.1) ru,by unfold RelL;exact⟨rfl,rfl⟩,by simp⟩
      refine q F1 _ Y _ (S1.mutL (v:=u) eo h1 hf (RelL.append (hr.ext g.ext g.mono) rone) ?_ (fun b hb=>?_) hl1) fun _ _=>rfl
      ·have ndi:(a::fp').Nodup:=by rw[<- hf];exact S.nd i
       refine nodup_append.mpr ⟨(nodup_cons.mp ndi).2,d1,fun b hb b' hb' z=>?_⟩;subst z;exact(S.beside g n1 w1 b hb').2.2 i (by rw[hf];exact mem_cons_of_mem _ hb)
      ·rcases mem_append.mp hb with hb|hb
       ·exact .inl hb
       ·exact .inr (S.beside g n1 w1 b hb)
    ·exact q.elim
   ·exact q.elim
def RelL.cut:∀{xs ys:Gs}{vs:Gp}{f:Gk},RelL T F B L H (xs++ys) vs f->∃v1 v2 f1 f2,vs=v1++v2/\f=f1++f2/\RelL T F B L H xs v1 f1/\RelL T F B L H ys v2 f2
 | [],ys,vs,f,h=>⟨[],vs,[],f,rfl,rfl,by unfold RelL;exact⟨rfl,rfl⟩,h⟩
 |x::xs,ys,vs,f,h=>by rw[List.cons_append]at h;unfold RelL at h;obtain⟨v,ws,f1,f2,rfl,h1,h2,rfl⟩:=h;obtain⟨w1,w2,g1,g2,rfl,rfl,r1,r2⟩:=RelL.cut h2;refine⟨v::w1,w2,f1++g1,g2,rfl,by simp,?_,r2⟩;unfold RelL;exact⟨v,w1,f1,g1,rfl,h1,r1,rfl⟩
def ak.drop(S:ak T Z F H Y env fp)(h0:n≠0):ak T Z F H Y (env.set n none) (aI fp n []):=by
 refine⟨S.hp,by rw[length_set,S.len],fun i pv e=>?_,fun i=>?_,fun i j hij a ha hb=>?_,fun i a ha=>?_,fun i a ha=>?_,fun i a ha=>?_,fun v hv=>?_⟩
 ·by_cases hi:i=n
  ·subst hi;rw[getElem?_set]at e;simp at e
  ·rw[getElem?_set_ne (Ne.symm hi)]at e;obtain⟨v,h1,h2⟩:=S.rel i pv e;exact⟨v,h1,by unfold aI;rw[if_neg hi];exact h2⟩
 ·unfold aI;split;exact nodup_nil;exact S.nd i
 ·unfold aI at ha hb;split at ha
  ·cases ha
  ·split at hb
   ·cases hb
   ·exact S.dj i j hij a ha hb
 ·unfold aI at ha;split at ha;cases ha;exact S.dis i a ha
 ·unfold aI at ha;split at ha;cases ha;exact S.new i a ha
 ·unfold aI at ha;split at ha;cases ha;exact S.ch i a ha
 ·obtain⟨h1,h2⟩:=S.pn v hv;refine⟨h1,?_⟩;unfold cE at h2 ⊢;rw[getElem?_set_ne h0];exact h2
def cH{α:Type}{l:List α}{i:Nat}{x:α}(h:l[i]?=some x):l.set i x=l:=by obtain⟨hi,e⟩:=List.getElem?_eq_some_iff.mp h;rw[<- e];exact List.set_getElem_self hi
structure Orp(Z:Zn)(F:Gh)(fp:Nat->Gk)(f:Gk):Prop where
 nd:f.Nodup
 nf:∀b∈f,¬F b
 new:∀b∈f,Z.H0 b=none\/Z.fp0 b
 dj:∀b∈f,∀j,b∉fp j
end
open AutoSeq1 (wpAny_loadPart')
section
variable{X:Cx}{T:Tb}{W:Nat->St->Gq}{Z:Zn}{F F1 B L:Gh}{H H1:Hp}{Y:St}{env:En}{fp:Nat->Gk}{D:Ends}
def qB:Out->Prop
 |.next _|.cont _|.brk _=>False
 |_=>True
def SSK.ofRet(h:SS X T W st m)(hm:∀env,qB (m env)):SSK X T W ks st m:=PS.wk h fun D Y H hz1=>by
 obtain⟨Z,F,env,fp,S,q⟩:=hz1;refine⟨Z,F,env,fp,S,?_⟩;have:=hm env;cases e:m env with
 |next e'|cont e'|brk e'=>rw[e]at this;exact this.elim
 |ret v|exc c e'|stuck=>rw[e]at q;exact q
def jS(m:ME)(env:En):qB (bz m env):=by
 unfold bz;cases m env with
 |ok v=>dsimp only;cases v.GH<;>trivial
 |exc c|stuck=>trivial
end
section
variable{X:Cx}{T:Tb}{W:Nat->St->Gq}{Z:Zn}{F F1 B L:Gh}{H H1:Hp}{Y:St}{env:En}{fp:Nat->Gk}{D:Ends}
def ak.wideB(S:ak T Z F H Y env fp)(h1:∀a,Z.B a->B' a)(h2:∀a,B' a->(∃o,Z.H0 a=some o)/\¬Z.fp0 a):ak T ⟨Z.H0,Z.F0,Z.fp0,B',Z.pin⟩ F H Y env fp:=
 ⟨⟨⟨h2,S.hp.bo.2⟩,S.hp.keep,S.hp.f0,S.hp.fn,S.hp.ft⟩,S.len,fun i pv e=>by
  obtain⟨v,q1,q2⟩:=S.rel i pv e;exact⟨v,q1,Rel.tr (fun _ h=>h) h1 (fun _ h=>h) (fun _ _ h _=>h) (fun _ _ _ h=>h) q2⟩,S.nd,S.dj,S.dis,S.new,S.ch,S.pn⟩
def ak.blind(S:ak T Z F H Y env fp)(h0:c≠0)(hc:env[c]?=some none)(v:V):ak T Z F H (Y.set c (some v)) env fp:=
 ⟨S.hp,by rw [length_set,S.len],fun i pv e=>by
  have:i≠c:=by rintro rfl;rw[hc]at e;cases e
  rw[getElem?_set_ne (Ne.symm this)];exact S.rel i pv e,S.nd,S.dj,S.dis,S.new,S.ch,fun w hw=>by
  rw[getElem?_set_ne h0];exact S.pn w hw⟩
def ak.bOut(S:ak T Z F H Y env fp)(h:Z.B a):(∃o,H a=some o)/\∀j,a∉fp j:=by
 obtain⟨⟨o,h1⟩,h2⟩:=S.hp.bo.1 a h;refine⟨⟨o,S.hp.keep a o h1 h2⟩,fun j hj=>?_⟩;rcases S.new j a hj with z|z
 ·rw[h1]at z;cases z
 ·exact h2 z
def atI_last(ws:Gp)(u:V):atI (ws++[u]) (-1)=some u:=by
 unfold atI;have e:ixN (ws++[u]).length (-1)=some ws.length:=by rw[length_append,List.length_singleton];unfold ixN;rw[if_neg (by omega),if_pos (by omega)];congr 1;omega
 rw[e];simp
end
section
variable{X:Cx}{T:Tb}{W:Nat->St->Gq}{Z:Zn}{F F1 B L:Gh}{H H1:Hp}{Y:St}{env:En}{fp:Nat->Gk}{D:Ends}{ks:List Nat}
def vj{σ0 σ2:St}{i t:Nat}{Sq:Hp->Gp->Prop}{ho fo:Gk}{vs:Gp}{done r:Gs}{x y:PV}{v:V}{env2 e4:En}{F2:Gh}{H':Hp}{fp2:Nat->Gk}{D':Ends}(hit:i≠t)(h0:t≠0)(htk:t∉ks)
  (keep:∀{H H':Hp},(∀b∈ho,∀o,H b=some o->H' b=some o)->(∀b o,H b=some o->dQ o->H' b=some o)->Sq H vs->Sq H' vs)
  (hoT:∀{H},Sq H vs->∀b∈ho,∃o,H b=some o) (S2:ak T Z F2 H' σ2 env2 fp2) (k2:∀j∈i::ks,σ2[j]?=σ0[j]?) (sq:Sq H' vs) (rl:RelL T F2 Z.B NoL H' (done++x::r) vs fo) (op:Orp Z F2 fp2 (ho++fo)) (hv:vs[done.length]?=some v)
  (eb:mb (env2.set t (some x))=.next e4) (ey:e4[t]?=some (some y))
  (hN:∀F4 H4 σ4 fp4 fo',ak T Z F4 H4 σ4 (e4.set t none) fp4->(∀j∈i::ks,σ4[j]?=σ0[j]?)->Sq H4 vs->RelL T F4 Z.B NoL H4 ((done++[y])++ r) vs fo'->Orp Z F4 fp4 (ho++fo')->(∀a,F2 a->F4 a)->(∀a o,H' a=some o->(F2 a\/Z.B a\/dQ o)->H4 a=some o)->D'.nx σ4 H4) :
  tSK T W (i::t::ks) mb D' (σ2.set t (some v)) H':=by
 obtain⟨v1,v2,f1,f2,rfl,rfl,r1,r2⟩:=RelL.cut rl;unfold RelL at r2;obtain⟨v',w2,fx,fr,rfl,rx,rr,rfl⟩:=r2;obtain rfl:v=v':=by rw[r1.length]at hv;have:=hv;simp at this;exact this.symm
 have memx:∀b∈fx,b∈ho ++(f1 ++(fx++fr)):=fun b hb=>by simp[hb]
 have ndo:=op.nd;have ndx:fx.Nodup:=by have:=(nodup_append.mp ndo).2.1;exact(nodup_append.mp (nodup_append.mp this).2.1).1
 have S3:ak T Z F2 H' (σ2.set t (some v)) (env2.set t (some x)) (aI fp2 t fx):=S2.put rx ndx (fun b hb=>op.nf b (memx b hb)) (fun b hb=>op.new b (memx b hb)) (fun b hb j _=>op.dj b (memx b hb) j) (by simp[aB,h0]);have apart:∀b,b∈ho ++(f1++fr)->b∉fx:=by
  intro b hb hx;have h2:=nodup_append.mp ndo;have h3:=nodup_append.mp h2.2.1;have h4:=nodup_append.mp h3.2.1;rcases mem_append.mp hb with q|q
  ·exact h2.2.2 b q b (by simp[hx]) rfl
  ·rcases mem_append.mp q with q|q
   ·exact h3.2.2 b q b (by simp[hx]) rfl
   ·exact h4.2.2 b hx b q rfl
 have sub:∀b,b∈ho ++(f1++fr)->b∈ho ++(f1 ++(fx++fr)):=fun b hb=>by
  simp only[mem_append]at hb ⊢;rcases hb with q|q|q
  ·exact .inl q
  ·exact .inr (.inl q)
  ·exact .inr (.inr (.inr q))
 have out3:∀b,b∈ho ++(f1++fr)->∀j,b∉aI fp2 t fx j:=fun b hb j=>by
  unfold aI;split
  ·exact apart b hb
  ·exact op.dj b (sub b hb) j
 refine⟨Z.re F2 H' (aI fp2 t fx),F2,_,_,S3.enter,?_⟩;rw[eb];intro F4 H4 σ4 fp4 S4 k4;have S5:=S3.leave S4;have ot:∀b o,H' b=some o->(∀j,b∉aI fp2 t fx j)->H4 b=some o:=fun b o h n=>S4.hp.keep b o h fun⟨j,hj⟩=>n j hj;have nF4:∀b,b∈ho ++(f1++fr)->(∃o,H' b=some o)->¬F4 b:=fun b hb hz1 z=>by
  obtain⟨o,ho'⟩:=hz1;rcases S4.hp.fn b z with q|q |⟨j,hj⟩
  ·exact op.nf b (sub b hb) q
  ·have q':H' b=none:=q;rw[ho']at q';cases q'
  ·exact out3 b hb j hj
 have hx4:∀b o,H' b=some o->(F2 b\/Z.B b\/NoL b\/dQ o)->H4 b=some o:=fun b o h c=>ot b o h fun j hj=>by
  rcases c with c|c|c|c
  ·exact(S3.dis j b hj).1 c
  ·obtain⟨⟨o',h1⟩,h2⟩:=S3.hp.bo.1 b c;rcases S3.new j b hj with q|q
   ·rw[h1]at q;cases q
   ·exact h2 q
  ·exact c
  ·obtain⟨o',h1,h2⟩:=S3.ch j b hj;rw[h]at h1;cases h1;cases o<;>first|exact h2|exact c
 obtain⟨v',hv',ry⟩:=S5.rel t y ey;have hkt:=k4 t (by simp);rw[hv',getElem?_set]at hkt;simp only[if_true]at hkt;split at hkt
 case isFalse=>cases hkt
 cases hkt;have th:∀b,b∈ho ++(f1++fr)->∃o,H' b=some o:=fun b hb=>by
  rcases mem_append.mp hb with q|q
  ·exact hoT sq b q
  ·rcases mem_append.mp q with q|q
   ·exact r1.there b q
   ·exact rr.there b q
 have away:∀b,b∈ho ++(f1++fr)->∀j,b∉fp4 j:=fun b hb j hj=>by
  rcases S4.new j b hj with q |⟨j',q⟩
  ·obtain⟨o,h⟩:=th b hb;have q':H' b=none:=q;rw[h]at q';cases q'
  ·exact out3 b hb j' q
 have m1:∀b∈f1,b∈ho ++(f1++fr):=fun b hb=>by simp[hb]
 have mr:∀b∈fr,b∈ho ++(f1++fr):=fun b hb=>by simp[hb]
 have mh:∀b∈ho,b∈ho ++(f1++fr):=fun b hb=>by simp[hb]
 have r1':RelL T F4 Z.B NoL H4 done v1 f1:=RelL.tr (fun b h=>S4.hp.f0 b h) (fun _ h=>h) (fun _ h=>h) hx4 (fun b hb o h=>ot b o h (out3 b (m1 b hb))) r1;have rr':RelL T F4 Z.B NoL H4 r w2 fr:=RelL.tr (fun b h=>S4.hp.f0 b h) (fun _ h=>h) (fun _ h=>h) hx4 (fun b hb o h=>ot b o h (out3 b (mr b hb))) rr;refine hN F4 H4 σ4 (aI fp4 t []) (f1 ++(fp4 t++fr)) (S5.drop h0) (fun j hj=>?_) (keep (fun b hb o h=>ot b o h (out3 b (mh b hb))) (fun b o h c=>hx4 b o h (.inr (.inr (.inr c)))) sq) ?_ ?_ (fun b h=>S4.hp.f0 b h) (fun b o h c=>hx4 b o h (by rcases c with c|c|c;exact .inl c;exact .inr (.inl c);exact .inr (.inr (.inr c))))
 ·have jt:j≠t:=by
   rintro rfl;rcases mem_cons.mp hj with q|q
   ·exact hit q.symm
   ·exact htk q
  rw[k4 j (by rcases mem_cons.mp hj with q|q<;>simp[q]),getElem?_set_ne (Ne.symm jt)];exact k2 j hj
 ·rw[append_assoc];refine RelL.append r1' ?_;show RelL T F4 Z.B NoL H4 (y::r) _ _;unfold RelL;exact⟨v,w2,fp4 t,fr,rfl,ry,rr',rfl⟩
 ·have nd2:=nodup_append.mp ndo;have nd3:=nodup_append.mp nd2.2.1;have nd4:=nodup_append.mp nd3.2.1;refine⟨?_,fun b hb=>?_,fun b hb=>?_,fun b hb j hj=>?_⟩
  ·refine nodup_append.mpr ⟨nd2.1,nodup_append.mpr ⟨nd3.1,nodup_append.mpr ⟨S5.nd t,nd4.2.1,fun b hb b' hb' z=>?_⟩,fun b hb b' hb' z=>?_⟩,fun b hb b' hb' z=>?_⟩
   ·subst z;exact away b (mr b hb') t hb
   ·subst z;rcases mem_append.mp hb' with q|q
    ·exact away b (m1 b hb) t q
    ·exact nd3.2.2 b hb b (by simp[q]) rfl
   ·subst z;rcases mem_append.mp hb' with q|q
    ·exact nd2.2.2 b hb b (by simp[q]) rfl
    ·rcases mem_append.mp q with q|q
     ·exact away b (mh b hb) t q
     ·exact nd2.2.2 b hb b (by simp[q]) rfl
  all_goals
   have cs:b∈ho ++(f1++fr)\/ b∈fp4 t:=by
    simp only[mem_append]at hb ⊢;rcases hb with q|q|q|q
    ·exact .inl (.inl q)
    ·exact .inl (.inr (.inl q))
    ·exact .inr q
    ·exact .inl (.inr (.inr q))
  ·rcases cs with q|q
   ·exact nF4 b q (th b q)
   ·exact(S5.dis t b q).1
  ·rcases cs with q|q
   ·exact op.new b (sub b q)
   ·exact S5.new t b q
  ·unfold aI at hj;split at hj
   ·cases hj
   ·rename_i jt
    rcases cs with q|q
    ·exact away b q j hj
    ·exact S5.dj t j (Ne.symm jt) b q hj
end
def iD(i:Nat)(k:Int)(e:ME):MS:=fun env=>match e env with
 | .ok (.int z)=>(match env[i]? with
  | some (some (.tup xs))=>(match ixN xs.length k with
   | some n=>(match xs[n]? with
    | some (.lst .own ys)=>(match bh ys with
     |some ns=>if ns.length<=1000000 then .next (env.set i (some (.tup (xs.set n (.lst .own ((ns++[z]).map .int))))))else .stuck
     |none=>.stuck)
    |_=>.stuck)
   |none=>.stuck)
  |_=>.stuck)
 |_=>.stuck
def iC(i:Nat)(k:Int):MS:=fun env=>match env[i]? with
 | some (some (.tup xs))=>(match ixN xs.length k with
  | some n=>(match xs[n]? with
   |some (.lst .own _)=>.next (env.set i (some (.tup (xs.set n (.lst .own [])))))
   |_=>.stuck)
  |none=>.stuck)
 |_=>.stuck
section
variable{X:Cx}{T:Tb}{W:Nat->St->Gq}{Z:Zn}{F F1 B L:Gh}{H H1:Hp}{Y:St}{env:En}{fp:Nat->Gk}{D:Ends}{ks:List Nat}
def C6(S:ak T Z F H Y env fp)(eo:env[i]?=some (some (.tup xs))):∃a ws,Y[i]?=some (some (.ref a))/\SqT T.K H a ws/\RelL T F Z.B NoL H xs ws (fp i):=by obtain⟨v,h1,h2⟩:=S.rel i _ eo;unfold Rel at h2;obtain⟨a,ws,rfl,hl,hr⟩:=h2;exact⟨a,ws,h1,hl,hr⟩
def vB(S:ak T Z F H Y env fp)(eo:env[i]?=some (some (.tup xs)))(h1:Y[i]?=some (some (.ref a)))(hl:SqT T.K H a ws)(hr:RelL T F Z.B NoL H xs ws (fp i))(ey:xs[n]?=some (.lst .own ys)) :
  ∃b vs f1,ws[n]?=some (.ref b)/\H b=some (.lst vs)/\RelL T F Z.B NoL H ys vs f1 /\
   ∀ns:Gi,∃fp2,ak T Z F (upd H b (.lst (ns.map V.int))) Y (env.set i (some (.tup (xs.set n (.lst .own (ns.map .int)))))) fp2:=by
 obtain⟨b,f0,f1,f2,vs,efp,c1,c2,c3,c4⟩:=hr.nest ey;refine⟨b,vs,f1,c1,c2,c3,fun ns=>?_⟩;have ndf:(fp i).Nodup:=S.nd i;have hbi:b∈fp i:=by rw[efp];simp
 have nFb:¬F b:=(S.dis i b hbi).1;have nBb:¬Z.B b:=fun z=>S.bow b z ⟨i,hbi⟩;have rout:=c4 (upd H b (.lst (ns.map V.int))) (ns.map .int) (ns.map V.int) [] ndf aM (qt ns) (fun c o q hn=>by rw[az hn];exact q) nFb nBb;have mem:∀c∈f0++[b]++ f2,c∈fp i:=fun c hc=>by
  rw[efp];simp only[mem_append,mem_cons,not_mem_nil,or_false]at hc ⊢;rcases hc with(h|h)|h
  ·exact .inl (.inl h)
  ·exact .inl (.inr (.inl h))
  ·exact .inr h
 have ndn:(f0++[b]++ f2).Nodup:=by rw[efp]at ndf;refine Nodup.sublist ?_ ndf;refine Sublist.append (Sublist.append (Sublist.refl _) ?_) (Sublist.refl _);exact Sublist.cons_cons _ (List.nil_sublist _)
 have hil:i<env.length:=(List.getElem?_eq_some_iff.mp eo).1;have fixb:∀o,H b=some o->¬dQ o:=fun o h=>by rw[c2]at h;cases h;exact fun z=>z
 refine⟨_,S.mut (a:=b) (f':=f0++[b]++ f2) hil h1 hbi ?_ ndn (fun c hc=>(S.dis i c (mem c hc)).1) (fun c hc=>S.new i c (mem c hc)) (fun c hc t ht z=>S.dj i t (Ne.symm ht) c (mem c hc) z) fun o0 o1=>?_⟩
 ·unfold Rel;refine⟨a,ws,rfl,?_,rout⟩;exact SqT.tr (fun o h1 h2=>by
   have:a≠b:=fun z=>fixb o (by rw[<- z];exact h1) h2;show upd H b _ a=_;rw[az this];exact h1) hl
 ·subst o0;unfold cE at o1;rw[eo]at o1;cases o1
def gz(hik:i∉ks)(hN:X.N.Nodup)(hi:X.N[i]?=some x)(hx:Loc X.env.scope x)(he:SE X T W e m)(hs:swapsWith e (some (.Name x pos')) pos.line X.env=pure false:=by rfl)
  (hf:X.fn x=true\/X.env.scope.names.lookup x=some .local:=by first|exact .inl rfl|exact .inr rfl|assumption):SSK X T W ks (.Assign [.Name x pos'] e pos) (a6 i m):=
 PS.wk (lW (pos:=pos) hN hi hx he hs hf) fun D Y H hz1=>by
  obtain⟨Z,F,env,fp,S,q⟩:=hz1;unfold a6 at q;refine tE.bind S (fun c e H' x=>?_) (fun e=>by rw[e]at q;exact q) fun pv v H1 F1 f e g r h1 h2 h3=>?_
  ·rw[e]at q;exact q F H' Y fp (S.grow (Gr.same S.hp.ft x))
  ·rw[e]at q;simp only at q;split at q
   ·rename_i hl
    rw[and_eq_true]at hl;exact q F1 H1 _ _ (S.putN g hl.2 r hl.1 h1 h2 h3) fun j hj=>getElem?_set_ne fun z=>hik (by rw[z];exact hj)
   ·exact q.elim
def o7(hK:X.K=T.K)(hN:X.N[i]?=some x)(hv:Vis X.env.scope x)(hix:d0 (.Constant (.int k) jj py))
  (hs:swapsWith (.Call (.Attribute (.Subscript (.Name x px) (.Constant (.int k) jj py) spos) "clear" apos) [] [] cpos) none pos.line X.env=pure false:=by rfl)
  (hline:(apos.endLine==cpos.line)=true:=by rfl) (hd:(x ==("__debug__":Str))=false:=by decide) (hcd:(x ==("__classdict__":Str))=false:=by decide) :
  SSK X T W ks (.Expr (.Call (.Attribute (.Subscript (.Name x px) (.Constant (.int k) jj py) spos) "clear" apos) [] [] cpos) pos) (iC i k):=
 PS.wk (dS (pos:=pos) (u_ (cpos:=cpos) (apos:=apos) PySem.F.plainAttrs_list PySem.F.slot_list_clear PySem.F.type_list_clear n0 (nN (pos:=spos) jb (bV (pos:=px) hN hv hd hcd) iZ hix) rfl hline) hs) fun D Y H hz1=>by
  obtain⟨Z,F,env,fp,S,q⟩:=hz1;unfold iC at q;split at q
  case h_2=>exact q.elim
  rename_i xs eo
  cases en:ixN xs.length k with
  |none=>rw[en]at q;exact q.elim
  |some n=>
  rw[en]at q;dsimp only at q;split at q
  case h_2=>exact q.elim
  rename_i ys ey
  obtain⟨a,ws,h1,hl,hr⟩:=C6 S eo;have hlen:=hr.length;obtain⟨b,vs,f1,hb1,hb2,hb3,hall⟩:=vB S eo h1 hl hr ey;have at_:atI ws k=some (.ref b):=by unfold atI;rw[<- hlen,en];exact hb1
  obtain⟨fp2,S2⟩:=hall [];exact⟨_,h1,.inr (.inl ⟨a,ws,k,.ref b,rfl,rfl,by rw[hK];exact hl,at_,.inl ⟨rfl,vs,by rw[hK];exact SqL.of hb2⟩,b,vs,rfl,rfl,hb2,q F _ Y fp2 S2 fun _ _=>rfl⟩)⟩
def o9(hK:X.K=T.K)(hN:X.N[i]?=some x)(hv:Vis X.env.scope x)(he:SE X T W e m)(hix:d0 (.Constant (.int k) jj py))
  (hs:swapsWith (.Call (.Attribute (.Subscript (.Name x px) (.Constant (.int k) jj py) spos) "append" apos) [e] [] cpos) none pos.line X.env=pure false:=by rfl) (hst:starEach [e] X.env=[(false,eval e X.env)]:=by rfl)
  (hfew:((backTo cpos (starEach [e] X.env)).all (fun x=>!x.1)&&(backToKw cpos (keywordEach [] X.env)).all (fun x=>x.1.isSome)&&decide ([e].length+([]:List Keyword).length+(if([]:List Keyword).isEmpty then 0 else 1)<30))=true:=by rfl)
  (hline:(apos.endLine==cpos.line)=true:=by rfl) (hd:(x ==("__debug__":Str))=false:=by decide) (hcd:(x ==("__classdict__":Str))=false:=by decide) :
  SSK X T W ks (.Expr (.Call (.Attribute (.Subscript (.Name x px) (.Constant (.int k) jj py) spos) "append" apos) [e] [] cpos) pos) (iD i k m):=
 PS.wk (dS (pos:=pos) (nO (cpos:=cpos) (apos:=apos) PySem.F.plainAttrs_list PySem.F.slot_list_append PySem.F.type_list_append e_ (nN (pos:=spos) jb (bV (pos:=px) hN hv hd hcd) iZ hix) (ac he ag hst) rfl hfew hline hst) hs) fun D Y H hz1=>by
  obtain⟨Z,F,env,fp,S,q⟩:=hz1;unfold iD at q;split at q
  case h_2=>exact q.elim
  rename_i z em
  split at q
  case h_2=>exact q.elim
  rename_i xs eo
  cases en:ixN xs.length k with
  |none=>rw[en]at q;exact q.elim
  |some n=>
  rw[en]at q;dsimp only at q;split at q
  case h_2=>exact q.elim
  rename_i ys ey
  cases ei:bh ys with
  |none=>rw[ei]at q;exact q.elim
  |some ns=>
  rw[ei]at q;dsimp only at q;split at q
  case isFalse=>exact q.elim
  rename_i hlen0
  obtain⟨a,ws,h1,hl,hr⟩:=C6 S eo;have hlen:=hr.length;obtain⟨b,vs,f1,hb1,hb2,hb3,_⟩:=vB S eo h1 hl hr ey;have at_:atI ws k=some (.ref b):=by unfold atI;rw[<- hlen,en];exact hb1
  refine⟨_,h1,.inr (.inl ⟨a,ws,k,.ref b,rfl,rfl,by rw[hK];exact hl,at_,.inl ⟨rfl,vs,by rw[hK];exact SqL.of hb2⟩,Z,F,env,fp,S,?_⟩)⟩;unfold ae ah;rw[em];intro us H1 F1 g1 g r n1 d1 w1;obtain⟨u,rfl,ru⟩:=r.one;unfold Rel at ru;obtain⟨rfl,_⟩:=ru;have S1:=S.grow g;obtain⟨b',vs',f1',hb1',hb2',hb3',hall⟩:=vB S1 eo h1 (SqT.tr (fun o h _=>g.ext a o h) hl) (hr.ext g.ext g.mono) ey;have hb21:=g.ext b _ hb2;rw[hb1]at hb1';cases hb1';rw[hb21]at hb2';cases hb2';have hvs:=cO ei hb3';subst hvs;obtain⟨fp2,S2⟩:=hall (ns++[z]);refine⟨b,_,.int z,rfl,rfl,hb21,?_,?_⟩
  ·rw[length_map,sizeLine_eq];omega
  ·rw[List.map_append]at S2;exact q F1 _ Y fp2 S2 fun _ _=>rfl
end
open PySem.W (findIn fnOf keepIn nsIn codeIn isFn Frag)
structure FS where
 q:Str
 s:Stmt
 k:Nat
 N:Gm
 c:Option Nat
def bc(s:Stmt):Str:=match s with
 |.FunctionDef n _ _ _ _ _ _ _ _ _=>n
 |_=>""
structure Clo(H:Hp)(fr:Gm)(cl:List (Str×Addr))(cvs:Gp):Prop where
 inj:∀x y c,cl.lookup x=some c->cl.lookup y=some c->x=y
 sub:∀x c,cl.lookup x=some c->x∈fr
 len:cvs.length=fr.length
 val:∀(i:Nat) x v,fr[i]?=some x->cvs[i]?=some v->∃c o u z,cl.lookup x=some c/\H c=some (.frz o u)/\o.data=.cell (some z)/\bf v z
def Clo.tr(C:Clo H fr cl cvs)(h:∀b o u,H b=some (.frz o u)->H' b=some (.frz o u)):Clo H' fr cl cvs:=
 ⟨C.inj,C.sub,C.len,fun i x v h1 h2=>let⟨c,o,u,z,q1,q2,q3⟩:=C.val i x v h1 h2;⟨c,o,u,z,q1,h _ _ _ q2,q3⟩⟩
def Clo.at(C:Clo H fr cl cvs)(h:cl.lookup x=some c):∃o u z,H c=some (.frz o u)/\o.data=.cell (some z):=by
 obtain⟨i,hi,e⟩:=getElem_of_mem (C.sub x c h);have hv:i<cvs.length:=by rw[C.len];exact hi
 obtain⟨c',o,u,z,q1,q2,q3,_⟩:=C.val i x cvs[i] (by rw[getElem?_eq_getElem hi,e]) (getElem?_eq_getElem hv);rw[h]at q1;cases q1;exact⟨o,u,z,q2,q3⟩
structure FI where
 name:Str
 qual:Str
 params:Arguments
 body:List Stmt
 scope:Scope
 fr:Gm
def FI.bx(i:FI)(H:Hp)(f:Addr)(cvs:Gp):Prop:=∃cl doc pm ctv c' oc u u' vs t,H f=some (.frz (fnMade i.name i.qual i.params i.body i.scope cl doc pm c' ctv) u)/\
 H c'=some (.frz oc u')/\oc.data=.fields vs/\vs[1]?=some (.str i.qual t)/\Clo H i.fr cl cvs
def FI.bxs{i:FI}(h:∀b o u,H b=some (.frz o u)->H' b=some (.frz o u))(q:i.bx H f cvs):i.bx H' f cvs:=by obtain⟨cl,doc,pm,ctv,c',oc,u,u',vs,t,h1,h2,h3,h4,C⟩:=q;exact⟨cl,doc,pm,ctv,c',oc,u,u',vs,t,h _ _ _ h1,h _ _ _ h2,h3,h4,C.tr h⟩
structure NFd where
 i:Nat
 j:Nat
 q:Str
 k:Nat
 fr:Gm
 N:Gm
structure PT where
 F:List FS
 C:Gm
 X:Gm
 A:Gm
 M:List (Nat×Str×Nat)
 Mk:List (Nat×Nat)
 U:List (Nat×Nat)
 B:Gm
 I:List (Str×Int)
 KT:List (Option Nat×String×List Bool)
 HT:List (Nat×List Bool)
 D:List (Gm):=[]
 G:Option NFd:=none
def fs0:FS:=⟨"",.Pass ⟨0,0,0,0⟩,0,[],none⟩
def pk{α:Type}(d:α)(l:List α)(i:Nat):α:=l.getD i (l.headD d)
def fC{α:Type}{d:α}{p:α->Prop}{l:List α}(hl:l≠[])(h:∀x∈l,p x)(i:Nat):p (pk d l i):=by
 unfold pk;rw[getD_eq_getElem?_getD];cases e:l[i]? with
 |some C=>exact h C (List.mem_of_getElem? e)
 |none=>
  cases l with
  |nil=>exact absurd rfl hl
  |cons a l=>exact h a mem_cons_self
section
variable(p:PT)(K:Frag)
def gAt(x:Str):Addr:=match nsIn K mainGlobals x with
 |some (some (.ref a))=>a
 |_=>0
def mAt(c:Addr)(x:Str):Addr:=match findIn K (.ref c) x with
 |some (some (.ref a))=>a
 |_=>0
def dAt(f:Addr):FuncData:=match K.lookup f with
 |some ⟨_,_,.func d,_⟩=>d
 |_=>default
def PT.fs(i:Nat):FS:=pk fs0 p.F i
def PT.ps(i:Nat):Gm:=(p.fs i).N.take (p.fs i).k
def PT.ca(c:Nat):Addr:=gAt K (pk "" p.C c)
def PT.xa(c:Nat):Addr:=gAt K (pk "" p.X c)
def PT.fx(x:FS):Addr:=match x.c with
 |none=>gAt K (bc x.s)
 |some c=>mAt K (p.ca K c) (bc x.s)
def PT.fa(i:Nat):Addr:=p.fx K (p.fs i)
def lit(x:FS):Obj->Obj
 |⟨oc,od,.func d,sl⟩=>⟨oc,od,.func (fnOf (bc x.s) x.q (dA x.s) (bu x.s) (aw x.s) .none d.kwdefaults d.doc d.pyModule d.annotations d.code d.closureTuple),sl⟩
 |o=>o
def Eb:Option Obj->Bool
 |some ⟨_,_,.func _,_⟩=>true
 |_=>false
def scB(x:FS):Bool:=decide ((aw x.s).kind=.function)&&!(aw x.s).isCoroutine&&!(aw x.s).isGenerator&&decide x.N.Nodup&&decide (x.k<=x.N.length) &&
 (x.N.take x.k).all (fun y=>decide ((aw x.s).names.lookup y=some .local \/(aw x.s).names.lookup y=some .cell))&&(aw x.s).names.all (fun y=>decide (y.2≠.free))
def PT.chF(x:FS):Bool:=Eb (K.lookup (p.fx K x))&&codeIn K (dAt K (p.fx K x)).code x.q&&keepIn K (.ref (p.fx K x))&&(match x.c with|none=>decide (nsIn K mainGlobals (bc x.s)=some (some (.ref (p.fx K x))))|some _=>true)
def chC(A:Gm)(x:Str):Bool:=plainGet K (gAt K x) Str.empty&&hasDictIn K (gAt K x)&&plainOver K (gAt K x)&&decide (findIn K (.ref (gAt K x)) "__setattr__"=some (some (.builtin "object.__setattr__"))) &&
 decide (nsIn K mainGlobals x=some (some (.ref (gAt K x))))&&A.all (fun y=>decide (findIn K (.ref (gAt K x)) y=some none))
def PT.chM(x:Nat×Str×Nat):Bool:=decide (findIn K (.ref (p.ca K x.1)) x.2.1=some (some (.ref (p.fa K x.2.2))))&&isFn K (.ref (p.fa K x.2.2))&&keepIn K (.ref (p.fa K x.2.2))
def PT.chK(x:Nat×Nat):Bool:=makesIn K (p.ca K x.1)&&decide (findIn K (.ref (p.ca K x.1)) "__init__"=some (some (.ref (p.fa K x.2))))&&isFn K (.ref (p.fa K x.2))&&keepIn K (.ref (p.ca K x.1))
def zN(f:Addr):Option PySem.W.CFound->Bool
 |some (.val (.ref a))=>decide (a=f)
 |_=>false
def PT.chU(x:Nat×Nat):Bool:=decide (specialIn K (.ref (p.ca K x.1)) "__getattribute__"=some (some (.builtin "type.__getattribute__")))&&readsIn K (p.ca K x.1) (.type "type")&&zN (p.fa K x.2) (findCls K (.ref (p.ca K x.1)) (.type "type") "__init__")&&keepIn K (.ref (p.fa K x.2))
def tgV(y:Option Nat×String×List Bool):Value:=match y.1 with
 |some x=>.ref (p.xa K x)
 |none=>.type y.2.1
def chX(x:Str):Bool:=decide (nsIn K mainGlobals x=some (some (.ref (gAt K x))))&&tJ K (gAt K x)
def chI(x:Str×Int):Bool:=match nsIn K mainGlobals x.1 with
 |some (some (.int i _))=>decide (i=x.2)
 |_=>false
def PT.chT(y:Option Nat×String×List Bool):Bool:=decide (p.X.map (fun x=>kitOne K (.ref (gAt K x)) (tgV p K y))=y.2.2.map some)
def PT.chH(y:Nat×List Bool):Bool:=decide (p.X.map (fun x=>exmOne K (.ref (gAt K x)) (.ref (p.xa K y.1)))=y.2.map some)
def PT.ch1:Bool:=p.F.all (p.chF K)
def PT.ch2:Bool:=p.C.all (chC K p.A)&&p.Mk.all (p.chK K)&&p.U.all (p.chU K)&&p.X.all (chX K)&&p.B.all (fun x=>decide (nsIn K mainGlobals x=some none))&&p.I.all (chI K)&&p.KT.all (p.chT K)&&p.HT.all (p.chH K)
def PT.ch3:Bool:=p.M.all (p.chM K)
def PT.ob:List (Option Obj):=p.F.map fun x=>K.lookup (p.fx K x)
def PT.ol:List (Option Obj):=p.F.map fun x=>(K.lookup (p.fx K x)).map (lit x)
end
structure Tx(p:PT)(K:Frag)(mg:Ge):Prop where
 fn:∀i,Fun K (bc (p.fs i).s) (p.fs i).q (p.fs i).s (p.fa K i) (dAt K (p.fa K i))
 sc:∀i,cL (p.fs i).N (p.ps i) (aw (p.fs i).s)
 bn:∀i,dR K (dAt K (p.fa K i)) (p.ps i) []
 gl:∀i,(p.fs i).c=none->mg (bc (p.fs i).s)=some (.ref (p.fa K i))
 cl:∀c,Cls K (p.ca K c)
 cg:∀c,mg (pk "" p.C c)=some (.ref (p.ca K c))
 cn:∀c,∀x∈p.A,dO K (p.ca K c) x
 me:∀x∈p.M,zu K (p.ca K x.1) x.2.1 (p.fa K x.2.2)
 mm:∀x∈p.Mk,Mk K (p.ca K x.1) (p.fa K x.2)
 su:∀x∈p.U,Sup K (p.ca K x.1) (p.fa K x.2)
 xg:∀c,mg (pk "" p.X c)=some (.ref (p.xa K c))
 xe:∀c,tJ K (p.xa K c)=true
 bi:∀x∈p.B,mg x=none
 ci:∀x∈p.I,∃tk,mg x.1=some (.int x.2 tk)
 kt:∀y∈p.KT,∀c,kitOne K (.ref (p.xa K c)) (tgV p K y)=some (nL y.2.2 c)
 ht:∀y∈p.HT,∀c,exmOne K (.ref (p.xa K c)) (.ref (p.xa K y.1))=some (nL y.2 c)
def Bnd(x:FS):Prop:=∀(kV doc pm:Value) (an:Option Addr) (cdv ct:Value) (us:Gj),us.length=(x.N.take x.k).length->bindArgs (fnOf (bc x.s) x.q (dA x.s) (bu x.s) (aw x.s) .none kV doc pm an cdv ct) ⟨us,[]⟩=pure ((x.N.take x.k).zip us)
def xc:List FS->Prop
 | []=>True
 |x::l=>Bnd x/\xc l
def xc.get:∀{l:List FS},xc l->∀x∈l,Bnd x
 | [],_,_,h=>nomatch h
 |y::l,⟨h1,h2⟩,x,h=>by
  rcases mem_cons.mp h with rfl|h
  ·exact h1
  ·exact h2.get x h
section
variable{x:FS}
def lsS{us:Gj}(h:us.length=n+1):∃a r,us=a::r/\r.length=n:=by
 cases us with
 |nil=>cases h
 |cons a r=>exact⟨a,r,rfl,Nat.succ.inj h⟩
def bn1(h:∀(kV doc pm:Value) (an:Option Addr) (cdv ct u1:Value),bindArgs (fnOf (bc x.s) x.q (dA x.s) (bu x.s) (aw x.s) .none kV doc pm an cdv ct) ⟨[u1],[]⟩=pure ((x.N.take x.k).zip [u1]):=by intros;rfl)(hk:(x.N.take x.k).length=1:=by rfl):Bnd x:=fun kV doc pm an cdv ct us hl=>by rw[hk]at hl;obtain⟨_,_,rfl,l1⟩:=lsS hl;cases List.eq_nil_of_length_eq_zero l1;exact h ..
def bn2(h:∀(kV doc pm:Value) (an:Option Addr) (cdv ct u1 u2:Value),bindArgs (fnOf (bc x.s) x.q (dA x.s) (bu x.s) (aw x.s) .none kV doc pm an cdv ct) ⟨[u1,u2],[]⟩=pure ((x.N.take x.k).zip [u1,u2]):=by intros;rfl)(hk:(x.N.take x.k).length=2:=by rfl):Bnd x:=fun kV doc pm an cdv ct us hl=>by rw[hk]at hl;obtain⟨_,_,rfl,l1⟩:=lsS hl;obtain⟨_,_,rfl,l2⟩:=lsS l1;cases List.eq_nil_of_length_eq_zero l2;exact h ..
def bn3(h:∀(kV doc pm:Value) (an:Option Addr) (cdv ct u1 u2 u3:Value),bindArgs (fnOf (bc x.s) x.q (dA x.s) (bu x.s) (aw x.s) .none kV doc pm an cdv ct) ⟨[u1,u2,u3],[]⟩=pure ((x.N.take x.k).zip [u1,u2,u3]):=by intros;rfl)(hk:(x.N.take x.k).length=3:=by rfl):Bnd x:=fun kV doc pm an cdv ct us hl=>by rw[hk]at hl;obtain⟨_,_,rfl,l1⟩:=lsS hl;obtain⟨_,_,rfl,l2⟩:=lsS l1;obtain⟨_,_,rfl,l3⟩:=lsS l2;cases List.eq_nil_of_length_eq_zero l3;exact h ..
def bn4(h:∀(kV doc pm:Value) (an:Option Addr) (cdv ct u1 u2 u3 u4:Value),bindArgs (fnOf (bc x.s) x.q (dA x.s) (bu x.s) (aw x.s) .none kV doc pm an cdv ct) ⟨[u1,u2,u3,u4],[]⟩=pure ((x.N.take x.k).zip [u1,u2,u3,u4]):=by intros;rfl)(hk:(x.N.take x.k).length=4:=by rfl):Bnd x:=fun kV doc pm an cdv ct us hl=>by rw[hk]at hl;obtain⟨_,_,rfl,l1⟩:=lsS hl;obtain⟨_,_,rfl,l2⟩:=lsS l1;obtain⟨_,_,rfl,l3⟩:=lsS l2;obtain⟨_,_,rfl,l4⟩:=lsS l3;cases List.eq_nil_of_length_eq_zero l4;exact h ..
def bn5(h:∀(kV doc pm:Value) (an:Option Addr) (cdv ct u1 u2 u3 u4 u5:Value),bindArgs (fnOf (bc x.s) x.q (dA x.s) (bu x.s) (aw x.s) .none kV doc pm an cdv ct) ⟨[u1,u2,u3,u4,u5],[]⟩=pure ((x.N.take x.k).zip [u1,u2,u3,u4,u5]):=by intros;rfl)(hk:(x.N.take x.k).length=5:=by rfl):Bnd x:=fun kV doc pm an cdv ct us hl=>by rw[hk]at hl;obtain⟨_,_,rfl,l1⟩:=lsS hl;obtain⟨_,_,rfl,l2⟩:=lsS l1;obtain⟨_,_,rfl,l3⟩:=lsS l2;obtain⟨_,_,rfl,l4⟩:=lsS l3;obtain⟨_,_,rfl,l5⟩:=lsS l4;cases List.eq_nil_of_length_eq_zero l5;exact h ..
end
def uj{l:Gm}{α:Type}{f:Addr->Option Bool}{bs:List Bool}(hl:l≠[])(h:l.map (fun x=>f (gAt K x))=bs.map some)(c:Nat):f (gAt K (pk "" l c))=some (nL bs c):=by
 have e:gAt K (pk "" l c)=yd (l.map (gAt K)) c:=by
  unfold pk yd;cases l with
  |nil=>exact absurd rfl hl
  |cons a l=>rw[getD_eq_getElem?_getD,getD_eq_getElem?_getD,getElem?_map];cases(a::l)[c]?<;>rfl
 rw[e];exact uV (g:=id) (by simpa using hl) (by rw[map_map];exact h) c
def Tx.of{p:PT}{K:Frag}{h:Heap}{mg:Ge}(X:K.In h)(N:h.Ns mainGlobals mg)(hb:xc p.F)(hs:p.F.all scB=true)(hF:p.F≠[])(hC:p.C≠[])(hX:p.X≠[])
  (e:p.ob K=p.ol K) (h1:p.ch1 K=true) (h2:p.ch2 K=true) (h3:p.ch3 K=true):Tx p K mg:=by
 simp only[PT.ch2,and_eq_true,all_eq_true,decide_eq_true_eq]at h2;obtain⟨⟨⟨⟨⟨⟨⟨c1,c2⟩,c3⟩,c4⟩,c5⟩,c6⟩,c7⟩,c8⟩:=h2;simp only[PT.ch1,PT.ch3,all_eq_true]at h1 h3 hs;have fnx:∀x∈p.F,Fun K (bc x.s) x.q x.s (p.fx K x) (dAt K (p.fx K x)):=fun x hx=>by
  have q:=h1 x hx;simp only[PT.chF,and_eq_true]at q;obtain⟨⟨⟨q1,q2⟩,q3⟩,_⟩:=q;have e1:K.lookup (p.fx K x)=(K.lookup (p.fx K x)).map (lit x):=List.map_inj_left.mp e x hx;cases eo:K.lookup (p.fx K x)with
  |none=>rw[eo]at q1;cases q1
  |some o=>
   rw[eo]at e1 q1;obtain⟨oc,od,dt,sl⟩:=o;cases dt with
   |func d=>
    have e2:(⟨oc,od,.func d,sl⟩:Obj)=lit x ⟨oc,od,.func d,sl⟩:=Option.some.inj e1;simp only[lit,Obj.mk.injEq,Data.func.injEq,true_and,and_true]at e2;have ed:dAt K (p.fx K x)=d:=by unfold dAt;rw[eo]
    rw[ed]at q2 ⊢;exact⟨⟨oc,od,d.kwdefaults,d.doc,d.pyModule,d.annotations,d.code,d.closureTuple,sl,e2,eo,q2⟩,q3⟩
   |_=>cases q1
 have scx:∀x∈p.F,cL x.N (x.N.take x.k) (aw x.s):=fun x hx=>by have q:=hs x hx;simp only[scB,and_eq_true,decide_eq_true_eq,all_eq_true,not_eq_true']at q;obtain⟨⟨⟨⟨⟨⟨q1,q2⟩,q3⟩,q4⟩,q5⟩,q6⟩,q7⟩:=q;exact⟨q1,q2,q3,q4,by rw[length_take,Nat.min_eq_left q5],q6,q7⟩
 have clx:∀x∈p.C,(Cls K (gAt K x)/\mg x=some (.ref (gAt K x)))/\∀y∈p.A,dO K (gAt K x) y:=fun x hx=>by have q:=c1 x hx;simp only[chC,and_eq_true,decide_eq_true_eq,all_eq_true]at q;obtain⟨⟨⟨⟨⟨q1,q2⟩,q3⟩,q4⟩,q5⟩,q6⟩:=q;exact⟨⟨⟨q1,q2,q3,q4⟩,mg_of X N q5⟩,q6⟩
 have xx:∀x∈p.X,mg x=some (.ref (gAt K x))/\tJ K (gAt K x)=true:=fun x hx=>by have q:=c4 x hx;simp only[chX,and_eq_true,decide_eq_true_eq]at q;exact⟨mg_of X N q.1,q.2⟩
 refine ⟨fC (p:=fun x=>Fun K (bc x.s) x.q x.s (p.fx K x) (dAt K (p.fx K x))) hF fnx,fC (p:=fun x=>cL x.N (x.N.take x.k) (aw x.s)) hF scx,fC (p:=fun x=>dR K (dAt K (p.fx K x)) (x.N.take x.k) []) hF fun x hx=>(fnx x hx).binds (hb.get x hx),
  fC (p:=fun x=>x.c=none->mg (bc x.s)=some (.ref (p.fx K x))) hF fun x hx hc=>?_,fC (p:=fun x=>Cls K (gAt K x)) hC fun x hx=>(clx x hx).1.1,fC (p:=fun x=>mg x=some (.ref (gAt K x))) hC fun x hx=>(clx x hx).1.2,
  fC (p:=fun x=>∀y∈p.A,dO K (gAt K x) y) hC fun x hx=>(clx x hx).2,fun x hx=>?_,fun x hx=>?_,fun x hx=>?_,fC (p:=fun x=>mg x=some (.ref (gAt K x))) hX fun x hx=>(xx x hx).1,fC (p:=fun x=>tJ K (gAt K x)=true) hX fun x hx=>(xx x hx).2,
  fun x hx=>PySem.W.mg_none_of X N (c5 x hx),fun x hx=>?_,fun y hy c=>?_,fun y hy c=>?_⟩
 ·have q:=h1 x hx;simp only[PT.chF,and_eq_true]at q;have q:=q.2;rw[hc]at q;exact mg_of X N (of_decide_eq_true q)
 ·have q:=h3 x hx;simp only[PT.chM,and_eq_true,decide_eq_true_eq]at q;exact⟨q.1.1,q.1.2,q.2⟩
 ·have q:=c2 x hx;simp only[PT.chK,and_eq_true,decide_eq_true_eq]at q;exact⟨q.1.1.1,q.1.1.2,q.1.2,q.2⟩
 ·have q:=c3 x hx;simp only[PT.chU,and_eq_true,decide_eq_true_eq]at q;refine⟨q.1.1.1,q.1.1.2,?_,q.2⟩;have q:=q.1.2;unfold zN at q;split at q
  ·rename_i a e
   rw[e,of_decide_eq_true q]
  ·cases q
 ·have q:=c6 x hx;unfold chI at q;split at q
  ·rename_i i tk e
   exact⟨tk,by rw[<- of_decide_eq_true q];exact mg_of X N e⟩
  ·cases q
 ·exact uj (α:=Bool) (f:=fun a=>kitOne K (.ref a) (tgV p K y)) hX (of_decide_eq_true (c7 y hy)) c
 ·exact uj (α:=Bool) (f:=fun a=>exmOne K (.ref a) (.ref (p.xa K y.1))) hX (of_decide_eq_true (c8 y hy)) c
def PT.attOk(p:PT):Prop:=p.A.Nodup/\p.A.all iY=true
def PT.gs(p:PT):NFd:=p.G.getD ⟨0,0,"",0,[],[]⟩
def PT.gst(p:PT):Stmt:=(bu (p.fs p.gs.i).s).getD p.gs.j (.Pass ⟨0,0,0,0⟩)
def PT.fi(p:PT):FI:=⟨bc p.gst,p.gs.q,dA p.gst,bu p.gst,aw p.gst,p.gs.fr⟩
def PT.gpos(p:PT):Pos:=match p.gst with
 |.FunctionDef _ _ _ _ _ _ _ _ _ pos=>pos
 |_=>⟨0,0,0,0⟩
def PT.gt(p:PT)(K:Frag):Addr×Addr:=(tabIn K (bc (p.fs p.gs.i).s)).getD (0,0)
@[reducible] def PT.T(p:PT)(h:p.attOk)(K:Frag):Tb where
 K:=K
 nc:=p.C.length
 cls:=p.ca K
 att:=iR p.A
 inj:=t_ h.1 h.2
 xcl:=p.xa K
 dk:=fun k=>p.D.getD k []
 bx:=fun k H a vs=>if k=99 then p.fi.bx H a vs else if 1000<=k then a=k-1000/\∀v∈vs,v=.ref a else ∃o,H a=some (.frz o (.dK (((p.D.getD k []).map Sum.inr).zip vs)))/\(p.D.getD k []).length=vs.length
 bxs:=fun k H H' a vs h q=>by
  split at q
  ·rw[if_pos ‹_›];exact FI.bxs h q
  ·rw[if_neg ‹_›];split at q
   ·rw[if_pos ‹_›];exact q
   ·rw[if_neg ‹_›];obtain⟨o,z,l⟩:=q;exact⟨o,h _ _ _ z,l⟩
 tb:=fun a=>if p.G.isSome=true/\a=(p.gt K).2 then some #[rawInt p.gpos.line,rawInt p.gpos.col,.str p.gs.q 0]else none
section
variable{p:PT}{K:Frag}{mg:Ge}
def Tx.cls(t:Tx p K mg)(n:Nat):∀c<n,Cls K (p.ca K c):=fun c _=>t.cl c
def Tx.b(t:Tx p K mg)(j:Nat)(h:p.B[j]?=some x:=by rfl):mg x=none:=t.bi x (List.mem_of_getElem? h)
def Tx.c(t:Tx p K mg)(j:Nat)(h:p.I[j]?=some (x,i):=by rfl):∃tk,mg x=some (.int i tk):=t.ci (x,i) (List.mem_of_getElem? h)
end
open PySem.W (keepIn Frag)
section
variable{P:Program}{w:World}{K:Frag}{mg:Ge}{base:Heap}{p:PT}{hA:p.attOk}
abbrev OkF(p:PT)(hA:p.attOk)(P:Program)(w:World)(K:Frag)(mg:Ge)(base:Heap)(k i:Nat)(m:Gs->Gu):Prop:=b8 P w K mg base (CXP P w) k (p.fa K i) (dAt K (p.fa K i)) (p.ps i) (spM (p.T hA K) (p.ps i).length m)
abbrev OkI(p:PT)(hA:p.attOk)(P:Program)(w:World)(K:Frag)(mg:Ge)(base:Heap)(k i:Nat)(m:Gs->Gu):Prop:=b8 P w K mg base (CXP P w) k (p.fa K i) (dAt K (p.fa K i)) (p.ps i) (spI (p.T hA K) (p.ps i).length m)
def okC(i:Nat)(t:Tx p K mg)(body:∀ (cdv:Value) (A:Around) (outer:List Env) (s:Shared) (H:Hp) (E:XK),Ctx (cy (CXP P w) P w K mg base (p.fs i).N (p.fs i).q (aw (p.fs i).s) (p.fa K i) cdv A outer s H E) (p.T hA K) (WD (p.T hA K) E) k->(p.fs i).N.Nodup ->
  SSs (cy (CXP P w) P w K mg base (p.fs i).N (p.fs i).q (aw (p.fs i).s) (p.fa K i) cdv A outer s H E) (p.T hA K) (WD (p.T hA K) E) (bu (p.fs i).s) m):OkF p hA P w K mg base (k+1) i (bv (p.fs i).N.length m):=
 Bs (T:=p.T hA K) (t.fn i) (t.sc i) fun a b c d e f g=>body a b c d e f g (t.sc i).nd
def okI(i:Nat)(t:Tx p K mg)(body:∀ (cdv:Value) (A:Around) (outer:List Env) (s:Shared) (H:Hp) (E:XK),Ctx (cy (CXP P w) P w K mg base (p.fs i).N (p.fs i).q (aw (p.fs i).s) (p.fa K i) cdv A outer s H E) (p.T hA K) (WD (p.T hA K) E) k->(p.fs i).N.Nodup ->
  SSs (cy (CXP P w) P w K mg base (p.fs i).N (p.fs i).q (aw (p.fs i).s) (p.fa K i) cdv A outer s H E) (p.T hA K) (WD (p.T hA K) E) (bu (p.fs i).s) m):OkI p hA P w K mg base (k+1) i (gJ (p.fs i).N.length m):=
 yT (T:=p.T hA K) (t.fn i) (t.sc i) fun a b c d e f g=>body a b c d e f g (t.sc i).nd
def dm{X:Cx}{k k2 i c:Nat}{mn:Str}{m m':Gs->Gu}{ps:Gm}(j:Nat)(t:Tx p X.K X.mg)(G:b8 X.prog X.w X.K X.mg X.base (CXP X.prog X.w) k (p.fa X.K i) (dAt X.K (p.fa X.K i)) ps (spM (p.T hA X.K) ps.length m))(e:some m=some m')(hj:p.M[j]?=some (c,mn,i):=by rfl)(hp:p.ps i=ps:=by rfl)(hk:k<=k2:=by decide) :
  ∃f fd,zu X.K (p.ca X.K c) mn f/\dR X.K fd ps []/\b8 X.prog X.w X.K X.mg X.base (CXP X.prog X.w) k2 f fd ps (spM (p.T hA X.K) ps.length m'):=by
 cases e;exact⟨_,_,t.me _ (List.mem_of_getElem? hj),hp▸t.bn i,G.mono hk⟩
end
def dno{n c:Nat}{q:Prop}(h:c<n)(hc:n<=c:=by exact Nat.le_add_left _ _):q:=absurd h (Nat.not_lt.mpr hc)
section
variable{X:Cx}{W:Nat->St->Gq}{p:PT}{hA:p.attOk}
def bJ(t:Tx p X.K X.mg)
  (G:b8 X.prog X.w X.K X.mg X.base (CXP X.prog X.w) k (p.fa X.K i) (dAt X.K (p.fa X.K i)) (p.ps i) (spM (p.T hA X.K) (p.ps i).length m)) (cx:Ctx X (p.T hA X.K) W kk) (ha:SA X (p.T hA X.K) W (e::es) ms)
  (hk:k<=kk:=by decide) (hx:bc (p.fs i).s=x:=by rfl) (hc:(p.fs i).c=none:=by rfl) (hg:Gl X x:=by rfl) (hn:fk ms n:=by repeat' first|exact c9|apply cA) (hps:n=(p.ps i).length:=by rfl)
  (hdb:(x ==("__debug__":Str))=false:=by decide) (he:starEach (e::es) X.env=(false,eval e X.env)::starEach es X.env:=by rfl) (hpl:(backTo pos (starEach es X.env)).any (·.1)=false:=by rfl) :
  SE X (p.T hA X.K) W (.Call (.Name x np) (e::es) [] pos) (au (aP m) ms):=
 uC G cx hk hg (by subst hx;exact t.gl i hc) (t.fn i).kp (t.bn i) hn hps ha hdb he hpl
def de(t:Tx p X.K X.mg)
  (D:fV X (p.T hA X.K) k mn ps [] disp) (cx:Ctx X (p.T hA X.K) W kk) (ho:SE X (p.T hA X.K) W o mo) (ha:SA X (p.T hA X.K) W (e::es) ms)
  (hm:∀k,iR p.A k≠mn:=by exact w6 (by decide +kernel) (by decide +kernel)) (hk:k<=kk:=by decide) (hn:fk ms n:=by repeat' first|exact c9|apply cA) (hps:n+1=ps.length:=by rfl)
  (hst:starEach (e::es) X.env=(false,eval e X.env)::starEach es X.env:=by rfl) (hpl:(backTo pos (starEach es X.env)).any (·.1)=false:=by rfl)
  (ht:eval (.Call (.Attribute o mn apos) (e::es) [] pos) X.env=(do
   let ov <- eval o X.env
   standAt apos.atName
   let(f,first) <- holding [ov] (getMethod ov mn pl)
   callWith pos f first (backTo pos (starEach (e::es) X.env)) (backToKw pos (keywordEach [] X.env))):=by rfl) :
  SE X (p.T hA X.K) W (.Call (.Attribute o mn apos) (e::es) [] pos) (bH disp mo ms):=
 Ak (pl:=pl) cx (t.cls _) hm D hk hn hps ho ha hst hpl ht
def jQ(c:Nat)(t:Tx p X.K X.mg)
  (G:b8 X.prog X.w X.K X.mg X.base (CXP X.prog X.w) k (p.fa X.K i) (dAt X.K (p.fa X.K i)) (p.ps i) (spI (p.T hA X.K) (p.ps i).length m)) (cx:Ctx X (p.T hA X.K) W kk) (ha:SA X (p.T hA X.K) W (e::es) ms)
  (hM:(c,i)∈ p.Mk:=by decide) (hcn:c<p.C.length:=by decide) (hk:k+1<=kk:=by decide) (hx:pk ("":Str) p.C c=x:=by rfl) (hg:Gl X x:=by rfl) (hn:fk ms n:=by repeat' first|exact c9|apply cA) (hps:n+1=(p.ps i).length:=by rfl)
  (hdb:(x ==("__debug__":Str))=false:=by decide) (he:starEach (e::es) X.env=(false,eval e X.env)::starEach es X.env:=by rfl) (hpl:(backTo pos (starEach es X.env)).any (·.1)=false:=by rfl) :
  SE X (p.T hA X.K) W (.Call (.Name x np) (e::es) [] pos) (hV c m ms):=
 Ai (t.mm _ hM) hcn G cx hk hg (by subst hx;exact t.cg c) (t.bn i) hn hps ha hdb he hpl
def aO(k:Nat)(t:Tx p X.K X.mg)(cx:Ctx X (p.T hA X.K) W kk)(he:SE X (p.T hA X.K) W e m)(hf:iR p.A k=f:=by rfl)(hm:f∈p.A:=by decide)(hb:attributeBase e f X.env (eval e X.env)=eval e X.env:=by rfl) :
  SE X (p.T hA X.K) W (.Attribute e f pos) (mUn (ap k) m):=xM cx.hK hf (t.cls _) (fun c _=>t.cn c f hm) he hb
def gW(ha:SA X T W es ms)(hn:fk ms n:=by repeat' first|exact c9|apply cA)(hs:n<=1000:=by decide):SE X T W (.List es pos) (eH ms):=Al ha hn hs
def rX{x1}(ha:SA X T W es ms)(hn:fk ms n:=by repeat' first|exact c9|apply cA)(hs:n<=1000:=by decide):SE X T W (.Tuple es x1 pos) (ky ms):=Ad ha hn hs
def bG(cx:Ctx X T W kk)(ha:SE X T W a ma)(hb:SE X T W b mb)(hs:d0 b:=by exact fun _ _=>rfl):SE X T W (.Subscript a b pos) (mOp aL ma mb):=Am cx.hK ha hb hs
def db(hN:X.N.Nodup)(he:SE X T W e m)(hi:X.N[i]?=some x:=by rfl)(hx:Loc X.env.scope x:=by first|exact .inl rfl|exact .inr rfl)(hs:swapsWith e (some (.Name x pos')) pos.line X.env=pure false:=by rfl)
  (hf:X.fn x=true\/X.env.scope.names.lookup x=some .local:=by first|exact .inl rfl|exact .inr rfl|assumption):SS X T W (.Assign [.Name x pos'] e pos) (a6 i m):=z8 hN hi hx he hs hf
def sgN(hN:X.N.Nodup)(hi:X.N[i]?=some x:=by rfl)(hx:Loc X.env.scope x:=by first|exact .inl rfl|exact .inr rfl)(hf:X.fn x=true\/X.env.scope.names.lookup x=some .local:=by first|exact .inl rfl|exact .inr rfl|assumption):SG X T (.Name x pos) (tgN i):=xD hN hi hx hf
def cS(h:k<=i:=by decide):fO (tgN i) k:=ui h
def uE(cx:Ctx X T W kk)(he:SE X T W e m)(hN:X.N[i]?=some x:=by rfl)(hv:Vis X.env.scope x:=by first|exact Or.inl rfl|exact Or.inr (Or.inl rfl)|exact Or.inr (Or.inr rfl))
  (hs:swapsWith (.Call (.Attribute (.Name x px) "append" apos) [e] [] cpos) none pos.line X.env=pure false:=by rfl) (hst:starEach [e] X.env=[(false,eval e X.env)]:=by rfl)
  (hfew:((backTo cpos (starEach [e] X.env)).all (fun x=>!x.1)&&(backToKw cpos (keywordEach [] X.env)).all (fun x=>x.1.isSome)&&decide ([e].length+([]:List Keyword).length+(if([]:List Keyword).isEmpty then 0 else 1)<30))=true:=by rfl)
  (hline:(apos.endLine==cpos.line)=true:=by rfl) (hd:(x ==("__debug__":Str))=false:=by decide) (hcd:(x ==("__classdict__":Str))=false:=by decide) :
  SS X T W (.Expr (.Call (.Attribute (.Name x px) "append" apos) [e] [] cpos) pos) (cz i m):=rP cx.hK hN hv he hs hst hfew hline hd hcd
def sFld(k:Nat)(t:Tx p X.K X.mg)(cx:Ctx X (p.T hA X.K) W kk)(he:SE X (p.T hA X.K) W e m)(hf:iR p.A k=f:=by rfl)(hm:f∈p.A:=by decide)(hN:X.N[i]?=some x:=by rfl)
  (hv:Vis X.env.scope x:=by first|exact Or.inl rfl|exact Or.inr (Or.inl rfl)|exact Or.inr (Or.inr rfl))
  (hs:swapsWith e (some (.Attribute (.Name x px) f pos')) pos.line X.env=pure false:=by rfl) (hd:(x ==("__debug__":Str))=false:=by decide) (hcd:(x ==("__classdict__":Str))=false:=by decide) :
  SS X (p.T hA X.K) W (.Assign [.Attribute (.Name x px) f pos'] e pos) (fe i k m):=z_ cx.hK hf (t.cls _) (fun c _=>t.cn c f hm) hN hv he hs hd hcd
def bQ(c:Nat)(t:Tx p X.K X.mg)(cx:Ctx X (p.T hA X.K) W k)(hB:X.K.In X.base)(hx:XM X (p.T hA X.K) W)(ha:SA X (p.T hA X.K) W (e::es) ms)
  (hm:pk ("":Str) p.X c=x:=by rfl) (hg:Gl X x:=by rfl) (hn:fk ms n:=by repeat' first|exact c9|apply cA) (hn2:n<=100:=by decide) (hd:(x ==("__debug__":Str))=false:=by decide)
  (he:starEach (e::es) X.env=(false,eval e X.env)::starEach es X.env:=by rfl) (hpl:(backTo cpos (starEach es X.env)).any (·.1)=false:=by rfl) :
  SS X (p.T hA X.K) W (.Raise (some (.Call (.Name x np) (e::es) [] cpos)) none pos) (a_ c ms):=
 rM cx (by subst hm;exact t.xg c) hB (yW (t.xe c)).2 hx hg hn hn2 ha hd he hpl
def ny(c:Nat)(t:Tx p X.K X.mg)
  (G:b8 X.prog X.w X.K X.mg X.base (CXP X.prog X.w) k (p.fa X.K i) (dAt X.K (p.fa X.K i)) (p.ps i) (spI (p.T hA X.K) (p.ps i).length m)) (cx:Ctx X (p.T hA X.K) W kk) (ha:SA X (p.T hA X.K) W es ms)
  (hU:(c,i)∈ p.U:=by decide) (hk:k<=kk:=by decide) (hx:pk ("":Str) p.C c=x:=by rfl) (hg:Gl X x:=by rfl) (hN:X.N[0]?=some y:=by rfl) (hv:Vis X.env.scope y:=by first|exact Or.inl rfl|exact Or.inr (Or.inl rfl)|exact Or.inr (Or.inr rfl))
  (hn:fk ms n:=by repeat' first|exact c9|apply cA) (hps:n+1=(p.ps i).length:=by rfl)
  (hdb:(x ==("__debug__":Str))=false:=by decide) (hdy:(y ==("__debug__":Str))=false:=by decide) (hcy:(y ==("__classdict__":Str))=false:=by decide)
  (hst:starEach (.Name y px::es) X.env=(false,eval (.Name y px) X.env)::starEach es X.env:=by rfl) (hpl:(backTo pos (starEach es X.env)).any (·.1)=false:=by rfl)
  (ht:eval (.Call (.Attribute (.Name x q) "__init__" apos) (.Name y px::es) [] pos) X.env=(do
   let ov <- eval (.Name x q) X.env
   standAt apos.atName
   let(f,first) <- holding [ov] (getMethod ov "__init__" pl)
   callWith pos f first (backTo pos (starEach (.Name y px::es) X.env)) (backToKw pos (keywordEach [] X.env))):=by rfl)
  (hs:swapsWith (.Call (.Attribute (.Name x q) "__init__" apos) (.Name y px::es) [] pos) none pos'.line X.env=pure false:=by rfl) :
  SS X (p.T hA X.K) W (.Expr (.Call (.Attribute (.Name x q) "__init__" apos) (.Name y px::es) [] pos) pos') (fU m ms):=
 z7 (pl:=pl) cx (t.su _ hU) G hk hg (by subst hx;exact t.cg c) (t.bn i) hN hv hn hps ha hdb hdy hcy hst hpl ht hs
end
section
variable{X:Cx}{W:Nat->St->Gq}{T:Tb}
abbrev nmC(X:Cx)(caps:List Nat)(tn:Gm):Gm:=caps.map (fun i=>X.N.getD i "")++ tn
def cOf(h:kf X.env.scope scope X.N caps (nmC X caps tn) tn=true):dz X scope caps (nmC X caps tn) tn:=zh h rfl rfl
def dP(tn:Gm)(cx:Ctx X T W kk)(hi:SIc X T W tg iter mi)(hk:fO g caps.length)
  (hb:∀C s H ex,(nmC X caps tn).Nodup->SG (cxC X scope C (nmC X caps tn) s H ex) T tg g/\STs (cxC X scope C (nmC X caps tn) s H ex) T WF ifs mc/\SE (cxC X scope C (nmC X caps tn) s H ex) T WF elt me)
  (h:kf X.env.scope scope X.N caps (nmC X caps tn) tn=true:=by kernel_rfl) (hs:∀x,foldedSetIterable iter X.env x=pure x:=by intro _;rfl):SE X T W (.ListComp elt [⟨tg,iter,ifs,0⟩] scope pos) (aZ caps tn.length mi g mc me):=
 xK (cOf h) cx.calm hi hk (fun C s H ex=>hb C s H ex (cOf h).nd) hs
def f8(tn:Gm)(cx:Ctx X T W kk)(hN:X.N.Nodup)(hi:SIc X T W tg iter mi)(hk:fO g caps.length)
  (hb:∀C s H ex,(nmC X caps tn).Nodup->SG (cxC X scope C (nmC X caps tn) s H ex) T tg g/\STs (cxC X scope C (nmC X caps tn) s H ex) T WF ifs mc/\SE (cxC X scope C (nmC X caps tn) s H ex) T WF elt me)
  (h:kf X.env.scope scope X.N caps (nmC X caps tn) tn=true:=by kernel_rfl) (hy:X.N[i]?=some y:=by rfl) (hx:Loc X.env.scope y:=by first|exact .inl rfl|exact .inr rfl)
  (hsw:swapsWith (.ListComp elt [⟨tg,iter,ifs,0⟩] scope pos) (some (.Name y py)) spos.line X.env=pure true:=by rfl)
  (hs:∀x,foldedSetIterable iter X.env x=pure x:=by intro _;rfl)
  (hf:X.fn y=true\/X.env.scope.names.lookup y=some .local:=by first|exact .inl rfl|exact .inr rfl|assumption) :
  SS X T W (.Assign [.Name y py] (.ListComp elt [⟨tg,iter,ifs,0⟩] scope pos) spos) (a6 i (aZ caps tn.length mi g mc me)):=
 xq (cOf h) cx.calm hN hy hx hi hk (fun C s H ex=>hb C s H ex (cOf h).nd) hsw hs hf
end
end PR
namespace PR
open PySem PySem.Spec L2
open PySem.W (findIn fnOf keepIn nsIn codeIn isFn Frag)
structure PE where
 D:List (FS×Bool)
 G:List (Str×List (Str×Int))
 S:List (Str×Str)
 P:List (Str×Gm)
open PySem.W (fnOf Frag)
end PR
namespace PR
open PySem PySem.Spec L2
def cxF(P:Program)(w:World)(K:PySem.W.Frag)(mg:Ge)(base:Heap)(N:Gm)(qual:Str)(scope:Scope)(f:Addr)(cd:Value)(cl:List (Str×Addr))(A:Around)(outer:List Env)(s:Shared)(H:Hp)(E:XK):Cx where
 prog:=P
 w:=w
 K:=K
 mg:=mg
 base:=base
 A:=A.deeper (envX qual scope s.heap.objs.size f cd cl)
 N:=N
 s₀:=s
 H₀:=H
 env:=envX qual scope s.heap.objs.size f cd cl
 outer:=outer
 stack:=envX qual scope s.heap.objs.size f cd cl::outer
 ex:=[]
 calm:=true
 fn:=fun _=>false
 pn:=[]
 xe:=fun e s'=>wpAny (model P w) (A.deeper (envX qual scope s.heap.objs.size f cd cl)) (leaving (envX qual scope s.heap.objs.size f cd cl) e) (fun _ s''=>CXP P w outer H s E e s'') (fun e' s''=>CXP P w outer H s E e' s'') s'
structure oW(N ps fr:Gm)(sc:Scope):Prop where
 kind:sc.kind=.function
 co:sc.isCoroutine=false
 gen:sc.isGenerator=false
 nd:N.Nodup
 pre:N.take (ps++fr).length=ps++fr
 par:∀x∈ps,sc.names.lookup x=some .local
 fre:∀x∈fr,sc.names.lookup x=some .free
 only:∀y∈sc.names,y.2=.free->y.1∈fr
 nocell:∀y∈sc.names,y.2≠.cell
section
variable{P:Program}{w:World}{K:PySem.W.Frag}{mg:Ge}{base:Heap}{N ps fr:Gm}{qual:Str}{scope:Scope}{f:Addr}{cd:Value}{cl:List (Str×Addr)}{A:Around}{outer:List Env}{s:Shared}{H:Hp}{E:XK}
def j7:∀{ps:Gm}{us:Gj}{i:Nat}{y:Str}{u:Value},ps.Nodup->ps.length<=us.length->ps[i]?=some y->us[i]?=some u->(ps.zip us).reverse.lookup y=some u:=by
 intro ps us i y u nd hl h1 h2;have key:∀(l:List (Str×Value)),(l.map (·.1)).Nodup->(y,u)∈ l->l.lookup y=some u:=by
  intro l
  induction l with
  |nil=>intro _ h;cases h
  |cons p l ih=>
   intro n h;obtain⟨a,b⟩:=p;rw[map_cons,nodup_cons]at n;rw[lookup_cons];by_cases e:y=a
   ·subst e;rw[beq_self_eq_true];rcases mem_cons.mp h with h|h
    ·cases h;rfl
    ·exact absurd (List.mem_map_of_mem (f:=(·.1)) h) n.1
   ·rw[beq_eq_false_iff_ne.mpr e];rcases mem_cons.mp h with h|h
    ·cases h;exact absurd rfl e
    ·exact ih n.2 h
 refine key _ ?_ (List.mem_reverse.mpr ?_)
 ·rw[List.map_reverse];refine(List.reverse_perm _).nodup_iff.mpr ?_;rw[List.map_fst_zip hl];exact nd
 ·have:(ps.zip us)[i]?=some (y,u):=by rw[List.getElem?_zip_eq_some];exact⟨h1,h2⟩
  exact List.mem_of_getElem? this
def pQ(S:oW N ps fr scope)(hd:A.handled=none)(e0:mU P w K mg base A outer s H)(C:Clo H fr cl cvs)(hl:vs.length=ps.length)(r:aE vs us)
  (hns:h'.Ns s.heap.objs.size fun x=>(ps.zip us).reverse.lookup x) (hk:∀b o,s.heap.get? b=some o->h'.get? b=some o) :
  Inv (cxF P w K mg base N qual scope f cd cl A outer s H E) [] (start N (vs++cvs)) H {s with heap:=h',toks:=t}:=by
 have hpl:(ps++fr).length<=N.length:=by have:=congrArg List.length S.pre;rw[length_take]at this;omega
 have noA:∀b:Addr,b ∉(cxF P w K mg base N qual scope f cd cl A outer s H E).ex:=fun b z=>absurd (show b ∈([]:Gk)from z) (by simp);have ndN:=S.nd;rw[<- List.take_append_drop (ps++fr).length N,S.pre]at ndN;have ndP:ps.Nodup:=(nodup_append.mp (nodup_append.mp ndN).1).1;refine ⟨⟨e0.mod,S.kind,rfl,rfl,Nat.le_refl _,C.inj,fun y hy=>?_,fun y c h=>(nomatch h),fun _=>hd,Around.frames_deeper e0.frames,.inr ⟨rfl,rfl⟩,fun b z=>absurd z (noA b),e0.bs,e0.bsz,fun b _ _=>noA b,fun b z=>absurd z (noA b),e0.funs,e0.frf⟩,
  rfl,e0.bare,Un.kept hk,⟨_,hns,fun i y v h1 h2 h3=>?_⟩,fun y c h=>?_,e0.hok.fresh (Nat.le_refl _),fun y c h=>?_,fun p hp=>absurd (show p ∈([]:Gg)from hp) (by simp),e0.hok.kept hk,?_⟩
 ·have hy:scope.names.lookup y=some .cell\/scope.names.lookup y=some .free:=hy;rcases hy with hy|hy
  ·exact absurd rfl (S.nocell _ (PySem.mem_of_lookup hy))
  ·obtain⟨i,hi,e⟩:=getElem_of_mem (S.only _ (PySem.mem_of_lookup hy) rfl);have hv:i<cvs.length:=by rw[C.len];exact hi
   obtain⟨c',_,_,_,q1,_⟩:=C.val i y cvs[i] (by rw[getElem?_eq_getElem hi,e]) (getElem?_eq_getElem hv);exact⟨c',q1⟩
 ·have hi:i <(vs++cvs).length:=by
   unfold L2.start at h2;by_cases hi:i <(vs++cvs).length
   ·exact hi
   ·rw[getElem?_append_right (by simpa using hi)]at h2;rw[getElem?_replicate]at h2;split at h2<;>cases h2
  have ha:(vs++cvs)[i]?=some v:=by
   unfold L2.start at h2;rw[getElem?_append_left (by simpa using hi),getElem?_map]at h2;cases e:(vs++cvs)[i]? with
   |none=>rw[e]at h2;cases h2
   |some a=>rw[e]at h2;cases h2;rfl
  have hpf:(ps++fr)[i]?=some y:=by rw[<- S.pre,List.getElem?_take_of_lt (by rw[length_append]at hi ⊢;rw[<- hl,<- C.len];exact hi)];exact h1
  by_cases hip:i<vs.length
  ·rw[getElem?_append_left hip]at ha;rw[getElem?_append_left (by rw[<- hl];exact hip)]at hpf;obtain⟨u,hu,rv⟩:=r.get ha;exact⟨u,rv,.inl ⟨S.par y (List.mem_of_getElem? hpf),j7 ndP (by rw[<- r.length,hl];exact Nat.le_refl _) hpf hu⟩⟩
  ·rw[getElem?_append_right (by omega)]at ha;rw[getElem?_append_right (by omega),<- hl]at hpf;obtain⟨c,o,u,z,q1,q2,q3,q4⟩:=C.val _ y v hpf ha;exact⟨z,q4,.inr ⟨.inr (S.fre y (List.mem_of_getElem? hpf)),c,q1,o,hk c o (e0.hok c _ q2).1,q3⟩⟩
 ·obtain⟨o,u,z,q1,q2⟩:=C.at h;exact⟨_,o,hk c o (e0.hok c _ q1).1,q2⟩
 ·obtain⟨o,u,z,q1,q2⟩:=C.at h;exact .inr ⟨rfl,o,u,q1⟩
 ·unfold L2.start;show _=N.length;rw[length_append,length_map,List.length_replicate];have:(vs++cvs).length=(ps++fr).length:=by rw[length_append,length_append,hl,C.len]
  omega
def E7:XF (cxF P w K mg base N qual scope f cd cl A outer s H E) T (WD T E):=by intro js Y H1 s1 c H2 e s2 I fl hW;obtain⟨x,a0,Bh,rfl,fly,tr,ol⟩:=fl.fly;refine wpAny_leaves_onW (L:=s.heap.objs.size) I.ok.frames rfl fly fun h' fly' up=>?_;obtain⟨h2,g2,d2,t2,os2⟩:=s2;exact⟨_,H2,gG I rfl rfl rfl fl.os fl.bare fl.un fl.hok tr ol fly' up,hW⟩
def Eu{T:Tb}(hr:cG k (A.deeper (envX qual scope s.heap.objs.size f cd cl))):Ctx (cxF P w T.K mg base N qual scope f cd cl A outer s H E) T (WD T E) k:=⟨rfl,rfl,hr,E7,PassesOwn.leaving⟩
def FnF(P:Program)(w:World)(K:PySem.W.Frag)(mg:Ge)(base:Heap)(k:Nat)(name qual:Str)(params:Arguments)(body:List Stmt)(scope:Scope)(ps fr:Gm)(sp:Sp):Prop:=
 ∀(A:Around) (outer:List Env) (s:Shared) (H:Hp) (f:Addr) (o:Obj) (cl:List (Str×Addr)) (doc pm ctv cdv:Value) (cvs vs:Gp) (us:Gj) (args:Args) (Q:VK) (E:XK),
  cG k A->mU P w K mg base A outer s H->s.heap.get? f=some o->o.data=.func (fnX name qual params body scope cl .none .none doc pm none cdv ctv)->s.heap.CodeRec cdv qual->Clo H fr cl cvs ->
  BindsTo s (fnX name qual params body scope cl .none .none doc pm none cdv ctv) args (ps.zip us)->aE vs us->vs.length=ps.length->sp (vs++cvs) H Q E ->
  codeAny (model P w) A (.call (.ref f) args) (CR (CXP P w) outer P w H s Q E) s
end
end PR
namespace L2
open PySem PySem.Spec
def uT:HO:=.ext fun _=>True
def qD{P:Program}{w:World}{H:Hp}{h:Heap}{a:Addr}{o:Obj}(e:h.get? a=some o):cD P w H h a (.frz o uT):=⟨e,True.intro,⟨o,e⟩,fun _ _ _ _=>True.intro⟩
section
variable{X:Cx}{js:Gg}{Y:List (Option V)}{H:Hp}{s:Shared}
def Inv.frzC{x:Str}{c:Addr}(I:Inv X js Y H s)(hc:X.env.cells.lookup x=some c)(hf:X.fn x=false)(ha:X.s₀.heap.objs.size<=c) :
  ∃H' o u,(∀b z,H b=some z->H' b=some z)/\H' c=some (.frz o u)/\s.heap.get? c=some o/\Inv X js Y H' s:=by
 rcases I.freeC x c hc with hn |⟨_,o,u,hn⟩
 ·obtain⟨v,o,ho,hd⟩:=I.cell x c hc;have ext:∀b z,H b=some z->upd H c (.frz o uT) b=some z:=fun b z e=>by rw[az (aY e hn)];exact e
  have old:∀b ob,X.s₀.heap.get? b=some ob->b≠c:=fun b ob e=>Nat.ne_of_lt (Nat.lt_of_lt_of_le (lt_size e) ha);refine⟨upd H c (.frz o uT),o,uT,ext,aM,ho,⟨I.ok,I.os,I.bare,⟨I.base.keep,I.base.slot,fun b ob e n hx=>?_,I.base.there,fun b xs e=>ext _ _ (I.base.tups b xs e),fun b ob u e=>ext _ _ (I.base.frzs b ob u e),fun b ps e=>?_⟩,I.loc,I.cell,?_,fun y d hy=>?_,fun p hp=>?_,fun b z e=>?_,I.len⟩⟩
  ·rw[az (old b ob e)];exact I.base.free b ob e n hx
  ·obtain⟨m,e'⟩:=I.base.tbls b ps e;exact⟨m,ext _ _ e'⟩
  ·rw[az (Ne.symm (I.cne x c hc))];exact I.free
  ·by_cases q:d=c
   ·subst q;obtain rfl:=I.ok.inj x y d hc hy;exact .inr ⟨hf,o,uT,aM⟩
   ·rw[az q];exact I.freeC y d hy
  ·obtain⟨e,n,np,nf,nd⟩:=I.pin p hp;refine⟨e,?_,np,nf,nd⟩;rw[az fun q=>?_];exact n;rw[q,ho]at e;cases e;exact nd v hd
  ·by_cases q:b=c
   ·subst q;rw[aM]at e;cases e;exact qD ho
   ·rw[az q]at e;exact(I.hok b z e).stay (fun _ _ _ h=>h) (fun d h=>ext _ _ h) fun d u _ h=>ext _ _ h
 ·exact⟨H,o,u,fun _ _ e=>e,hn,(I.hok c _ hn).1,I⟩
end
end L2
namespace L2
open PySem PySem.Spec
section
variable{X:Cx}{js:Gg}{Y:List (Option V)}{H:Hp}{s:Shared}{M:Model}{A:Around}{E:Gc}{Q:Gc}{name qual:Str}{params:Arguments}{body:List Stmt}{scope:Scope}{c0 Pt:Addr}{pos:Pos}{fl:Nat}{clos:List (Str×Addr)}
def xi(I:Inv X js Y H s)(hP:H Pt=some (.tbl #[rawInt pos.line,rawInt pos.col,.str qual 0]))(C:CodeHd X.base c0 Pt)(hcode:X.env.code=.ref c0)(hbt:X.base.BuiltinsAt X.mg Pt)(hcl:closureFor scope X.env=pure clos)
  (h:∀ f c' oc u vs t ctv doc H' s',(∀ b z,H b=some z->H' b=some z)->H' f=some (.frz (fnMade name qual params body scope clos doc ((X.mg "__name__").getD .none) c' ctv) uT)->H' c'=some (.frz oc u) ->
   oc.data=.fields vs->vs[1]?=some (.str qual t)->Inv X js Y H' s'->Q (.ref f) s') :
  wpAny M A (makeFunction name qual params (.stmts body) scope X.env [] [] [] pos fl) Q E s:=by
 obtain⟨qs,hq,tab⟩:=I.hok Pt _ hP;have hg:s.heap.Ns mainGlobals X.mg:=I.mod.glob.keeps I.bk;have C':=C.keeps I.bk;have hgP:mainGlobals≠Pt:=fun z=>by obtain⟨o,es,ep,e,hd,_⟩:=hg;rw[z,hq]at e;cases e;cases hd
 obtain⟨bm,ob,b1,b2,b3,b4,b5,b6⟩:=hbt;have bt:s.heap.BuiltinsAt X.mg Pt:=⟨bm,ob,b1,b2,b3,b4,I.bk _ _ b5,b6⟩
 have nP:∀b,H b=none->b≠Pt:=fun b n z=>by rw[z,hP]at n;cases n
 rcases tab with rfl |⟨l,c,q,t0,c',oc,u,vs,t,e1,rfl,e3,e4,e5⟩
 ·refine PySem.W.makeFunction_K (mg:=X.mg) hcl I.ok.glob hg hcode C' hq True.intro rfl hgP bt fun c' ctv doc h' tk hx hge hlt hrec htb=>?_;obtain⟨c2,oc,vs,t,e2,hoc,hd,hv⟩:=hrec;cases e2;have hn:=I.hok.fresh hge;have ext:∀b z,H b=some z->upd H c' (.frz oc uT) b=some z:=fun b z e=>by rw[az (aY e hn)];exact e
  have kp:∀b o,s.heap.get? b=some o->H b=none->h'.get? b=some o:=fun b o e n=>hx b o (nP b n) e;have I1:Inv X js Y (upd H c' (.frz oc uT)) {s with heap:=h',toks:=tk}:=I.un
   ⟨fun b o e n _ _=>kp b o e n,fun b o e n _ _=>⟨o.slots,kp b o e n⟩,fun b o e n _=>by rw [az (Nat.ne_of_lt (Nat.lt_of_lt_of_le (lt_size e) hge))];exact n,
    fun b o e _=>by
     by_cases z:b=Pt
     ·subst z;exact⟨_,htb⟩
     ·exact⟨o,hx b o z e⟩,fun b xs e=>ext _ _ e,fun b o u e=>ext _ _ e,fun b ps e=>⟨#[],by rw[ext _ _ e];simp⟩⟩
   fun b z e=>by
    by_cases hb:b=c'
    ·subst hb;rw[aM]at e;cases e;exact qD hoc
    ·rw[az hb]at e;by_cases hp:b=Pt
     ·subst hp;rw[hP]at e;cases e;exact⟨_,htb,.inr ⟨_,_,_,_,c',oc,uT,vs,t,rfl,rfl,aM,hd,hv⟩⟩
     ·refine(I.hok b z e).stay (fun d o hd r=>hx d o ?_ r) (fun d r=>ext _ _ r) fun d u _ r=>ext _ _ r;rcases hd with rfl|hd
      ·exact hp
      ·rintro rfl;rw[hP]at hd;cases hd
  have hf:=I1.hok.fresh (Nat.le_refl _);have I2:=I1.laid (t':=tk) (fun b u e=>get?_push_of_some (fnMade name qual params body scope clos doc ((X.mg "__name__").getD .none) c' ctv) e) (Nat.le_refl _) (qD (get?_push_size _ rfl));refine h _ c' oc uT vs t ctv doc _ _ (fun b z e=>?_) aM ?_ hd hv I2
  ·have:=ext b z e;rw[az (aY this hf)];exact this
  ·rw[az (Nat.ne_of_lt hlt),aM]
 ·have e1:rawInt pos.line=l/\rawInt pos.col=c/\Value.str qual 0=.str q t0:=by simpa using e1
  obtain⟨rfl,rfl,e1⟩:=e1;cases e1;refine PySem.W.makeFunction_hit (mg:=X.mg) (cv:=.ref c') hcl I.ok.glob hg hcode C' hq True.intro (by simp[codeAmong,rawInt]) bt fun ctv doc h' tk hk hsz=>?_;have I1:Inv X js Y H {s with heap:=h',toks:=tk}:=I.kept hk;have hf:=I1.hok.fresh (Nat.le_refl _);have I2:=I1.laid (t':=tk) (fun b u e=>get?_push_of_some (fnMade name qual params body scope clos doc ((X.mg "__name__").getD .none) c' ctv) e) (Nat.le_refl _) (qD (get?_push_size _ rfl));have ext:∀b z,H b=some z->upd H h'.objs.size (.frz (fnMade name qual params body scope clos doc ((X.mg "__name__").getD .none) c' ctv) uT) b=some z:=fun b z e=>by rw[az (aY e hf)];exact e
  exact h _ c' oc u vs t ctv doc _ _ ext aM (ext _ _ e3) e4 e5 I2
end
end L2
namespace L2
open PySem PySem.Spec
section
variable{X:Cx}{js:Gg}{Y:List (Option V)}{s:Shared}
def Inv.frzL:∀(l:List (Str×Addr)),(∀p∈l,X.env.cells.lookup p.1=some p.2/\X.fn p.1=false/\X.s₀.heap.objs.size<=p.2)->∀{H:Hp},Inv X js Y H s ->
  ∃H',(∀b z,H b=some z->H' b=some z)/\(∀p∈l,∃o u,H' p.2=some (.frz o u)/\s.heap.get? p.2=some o)/\Inv X js Y H' s
 | [],_,H,I=>⟨H,fun _ _ e=>e,fun _ z=>(nomatch z),I⟩
 |p::l,h,H,I=>by
  obtain⟨h1,h2,h3⟩:=h p (.head _);obtain⟨H1,o,u,e1,q1,g1,I1⟩:=I.frzC h1 h2 h3;obtain⟨H2,e2,q2,I2⟩:=Inv.frzL l (fun q hq=>h q (.tail _ hq)) I1;refine⟨H2,fun b z e=>e2 b z (e1 b z e),fun q hq=>?_,I2⟩;rcases mem_cons.mp hq with rfl|hq
  ·exact⟨o,u,e2 _ _ q1,g1⟩
  ·exact q2 q hq
end
end L2
namespace PR
open PySem PySem.Spec L2
structure zU(X:Cx)(fr:Gm)(caps:List Nat)(clos:List (Str×Addr)):Prop where
 len:caps.length=fr.length
 nm:∀(k:Nat) x,fr[k]?=some x->∃j,caps[k]?=some j/\X.N[j]?=some x/\X.env.kindOf x=some .cell/\∃c,(x,c)∈ clos/\clos.lookup x=some c
 cl:∀x c,clos.lookup x=some c->x∈fr
 mem:∀p∈clos,X.env.cells.lookup p.1=some p.2/\X.fn p.1=false/\X.s₀.heap.objs.size<=p.2
def ww:List Nat->En->Option (Gs)
 | [],_=>some []
 |j::r,env=>match (env[j]?).join,ww r env with
  |some x,some xs=>some (x::xs)
  |_,_=>none
section
variable{X:Cx}{T:Tb}{W:Nat->St->Gq}{Z:Zn}{F:Gh}{H:Hp}{Y:St}{env:En}{fp:Nat->Gk}
def oM(S:ak T Z F H Y env fp):∀{caps:List Nat}{cps:Gs},ww caps env=some cps->dg cps=true ->
  ∃cvs,RelL T F Z.B NoL H cps cvs []/\cvs.length=caps.length/\∀(k j:Nat),caps[k]?=some j->∃v,cvs[k]?=some v/\Y[j]?=some (some v)
 | [],cps,h,_=>by cases h;exact⟨[],by unfold RelL;exact⟨rfl,rfl⟩,rfl,fun k j e=>by simp at e⟩
 |j::r,cps,h,hn=>by
  unfold ww at h;split at h
  ·rename_i x xs hx hxs
   cases h;have hn':dg [x]=true/\dg xs=true:=by simp only[dg,hasL,Bool.or_false,Bool.not_or,and_eq_true,not_eq_true']at hn ⊢;obtain⟨⟨a,b⟩,c,d⟩:=hn;exact⟨⟨a,c⟩,b,d⟩
   obtain⟨cvs,r1,l1,v1⟩:=oM S hxs hn'.2;have hj:env[j]?=some (some x):=by
    cases e0:env[j]? with
    |none=>rw[e0]at hx;cases hx
    |some z=>rw[e0]at hx;simp only[join_some]at hx;rw[hx]
   obtain⟨v,sv,rv⟩:=S.rel j x hj;have rl:RelL T F Z.B NoL H [x] [v] (fp j++[]):=by unfold RelL;exact⟨v,[],fp j,[],rfl,rv,by unfold RelL;exact⟨rfl,rfl⟩,rfl⟩
   obtain⟨e,_⟩:=cZ hn'.1 rl;rw[append_nil]at e;rw[e]at rv;refine⟨v::cvs,by unfold RelL;exact⟨v,cvs,[],[],rfl,rv,r1,rfl⟩,by simp[l1],fun k i e=>?_⟩;cases k with
   |zero=>simp at e;subst e;exact⟨v,rfl,sv⟩
   |succ k=>simp at e;simpa using v1 k i e
  ·cases h
end
section
variable{P:Program}{w:World}{K:PySem.W.Frag}{mg:Ge}{base:Heap}{N:Gm}{qual:Str}{scope:Scope}{f:Addr}{cd:Value}{A:Around}{outer:List Env}{s:Shared}{H:Hp}{E:XK}
def zV:XF ((cy (CXP P w) P w K mg base N qual scope f cd A outer s H E).low g) T (WD T E):=by intro js Y H1 s1 c H2 e s2 I fl hW;obtain⟨x,a0,Bh,rfl,fly,tr,ol⟩:=fl.fly;refine wpAny_leaves_onW (L:=s.heap.objs.size) I.ok.frames rfl fly fun h' fly' up=>?_;obtain⟨h2,g2,d2,t2,os2⟩:=s2;exact⟨_,H2,gG I rfl rfl rfl fl.os fl.bare fl.un fl.hok tr ol fly' up,hW⟩
def zf{T:Tb}(hr:cG k (A.deeper (PyProof.Rows.envOfC qual scope s.heap.objs.size f cd))):Ctx ((cy (CXP P w) P w T.K mg base N qual scope f cd A outer s H E).low g) T (WD T E) k:=⟨rfl,rfl,hr,zV,PassesOwn.leaving⟩
abbrev HLs(g:Str->Bool)(X:Cx)(T:Tb)(W:Nat->St->Gq)(sts:List Stmt)(m:MS):Prop:=Ey g X sts (tS T W m)
def Bl{X:Cx}(hf:∀x,X.fn x=true)(h:SSs (X.low g) T W sts m):HLs g X T W sts m:=fun js s Y H D I q=>h js s Y H D (I.low hf g) q
def dX{X:Cx}{aV:List Stmt}(hf:∀x,X.fn x=true)(h1:SS X T W st a)(h2:HLs g X T W aV b):HLs g X T W (st::aV) (ax a b):=by
 intro js s Y H D I ⟨Z,F,env,fp,S,q⟩;refine wpAny_execs_cons (thn (h1 js s Y H {D with nx:=tS T W b D} I ⟨Z,F,env,fp,S,?_⟩) fun f s1 q=>?_)
 ·unfold ax at q;cases e:a env with
  |next e'=>rw[e]at q;exact fun F' H' σ' fp' S'=>⟨Z,F',e',fp',S',q⟩
  |ret v|brk e'|cont e'|exc c e'|stuck=>rw[e]at q;exact q
 ·cases f with
  |next=>obtain⟨σ',H',I',q⟩:=q;exact h2 js s1 σ' H' D I' q
  |ret v=>obtain⟨v,σ',H',I',q⟩:=q;exact⟨v,σ',H',I'.low hf g,q⟩
  |brk=>obtain⟨σ',H',I',q⟩:=q;exact⟨σ',H',I'.low hf g,q⟩
  |cont=>obtain⟨σ',H',I',q⟩:=q;exact⟨σ',H',I'.low hf g,q⟩
def Br{T:Tb}(g:Str->Bool)(F:Fun T.K x qual st f fd)(S:cL N ps (aw st))
  (body:∀ (A:Around) (outer:List Env) (s:Shared) (H:Hp) (E:XK),Ctx (cy (CXP P w) P w T.K mg base N qual (aw st) f fd.code A outer s H E) T (WD T E) k->Ctx ((cy (CXP P w) P w T.K mg base N qual (aw st) f fd.code A outer s H E).low g) T (WD T E) k ->
   HLs g (cy (CXP P w) P w T.K mg base N qual (aw st) f fd.code A outer s H E) T (WD T E) (bu st) m):b8 P w T.K mg base (CXP P w) (k+1) f fd ps (spM T ps.length (bv N.length m)):=by
 obtain⟨oc,od,kV,doc,pm,an,cdv,ct,osl,rfl,lk,hcd⟩:=F.ex;refine v8 g lk hcd S (fun vs H Q E h=>h.1) fun A outer s H vs Q E hr hsp=>⟨_,body A outer s H E (jG hr) (zf hr),?_⟩
 obtain⟨_,pvs,F,B,fl,R,q⟩:=hsp;obtain⟨fp,S0⟩:=gI N R none (fun _ h=>nomatch h);refine⟨_,F,_,fp,S0,?_⟩;unfold bv at q;cases e:m (pvs.map some++replicate (N.length-pvs.length) none)with
 |next e'=>rw[e]at q;exact fun F' H' σ' fp' S'=>q F' H' .non [] S'.hp Dj nodup_nil (fun _ z=>(nomatch z)) (fun _ z=>(nomatch z))
 |ret v=>rw[e]at q;exact q
 |brk e'|cont e'=>rw[e]at q;exact q.elim
 |exc c e'=>rw[e]at q;exact fun F' H' σ' fp' S'=>q H' S'.hp.keep
 |stuck=>rw[e]at q;exact q.elim
end
open PySem.W (keepIn Frag)
structure TG(p:PT)(K:Frag)(mg:Ge)(base:Heap):Prop where
 cd:CodeHd base (p.gt K).1 (p.gt K).2
 bt:base.BuiltinsAt mg (p.gt K).2
 co:(dAt K (p.fa K p.gs.i)).code=.ref (p.gt K).1
 so:p.G.isSome=true
def PT.bx99{p:PT}{hA:p.attOk}{K:Frag}{H:Hp}{f:Addr}{cvs:Gp}:(p.T hA K).bx 99 H f cvs=p.fi.bx H f cvs:=by dsimp only[PT.T];rw[if_pos rfl]
def kj{x:Str}{c:Addr}:∀(names:List (Str×NameKind)) (n:Nat) (acc:List (Str×Addr)),(cellsFrom n names acc).lookup x=some c->n<=c\/acc.lookup x=some c
 | [],n,acc,h=>.inr h
 |(y,k)::r,n,acc,h=>by
  unfold cellsFrom at h;split at h
  ·rcases kj r (n+1) _ h with q|q
   ·exact .inl (Nat.le_of_succ_le q)
   ·rw[lookup_cons]at q;split at q
    ·cases q;exact .inl (Nat.le_refl _)
    ·exact .inr q
  ·exact kj r n acc h
def pZ(N:Gm)(names:List (Str×NameKind)):Gm->List Nat->Bool
 | [],[]=>true
 |x::fr,j::caps=>decide (N[j]?=some x)&&decide (names.lookup x=some .cell)&&pZ N names fr caps
 |_,_=>false
def oN{N:Gm}{names:List (Str×NameKind)}:∀{fr:Gm}{caps:List Nat},pZ N names fr caps=true->caps.length=fr.length
 | [],[],_=>rfl
 |x::fr,j::caps,h=>by simp only[pZ,and_eq_true]at h;simp[oN h.2]
 | [],_::_,h|_::_,[],h=>nomatch h
def mJ{N:Gm}{names:List (Str×NameKind)}:∀{fr:Gm}{caps:List Nat},pZ N names fr caps=true->∀(k:Nat) x,fr[k]?=some x->∃j,caps[k]?=some j/\N[j]?=some x/\names.lookup x=some .cell
 | [],[],_,k,x,e=>by simp at e
 |y::fr,j::caps,h,k,x,e=>by
  simp only[pZ,and_eq_true,decide_eq_true_eq]at h;cases k with
  |zero=>simp at e;subst e;exact⟨j,rfl,h.1.1,h.1.2⟩
  |succ k=>simp at e;simpa using mJ h.2 k x e
 | [],_::_,h,_,_,_|_::_,[],h,_,_,_=>nomatch h
def wx(X:Cx)(fr:Gm):List (Str×Addr):=(fr.map fun x=>(x,(X.env.cells.lookup x).getD 0)).reverse
def oh{x:Str}{f:Str->Addr}:∀{l:List (Str×Addr)},(∀p∈l,p.2=f p.1)->(∃c,(x,c)∈ l)->l.lookup x=some (f x)
 | [],_,h=>by obtain⟨_,h⟩:=h;cases h
 |(y,c)::l,h,⟨d,m⟩=>by
  rw[lookup_cons];by_cases e:x=y
  ·subst e;rw[beq_self_eq_true];exact congrArg some (h _ (.head _))
  ·rw[beq_eq_false_iff_ne.mpr e];rcases mem_cons.mp m with m|m
   ·cases m;exact absurd rfl e
   ·exact oh (fun p hp=>h p (.tail _ hp)) ⟨d,m⟩
section
variable{P:Program}{w:World}{K:Frag}{mg:Ge}{base:Heap}{p:PT}{hA:p.attOk}
def Fs(i:Nat)(t:Tx p K mg)(body:∀ (A:Around) (outer:List Env) (s:Shared) (H:Hp) (E:XK),Ctx (cy (CXP P w) P w K mg base (p.fs i).N (p.fs i).q (aw (p.fs i).s) (p.fa K i) (dAt K (p.fa K i)).code A outer s H E) (p.T hA K) (WD (p.T hA K) E) k->Ctx ((cy (CXP P w) P w K mg base (p.fs i).N (p.fs i).q (aw (p.fs i).s) (p.fa K i) (dAt K (p.fa K i)).code A outer s H E).low fun _=>false) (p.T hA K) (WD (p.T hA K) E) k->(p.fs i).N.Nodup ->
  HLs (fun _=>false) (cy (CXP P w) P w K mg base (p.fs i).N (p.fs i).q (aw (p.fs i).s) (p.fa K i) (dAt K (p.fa K i)).code A outer s H E) (p.T hA K) (WD (p.T hA K) E) (bu (p.fs i).s) m):OkF p hA P w K mg base (k+1) i (bv (p.fs i).N.length m):=
 Br (T:=p.T hA K) (fun _=>false) (t.fn i) (t.sc i) fun a b c d e f g=>body a b c d e f g (t.sc i).nd
def PT.gp(p:PT):Gm:=p.gs.N.take p.gs.k
def PT.scF(p:PT):Bool:=decide (p.fi.scope.kind=.function)&&!p.fi.scope.isCoroutine&&!p.fi.scope.isGenerator&&decide p.gs.N.Nodup&&decide (p.gs.N.take (p.gp++p.gs.fr).length=p.gp++p.gs.fr) &&
 p.gp.all (fun y=>decide (p.fi.scope.names.lookup y=some .local))&&p.gs.fr.all (fun y=>decide (p.fi.scope.names.lookup y=some .free))&&p.fi.scope.names.all (fun y=>decide (y.2≠.cell/\(y.2=.free->y.1∈p.gs.fr)))
def EB(p:PT):Prop:=∀(cl:List (Str×Addr)) (doc pm ctv cdv:Value) (us:Gj),us.length=p.gp.length->bindArgs (fnX p.fi.name p.fi.qual p.fi.params p.fi.body p.fi.scope cl .none .none doc pm none cdv ctv) ⟨us,[]⟩=pure (p.gp.zip us)
end
end PR
namespace PR
open PySem PySem.Spec PyProof.Rows L2
open PySem.W (Frag)
def sU{P:Program}{w:World}{K:Frag}{mg mb:Ge}{CX:CXT}{k:Nat}{fa a c0 Pt:Addr}{ps:Go}{fd:FuncData}{x:Str}{sp:Sp}{s₁:Shared}{vs:Gj}{ns:Gi}
  (KX:K.In s₁.heap) (hns:s₁.heap.Ns mainGlobals mg) (hb:s₁.heap.Ns builtinsNs mb) (hbb:∀x:Str,x≠"__name__" -> mb x=bootBuiltins x) (hlim:s₁.heap.NoLimit) (hg:s₁.gens=#[])
  (ha:s₁.heap.get? a=some {cls:=.type "list",data:=.seq vs.toArray}) (hi:IntsAre vs ns) (hl:ns.length<=sizeLine) (hr:cG k callerA)
  (hC:CodeHd s₁.heap c0 Pt) (hP:s₁.heap.get? Pt=some (PySem.W.tabObj #[])) (hPk:K.lookup Pt=none) (hB:s₁.heap.BuiltinsAt mg Pt)
  (F:∀base:Heap,K.In base->base.Ns mainGlobals mg->CodeHd base c0 Pt->base.BuiltinsAt mg Pt->b8 P w K mg base CX k fa fd [x] sp) (hbind:∀(s:Shared) (u:Value),BindsTo s fd ⟨[u],[]⟩ [(x,u)])
  (hsp:∀H:Hp,H Pt=some (.tbl ps)->SqL K H a (ns.map V.int)->sp [.ref a] H (fun v _=>v=.bl true) fun _ _ _=>False)
  (hCX:∀H e s',CX [] H s₁ (fun _ _ _=>False) e s'->False) :
  codeAny (model P w) callerA (.call (.ref fa) ⟨[.ref a],[]⟩) (fun r s'=>r=.ok (.ret (.bool true))/\OldK s₁.heap s'.heap/\s'.os=s₁.os/\AllBare s'.gens) s₁:=by
 have rv:=kL hi;have lenV:=hi.length;have nPa:Pt≠a:=fun z=>by rw[z,ha]at hP;cases hP
 have core:∀H:Hp,H Pt=some (.tbl ps)->(∀b,b≠Pt->H b=none\/∃o xs,H b=some (.frz o (.lst xs)))->SqL K H a (ns.map V.int)->HOk P w H s₁.heap->(∀b,b≠Pt->H b≠none->b=a)->(H a≠none->K.lookup a=none)->
   codeAny (model P w) callerA (.call (.ref fa) ⟨[.ref a],[]⟩) (fun r s'=>r=.ok (.ret (.bool true))/\OldK s₁.heap s'.heap/\s'.os=s₁.os/\AllBare s'.gens) s₁:=by
  intro H hT hO hS hok hA hK;have base_of:∀{b:Addr}{o:Obj},s₁.heap.get? b=some o->H b=none->(ka s₁.heap H).get? b=some o:=fun e n=>vZ e n;have out:∀{b:Addr}{o:Obj},s₁.heap.get? b=some o->b≠Pt->o.cls≠.type "list" -> H b=none:=fun {b o} e n d=>by
   cases q:H b with
   |none=>rfl
   |some u=>have e':b=a:=hA b n (by rw[q];simp);subst e';rw[ha]at e;cases e;exact absurd rfl d
  have noA:∀{b:Addr}{o:Obj}{es:Array DictEntry}{ep:Nat},s₁.heap.get? b=some o->o.data=.dict es ep->H b=none:=fun {b o es ep} e d=>by
   cases q:H b with
   |none=>rfl
   |some u=>
    by_cases z:b=Pt
    ·subst z;rw[hP]at e;cases e;cases d
    ·have e':b=a:=hA b z (by rw[q];simp);subst e';rw[ha]at e;cases e;cases d
  have nsK:∀{b:Addr}{m:Ge},s₁.heap.Ns b m->(ka s₁.heap H).Ns b m:=fun {b m} ⟨o,es,ep,e,d,r⟩=>⟨o,es,ep,base_of e (noA e d),d,r⟩
  have hKb:K.In (ka s₁.heap H):=fun b o e=>base_of (KX b o e) (by
   cases q:H b with
   |none=>rfl
   |some u=>
    by_cases z:b=Pt
    ·subst z;rw[hPk]at e;cases e
    ·have e':b=a:=hA b z (by rw[q];simp);subst e';rw[hK (by rw[q];simp)]at e;cases e)
  have hCb:CodeHd (ka s₁.heap H) c0 Pt:=by obtain⟨o,us,file,tf,flags,tg,inF,text,tt,e1,r1,r2,r3,r4,r5,r6,r7,r8,hne⟩:=hC;exact⟨o,us,file,tf,flags,tg,inF,text,tt,base_of e1 (out e1 hne (by rw[r1];simp)),r1,r2,r3,r4,r5,r6,r7,r8,hne⟩
  have hBb:(ka s₁.heap H).BuiltinsAt mg Pt:=by obtain⟨bm,o,b1,b2,b3,b4,b5,b6,r⟩:=hB;exact⟨bm,o,b1,b2,b3,b4,base_of b5 (out b5 b4 (by rw[b6];simp)),b6,r⟩
  have hM:Mod K mg (ka s₁.heap H):=⟨hKb,nsK hns,⟨mb,nsK hb,hbb⟩,let⟨mc,h1,h2⟩:=hlim;⟨mc,nsK h1,h2⟩⟩
  have e0:mU P w K mg (ka s₁.heap H) callerA [] s₁ H:=⟨rfl,hM,fun b o e=>yq e,Nat.le_of_eq (tj _ _),trivial,fun b hb=>absurd (show b ∈([]:Gk)from hb) (by simp),hok,.of_eq hg⟩
  refine codeAny_mono ((F _ hKb (nsK hns) hCb hBb).run callerA [] s₁ H ⟨[.ref a],[]⟩ [.ref a] [.ref a] _ _ hr e0 (hbind s₁ (.ref a)) (.cons rfl .nil) (hsp H hT hS)) fun r s' h=>?_;cases r with
  |error e=>exact(hCX H e s' h).elim
  |ok fl=>
   cases fl with
   |next|brk|cont=>exact False.elim h
   |ret u=>
    obtain⟨v,H',os,bare,un,hok',r',q⟩:=h;have q':v=.bl true:=q;subst q';obtain rfl:u=Value.bool true:=r';have keep:∀b o,b≠Pt->s₁.heap.get? b=some o->s'.heap.get? b=some o:=fun b o n e=>by
     cases q:H b with
     |none=>exact un.keep b o e q (by intro z;exact absurd (show b ∈([]:Gk)from z) (by simp)) (by simp)
     |some u=>
      rcases hO b n with z |⟨ob,xs,z⟩
      ·rw[q]at z;cases z
      ·have z2:=un.frzs b ob _ z;obtain⟨e1,_⟩:=hok b _ z;obtain⟨e2,_⟩:=hok' b _ z2;rw[e]at e1;cases e1;exact e2
    obtain⟨more,hT'⟩:=un.tbls Pt ps hT;obtain⟨qs,hq,_⟩:=hok' Pt _ hT';refine⟨rfl,⟨fun b o e=>?_,fun b o e=>?_⟩,os,bare⟩
    ·by_cases z:b=Pt
     ·subst z;rw[hP]at e;cases e;exact .inr (.inl ⟨(hC.tab hP).isCodeTable,rfl,#[],qs,rfl,by rw[Array.empty_append];exact hq⟩)
     ·exact .inl (keep b o z e)
    ·by_cases z:b=Pt
     ·subst z;exact⟨_,hq⟩
     ·exact⟨o,keep b o z e⟩
 have tOk:∀H:Hp,cD P w H s₁.heap Pt (.tbl ps):=fun H=>⟨#[],hP,.inl rfl⟩
 cases hk:K.lookup a with
 |some o=>
  have e:=KX a o hk;rw[ha]at e;cases e;refine core (fun b=>if b=Pt then some (.tbl ps)else none) (if_pos rfl) (fun b n=>.inl (if_neg n)) (.inr ⟨_,vs.toArray,_,hk,rfl,rfl,rfl,by rw[size_toArray,lenV];exact hl,by simpa using rv⟩) (fun b u z=>?_) (fun b n z=>absurd (if_neg n) z) fun z=>absurd (if_neg (Ne.symm nPa)) z;by_cases hb:b=Pt
  ·have z':=(if_pos hb).symm.trans z;cases z';subst hb;exact tOk _
  ·have z':=(if_neg hb).symm.trans z;cases z'
 |none=>
  refine core (fun b=>if b=Pt then some (.tbl ps)else if b=a then some (.frz {cls:=.type "list",data:=.seq vs.toArray} (.lst (ns.map V.int)))else none) (if_pos rfl) (fun b n=>?_) (.inl (.inr ⟨{cls:=.type "list",data:=.seq vs.toArray},(if_neg (Ne.symm nPa)).trans (if_pos rfl)⟩)) (fun b u z=>?_) (fun b n z=>?_) fun _=>hk
  ·by_cases hb:b=a
   ·exact .inr ⟨_,_,(if_neg n).trans (if_pos hb)⟩
   ·exact .inl ((if_neg n).trans (if_neg hb))
  ·by_cases hp:b=Pt
   ·have z':=(if_pos hp).symm.trans z;cases z';subst hp;exact tOk _
   ·by_cases hb:b=a
    ·have z':=((if_neg hp).trans (if_pos hb)).symm.trans z;cases z';subst hb;exact⟨ha,by rw[length_map];exact hl,vs,_,rv,ha⟩
    ·have z':=((if_neg hp).trans (if_neg hb)).symm.trans z;cases z'
  ·by_cases hb:b=a
   ·exact hb
   ·exact absurd ((if_neg n).trans (if_neg hb)) z
def PT.chG(p:PT)(K:Frag):Bool:=(tabIn K (bc (p.fs p.gs.i).s)).isSome&&(K.lookup (p.gt K).2).isNone&&decide ((dAt K (p.fa K p.gs.i)).code=.ref (p.gt K).1)&&p.G.isSome
def sT{l:PySem.W.OpenLaw}{k:Nat}{x:Str}{q:Program}{loose:Gm}{XP:(Ge)->Heap->Prop}{YP:World->Heap->Prop}{d:DefRec}{K:Params->Frag}(p:PT)(hA:p.attOk)(hn:l.most=some 63)(hdf:d.params.defaults=[])(hr:cG k callerA)
  (hY:∀(w:World) (h:Heap),YP w h->(K w.params).In h) (hrec:((recsOf q).find? fun e=>e.name==bc (p.fs p.gs.i).s).isSome=true) (hG:∀w:World,p.chG (K w.params)=true)
  (F:∀ (w:World) (mg:Ge) (fa:Addr) (h:Heap),(K w.params).In h->h.Ns mainGlobals mg->mg d.name=some (.ref fa) ->
   ∃fd:FuncData,(∀(s:Shared) (u:Value),BindsTo s fd ⟨[u],[]⟩ [(x,u)])/\∀base:Heap,(K w.params).In base->TG p (K w.params) mg base->b8 l.prog w (K w.params) mg base (CXP l.prog w) k fa fd [x] (ut (K w.params) (p.T hA (K w.params)).tb)) :
  PySem.W.WalkO q loose XP YP l.row.toRowW d [] (fun f vs=>PySem.call f vs):=by
 refine Att.attach_call hn hdf fun w s₀ s₁ mg mb fa o pm cd doc a vs ns G td ho hd hcd hmg hobj hints hlen hg=>?_;have KX:=hY w _ td;obtain⟨fd,hb,hF⟩:=F w mg fa _ KX G.T.g hmg;have h:=hG w;simp only[PT.chG,and_eq_true,decide_eq_true_eq]at h;obtain⟨⟨⟨h1,h2⟩,h3⟩,h4⟩:=h;have ht:tabIn (K w.params) (bc (p.fs p.gs.i).s)=some ((p.gt (K w.params)).1,(p.gt (K w.params)).2):=by
  unfold PT.gt;cases e:tabIn (K w.params) (bc (p.fs p.gs.i).s)with
  |none=>rw[e]at h1;cases h1
  |some z=>rfl
 obtain⟨d',hd'⟩:=isSome_iff_exists.mp hrec;obtain⟨hC,hP⟩:=PySem.W.tab_of G.T KX hd' ht;have hB:s₁.heap.BuiltinsAt mg (p.gt (K w.params)).2:=by
  obtain⟨bm,ob,b1,b2,b3,b4,b5,b6⟩:=G.T.bmain;refine⟨bm,ob,b1,b2,fun z=>?_,fun z=>?_,b3,b4,b5,b6⟩
  ·obtain⟨o,es,ep,e,hd,_⟩:=G.T.g;rw[<- z,b3]at e;cases e;rw[hd]at b6;cases b6
  ·rw[z,hP]at b3;cases b3;cases b4
 exact sU (c0:=(p.gt (K w.params)).1) (Pt:=(p.gt (K w.params)).2) (ps:=#[rawInt p.gpos.line,rawInt p.gpos.col,.str p.gs.q 0]) KX G.T.g G.T.b G.T.builtins G.T.nolimit hg hobj hints (Nat.le_trans hlen (by decide)) hr hC hP (by simpa using h2) hB
  (fun base b1 _ b3 b4=>hF base b1 ⟨b3,b4,h3,h4⟩) hb (fun H hT hS=>⟨fun b ps e=>(by
   change (if p.G.isSome=true/\b=(p.gt (K w.params)).2 then _ else none)=some ps at e;split at e
   ·rename_i z;rw[z.2];cases e;exact hT
   ·cases e),a,ns,rfl,hS,hlen,fun _ _ z=>z⟩) fun H e s' ⟨_,_,_,z⟩=>z
end PR
namespace PR
open PySem PySem.Spec L2
open PySem.W (Frag findIn)
abbrev MV:=En->Option (PV×En)
def GV(T:Tb)(Z:Zn)(D:Ends)(c:Nat)(σ0:St):Option (PV×En)->Prop
 |some r=>∀F H Y fp u f,ak T Z F H Y r.2 fp->Y[c]?=σ0[c]?->Rel T F Z.B NoL H r.1 u f->Orp Z F fp f->D.rt u H
 |none=>False
def tV(T:Tb)(_:Nat->St->Gq)(c:Nat)(m:MV):TS:=fun D Y H=>∃Z F env fp,ak T Z F H Y env fp/\GV T Z D c Y (m env)
def qi(i:Nat):MV:=fun env=>match env[i]? with
 |some (some v)=>some (v,env.set i none)
 |_=>none
def xk(m:ME):MV:=fun env=>match m env with
 |.ok v=>if v.GH then some (v,env)else none
 |_=>none
def jI(a:MS)(b:MV):MV:=fun env=>match a env with
 |.next e=>b e
 |_=>none
def jR(n c:Nat)(m:MV)(args:Gs):Option (PV×PV):=match m (args.map some++replicate (n-args.length) none)with
 | some (r,e)=>(match e[c]? with
  |some (some o)=>some (r,o)
  |_=>none)
 |none=>none
def GFV(T:Tb)(Z:Zn)(v0:V)(Q:VK):Option (PV×PV)->Prop
 |some (r,o)=>∀F H u f f2,bB T Z F H->Rel T F Z.B NoL H r u f->Rel T F Z.B NoL H o v0 f2->(f++f2).Nodup->(∀a∈f++f2,¬F a)->(∀a∈f++f2,Z.H0 a=none\/Z.fp0 a)->Q u H
 |none=>False
def spV(T:Tb)(n c:Nat)(m:Gs->Option (PV×PV)):Sp:=fun vs H Q _=>vs.length=n/\∃v0 pvs F B f,vs[c]?=some v0/\mV T F B H pvs vs f/\GFV T ⟨H,F,(·∈f),B,none⟩ v0 Q (m pvs)
section
variable{X:Cx}{T:Tb}{W:Nat->St->Gq}{Z:Zn}{F F1 F3 B L:Gh}{H H1 H3:Hp}{Y:St}{env:En}{fp:Nat->Gk}{D:Ends}
def qk(hN:X.N[i]?=some x)(hv:Vis X.env.scope x)(i0:i≠0)(hd:(x ==("__debug__":Str))=false:=by decide)(hcd:(x ==("__classdict__":Str))=false:=by decide):PSs X [.Return (some (.Name x pos')) pos] (tV T W c (qi i)):=
 gB (PS.wk (iW (pos:=pos) (bV hN hv hd hcd)) fun D Y H hz1=>by
  obtain⟨Z,F,env,fp,S,q⟩:=hz1;unfold qi at q;split at q
  ·rename_i pv e
   obtain⟨v,e1,r⟩:=S.rel i pv e;refine⟨v,e1,q F H Y _ v (fp i) (S.drop i0) rfl r ⟨S.nd i,fun a ha=>(S.dis i a ha).1,S.new i,fun a ha j hj=>?_⟩⟩;unfold aI at hj;split at hj
   ·cases hj
   ·exact S.dj i j (Ne.symm ‹_›) a ha hj
  ·exact q.elim)
def z6(he:SE X T W e m):PSs X [.Return (some e) pos] (tV T W c (xk m)):=
 gB (PS.wk (iW (pos:=pos) he) fun D Y H hz1=>by
  obtain⟨Z,F,env,fp,S,q⟩:=hz1;unfold xk at q;refine tE.bind S (fun c e=>by rw[e]at q;exact q.elim) (fun e=>by rw[e]at q;exact q) fun pv v H1 F1 f e g r h1 h2 h3=>?_;rw[e]at q;dsimp only at q;split at q
  ·rename_i hl
   have b:=S.beside g h1 h3;exact q F1 H1 Y fp v f (S.grow g) rfl (Rel.noL (by simpa[PV.GH]using hl) r) ⟨h2,h1,fun a ha=>(b a ha).2.1,fun a ha=>(b a ha).2.2⟩
  ·exact q.elim)
def gT{aV:List Stmt}(h1:SSK X T W [c] st a)(h2:PSs X aV (tV T W c b)):PSs X (st::aV) (tV T W c (jI a b)):=
 PSs.wk (f_ h1 h2) fun D Y H hz1=>by
  obtain⟨Z,F,env,fp,S,q⟩:=hz1;refine⟨Z,F,env,fp,S,?_⟩;unfold jI at q;cases e:a env with
  |next e'=>
   rw[e]at q;refine fun F' H' σ' fp' S' k=>⟨Z,F',e',fp',S',?_⟩
   dsimp only at q;cases e2:b e' with
   |none=>rw[e2]at q;exact q
   |some r=>rw[e2]at q;exact fun F H Y fp u f S'' k'=>q F H Y fp u f S'' (k'.trans (k c (by simp)))
  |_=>rw[e]at q;exact q.elim
def m4{N:Gm}(R:mV T F B H pvs vs fl)(hv0:vs[c]?=some v0)(q:GFV T ⟨H,F,(·∈fl),B,none⟩ v0 Q (jR N.length c m pvs))(hD:D.rt=Q):tV T W c m D (L2.start N vs) H:=by
 obtain⟨fp,S0⟩:=gI N R none (fun v hv=>nomatch hv);refine⟨_,F,_,fp,S0,?_⟩;unfold jR at q;have hs0:(L2.start N vs)[c]?=some (some v0):=by have hl0:c<vs.length:=(List.getElem?_eq_some_iff.mp hv0).1;unfold L2.start;rw[getElem?_append_left (by simpa using hl0),getElem?_map,hv0];rfl
 cases e:m (pvs.map some++replicate (N.length-pvs.length) none)with
 |none=>rw[e]at q;exact q.elim
 |some r=>
  obtain⟨b,e'⟩:=r;rw[e]at q;dsimp only at q;intro F' H' σ' fp' u f S' k' ru op;rw[hs0]at k';split at q
  ·rename_i o e0
   obtain⟨v,h2,r⟩:=S'.rel c o e0;rw[k']at h2;cases h2;rw[hD];refine q F' H' u f (fp' c) S'.hp ru r (nodup_append.mpr ⟨op.nd,S'.nd c,fun a ha b hb z=>op.dj a ha c (by rw[z];exact hb)⟩) (fun a ha=>?_) (fun a ha=>?_)
   ·rcases mem_append.mp ha with h|h
    ·exact op.nf a h
    ·exact(S'.dis c a h).1
   ·rcases mem_append.mp ha with h|h
    ·exact op.new a h
    ·exact S'.new c a h
  ·exact q.elim
def Bt{P:Program}{w:World}{K:PySem.W.Frag}{mg:Ge}{base:Heap}(F:Fun K x qual st f fd)(S:cL N ps (aw st))
  (body:∀ (cdv:Value) (A:Around) (outer:List Env) (s:Shared) (H:Hp) (E:XK),cG k (A.deeper (PyProof.Rows.envOfC qual (aw st) s.heap.objs.size f cdv)) ->
   PSs (cy (CXP P w) P w K mg base N qual (aw st) f cdv A outer s H E) (bu st) (tV T (WD T E) c m)):b8 P w K mg base (CXP P w) (k+1) f fd ps (spV T ps.length c (jR N.length c m)):=by
 obtain⟨oc,od,kV,doc,pm,an,cdv,ct,osl,rfl,lk,hcd⟩:=F.ex;refine v9 lk hcd S (fun vs H Q E h=>h.1) fun A outer s H vs Q E hr hsp=>⟨_,body cdv A outer s H E hr,?_⟩
 obtain⟨_,v0,pvs,F,B,fl,hv0,R,q⟩:=hsp;exact m4 R hv0 q rfl
def Eo{P:Program}{w:World}{mg:Ge}{base:Heap}{N ps fr:Gm}{qual:Str}{scope:Scope}(S:oW N ps fr scope)
  (body:∀ (f:Addr) (cdv:Value) (cl:List (Str × Addr)) (A:Around) (outer:List Env) (s:Shared) (H:Hp) (E:XK),Ctx (cxF P w T.K mg base N qual scope f cdv cl A outer s H E) T (WD T E) k ->
   PSs (cxF P w T.K mg base N qual scope f cdv cl A outer s H E) bd (tV T (WD T E) c m)) :
  FnF P w T.K mg base (k+1) name qual params bd scope ps fr (spV T (ps.length+fr.length) c (jR N.length c m)):=by
 intro A outer s H f o cl doc pm ctv cdv cvs vs us args Q E hr e0 ho hd hcd C hb r hl hsp;have lim:s.heap.NoLimit:=e0.mod.nolimit.keeps fun b o e=>(e0.bs b o e).1;refine codeAny_call_function hr.depth ho hd S.co S.gen rfl hcd (hb _ _ _ _ ?_);refine wpAny_newFunctionEnv S.nocell (fun x hx=>S.par x.1 (of_mem_zip hx).1) (fun h' hns hsb=>?_) S.kind;have hk:∀b o,s.heap.get? b=some o->h'.get? b=some o:=fun b o e=>(hsb.2 b (Nat.ne_of_lt (lt_size e))).trans (get?_push_of_some _ e);refine⟨lim.keeps hk,codeAny_func ?_⟩;obtain⟨_,v0,pvs,F,B,fl,hv0,R,q⟩:=hsp;have I:=pQ (t:=s.toks+(ps.zip us).length) (f:=f) (cd:=cdv) (qual:=qual) (E:=E) S hr.hd e0 C hl r hns hk;have ht:=body f cdv cl A outer s H E (Eu (hr.deeper _)) [] _ _ H {nx:=fun _ H'=>Q .non H',rt:=Q} I (m4 R hv0 q rfl);refine wpAny_mono ht (fun fl s' hs=>?_) fun e s' hs=>hs;have fin:∀{σ':St}{H':Hp}{v:V}{u:Value},Inv (cxF P w T.K mg base N qual scope f cdv cl A outer s H E) [] σ' H' s'->bf v u->Q v H'->CE outer P w H s Q u s':=
  fun {σ' H' v u} J rv q=>⟨v,H',J.os,J.bare,J.base,J.hok,rv,q⟩
 cases fl with
 |ret u=>obtain⟨v,σ',H',J,rv,q⟩:=hs;exact fin J rv q
 |next=>obtain⟨σ',H',J,q⟩:=hs;exact fin (v:=V.non) (u:=Value.none) J rfl q
 |brk=>obtain⟨_,_,_,q⟩:=hs;exact False.elim q
 |cont=>obtain⟨_,_,_,q⟩:=hs;exact False.elim q
structure Apt(Z:Zn)(F:Gh)(H:Hp)(fp:Nat->Gk)(P:Gk):Prop where
 op:Orp Z F fp P
 ch:∀a∈P,∃o,H a=some o/\Chg o
def ak.callP(S:ak T Z F H Y env fp)(hP:Apt Z F H fp P)(hp3:bB T ⟨H,F,(·∈P),B',none⟩ F3 H3):ak T Z F3 H3 Y env fp:=by
 have zfree:∀a,H a=none->Z.H0 a=none\/Z.fp0 a:=fun a z=>by
  by_cases q:Z.fp0 a
  ·exact .inr q
  ·refine .inl ?_;cases w:Z.H0 a with
   |none=>rfl
   |some o=>rw[S.hp.keep a o w q]at z;exact(nomatch z)
 refine⟨⟨S.hp.bo,fun a u e n=>hp3.keep a u (S.hp.keep a u e n) fun z=>?_,fun a h=>hp3.f0 a (S.hp.f0 a h),fun a h=>?_,hp3.ft⟩,S.len,fun j pv e=>?_,S.nd,S.dj,fun j b hb=>?_,S.new,fun j b hb=>?_,S.pn⟩
 ·rcases hP.op.new a z with q|q
  ·rw[e]at q;cases q
  ·exact n q
 ·rcases hp3.fn a h with z|z|z
  ·exact S.hp.fn a z
  ·exact .inr (zfree a z)
  ·exact .inr (hP.op.new a z)
 ·obtain⟨w,h1,h2⟩:=S.rel j pv e;refine⟨w,h1,Rel.tr (fun a h=>hp3.f0 a h) (fun _ h=>h) (fun _ h=>h) (fun b u q h=>hp3.keep b u q fun z=>?_) (fun b hb u q=>hp3.keep b u q fun z=>hP.op.dj b z j hb) h2⟩;rcases h with h|h|h|h
  ·exact hP.op.nf b z h
  ·obtain⟨⟨o,h1⟩,h2⟩:=S.hp.bo.1 b h;rcases hP.op.new b z with q'|q'
   ·rw[h1]at q';cases q'
   ·exact h2 q'
  ·exact h
  ·obtain⟨o',e1,e2⟩:=hP.ch b z;have q1:H b=some u:=q;rw[q1]at e1;cases e1;cases u with
   |lst _|ins _ _ _=>exact h
   |_=>exact e2
 ·obtain⟨n,u,e⟩:=S.dis j b hb;refine⟨fun z=>?_,u,hp3.keep b u e fun z=>hP.op.dj b z j hb⟩;rcases hp3.fn b z with q|q|q
  ·exact n q
  ·have q':H b=none:=q;rw[e]at q';cases q'
  ·exact hP.op.dj b q j hb
 ·obtain⟨u,e,c⟩:=S.ch j b hb;exact⟨u,hp3.keep b u e fun z=>hP.op.dj b z j hb,c⟩
def gK(v:PV):Bool:=!v.has Fl.GD
def GC(T:Tb)(Z:Zn)(Y:St)(env:En)(fp:Nat->Gk)(v0:V)(Q:VK)(F1:Gh)(H1:Hp)(P:Gk):Option (PV×PV)->Prop
 |some (r,o)=>gK r=true/\gK o=true/\∀F H u f f2,(∀a,F1 a->F a)->(∀a o,H1 a=some o->a∉P->H a=some o)->ak T Z F H Y env fp->Rel T F Z.B NoL H r u f->Rel T F Z.B NoL H o v0 f2->Orp Z F fp (f++f2)->Q u H
 |none=>False
def zD(hc:∀E,spV T n c m vs H1 Q E->codeAny (model X.prog X.w) X.A (.call (.ref f) ⟨us,kw⟩) (CR (CXP X.prog X.w) X.stack X.prog X.w H1 s1 Q E) s1)
  (S:ak T Z F1 H1 Y env fp) (r:RelL T F1 Z.B NoL H1 pvs vs P) (op:Orp Z F1 fp P) (hv0:vs[c]?=some v0) (hlen:vs.length=n) (q:GC T Z Y env fp v0 Q F1 H1 P (m pvs))
  (I1:L2.Inv X js Y H1 s1):wpAny (model X.prog X.w) X.A (call (.ref f) us kw) (EP X js Y Q) X.xe s1:=by
 have hBo:∀a,Z.B a->(∃o,H1 a=some o)/\a∉P:=fun a h=>by
  obtain⟨⟨o,h1⟩,h2⟩:=S.hp.bo.1 a h;refine⟨⟨o,S.hp.keep a o h1 h2⟩,fun z=>?_⟩;rcases op.new a z with q'|q'
  ·rw[h1]at q';cases q'
  ·exact h2 q'
 have hP:Apt Z F1 H1 fp P:=⟨op,r.chg⟩
 have R:mV T F1 (fun a=>(∃ o,H1 a=some o)/\a ∉ P) H1 pvs vs P:=⟨RelL.tr (fun _ h=>h) hBo (fun _ h=>h) (fun _ _ h _=>h) (fun _ _ _ h=>h) r,op.nd,op.nf,⟨fun a h=>h,fun a ps h=>⟨S.hp.tb h,fun z=>by
  obtain⟨o,h1,h2⟩:=hP.ch a z;rw[S.hp.tb h]at h1;cases h1;exact h2⟩⟩,S.hp.ft⟩
 refine wpAny_call (codeAny_mono (hc (fun _ _ _=>False) ⟨hlen,v0,_,F1,_,P,hv0,R,?_⟩) fun rs s' hq=>?_)
 ·cases e:m pvs with
  |none=>rw[e]at q;exact q.elim
  |some ro=>
   obtain⟨rv,o⟩:=ro;rw[e]at q;obtain⟨b1,b2,q⟩:=q;intro F3 H3 u f f2 hp3 r1 r2 nd nf new;have nb:∀{x:PV},gK x=true->x.has Fl.GD=false:=fun h=>by simpa[gK]using h
   have zfree:∀a,H1 a=none->Z.H0 a=none\/Z.fp0 a:=fun a z=>by
    by_cases q:Z.fp0 a
    ·exact .inr q
    ·refine .inl ?_;cases w:Z.H0 a with
     |none=>rfl
     |some o=>rw[S.hp.keep a o w q]at z;exact(nomatch z)
   refine q F3 H3 u f f2 hp3.f0 hp3.keep (S.callP hP hp3) (Rel.noB (nb b1) r1) (Rel.noB (nb b2) r2) ⟨nd,nf,fun a ha=>?_,fun a ha j hj=>?_⟩
   ·rcases new a ha with z|z
    ·exact zfree a z
    ·exact op.new a z
   ·rcases new a ha with z|z
    ·obtain⟨_,o',e⟩:=S.dis j a hj;have z':H1 a=none:=z;rw[e]at z';cases z'
    ·exact op.dj a z j hj
 ·cases rs with
  |error e=>obtain⟨cls,H',fl,hw⟩:=hq;exact hw.elim
  |ok fl=>
   cases fl with
   |ret u=>exact I1.after hq
   |next|brk|cont=>exact False.elim hq
def GP(T:Tb)(Z:Zn)(Y:St)(Q:VK):Option (PV×En)->Prop
 |some r=>∀F H fp u f,ak T Z F H Y r.2 fp->Rel T F Z.B NoL H r.1 u f->Orp Z F fp f->Q u H
 |none=>False
def tP(T:Tb)(m:MV):TE:=fun Y H Q=>∃Z F env fp,ak T Z F H Y env fp/\GP T Z Y Q (m env)
def j4(i:Nat)(m:MV):MS:=fun env=>match m env with
 |some (r,e)=>if aB i e then .next (e.set i (some r))else .stuck
 |none=>.stuck
def nh(hik:i∉ks)(hN:X.N.Nodup)(hi:X.N[i]?=some x)(hx:Loc X.env.scope x)(he:L2.PE X e (tP T m))(hs:swapsWith e (some (.Name x pos')) pos.line X.env=pure false:=by rfl)
  (hf:X.fn x=true\/X.env.scope.names.lookup x=some .local:=by first|exact .inl rfl|exact .inr rfl|assumption):SSK X T W ks (.Assign [.Name x pos'] e pos) (j4 i m):=
 PS.wk (lW (pos:=pos) hN hi hx he hs hf) fun D Y H hz1=>by
  obtain⟨Z,F,env,fp,S,q⟩:=hz1;unfold j4 at q;refine⟨Z,F,env,fp,S,?_⟩;cases e:m env with
  |none=>rw[e]at q;exact q
  |some re=>
   obtain⟨r,e'⟩:=re;rw[e]at q;dsimp only at q;split at q
   ·rename_i hl
    exact fun F1 H1 fp1 u f S1 ru op=>q F1 H1 _ _ (S1.put ru op.nd op.nf op.new (fun a ha j _=>op.dj a ha j) hl) fun j hj=>getElem?_set_ne fun z=>hik (by rw[z];exact hj)
   ·exact q.elim
def yI(m:MV):MS:=fun env=>match m env with
 |some (.bl true,e)=>.next e
 |some (.bl false,_)=>.ret (.bl false)
 |_=>.stuck
def z9(he:L2.PE X e (tP T m))(ht:∀whole,isTrue e X.env whole=(do let v <- whole;standAt e.pos;holding [v] (truthy v)):=by intro _;rfl) :
  SS X T W (.If (.UnaryOp .Not e po2) [.Return (some (.Constant (.bool false) jj po4)) po5] [] pos) (yI m):=
 PS.wk (uP (pos:=pos) (uO (pos:=po2) (Av he ht)) (gB (iW (pos:=po5) (zG (b:=false) (j:=jj) (pos:=po4)))) lV) fun D Y H hz1=>by
  obtain⟨Z,F,env,fp,S,q⟩:=hz1;unfold yI at q;refine⟨Z,F,env,fp,S,?_⟩;split at q
  ·rename_i e' e2
   rw[e2];intro F2 H2 fp2 u f S2 ru op;unfold Rel at ru;exact⟨true,ru.1,(if_neg (by decide)).mpr (q F2 H2 Y fp2 S2)⟩
  ·rename_i e' e2
   rw[e2];intro F2 H2 fp2 u f S2 ru op;unfold Rel at ru;exact⟨false,ru.1,(if_pos rfl).mpr (q F2 H2 _ [] S2.hp (by unfold Rel;exact⟨rfl,rfl⟩) nodup_nil (fun _ z=>nomatch z) (fun _ z=>nomatch z))⟩
  ·exact q.elim
def tA.cons(h:tA T W (ae m ms) Y H Q):tE T W m Y H fun v H1=>tA T W ms Y H1 fun vs H2=>Q (v::vs) H2:=by
 obtain⟨Z,F,env,fp,S,q⟩:=h;unfold ae at q;refine tE.bq S fun x v H1 F1 f1 e1 g1 r1 n1 d1 w1=>?_;rw[e1]at q;simp only[Res.GL]at q;refine tA.bind (S.grow g1) (fun c e=>by rw[e]at q;exact fun H' x=>q H' (g1.ext.trans x)) (fun e=>by rw[e]at q;exact q) fun xs vs H2 F2 f2 e2 g2 r2 n2 d2 w2=>?_;rw[e2]at q;simp only[Res.GL]at q;have new1:∀a∈f1,¬F2 a:=fun a ha z=>by
  rcases g2.only a z with z|z
  ·exact n1 a ha z
  ·obtain⟨o,ho⟩:=r1.there a ha;rw[ho]at z;cases z
 refine q (v::vs) H2 F2 (f1++f2) (g1.trans g2) (by unfold RelL;exact⟨v,vs,f1,f2,rfl,r1.ext g2.ext g2.mono,r2,rfl⟩) (fun a ha=>?_) ?_ (fun a ha=>?_)
 ·rcases mem_append.mp ha with ha|ha
  ·exact new1 a ha
  ·exact n2 a ha
 ·refine nodup_append.mpr ⟨d1,d2,fun a ha b hb z=>?_⟩;subst z;obtain⟨o,ho⟩:=r1.there a ha;rw[w2 a hb]at ho;cases ho
 ·rcases mem_append.mp ha with ha|ha
  ·exact w1 a ha
  ·exact g1.ext.free (w2 a ha)
def tE.mono(h:tE T W m Y H Q)(w:∀v H,Q v H->Q' v H):tE T W m Y H Q':=by
 obtain⟨Z,F,env,fp,S,q⟩:=h;refine⟨Z,F,env,fp,S,?_⟩;cases e:m env with
 |ok x=>rw[e]at q;exact fun v H' F' f g r a b c=>w v H' (q v H' F' f g r a b c)
 |exc c|stuck=>rw[e]at q;exact q
def Fm(vi:V)(Q:Gp->Gq):Gp->Gq
 |v0::v1::vr,H=>Q (v0::v1::vi::vr) H
 |_,_=>False
def Fn{i:Nat}(h0:SE X T W e0 m0)(h1:SE X T W e1 m1)(hN:X.N[i]?=some y)(hv:Vis X.env.scope y)(hr:SA X T W es ms)(hd:(y ==("__debug__":Str))=false)(hcd:(y ==("__classdict__":Str))=false)
  (s0:starEach (e0::e1::.Name y py::es) X.env=(false,eval e0 X.env)::starEach (e1::.Name y py::es) X.env) (s1:starEach (e1::.Name y py::es) X.env=(false,eval e1 X.env)::starEach (.Name y py::es) X.env)
  (s2:starEach (.Name y py::es) X.env=(false,eval (.Name y py) X.env)::starEach es X.env) :
  PA X (e0::e1::.Name y py::es) (fun Y H Q=>∃vi,Y[i]?=some (some vi)/\tA T W (ae m0 (ae m1 ms)) Y H (Fm vi Q)):=
 PA.wk (bW h0 (bW h1 (bW (bV (pos:=py) hN hv hd hcd) hr s2) s1) s0) fun Y H Q ⟨vi,hvi,h⟩=>tE.mono (tA.cons h) fun v0 H1 h1=>tE.mono (tA.cons h1) fun v1 H2 h2=>⟨vi,hvi,h2⟩
def Orp.out(S:ak T Z F H Y env fp)(g:Gr F H F1 H1)(nf:∀a∈fx,¬F1 a)(nd:fx.Nodup)(new:∀a∈fx,H a=none)(hp:P.Perm (fx++fp i)):Orp Z F1 (aI fp i []) P:=by
 have S1:=S.grow g;have b:=S.beside g nf new;refine⟨hp.nodup_iff.mpr (nodup_append.mpr ⟨nd,S.nd i,fun a ha c hc z=>(b a ha).2.2 i (by rw[z];exact hc)⟩),fun a ha=>?_,fun a ha=>?_,fun a ha j hj=>?_⟩
 ·rcases mem_append.mp (hp.mem_iff.mp ha)with h|h
  ·exact nf a h
  ·exact(S1.dis i a h).1
 ·rcases mem_append.mp (hp.mem_iff.mp ha)with h|h
  ·exact(b a h).2.1
  ·exact S1.new i a h
 ·unfold aI at hj;split at hj
  ·cases hj
  ·rcases mem_append.mp (hp.mem_iff.mp ha)with h|h
   ·exact(b a h).2.2 j hj
   ·exact S.dj i j (Ne.symm ‹_›) a h hj
def rF(S:ak T Z F H Y (env.set i none) (aI fp i []))(i0:i≠0)(hs:Y[i]?=some (some v0))(r:Rel T F Z.B NoL H o v0 f2)(op:Orp Z F (aI fp i []) (f++f2)) :
  ∃fp',ak T Z F H Y (env.set i (some o)) fp'/\Orp Z F fp' f:=by
 obtain⟨n1,n2,n3⟩:=nodup_append.mp op.nd;have S2:=S.put (i:=i) (pv:=o) (v:=v0) (f:=f2) r n2 (fun a ha=>op.nf a (by simp[ha])) (fun a ha=>op.new a (by simp[ha])) (fun a ha j _=>op.dj a (by simp[ha]) j) (by simp[aB,i0]);rw[cH hs,set_set]at S2;refine⟨_,S2,n1,fun a ha=>op.nf a (by simp[ha]),fun a ha=>op.new a (by simp[ha]),fun a ha j hj=>?_⟩;unfold aI at hj;split at hj
 ·exact n3 a ha a hj rfl
 ·rename_i h
  exact op.dj a (by simp[ha]) j (by unfold aI;rw[if_neg h];exact hj)
def dJ(i:Nat)(m:Gs->Option (PV×PV))(ms:MA):MV:=fun env=>match ms env,env[i]? with
 | .ok (x0::x1::xr),some (some w)=>if hasL Fl.GB (x0::x1::xr) then none else (match m (x0::x1::w::xr) with
  |some (r,o)=>if gK r&&gK o then some (r,env.set i (some o))else none
  |none=>none)
 |_,_=>none
def u8
  (G:b8 X.prog X.w X.K X.mg X.base (CXP X.prog X.w) k f fd ps (spV T ps.length 2 m)) (hr:cG k X.A) (hg:Gl X x) (hm:X.mg x=some (.ref f)) (hkp:PySem.W.keepIn X.K (.ref f)=true) (hb:dR X.K fd ps []) (i0:i≠0)
  (h0:SE X T W e0 m0) (h1:SE X T W e1 m1) (hN:X.N[i]?=some y) (hv:Vis X.env.scope y) (hr2:SA X T W es ms) (hn:∀env xs,ae m0 (ae m1 ms) env=.ok xs->xs.length+1=ps.length)
  (hdb:(x ==("__debug__":Str))=false:=by decide) (hd:(y ==("__debug__":Str))=false:=by decide) (hcd:(y ==("__classdict__":Str))=false:=by decide)
  (s0:starEach (e0::e1::.Name y py::es) X.env=(false,eval e0 X.env)::starEach (e1::.Name y py::es) X.env:=by rfl) (s1:starEach (e1::.Name y py::es) X.env=(false,eval e1 X.env)::starEach (.Name y py::es) X.env:=by rfl)
  (s2:starEach (.Name y py::es) X.env=(false,eval (.Name y py) X.env)::starEach es X.env:=by rfl) (hpl:(backTo pos (starEach (e1::.Name y py::es) X.env)).any (·.1)=false:=by rfl) :
  L2.PE X (.Call (.Name x p) (e0::e1::.Name y py::es) [] pos) (tP T (dJ i m (ae m0 (ae m1 ms)))):=by
 intro js s Y H Q I h;obtain⟨Z,F,env,fp,S,q⟩:=h;refine wpAny_Call_Name_kw (gE I hg hm ?_ hdb);have hw:∃w,env[i]?=some (some w):=by
  unfold dJ at q;split at q
  ·exact⟨_,‹_›⟩
  ·exact q.elim
 obtain⟨w,ew⟩:=hw;obtain⟨vi,hvi,rw0⟩:=S.rel i _ ew;refine callWith_K (h₀:=X.base) I.ok.mod.kin hkp (thn (Fn (py:=py) h0 h1 hN hv hr2 hd hcd s0 s1 s2 pos js s Y H (fun vs H1=>∀ us s1,L2.Inv X js Y H1 s1->aE vs us->wpAny (model X.prog X.w) X.A (call (.ref f) us) (EP X js Y Q) X.xe s1) I
  ⟨vi,hvi,tA.bind S (fun c e=>by unfold dJ at q;rw[e]at q;exact q.elim) (fun e=>by unfold dJ at q;rw[e]at q;exact q.elim) fun xs vs H1 F1 fx e1 g1 r1 n1 d1 w1=>?_⟩) fun us s1 ⟨vs,H1,I1,r,q1⟩=>⟨I1.kIn,q1 us s1 I1 r⟩) s0 hpl
 have hn1:=hn env xs e1;unfold dJ at q;rw[e1,ew]at q;split at q
 case h_2=>exact q.elim
 rename_i x0 x1 xr w' ex ew'
 cases ex;cases ew';split at q
 ·exact q.elim
 rename_i hnl
 have r1':RelL T F1 Z.B NoL H1 (x0::x1::xr) vs fx:=RelL.noL (by simpa using hnl) r1;unfold RelL at r1';obtain⟨v0,w1',f0,f1',rfl,a0,r1',rfl⟩:=r1';unfold RelL at r1';obtain⟨v1,vr,f1,fr,rfl,a1,ar,rfl⟩:=r1';intro us s1 I1 rv;have S1:=S.grow g1;have hR:RelL T F1 Z.B NoL H1 (x0::x1::w::xr) (v0::v1::vi::vr) (f0 ++(f1 ++(fp i++fr))):=by unfold RelL;refine⟨v0,_,f0,_,rfl,a0,?_,rfl⟩;unfold RelL;refine⟨v1,_,f1,_,rfl,a1,?_,rfl⟩;unfold RelL;exact⟨vi,vr,fp i,fr,rfl,rw0.ext g1.ext g1.mono,ar,rfl⟩
 have hp:(f0 ++(f1 ++(fp i++fr))).Perm ((f0 ++(f1++fr))++ fp i):=by simp only[append_assoc];exact(((List.perm_append_comm).append_left f1).append_left f0)
 have hl:us.length=ps.length:=by have h5:=rv.length;have h6:=ar.length;simp only[length_cons]at h5 hn1;omega
 refine zD (c:=2) (n:=ps.length) (fun E hsp=>G.run X.A X.stack s1 H1 ⟨us,[]⟩ us _ Q E hr I1.env0 (by simpa using hb s1 us I1.kIn (by simpa using hl)) rv hsp) (S1.drop i0) hR (Orp.out S g1 n1 d1 w1 hp) rfl (by rw[<- hl,rv.length]) ?_ I1;cases em:m (x0::x1::w::xr)with
 |none=>rw[em]at q;exact q.elim
 |some ro=>
  obtain⟨rr,o⟩:=ro;rw[em]at q;dsimp only at q;split at q
  ·rename_i hb2
   rw[and_eq_true]at hb2;refine⟨hb2.1,hb2.2,fun F3 H3 u f f2 _ _ S3 ru r2 op=>?_⟩;obtain⟨fp',S4,op4⟩:=rF S3 i0 hvi r2 op;exact q F3 H3 fp' u f S4 ru op4
  ·exact q.elim
def i8(i kb:Nat)(m:Gs->Option (PV×PV))(ms:MA):MV:=fun env=>match (env[i]?).join with
 | some (.box k (w::l))=>if k=kb/\dg l=true then (match ms env with
  | .ok xs=>if hasL Fl.GB xs then none else (match m (xs ++ w::l) with
   |some (r,o)=>if gK r&&gK o then some (r,env.set i (some (.box k (o::l))))else none
   |none=>none)
  |_=>none)else none
 |_=>none
def u9{fi:FI}(G:FnF X.prog X.w X.K X.mg X.base k fi.name fi.qual fi.params fi.body fi.scope ps fi.fr (spV T (ps.length+fi.fr.length) ps.length m))(hr:cG k X.A)(hbx:∀H f cvs,T.bx kb H f cvs->fi.bx H f cvs)
  (hb:∀(cl:List (Str×Addr)) (doc pm ctv cdv:Value) (us:Gj),us.length=ps.length->bindArgs (fnX fi.name fi.qual fi.params fi.body fi.scope cl .none .none doc pm none cdv ctv) ⟨us,[]⟩=pure (ps.zip us))
  (i0:i≠0) (hN:X.N[i]?=some x) (hv:Vis X.env.scope x) (hn:∀env xs,ms env=.ok xs->xs.length=ps.length) (ha:SA X T W (e::es) ms)
  (hd:(x ==("__debug__":Str))=false:=by decide) (hcd:(x ==("__classdict__":Str))=false:=by decide)
  (he:starEach (e::es) X.env=(false,eval e X.env)::starEach es X.env:=by rfl) (hpl:(backTo pos (starEach es X.env)).any (·.1)=false:=by rfl) :
  L2.PE X (.Call (.Name x p) (e::es) [] pos) (tP T (i8 i kb m ms)):=by
 intro js s Y H Q I h;obtain⟨Z,F,env,fp,S,q⟩:=h;unfold i8 at q;split at q
 case h_2=>exact q.elim
 rename_i kk w l hi
 split at q
 case isFalse=>exact q.elim
 rename_i hc
 obtain⟨rfl,hno⟩:=hc;have hi':env[i]?=some (some (.box kk (w::l))):=by
  cases e0:env[i]? with
  |none=>rw[e0]at hi;cases hi
  |some z=>rw[e0]at hi;simp only[join_some]at hi;rw[hi]
 obtain⟨v0,hs0,rv0⟩:=S.rel i _ hi';unfold Rel at rv0;obtain⟨f,cvs,rfl,hbf,rc⟩:=rv0;have rc0:=rc;unfold RelL at rc;obtain⟨v0,ws,fw,fl,rfl,rw0,rl,efp⟩:=rc;obtain⟨rfl,rl⟩:=cZ hno rl;rw[append_nil]at efp;refine wpAny_Call_Name_kw (thn (bV (pos:=p) hN hv hd hcd js s Y H (fun v H1=>v=.ref f/\H1=H) I ⟨_,hs0,rfl,rfl⟩) fun u s0 zz=>?_);obtain⟨v,H0,I0,rv,e1,e2⟩:=zz;subst e1 e2;obtain rfl:u=.ref f:=rv;have fnAt:∀(H1:Hp) (s1:Shared),Ext H0 H1->L2.Inv X js Y H1 s1->FnAt f s1.heap:=fun H1 s1 ex I1=>by obtain⟨_,_,_,_,_,_,_,_,_,_,h1,_⟩:=hbx _ _ _ hbf;obtain⟨g1,_⟩:=I1.hok f _ (ex _ _ h1);exact⟨_,_,_,_,g1⟩
 refine PySem.W.callWith_F (first:=[]) (fnAt H0 s0 Ext.refl I0) (thn (ha pos js s0 Y H0 (fun vs H1=>∀ us s1,L2.Inv X js Y H1 s1->aE vs us->FnAt f s1.heap/\wpAny (model X.prog X.w) X.A (call (.ref f) us) (EP X js Y Q) X.xe s1) I0
  (tA.bind S (fun c e=>by rw[e]at q;exact q.elim) (fun e=>by rw[e]at q;exact q.elim) fun xs vs H1 F1 fx e1 g1 r1 n1 d1 w1 us s1 I1 rv=>?_)) fun us s1 ⟨vs,H1,I1,r,q1⟩=>q1 us s1 I1 r) he hpl
 rw[e1]at q;dsimp only at q;refine⟨fnAt H1 s1 g1.ext I1,?_⟩;have lv:vs.length=ps.length:=by rw[<- r1.length];exact hn env xs e1
 split at q
 ·exact q.elim
 rename_i hnl
 have r1':RelL T F1 Z.B NoL H1 xs vs fx:=RelL.noL (by simpa using hnl) r1;have hR:=RelL.append r1' (rc0.ext g1.ext g1.mono);have opP:Orp Z F1 (aI fp i []) (fx++fp i):=Orp.out S g1 n1 d1 w1 (List.Perm.refl _);have hbf1:T.bx kk H1 f (v0::ws):=T.bxs _ _ _ _ _ (fun b o u z=>g1.ext b _ z) hbf;refine zD (m:=m) (c:=ps.length) (v0:=v0) (n:=ps.length+fi.fr.length) (fun E hsp=>?_) ((S.grow g1).drop i0) hR opP (by rw[<- lv];simp) ?_ ?_ I1
 ·obtain⟨cl,doc,pm,ctv,c',oc,u,u',ws',t,h1,h2,h3,h4,C⟩:=hbx _ _ _ hbf1;obtain⟨o1,_⟩:=I1.hok f _ h1;obtain⟨o2,_⟩:=I1.hok c' _ h2;exact G X.A X.stack s1 H1 f _ cl doc pm ctv (.ref c') (v0::ws) vs us ⟨us,[]⟩ Q E hr I1.env0 o1 rfl ⟨c',oc,ws',t,rfl,o2,h3,h4⟩ C (.of_eq (hb cl doc pm ctv (.ref c') us (by rw[<- rv.length,lv]))) rv lv hsp
 ·obtain⟨_,_,_,_,_,_,_,_,_,_,_,_,_,_,C⟩:=hbx _ _ _ hbf1;rw[length_append,lv,C.len]
 ·cases em:m (xs++w::l)with
  |none=>rw[em]at q;exact q.elim
  |some ro=>
   obtain⟨rr,o⟩:=ro;rw[em]at q;dsimp only at q;split at q
   ·rename_i hb2
    rw[and_eq_true]at hb2;refine⟨hb2.1,hb2.2,fun F3 H3 u f' f2 m3 k3 S3 ru r2 op=>?_⟩;have off:∀a o,H1 a=some o->dQ o->a∉fx++fp i:=fun a o h hf z=>by obtain⟨o',h1,h2⟩:=hR.chg a z;rw[h]at h1;cases h1;cases o<;>first|exact h2|exact hf
    have hB:∀a,Z.B a->a∉fx++fp i:=fun a h z=>by
     obtain⟨⟨o,h1⟩,h2⟩:=S.hp.bo.1 a h;rcases opP.new a z with q'|q'
     ·rw[h1]at q';cases q'
     ·exact h2 q'
    have rb:Rel T F3 Z.B NoL H3 (.box kk (o::l)) (.ref f) f2:=by
     unfold Rel;refine⟨f,v0::ws,rfl,T.bxs _ _ _ _ _ (fun b o u z=>k3 b _ z (off b _ z True.intro)) hbf1,?_⟩;unfold RelL;refine⟨v0,ws,f2,[],rfl,r2,?_,by simp⟩;refine RelL.tr m3 (fun _ h=>h) (fun _ h=>h) (fun a o h c=>k3 a o h ?_) (fun _ z=>(nomatch z)) (rl.ext g1.ext g1.mono);rcases c with c|c|c|c
     ·exact fun z=>opP.nf a z c
     ·exact hB a c
     ·exact c.elim
     ·exact off a o h c
    obtain⟨fp',S4,op4⟩:=rF S3 i0 hs0 rb op;exact q F3 H3 fp' u f' S4 ru op4
   ·exact q.elim
end
def Adr(T:Tb):Prop:=∀k H a vs,1000<=k->(T.bx k H a vs↔a=k-1000/\∀v∈vs,v=.ref a)
def PT.adr{p:PT}{hA:p.attOk}{K:PySem.W.Frag}:Adr (p.T hA K):=fun k H a vs hk=>by dsimp only[PT.T];rw[if_neg (by omega),if_pos hk]
section
variable{X:Cx}{T:Tb}{W:Nat->St->Gq}{Z:Zn}{F F1 F3 B L:Gh}{H H1 H3:Hp}{Y:St}{env:En}{fp:Nat->Gk}{D:Ends}
def Rel.adr(hT:Adr T)(hk:1000<=k)(h:Rel T F B L H (.box k [x]) v f):v=.ref (k-1000)/\Rel T F B L H x v f:=by unfold Rel at h;obtain⟨a,vs,rfl,hb,rl⟩:=h;unfold RelL at rl;obtain⟨v,ws,f1,f2,rfl,r1,r2,rfl⟩:=rl;unfold RelL at r2;obtain⟨rfl,rfl⟩:=r2;obtain⟨rfl,h2⟩:=(hT _ _ _ _ hk).mp hb;rw[h2 v (by simp)]at r1;rw[append_nil];exact⟨rfl,r1⟩
def Rel.toAdr(hT:Adr T)(hk:1000<=k)(h:Rel T F B L H x (.ref (k-1000)) f):Rel T F B L H (.box k [x]) (.ref (k-1000)) f:=by unfold Rel;refine⟨_,[.ref (k-1000)],rfl,(hT _ _ _ _ hk).mpr ⟨rfl,by simp⟩,?_⟩;unfold RelL;exact⟨_,[],f,[],rfl,h,by unfold RelL;exact⟨rfl,rfl⟩,by simp⟩
def ak.swap{pv:PV}(S:ak T Z F H Y env fp)(i0:i≠0)(hv:Y[i]?=some (some v))(r:Rel T F Z.B NoL H pv v (fp i)):ak T Z F H Y (env.set i (some pv)) (aI fp i (fp i)):=by
 have:=S.put (i:=i) (pv:=pv) (v:=v) (f:=fp i) r (S.nd i) (fun a ha=>(S.dis i a ha).1) (S.new i) (fun a ha j hj=>S.dj i j (Ne.symm hj) a ha) (by simp[aB,i0])
 rwa [cH hv]at this
def kz(i:Nat)(m:MS):MS:=fun env=>match env[i]? with
 | some (some (.box k [x]))=>if 1000 <= k then (match m (env.set i (some x)) with
  | .next e=>(match e[i]? with
   |some (some y)=>.next (e.set i (some (.box k [y])))
   |_=>.stuck)
  |.ret v=>.ret v
  |_=>.stuck)else .stuck
 |_=>.stuck
def qo(hT:Adr T)(i0:i≠0)(h:SSK X T W (i::ks) st m):SSK X T W (i::ks) st (kz i m):=PS.wk h fun D Y H hz1=>by
 obtain⟨Z,F,env,fp,S,q⟩:=hz1;unfold kz at q;split at q
 case h_2=>exact q.elim
 rename_i k x e
 split at q
 case isFalse=>exact q.elim
 rename_i hk
 obtain⟨v,hv,r⟩:=S.rel i _ e;obtain⟨rfl,r⟩:=r.adr hT hk;refine⟨Z,F,_,_,S.swap i0 hv r,?_⟩;cases em:m (env.set i (some x))with
 |next e'=>
  rw[em]at q;dsimp only at q;split at q
  case h_2=>exact q.elim
  rename_i y ey
  intro F1 H1 σ1 fp1 S1 k1;obtain⟨v',hv',r'⟩:=S1.rel i _ ey;have:=k1 i (by simp);rw[hv',hv]at this;cases this;exact q F1 H1 σ1 _ (S1.swap i0 hv' (r'.toAdr hT hk)) k1
 |ret u=>rw[em]at q;exact q
 |_=>rw[em]at q;exact q.elim
def ur(hT:Adr T)(i0:i≠0)(h:SSK X T W [i] st m):SS X T W st (kz i m):=PS.wk (qo hT i0 h) fun D Y H hz1=>by
 obtain⟨Z,F,env,fp,S,q⟩:=hz1;refine⟨Z,F,env,fp,S,?_⟩;cases e:kz i m env with
 |next e'|cont e'|brk e'=>rw[e]at q;exact fun F H Y fp S' _=>q F H Y fp S'
 |ret v|exc c e'|stuck=>rw[e]at q;exact q
open Classical in
noncomputable def vS(i:Nat)(m:MS):MS:=fun env=>match env[i]? with
 |some (some (.lst .own xs))=>if ∀n,m (env.set i (some (.box (1000+n) [.lst .own xs])))=m (env.set i (some (.box 1000 [.lst .own xs])))then m (env.set i (some (.box 1000 [.lst .own xs])))else .stuck
 |_=>.stuck
def Aa{sts:List Stmt}(hT:Adr T)(i0:i≠0)(h:SSs X T W sts m):SSs X T W sts (vS i m):=PSs.wk h fun D Y H hz1=>by
 obtain⟨Z,F,env,fp,S,q⟩:=hz1;unfold vS at q;split at q
 case h_2=>exact q.elim
 rename_i xs e
 split at q
 case isFalse=>exact q.elim
 rename_i hall
 obtain⟨v,hv,r⟩:=S.rel i _ e;have hr:∃a,v=.ref a:=by unfold Rel at r;obtain⟨a,_,_,e,_⟩:=r;exact⟨a,e⟩
 obtain⟨a,rfl⟩:=hr;refine⟨Z,F,_,_,S.swap i0 hv (pv:=.box (1000+a) [.lst .own xs]) ?_,by rw[hall a];exact q⟩;have hk:1000<=1000+a:=Nat.le_add_right _ _;have e2:1000+a-1000=a:=Nat.add_sub_cancel_left 1000 a;have:=Rel.toAdr (T:=T) (k:=1000+a) hT hk (x:=.lst .own xs) (f:=fp i) (H:=H) (F:=F) (B:=Z.B) (L:=NoL) (by rw[e2];exact r)
 rwa [e2]at this
def og(i kb h:Nat)(caps:List Nat):MS:=fun env=>match env[h]?,ww caps env with
 |some (some (.box k _)),some l=>if decide (1000<=k)&&dg l&&aB i env then .next (env.set i (some (.box kb (.box k []::l))))else .stuck
 |_,_=>.stuck
def Rel.ali(hA:Adr T)(hk:1000<=k)(h:Rel T F B L H (.box k ys) v f):Rel T F' B' L' H' (.box k []) v []:=by unfold Rel at h;obtain⟨a,us,rfl,hb,_⟩:=h;unfold Rel;exact⟨a,[],rfl,(hA _ _ _ _ hk).mpr ⟨((hA _ _ _ _ hk).mp hb).1,fun _ z=>(nomatch z)⟩,by unfold RelL;exact⟨rfl,rfl⟩⟩
def xt{fi:FI}(hA:Adr T)(hN:X.N.Nodup)(hi:X.N[i]?=some fi.name)(hl:Loc X.env.scope fi.name)(hbx:∀H f cvs,fi.bx H f cvs->T.bx kb H f cvs)
  (hT:T.tb Pt=some #[rawInt pos.line,rawInt pos.col,.str fi.qual 0]) (C:CodeHd X.base c0 Pt) (hcode:X.env.code=.ref c0) (hbt:X.base.BuiltinsAt X.mg Pt) (hcl:closureFor fi.scope X.env=pure clos) (hc:zU X fi.fr (h::caps) clos)
  (hq:qualnameIn X.env fi.name fi.name=fi.qual) (hd0:fi.params.defaults=[]) (hk0:fi.params.kw_defaults=[]) (ha:annTrees fi.params none X.env=[]) (hf:X.fn fi.name=true\/X.env.scope.names.lookup fi.name=some .local) :
  SS X T W (.FunctionDef fi.name fi.params fi.body [] none [] fi.scope none fi.name pos) (og i kb h caps):=by
 intro js s Y H D I ⟨Z,F,env,fp,S,q⟩;unfold og at q;split at q
 case h_2=>exact q.elim
 rename_i k ys l eh hc1
 split at q
 case isFalse=>exact q.elim
 rename_i hg
 simp only[and_eq_true,decide_eq_true_eq]at hg;obtain⟨⟨hk,hno⟩,hok⟩:=hg;obtain⟨v0,hv0,r0⟩:=S.rel h _ eh;obtain⟨cvs,rc,lc,vc⟩:=oM S hc1 hno;obtain⟨H1,x1,k1,I1⟩:=I.frzL clos hc.mem;refine PySem.W.nestDef_K hd0 hk0 ha ?_;rw[hq];refine xi I1 (x1 _ _ (S.hp.tb hT)) C hcode hbt hcl fun f c' oc u vs t ctv doc H2 s2 x2 hf2 hc2 hd2 hv2 I2=>?_;have ext:Ext H H2:=fun b z e=>x2 b z (x1 b z e);have vc':∀(k j:Nat),(h::caps)[k]?=some j->∃v,(v0::cvs)[k]?=some v/\Y[j]?=some (some v):=fun k j e=>by
  cases k with
  |zero=>simp at e;subst e;exact⟨v0,rfl,hv0⟩
  |succ k=>simp at e;simpa using vc k j e
 have clo:Clo H2 fi.fr clos (v0::cvs):=by
  refine⟨fun x y c a b=>I.ok.inj x y c (hc.mem _ (PySem.mem_of_lookup a)).1 (hc.mem _ (PySem.mem_of_lookup b)).1,hc.cl,(by rw[<- hc.len];simp[lc]),fun k x v e1 e2=>?_⟩;obtain⟨j,hj,hNj,hk,c,hm,hlk⟩:=hc.nm k x e1;obtain⟨v',ev,sv⟩:=vc' k j hj;rw[e2]at ev;cases ev;obtain⟨m,hn,hloc⟩:=I1.loc;obtain⟨z,rz,lk⟩:=hloc j x v hNj sv (.inr (.inl hk));rcases lk with⟨kl,_⟩ |⟨_,c2,h2,o2,g2,d2⟩
  ·rw[hk]at kl;cases kl
  ·have:=(hc.mem _ hm).1;rw[h2]at this;cases this;obtain⟨o,u,q1,q2⟩:=k1 _ hm;rw[g2]at q2;cases q2;exact⟨_,o2,u,z,hlk,x2 _ _ q1,d2,rz⟩
 refine jL I2 hN hi hl (v:=.ref f) rfl (fun s3 I3=>⟨_,H2,I3,?_⟩) hf;refine q F H2 _ _ (S.putN (Gr.same S.hp.ft ext) hok (L:=NoL) (f:=[]) ?_ ?_ (fun _ z=>(nomatch z)) nodup_nil (fun _ z=>(nomatch z)))
 ·unfold Rel;refine⟨f,v0::cvs,rfl,hbx _ _ _ ⟨clos,doc,_,ctv,c',oc,uT,u,vs,t,hf2,hc2,hd2,hv2,clo⟩,?_⟩;unfold RelL;exact⟨v0,cvs,[],[],rfl,r0.ali hA hk,rc.ext ext (fun _ h=>h),rfl⟩
 ·simp only[dg,and_eq_true,not_eq_true']at hno;simp[PV.GH,PV.has,hasL,hno.2]
def oz(h i:Nat)(env:En):Option En:=match env[h]?,env[i]? with
 |some (some (.box k [x])),some (some (.box kb (.box k' []::l)))=>if k=k'/\1000<=k then some ((env.set h (some (.box k []))).set i (some (.box kb (.box k [x]::l))))else none
 |_,_=>none
def m6(h i:Nat)(env:En):Option En:=match env[h]?,env[i]? with
 |some (some (.box k [])),some (some (.box kb (.box k' [x]::l)))=>if k=k'/\1000<=k then some ((env.set i (some (.box kb (.box k []::l)))).set h (some (.box k [x])))else none
 |_,_=>none
def mGv(h i:Nat)(m:MV):MV:=fun env=>match oz h i env with
 | some e1=>(match m e1 with
  | some (r,e2)=>(match m6 h i e2 with
   |some e3=>some (r,e3)
   |none=>none)
  |none=>none)
 |none=>none
def Rel.box0(hA:Adr T)(hk:1000<=k)(h:Rel T F B L H (.box k []) v f):v=.ref (k-1000)/\f=[]:=by unfold Rel at h;obtain⟨a,us,rfl,hb,hr⟩:=h;unfold RelL at hr;exact⟨by rw[((hA _ _ _ _ hk).mp hb).1],hr.2⟩
def ak.give(hA:Adr T)(h0:h≠0)(i0:i≠0)(hi:h≠i)(S:ak T Z F H Y env fp)(e:oz h i env=some e1):∃fp',ak T Z F H Y e1 fp'/\∀f,Orp Z F fp f->Orp Z F fp' f:=by
 unfold oz at e;split at e
 case h_2=>cases e
 rename_i k x kb k' l eh ei
 split at e
 case isFalse=>cases e
 rename_i hc
 obtain⟨rfl,hk⟩:=hc;cases e;obtain⟨vh,hvh,rh⟩:=S.rel h _ eh;obtain⟨vi,hvi,ri⟩:=S.rel i _ ei;obtain⟨rfl,rx⟩:=rh.adr hA hk;unfold Rel at ri;obtain⟨f,cvs,rfl,hb,rl⟩:=ri;unfold RelL at rl;obtain⟨v0,ws,f1,f2,rfl,r0,rl,efp⟩:=rl;obtain⟨rfl,rfl⟩:=r0.box0 hA hk;have rb:Rel T F Z.B NoL H (.box kb (.box k [x]::l)) (.ref f) (fp h++fp i):=by unfold Rel;refine⟨f,_,rfl,hb,?_⟩;unfold RelL;exact⟨_,ws,fp h,f2,rfl,rx.toAdr hA hk,rl,by rw[efp];rfl⟩
 have S1:=S.put (i:=h) (rh.ali (F':=F) (B':=Z.B) (L':=NoL) (H':=H) hA hk) nodup_nil (fun _ z=>(nomatch z)) (fun _ z=>(nomatch z)) (fun _ z=>(nomatch z)) (by simp[aB,h0]);rw[cH hvh]at S1;have S2:=S1.put (i:=i) rb (nodup_append.mpr ⟨S.nd h,S.nd i,fun a ha b hb z=>S.dj h i hi a ha (by rw [z];exact hb)⟩) (fun a ha=>by
  rcases mem_append.mp ha with z|z
  ·exact(S.dis h a z).1
  ·exact(S.dis i a z).1) (fun a ha=>by
  rcases mem_append.mp ha with z|z
  ·exact S.new h a z
  ·exact S.new i a z) (fun a ha j hj hm=>by
  unfold aI at hm;split at hm
  ·cases hm
  ·rcases mem_append.mp ha with z|z
   ·exact S.dj h j (Ne.symm ‹_›) a z hm
   ·exact S.dj i j (Ne.symm hj) a z hm) (by simp[aB,i0])
 rw[cH hvi]at S2;refine⟨_,S2,fun g op=>⟨op.nd,op.nf,op.new,fun a ha j hj=>?_⟩⟩;unfold aI at hj;split at hj
 ·rcases mem_append.mp hj with z|z
  ·exact op.dj a ha h z
  ·exact op.dj a ha i z
 ·split at hj
  ·cases hj
  ·exact op.dj a ha j hj
def ak.take(hA:Adr T)(h0:h≠0)(i0:i≠0)(hi:h≠i)(S:ak T Z F H Y env fp)(e:m6 h i env=some e1):∃fp',ak T Z F H Y e1 fp'/\∀f,Orp Z F fp f->Orp Z F fp' f:=by
 unfold m6 at e;split at e
 case h_2=>cases e
 rename_i k kb k' x l eh ei
 split at e
 case isFalse=>cases e
 rename_i hc
 obtain⟨rfl,hk⟩:=hc;cases e;obtain⟨vh,hvh,rh⟩:=S.rel h _ eh;obtain⟨vi,hvi,ri⟩:=S.rel i _ ei;obtain⟨rfl,_⟩:=rh.box0 hA hk;unfold Rel at ri;obtain⟨f,cvs,rfl,hb,rl⟩:=ri;unfold RelL at rl;obtain⟨v0,ws,f1,f2,rfl,r0,rl,efp⟩:=rl;have ndi:=S.nd i;rw[efp]at ndi;obtain⟨n1,n2,n3⟩:=nodup_append.mp ndi;have m1:∀a∈f1,a∈fp i:=fun a ha=>by rw[efp];simp[ha]
 have m2:∀a∈f2,a∈fp i:=fun a ha=>by rw[efp];simp[ha]
 have rb:Rel T F Z.B NoL H (.box kb (.box k []::l)) (.ref f) f2:=by unfold Rel;refine⟨f,_,rfl,hb,?_⟩;unfold RelL;exact⟨_,ws,[],f2,rfl,r0.ali hA hk,rl,rfl⟩
 obtain⟨rfl,rx⟩:=r0.adr hA hk;have S1:=S.put (i:=i) rb n2 (fun a ha=>(S.dis i a (m2 a ha)).1) (fun a ha=>S.new i a (m2 a ha)) (fun a ha j hj=>S.dj i j (Ne.symm hj) a (m2 a ha)) (by simp[aB,i0]);rw[cH hvi]at S1;have S2:=S1.put (i:=h) (rx.toAdr hA hk) n1 (fun a ha=>(S.dis i a (m1 a ha)).1) (fun a ha=>S.new i a (m1 a ha)) (fun a ha j hj hm=>by
  unfold aI at hm;split at hm
  ·exact n3 a ha a hm rfl
  ·exact S.dj i j (Ne.symm ‹_›) a (m1 a ha) hm) (by simp[aB,h0])
 rw[cH hvh]at S2;refine⟨_,S2,fun g op=>⟨op.nd,op.nf,op.new,fun a ha j hj=>?_⟩⟩;unfold aI at hj;split at hj
 ·exact op.dj a ha i (m1 a hj)
 ·split at hj
  ·exact op.dj a ha i (m2 a hj)
  ·exact op.dj a ha j hj
def Dq(hA:Adr T)(h0:h≠0)(i0:i≠0)(hi:h≠i)(he:L2.PE X e (tP T m)):L2.PE X e (tP T (mGv h i m)):=PE.wk he fun Y H Q hz1=>by
 obtain⟨Z,F,env,fp,S,q⟩:=hz1;unfold mGv at q;split at q
 case h_2=>exact q.elim
 rename_i e1 eg
 obtain⟨fp1,S1,_⟩:=S.give hA h0 i0 hi eg;refine⟨Z,F,e1,fp1,S1,?_⟩;cases em:m e1 with
 |none=>rw[em]at q;exact q
 |some re=>
  obtain⟨r,e2⟩:=re;rw[em]at q;dsimp only at q;split at q
  case h_2=>exact q.elim
  rename_i e3 et
  intro F2 H2 fp2 u f S2 ru op;obtain⟨fp3,S3,o3⟩:=S2.take hA h0 i0 hi et;exact q F2 H2 fp3 u f S3 ru (o3 f op)
end
section
variable{X:Cx}{W:Nat->St->Gq}{p:PT}{hA:p.attOk}
def zk{frs fr:Gm}(hce:X.env.cells=cellsFrom (X.s₀.heap.objs.size+1) X.env.scope.names [])(hfn:∀x,X.fn x=false)(h:pZ X.N X.env.scope.names fr caps=true)(hp:∀x,x∈frs↔x∈fr):zU X fr caps (wx X frs):=by
 have mem:∀q,q∈wx X frs↔∃x∈fr,(x,(X.env.cells.lookup x).getD 0)=q:=fun q=>by simp[wx,hp]
 have cell:∀x∈fr,X.env.scope.names.lookup x=some .cell:=fun x hx=>by obtain⟨k,hk,e⟩:=getElem_of_mem hx;obtain⟨_,_,_,q⟩:=mJ h k x (by rw[getElem?_eq_getElem hk,e]);exact q
 refine⟨oN h,fun k x e=>?_,fun x c e=>?_,fun q hq=>?_⟩
 ·obtain⟨j,h1,h2,h3⟩:=mJ h k x e;have hm:(x,(X.env.cells.lookup x).getD 0)∈ wx X frs:=(mem _).mpr ⟨x,List.mem_of_getElem? e,rfl⟩;refine⟨j,h1,h2,h3,_,hm,oh (f:=fun x=>(X.env.cells.lookup x).getD 0) (fun q hq=>?_) ⟨_,hm⟩⟩;obtain⟨y,_,rfl⟩:=(mem q).mp hq;rfl
 ·obtain⟨y,hy,e2⟩:=(mem _).mp (PySem.mem_of_lookup e);cases e2;exact hy
 ·obtain⟨y,hy,rfl⟩:=(mem q).mp hq;obtain⟨c,hc⟩:=km (n:=X.s₀.heap.objs.size+1) (cell y hy);have hc':X.env.cells.lookup y=some c:=by rw[hce];exact hc
  refine⟨by rw[hc'];rfl,hfn y,?_⟩;show _ <=(X.env.cells.lookup y).getD 0;rw[hc'];rcases kj _ _ _ hc with q|q
  ·exact Nat.le_of_succ_le q
  ·cases q
def Dg(frs:Gm)(i h:Nat)(caps:List Nat)(g:TG p X.K X.mg X.base)(nd:X.N.Nodup)(hi:X.N[i]?=some p.fi.name:=by rfl)(hce:X.env.cells=cellsFrom (X.s₀.heap.objs.size+1) X.env.scope.names []:=by rfl)(hfn:∀x,X.fn x=false:=by intro _;rfl)
  (hst:p.gst=.FunctionDef p.fi.name p.fi.params p.fi.body [] none [] p.fi.scope none p.fi.name p.gpos:=by rfl) (hcode:X.env.code=(dAt X.K (p.fa X.K p.gs.i)).code:=by rfl) (hcl:closureFor p.fi.scope X.env=pure (wx X frs):=by rfl) (hp:frs.Perm p.fi.fr:=by decide +kernel)
  (hc:pZ X.N X.env.scope.names p.fi.fr (h::caps)=true:=by kernel_rfl) (hq:qualnameIn X.env p.fi.name p.fi.name=p.fi.qual:=by rfl) (hd0:p.fi.params.defaults=[]:=by rfl) (hk0:p.fi.params.kw_defaults=[]:=by rfl)
  (ha:annTrees p.fi.params none X.env=[]:=by rfl) (hf:X.env.scope.names.lookup p.fi.name=some .local:=by rfl) :
  SS X (p.T hA X.K) W p.gst (og i 99 h caps):=by
 rw[hst];exact xt (fi:=p.fi) (T:=p.T hA X.K) PT.adr nd hi (.inl hf) (fun H f cvs h=>PT.bx99▸h) (if_pos ⟨g.so,rfl⟩) g.cd (hcode.trans g.co) g.bt hcl (zk hce hfn hc fun x=>hp.mem_iff) hq hd0 hk0 ha (.inr hf)
end
def vA(e:En):Bool:=e.all fun o=>match o with
 |some v=>gK v
 |none=>true
def whV(mc:MT)(m1:MS)(m2:ME)(r c:Nat):Nat->Gs->PV->En->Option En
 |0,_,_,_=>none
 |k+1,rows,cv,e=>match mc ((e.set r (some (PV.Gy (.lst .own rows)))).set c (some cv))with
  |.ok false=>some e
  | .ok true=>(match m1 ((e.set r (some (PV.Gy (.lst .own rows)))).set c (some cv)) with
   | .next e1=>if vA ((e1.set c none).set r none) then (match m2 e1 with
    |.ok (.tup [a,b])=>if(PV.tup [a,b]).has Fl.GD ||(PV.tup [a,b]).has Fl.GB||decide (1000000<=rows.length)then none else whV mc m1 m2 r c k (rows++[.tup [a,b]]) b.Gy ((e1.set c none).set r (some (.lst .own (rows++[.tup [a,b]]))))
    |_=>none)else none
   |_=>none)
  |_=>none
def yG(mc:MT)(m1:MS)(m2:ME)(r c:Nat):MS:=fun env=>match env[r]?,env[c]? with
 | some (some (.lst .own rows)),some (some cv)=>(match whV mc m1 m2 r c 100000 rows cv.Gy (env.set c none) with
  |some e=>.next e
  |none=>.stuck)
 |_,_=>.stuck
def VW(H:Hp)(fp:Nat->Gk)(r:Nat):Gh:=fun a=>(∃o,H a=some o)/\¬Own (aI fp r []) a
section
variable{X:Cx}{T:Tb}{W:Nat->St->Gq}{Z:Zn}{F F1 F2 B L:Gh}{H H1 H2:Hp}{Y σ2:St}{env e1:En}{fp fp2:Nat->Gk}{D:Ends}{ks:List Nat}
def ak.view{rows:Gs}{cv:PV}(S:ak T Z F H Y env fp)(r0:r≠0)(c0:c≠0)(er:env[r]?=some (some (.lst .own rows)))(hv:Y[c]?=some (some v))(rcv:Rel T F (VW H fp r) NoL H cv v []) :
  ∃fp',ak T ⟨H,F,Own (aI fp r []),VW H fp r,Z.pin⟩ F H Y ((env.set r (some (PV.Gy (.lst .own rows)))).set c (some cv)) fp':=by
 have S5:=(S.drop r0).enter.wideB (B':=VW H fp r) (fun a h=>by
  obtain⟨h1,h2⟩:=S.bOut h;refine⟨h1,fun⟨j,hj⟩=>?_⟩;unfold aI at hj;split at hj
  ·cases hj
  ·exact h2 j hj) (fun a h=>h)
 obtain⟨vr,hvr,rr⟩:=S.rel r _ er;have S6:=S5.put (i:=r) (pv:=PV.Gy (.lst .own rows)) (v:=vr) (f:=[]) (Rel.Gy (fun a h=>by
  obtain⟨h1,h2⟩:=S.bOut h;refine⟨h1,fun⟨j,hj⟩=>?_⟩;unfold aI at hj;split at hj
  ·cases hj
  ·exact h2 j hj) (fun a h=>h.elim) (fun a h=>⟨(S.dis r a h).2,fun hz1=>by
  obtain⟨j,hj⟩:=hz1;unfold aI at hj;split at hj
  ·cases hj
  ·exact S.dj r j (Ne.symm ‹_›) a h hj⟩) rr) nodup_nil (fun _ z=>(nomatch z)) (fun _ z=>(nomatch z)) (fun _ z=>(nomatch z)) (by simp[aB,r0])
 rw[cH hvr,set_set]at S6;have S7:=S6.put (i:=c) (pv:=cv) (v:=v) (f:=[]) rcv nodup_nil (fun _ z=>(nomatch z)) (fun _ z=>(nomatch z)) (fun _ z=>(nomatch z)) (by simp[aB,c0]);rw[cH hv]at S7;exact⟨_,S7⟩
def yv{e:En}{pv:PV}{j:Nat}(h:vA e=true)(q:e[j]?=some (some pv)):pv.has Fl.GD=false:=by unfold vA at h;have:=all_eq_true.mp h _ (List.mem_of_getElem? q);simpa[gK]using this
def ak.unview{rows:Gs}(S:ak T Z F H Y env fp)(r0:r≠0)(c0:c≠0)(er:env[r]?=some (some (.lst .own rows)))(Sv:ak T ⟨H,F,Own (aI fp r []),VW H fp r,Z.pin⟩ F2 H2 σ2 e1 fp2)(hk:σ2[r]?=Y[r]?)(nb:vA ((e1.set c none).set r none)=true) :
  ∃fp',ak T Z F2 H2 σ2 ((e1.set c none).set r (some (.lst .own rows))) fp':=by
 have Sd:=(Sv.drop c0).drop r0;have Sr:ak T (Z.re F H (aI fp r [])) F2 H2 σ2 ((e1.set c none).set r none) _:=⟨⟨(S.drop r0).enter.hp.bo,Sd.hp.keep,Sd.hp.f0,Sd.hp.fn,Sd.hp.ft⟩,Sd.len,fun j pv e=>by
  obtain⟨v,h1,h2⟩:=Sd.rel j pv e;exact⟨v,h1,Rel.noB (yv nb e) h2⟩,Sd.nd,Sd.dj,Sd.dis,Sd.new,Sd.ch,Sd.pn⟩
 have Sl:=(S.drop r0).leave Sr;obtain⟨vr,hvr,rr⟩:=S.rel r _ er;have out:∀a∈fp r,¬Own (aI fp r []) a:=fun a ha hz1=>by
  obtain⟨j,hj⟩:=hz1;unfold aI at hj;split at hj
  ·cases hj
  ·exact S.dj r j (Ne.symm ‹_›) a ha hj
 have r2:Rel T F2 Z.B NoL H2 (.lst .own rows) vr (fp r):=by
  refine Rel.tr (fun a h=>Sv.hp.f0 a h) (fun _ h=>h) (fun _ h=>h) (fun a o q h=>Sv.hp.keep a o q fun⟨j,hj⟩=>?_) (fun a ha o q=>Sv.hp.keep a o q (out a ha)) rr;unfold aI at hj;split at hj
  ·cases hj
  ·rcases h with h|h|h|h
   ·exact(S.dis j a hj).1 h
   ·exact(S.bOut h).2 j hj
   ·exact h
   ·obtain⟨o',h1,h2⟩:=S.ch j a hj;have q':H a=some o:=q;rw[q']at h1;cases h1;cases o<;>first|exact h2|exact h
 have:=Sl.put (i:=r) (pv:=.lst .own rows) (v:=vr) (f:=fp r) r2 (S.nd r) (fun a ha z=>by
  rcases Sv.hp.fn a z with q|q|q
  ·exact(S.dis r a ha).1 q
  ·obtain⟨_,o,ho⟩:=S.dis r a ha;have q':H a=none:=q;rw[ho]at q';cases q'
  ·exact out a ha q) (S.new r) (fun a ha j _ hj=>by
  rcases Sd.new j a hj with q|q
  ·obtain⟨_,o,ho⟩:=S.dis r a ha;have q':H a=none:=q;rw[ho]at q';cases q'
  ·exact out a ha q) (by simp[aB,r0])
 rw[cH (hk.trans hvr),set_set]at this;exact⟨_,this⟩
def xp{r c:Nat}{k1 k2}{nr nc:Str}{ce e:Expr}{st:Stmt}{mc:MT}{m1:MS}{m2:ME}{pos p1 p2 p3 p4 p5 p6 p7 p8 p9 p10 p11 p12:Pos}(hp:PassesOwn (model X.prog X.w) X.A X.env X.xe)(hK:X.K=T.K)(hN:X.N.Nodup)
  (hr:X.N[r]?=some nr) (hvr:Vis X.env.scope nr) (hcn:X.N[c]?=some nc) (hlc:Loc X.env.scope nc) (r0:r≠0) (c0:c≠0) (rc:r≠c) (hck:c∉ks)
  (hce:ST X T W ce mc) (h1:SSK X T W (r::c::ks) st m1) (he:SE X T W e m2)
  (hs:swapsWith (.Call (.Attribute (.Name nr p1) "append" p2) [e] [] p3) none p4.line X.env=pure false:=by rfl) (hst:starEach [e] X.env=[(false,eval e X.env)]:=by rfl)
  (hfew:((backTo p3 (starEach [e] X.env)).all (fun x=>!x.1)&&(backToKw p3 (keywordEach [] X.env)).all (fun x=>x.1.isSome)&&decide ([e].length+([]:List Keyword).length+(if([]:List Keyword).isEmpty then 0 else 1)<30))=true:=by rfl)
  (hline:(p2.endLine==p3.line)=true:=by rfl) (hd:(nr ==("__debug__":Str))=false:=by decide) (hcd:(nr ==("__classdict__":Str))=false:=by decide)
  (hs2:swapsWith (.Subscript (.Subscript (.Name nr p6) (.UnaryOp .USub (.Constant (.int 1) k1 p7) p8) p9) (.Constant (.int 1) k2 p10) p11) (some (.Name nc p5)) p12.line X.env=pure false:=by rfl)
  (hfc:X.fn nc=true\/X.env.scope.names.lookup nc=some .local:=by first|exact .inl rfl|exact .inr rfl|assumption)
  (hx1:d0 (.UnaryOp .USub (.Constant (.int 1) k1 p7) p8):=by intro _ _;rfl) (hx2:d0 (.Constant (.int 1) k2 p10):=by intro _ _;rfl) :
  SSK X T W ks (.While ce [st,.Expr (.Call (.Attribute (.Name nr p1) "append" p2) [e] [] p3) p4,.Assign [.Name nc p5] (.Subscript (.Subscript (.Name nr p6) (.UnaryOp .USub (.Constant (.int 1) k1 p7) p8) p9) (.Constant (.int 1) k2 p10) p11) p12] [] pos) (yG mc m1 m2 r c):=
 PS.wk (nH (pos:=pos) hp hce (f_ h1 (f_ (dS (pos:=p4) (nO (cpos:=p3) (apos:=p2) PySem.F.plainAttrs_list PySem.F.slot_list_append PySem.F.type_list_append e_ (bV (pos:=p1) hr hvr hd hcd) (ac he ag hst) rfl hfew hline hst) hs)
  (gB (lW (pos:=p12) hN hcn hlc (nN (pos:=p11) jb (nN (pos:=p9) jb (bV (pos:=p6) hr hvr hd hcd) (zF (pos:=p8) uf (iZ (i:=1) (j:=k1) (pos:=p7))) hx1) (iZ (i:=1) (j:=k2) (pos:=p10)) hx2) hs2 hfc))))) fun D Y H hz1=>by
  obtain⟨Z,F,env,fp,S,q⟩:=hz1;unfold yG at q;split at q
  case h_2=>exact q.elim
  rename_i rows cv er ec
  split at q
  case h_2=>exact q.elim
  rename_i ef ew
  obtain⟨v0,hv0,rv0⟩:=S.rel c cv ec;have cl:c<env.length:=(List.getElem?_eq_some_iff.mp ec).1;refine ⟨fun n σ' H'=>∃ F env fp rows cv v,ak T Z F H' σ' env fp/\env[r]?=some (some (.lst .own rows))/\env[c]?=some none/\σ'[c]?=some (some v)/\(∀ j ∈ ks,σ'[j]?=Y[j]?)/\Rel T F (VW H' fp r) NoL H' cv v []/\whV mc m1 m2 r c n rows cv env=some ef,
   ⟨100000,F,env.set c none,aI fp c [],rows,cv.Gy,v0,S.drop c0,by rw[getElem?_set_ne (Ne.symm rc)];exact er,by rw[getElem?_set];simp[cl],hv0,fun _ _=>rfl,Rel.Gy (fun a h=>?_) (fun a h=>h.elim) (fun a h=>?_) rv0,ew⟩,?_⟩
  ·obtain⟨h1,h2⟩:=S.bOut h;refine⟨h1,fun⟨j,hj⟩=>?_⟩;unfold aI at hj;split at hj
   ·cases hj
   ·split at hj
    ·cases hj
    ·exact h2 j hj
  ·refine⟨(S.dis c a h).2,fun⟨j,hj⟩=>?_⟩;unfold aI at hj;split at hj
   ·cases hj
   ·split at hj
    ·cases hj
    ·exact S.dj c j (Ne.symm ‹_›) a h hj
  clear er ec hv0 rv0 ew cl;rintro n σ' H' ⟨F',env',fp',rows,cv,v,S',er,ec,hv,hks,rcv,ew⟩;cases n with
  |zero=>cases ew
  |succ n=>
  unfold whV at ew;obtain⟨fpv,Sv⟩:=S'.view r0 c0 er hv rcv;obtain⟨vr,hvr',rr'⟩:=S'.rel r _ er;refine⟨_,F',_,fpv,Sv,?_⟩;split at ew
  ·rename_i et
   rw[et];cases ew;exact fun H1 F1 g=>(if_neg (by decide)).mpr (q F1 H1 σ' fp' (S'.grow g) hks)
  rotate_left
  ·cases ew
  rename_i et
  rw[et];intro H1 F1 g;refine(if_pos rfl).mpr ⟨fun σ' H'=>∃F env fp rows cv v,ak T Z F H' σ' env fp/\env[r]?=some (some (.lst .own rows))/\env[c]?=some none/\σ'[c]?=some (some v)/\(∀j∈ks,σ'[j]?=Y[j]?)/\Rel T F (VW H' fp r) NoL H' cv v []/\whV mc m1 m2 r c n rows cv env=some ef,fun σ2 H2 h=>⟨n,lt_succ_self n,h⟩,_,F1,_,fpv,Sv.grow g,?_⟩;split at ew
  case h_2=>cases ew
  rename_i e1 em1
  rw[em1];split at ew
  case isFalse=>cases ew
  rename_i hnb0
  split at ew
  case h_2=>cases ew
  rename_i pa pb em2
  split at ew
  ·cases ew
  rename_i hnb
  simp only[or_eq_true,decide_eq_true_eq,not_or,Bool.not_eq_true]at hnb;obtain⟨⟨nb,nl⟩,nrow⟩:=hnb;intro F2 H2 σ2 fp2 S2 kp;obtain⟨fp3,S3⟩:=S'.unview r0 c0 er S2 (kp r (by simp)) hnb0;have c2:c<σ2.length:=by have:=kp c (by simp);rw[hv]at this;exact(List.getElem?_eq_some_iff.mp this).1
  have c3:c<e1.length:=by rw[<- S2.len];exact c2
  have r3:r <(e1.set c none).length:=by rw[length_set,<- S2.len];have:=kp r (by simp);rw[hvr']at this;exact(List.getElem?_eq_some_iff.mp this).1
  generalize henv3:(e1.set c none).set r (some (.lst .own rows))=env3 at S3;have er3:env3[r]?=some (some (.lst .own rows)):=by rw[<- henv3];exact getElem?_set_self r3
  have ec3:env3[c]?=some none:=by rw[<- henv3,getElem?_set_ne rc];exact getElem?_set_self c3
  obtain⟨ra,ws,fpr,hra3,hla,hrr,hfr⟩:=S3.lst er3;have ram3:ra∈fp3 r:=by rw[hfr];exact mem_cons_self
  refine⟨_,hra3,.inl ⟨rfl,ws,by rw[hK];exact SqL.of hla⟩,_,F2,_,_,S2,?_⟩;unfold ae ah;rw[em2];intro vs H4 F4 f4 g r4 n4 d4 w4;obtain⟨u,rfl,ru⟩:=r4.one;have S7:=S3.grow g;have hl4:=g.ext ra _ hla;refine⟨ra,ws,u,rfl,rfl,hl4,?_,?_⟩
  ·rw[<- hrr.length,sizeLine_eq];omega
  have ru':Rel T F4 Z.B NoL H4 (.tup [pa,pb]) u f4:=Rel.noL nl (Rel.noB nb ru);have rone:RelL T F4 Z.B NoL H4 [.tup [pa,pb]] [u] f4:=by unfold RelL;exact⟨u,[],f4,[],rfl,ru',by unfold RelL;exact⟨rfl,rfl⟩,by simp⟩
  have bes:=S3.beside g n4 w4;have S8:=S7.mutL (v:=u) er3 hra3 hfr (RelL.append (hrr.ext g.ext g.mono) rone) (by
   grind[aI,ak,bB,Gr]) (fun b hb=>by
   rcases mem_append.mp hb with hb|hb
   ·exact .inl hb
   ·exact .inr (bes b hb)) hl4
  unfold Rel at ru';obtain⟨ta,tvs,rfl,hsq,hrl⟩:=ru';unfold RelL at hrl;obtain⟨va,w1,fa,fb0,rfl,hra4,hrl,ef4⟩:=hrl;unfold RelL at hrl;obtain⟨vb,w2,fb,fz,rfl,hrb4,hrl,efb⟩:=hrl;unfold RelL at hrl;obtain⟨rfl,rfl⟩:=hrl;have fbm:∀a∈fb,a∈f4:=fun a ha=>by rw[ef4,efb];simp[ha]
  have raF:¬F4 ra:=(S7.dis r ra ram3).1;have raB:¬Z.B ra:=fun z=>(S7.bOut z).2 r ram3;have nfix:∀o,H4 ra=some o->¬dQ o:=fun o h=>by rw[hl4]at h;cases h;exact fun z=>z
  have keep8:∀a o,H4 a=some o->a≠ra->upd H4 ra (.lst (ws++[V.ref ta])) a=some o:=fun a o h n=>by unfold upd;rw[if_neg n];exact h
  have hsq8:SqT T.K (upd H4 ra (.lst (ws++[V.ref ta]))) ta [va,vb]:=SqT.tr (fun o h1 h2=>keep8 ta o h1 fun z=>nfix o (by rw[<- z];exact h1) h2) hsq;have hrb8:Rel T F4 Z.B NoL (upd H4 ra (.lst (ws++[V.ref ta]))) pb vb fb:=Rel.tr (fun _ h=>h) (fun _ h=>h) (fun _ h=>h) (by grind) (fun a ha o h=>keep8 a o h fun z=>(bes a (fbm a ha)).2.2 r (by rw[z];exact ram3)) hrb4;have ra8:upd H4 ra (.lst (ws++[V.ref ta])) ra=some (.lst (ws++[V.ref ta])):=by unfold upd;simp
  refine⟨_,hra3,1,rfl,.inl ⟨ra,ws++[V.ref ta],-1,V.ref ta,rfl,rfl,by rw[hK];exact SqL.of ra8,atI_last ws _,.inr (.inl ⟨ta,[va,vb],1,vb,rfl,rfl,by rw[hK];exact hsq8,rfl,?_⟩)⟩⟩;have ec8:(env3.set r (some (.lst .own (rows++[.tup [pa,pb]]))))[c]?=some none:=by rw[getElem?_set_ne rc];exact ec3
  have rl:r<env3.length:=(List.getElem?_eq_some_iff.mp er3).1;refine⟨F4,_,_,rows++[.tup [pa,pb]],pb.Gy,vb,S8.blind c0 ec8 vb,by rw[getElem?_set];simp[rl],ec8,by rw[getElem?_set];simp[c2],fun j hj=>?_,Rel.Gy (fun a h=>?_) (fun a h=>h.elim) (fun a h=>?_) hrb8,?_⟩
  ·have jc:c≠j:=fun z=>hck (by rw[z];exact hj);rw[getElem?_set_ne jc,kp j (by simp[hj])];exact hks j hj
  ·obtain⟨h1,h2⟩:=S8.bOut h;refine⟨h1,fun⟨j,hj⟩=>?_⟩;unfold aI at hj;split at hj
   ·cases hj
   ·rename_i jr
    have:=h2 j;unfold aI at this;rw[if_neg jr]at this;exact this hj
  ·refine⟨hrb8.there a h,fun⟨j,hj⟩=>?_⟩;unfold aI at hj;split at hj
   ·cases hj
   ·exact(bes a (fbm a h)).2.2 j hj
  ·rw[<- henv3,set_set];exact ew
end
def kC(body:MS)(t u:Nat):Gs->Gs->En->Option (Gs×En)
 |done,[],e=>some (done,e)
 |done,y::ys,e=>match body ((e.set t (some (.int (done.length:Nat)))).set u (some y))with
  | .next e'=>(match e'[u]? with
   |some (some y')=>kC body t u (done++[y']) ys (e'.set u none)
   |_=>none)
  |_=>none
def n_(j t u:Nat)(body:MS):MS:=fun env=>match env[j]? with
 | some (some (.lst .own ys))=>(match kC body t u [] ys ((env.set j none).set u none) with
  |some (ys',e)=>.next (e.set j (some (.lst .own ys')))
  |none=>.stuck)
 |_=>.stuck
section
variable{X:Cx}{T:Tb}{W:Nat->St->Gq}{Z:Zn}{F F1 B L:Gh}{H H1:Hp}{Y:St}{env:En}{fp:Nat->Gk}{D:Ends}{ks:List Nat}
def ul{j t u k:Nat}{y tn un:Str}{body:List Stmt}(hp:PassesOwn (model X.prog X.w) X.A X.env X.xe)(hc:X.calm=true)(hK:X.K=T.K)(hN:X.N.Nodup)(hg:Gl X "enumerate")(hm:X.mg "enumerate"=none)
  (hj:X.N[j]?=some y) (hvj:Vis X.env.scope y) (ht:X.N[t]?=some tn) (hx:Loc X.env.scope tn) (hu:X.N[u]?=some un) (hxu:Loc X.env.scope un)
  (hju:j≠u) (hjt:j≠t) (j0:j≠0) (t0:t≠0) (u0:u≠0) (hb:qc X T W [j,u] body mb)
  (hf:X.fn tn=true\/X.env.scope.names.lookup tn=some .local:=by first|exact .inl rfl|exact .inr rfl|assumption) (hf2:X.fn un=true\/X.env.scope.names.lookup un=some .local:=by first|exact .inl rfl|exact .inr rfl|assumption)
  (hd2:(y ==("__debug__":Str))=false:=by decide) (hcd2:(y ==("__classdict__":Str))=false:=by decide)
  (hs:∀z,foldedSetIterable (.Call (.Name "enumerate" zp) [.Name y py] [] zpos) X.env z=pure z:=by intro _;rfl) :
  SSK X T W [j] (.For (.Tuple [.Name tn pt,.Name un pu] k tpos) (.Call (.Name "enumerate" zp) [.Name y py] [] zpos) body [] pos) (n_ j t u mb):=
 PS.wk (uQ (pos:=pos) hp hc (nM hg hm (bV (pos:=py) hj hvj hd2 hcd2)) (uX hc (jX (jE (pos:=pt) hN ht hx hf) (jX (jE (pos:=pu) hN hu hxu hf2) qz))) hb hs) fun D Y H hz1=>by
  obtain⟨Z,F,env,fp,S,q⟩:=hz1;unfold n_ at q;split at q
  case h_2=>exact q.elim
  rename_i ys eo
  split at q
  case h_2=>exact q.elim
  rename_i ys' ef ee
  obtain⟨b,ws,fo,h2,hl2,hr2,hfp⟩:=S.lst eo;refine⟨_,h2,b,false,ws,rfl,SqL.of hl2,?_⟩;have okJ:∀e:En,aB j e=true:=fun e=>by simp[aB,j0]
  have out:∀c∈fp j,∀j',c∉aI (aI fp j []) u [] j':=fun c hc j' hj'=>by
   unfold aI at hj';split at hj'
   ·cases hj'
   ·split at hj'
    ·cases hj'
    ·rename_i h1
     exact S.dj j j' (Ne.symm h1) c hc hj'
  refine ⟨fun kk n σ2 H2=>n=ws.length - kk/\kk <= ws.length/\∃ F2 env2 fp2 done aV fo,ak T Z F2 H2 σ2 env2 fp2/\σ2[j]?=Y[j]?/\H2 b=some (.lst ws)/\RelL T F2 Z.B NoL H2 (done ++ aV) ws fo/\done.length=kk/\Orp Z F2 fp2 ([b] ++ fo)/\kC mb t u done aV env2=some (ys',ef),
   ⟨ws.length,by simp,zero_le _,F,_,_,[],ys,fo,(S.drop j0).drop u0,rfl,hl2,hr2,rfl,⟨by have:=S.nd j;rw[hfp]at this;exact this,fun c hc=>(S.dis j c (by rw[hfp];exact hc)).1,fun c hc=>S.new j c (by rw[hfp];exact hc),fun c hc=>out c (by rw[hfp];exact hc)⟩,ee⟩,?_⟩
  rintro kk n σ2 H2 ⟨rfl,hk,F2,env2,fp2,done,aV,fo,S2,hσ,hb2,ry,hdn,op,ef'⟩;have ly:=ry.length;rw[length_append]at ly;cases aV with
  |cons y r=>
   have lw:kk<ws.length:=by rw[length_cons]at ly;omega
   have ew:ws[kk]?=some ws[kk]:=by simp[lw]
   generalize hw:ws[kk]=w at ew;unfold kC at ef';split at ef'
   case h_2=>cases ef'
   rename_i e4 eb
   split at ef'
   case h_2=>cases ef'
   rename_i y' ey
   refine .inr ⟨⟨ws,w,SqL.of hb2,ew⟩,fun σ' H'=>∃F2 env2 fp2 done aV fo,ak T Z F2 H' σ' env2 fp2/\σ'[j]?=Y[j]?/\H' b=some (.lst ws)/\RelL T F2 Z.B NoL H' (done++aV) ws fo/\done.length=kk+1/\Orp Z F2 fp2 ([b]++ fo)/\kC mb t u done aV env2=some (ys',ef),fun σ' H' h=>⟨ws.length-(kk+1),by omega,rfl,by omega,h⟩,fun z H' hy=>?_⟩;obtain⟨p,w',hp',rfl,rfl,q2⟩:=hy;have e2:=q2 ws (SqL.of hb2);rw[ew]at e2;cases e2;refine⟨p,[.int (0+kk),w],rfl,SqT.of aM,rfl,_,[w],rfl,w,[],rfl,rfl,?_⟩;have ex:Ext H2 (upd H2 p (.tup [.int (0+kk),w])):=Ext.upd hp';have S2':=S2.grow (Gr.same S2.hp.ft ex);have S3a:=S2'.put (i:=t) (pv:=.int (done.length:Nat)) (v:=.int (0+kk)) (f:=[]) (by unfold Rel;exact⟨by rw[hdn];simp,rfl⟩) nodup_nil (fun _ h=>nomatch h) (fun _ h=>nomatch h) (fun _ h=>nomatch h) (by simp[aB,t0]);show tSK T W [j,u] mb _ ((σ2.set t (some (.int (0+kk)))).set u (some w)) (upd H2 p (.tup [.int (0+kk),w]));refine vj (σ0:=Y) (i:=j) (t:=u) (ks:=[]) (Sq:=fun H vs=>H b=some (.lst vs)) (ho:=[b]) (vs:=ws) (done:=done) (r:=r) (x:=y) (y:=y') hju u0 (by simp) (fun k1 _ h=>k1 b (by simp) _ h) (fun h c hc=>by rw[mem_singleton.mp hc];exact⟨_,h⟩) S3a (fun jj hjj=>?_) (ex b _ hb2) (ry.ext ex fun _ h=>h) ⟨op.nd,op.nf,op.new,fun c hc j' hj'=>?_⟩ (by rw[hdn];exact ew) eb ey (fun F4 H4 σ4 fp4 fo' S4 k4 sq4 rl4 op4 hF4 hk4=>?_)
   ·rw[mem_singleton.mp hjj,getElem?_set_ne (Ne.symm hjt)];exact hσ
   ·unfold aI at hj';split at hj'
    ·cases hj'
    ·exact op.dj c hc j' hj'
   ·exact⟨F4,_,fp4,done++[y'],r,fo',S4,k4 j (by simp),sq4,rl4,by simp[hdn],op4,ef'⟩
  |nil=>unfold kC at ef';cases ef';rw[append_nil]at ry;rw[List.length_nil]at ly;refine .inl ⟨⟨ws,SqL.of hb2,by omega⟩,?_⟩;have S6:=S2.put (i:=j) (pv:=.lst .own ys') (v:=.ref b) (f:=b::fo) (by unfold Rel;exact⟨b,ws,fo,rfl,hb2,ry,rfl⟩) op.nd op.nf op.new (fun c hc j' _=>op.dj c hc j') (okJ _);rw[cH (hσ.trans h2)]at S6;exact q _ _ _ _ S6 fun jj hjj=>by rw[mem_singleton.mp hjj];exact hσ
end
end PR
namespace PR
open PySem PySem.Spec L2 PyProof.Rows
section
variable{prog:Program}{w:World}{A:Around}{E:Gc}{s:Shared}
def rvO(n:Int):Obj:={cls:=.type "range_iterator",data:=.fields #[rawInt (n-1),rawInt n,rawInt (-1)]}
def sf(r:Addr)(n:Int)(t u v:Tok)(h0:0<=n)(h1:n<=1000000) :
  Meets (Builtin.«range.__reversed__» ⟨[.ref r],[]⟩) (fun _ R s=>s.heap.get? r=some {cls:=.type "range",dict:=none,data:=.fields #[.int 0 t,.int n u,.int 1 v],slots:=#[]}/\R (.ok (.ret (Value.ref s.heap.objs.size))) {s with heap:=s.heap.push (rvO n),toks:=s.toks}):=by
 have hz:Builtin.Range.rangeSize 0 n 1=n:=by unfold Builtin.Range.rangeSize;simp only[show((1:Int)>0)=True by simp,if_true];split<;>omega
 have hsm:(Builtin.Range.rangeFitsLong 0&&Builtin.Range.rangeFitsLong n&&Builtin.Range.rangeFitsLong 1&&Builtin.Range.rangeFitsLong (-1)&&Builtin.Range.rangeFitsLong (0-1)&&Builtin.Range.rangeFitsLong n)=true:=by simp only[Builtin.Range.rangeFitsLong,and_eq_true,decide_eq_true_eq];omega
 have hc0:¬((!(Builtin.Range.rangeFitsLong 0&&Builtin.Range.rangeFitsLong n&&Builtin.Range.rangeFitsLong 1&&Builtin.Range.rangeFitsLong (-1)&&Builtin.Range.rangeFitsLong (0-1)&&Builtin.Range.rangeFitsLong (Builtin.Range.rangeSize 0 n 1)))=true):=by rw[hz,hsm];decide
 refine .of_wp fun prog w A R s h=>?_;obtain⟨hp,g,d,tk,os⟩:=s;obtain⟨hl,h⟩:=h
 wp_walk
 rw[if_neg hc0]
 wp_walk
 refine⟨_,rfl,?_⟩;rw[hz,hsm,if_pos rfl,Int.zero_add,Int.mul_one];exact h
def gM{r:Addr}{n:Int}{t u v:Tok}{Q:Gc}(h0:0<=n)(h1:n<=1000000)(hr:s.heap.get? r=some {cls:=.type "range",dict:=none,data:=.fields #[.int 0 t,.int n u,.int 1 v],slots:=#[]})
  (h:Q (.ref s.heap.objs.size) {s with heap:=s.heap.push (rvO n)}):wpAny (model prog w) A (call (.type "reversed") [.ref r]) Q E s:=by
 have hT:s.TypeIs (.ref r) "range":=⟨_,hr,rfl⟩
 refine callType_other (U:="range_iterator") (Q₁:=fun obj s₁=>obj=.ref s.heap.objs.size/\s₁={s with heap:=s.heap.push (rvO n)}) (by decide +kernel) F.create_reversed ⟨_,_,F.mro_reversed⟩ F.made_reversed (by rw[isSubtype_type];kernel_rfl) (F.typeCall_reversed_1 _) ?_ ?_
 ·refine codeAny_of_tree ?_;show wpAny _ A.in1.in1 (do checkBuiltinCall "reversed.__new__" ⟨[.type "reversed",.ref r],[]⟩;again (.builtin "reversed.__new__" ⟨[.type "reversed",.ref r],[]⟩)) _ _ s;refine wpAny_bind (wpAny_of_eq (F.newCall_reversed_1 _) (wpAny_pure ⟨plainId_quiet F.plain_reversed_new _,codeAny_builtin F.entry_reversed_new ?_⟩));rw[Around.under_plainId F.plain_reversed_new _];unfold Builtin.«reversed.__new__»;refine wpAny_bind (wpAny_of_eq (newClass_reversed _) ?_)
  try dsimp only
  refine wpAny_bind (wpAny_of_eq (a:=()) (by first|rfl|kernel_rfl) ?_);refine wpAny_bind (wpAny_of_eq (a:=()) (by first|rfl|kernel_rfl) ?_)
  try dsimp only
  refine wpAny_bind (wpAny_specialOf hT F.slot_range_reversed.lookup ?_)
  try dsimp only
  refine wpAny_bind (wpAny_of_eq (F.slot_range_reversed.bind _) ?_)
  try dsimp only
  first
  |rw[if_neg (show ¬((Value.builtin "range.__reversed__"==Value.none)=true)from Bool.false_ne_true)]
  |(show wpAny _ _ (if(Value.builtin "range.__reversed__"==Value.none)=true then _ else _) _ _ _;rw[if_neg (show ¬((Value.builtin "range.__reversed__"==Value.none)=true)from Bool.false_ne_true)])
  refine wpAny_bind (wpAny_rule ?_);refine wpAny_bind (m:=runValue (.call (.builtin "range.__reversed__") ⟨[.ref r],[]⟩)) (show wpAny _ _ (call (.builtin "range.__reversed__") [.ref r]) _ _ _ from call_meets F.slot_range_reversed hT F.entry_range_reversed (F.args_range_reversed_1 _) (sf r n t u v h0 h1) ⟨hr,?_⟩)
  first
  |exact wpAny_pure ⟨rfl,rfl⟩
  |exact wpAny_bind (wpAny_pure (wpAny_pure ⟨rfl,rfl⟩))
 ·rintro obj s₁ ⟨rfl,rfl⟩;exact⟨⟨_,get?_push_size _ rfl,rfl⟩,h⟩
end
def qI(ms:MA):MI:=fun env=>(ms env).bind fun xs=>match xs with
 | [.int n]=>if 0<=n/\n<=1000000 then .ok (rZ (n-1) (-1) n.toNat)else .stuck
 |_=>.stuck
section
variable{X:Cx}{T:Tb}{W:Nat->L2.St->Gq}{Z:Zn}{F F1 B L:Gh}{H H1:Hp}{Y:L2.St}{env:En}{fp:Nat->Gk}{D:Ends}
def Eh(ta:TA):TI:=fun Y H R=>ta Y H fun vs H1=>∃n:Int,vs=[.int n]/\0<=n/\n<=1000000/\R (zv (n-1) (-1) n.toNat) H1
def kJ:bootBuiltins "reversed"=some (.type "reversed"):=by kernel_rfl
def ye(hg:Gl X "reversed")(hm:X.mg "reversed"=none)(hg2:Gl X "range")(hm2:X.mg "range"=none)(ha:PA X [a] ta)(hs:starEach [a] X.env=[(false,eval a X.env)]:=by rfl) :
  PI X tg (.Call (.Name "reversed" p) [.Call (.Name "range" p2) [a] [] pos2] [] pos) (Eh ta):=by
 intro js s Y H R I h;refine Call_ (dL I hg hm kJ (PyProof.Rows.callWith_type1 (Calls.spliced_cons (Call_ (dL I hg2 hm2 boot_range (PyProof.Rows.callWith_type1 (thn (ha pos2 js s Y H _ I h) fun us s1 zz=>?_) hs rfl)))) rfl rfl));obtain⟨vs,H1,I1,r1,q1⟩:=zz;obtain⟨n,e,q1,q2,q⟩:=q1;subst e;cases r1 with
 |cons r rr=>
  cases rr;obtain⟨t,rfl⟩:=r;refine call_range_1 (Calls.spliced_nil ?_);refine gM q1 q2 (get?_push_size _ rfl) ?_;generalize hR:({cls:=.type "range",data:=.fields #[.int 0 s1.toks,.int n t,.int 1 (s1.toks+1)]}:Obj)=rO;have I2:L2.Inv X js Y H1 {s1 with heap:=s1.heap.push rO,toks:=s1.toks+1+1}:=I1.kept fun b o e=>get?_push_of_some _ e;have e1:(n-1)+((0:Nat):Int)*(-1)=n-1:=by simp
  have e2:((n.toNat:Nat):Int)-((0:Nat):Int)=n:=by omega
  have hit:IsRangeIter ((s1.heap.push rO).push (rvO n)) (s1.heap.push rO).objs.size ((n-1)+((0:Nat):Int)*(-1)) (((n.toNat:Nat):Int)-((0:Nat):Int)) (-1):=by rw[e1,e2];exact get?_push_size _ rfl
  refine wpAny_pyIter_rangeiter hit ?_;refine⟨(s1.heap.push rO).objs.size,[(s1.heap.push rO).objs.size],_,_,H1,rfl,I2.kept (t':=s1.toks+1+1) fun b o e=>get?_push_of_some _ e,m5 _ (n-1) (-1) n.toNat,hit,fun b hb=>?_,q⟩;have e:b=(s1.heap.push rO).objs.size:=by simpa using hb
  subst e;exact I2.fpOk (Nat.le_refl _) (I2.hok.fresh (Nat.le_refl _))
def uu(hg:Gl X "reversed")(hm:X.mg "reversed"=none)(hg2:Gl X "range")(hm2:X.mg "range"=none)(ha:SA X T W [a] ms)(hs:starEach [a] X.env=[(false,eval a X.env)]:=by rfl) :
  SIc X T W tg (.Call (.Name "reversed" p) [.Call (.Name "range" p2) [a] [] pos2] [] pos) (qI ms):=fun js s Y H R I h=>ye hg hm hg2 hm2 ha hs js s Y H R I (by
 obtain⟨Z,F,env,fp,S,q⟩:=h;unfold qI at q;refine tA.bq S fun xs vs H1 F1 f1 e1 g1 r1 n1 d1 w1=>?_;rw[e1]at q;simp only[Res.GL]at q;split at q
 ·rename_i n
  split at q
  ·rename_i hc
   obtain⟨v,rfl,r2⟩:=r1.one;unfold Rel at r2;obtain⟨rfl,_⟩:=r2;exact⟨n,rfl,hc.1,hc.2,q _ H1 F1 g1 vV⟩
  ·exact q.elim
 ·exact q.elim)
end
end PR
namespace PR
open PySem PySem.Spec L2
open PySem.W (keepIn Frag)
section
variable{X:Cx}{T:Tb}{W:Nat->St->Gq}{Z:Zn}{F F1 B L:Gh}{H H1:Hp}{Y:St}{env:En}{fp:Nat->Gk}{D:Ends}{ks:List Nat}
def kQ{i:Nat}{x:Str}{pos px apos cpos:Pos}(hK:X.K=T.K)(hN:X.N[i]?=some x)(hv:Vis X.env.scope x)
  (hs:swapsWith (.Call (.Attribute (.Name x px) "clear" apos) [] [] cpos) none pos.line X.env=pure false:=by rfl) (hline:(apos.endLine==cpos.line)=true:=by rfl) (hd:(x ==("__debug__":Str))=false:=by decide) (hcd:(x ==("__classdict__":Str))=false:=by decide) :
  SSK X T W ks (.Expr (.Call (.Attribute (.Name x px) "clear" apos) [] [] cpos) pos) (i6 i):=
 PS.wk (dS (pos:=pos) (u_ (cpos:=cpos) (apos:=apos) PySem.F.plainAttrs_list PySem.F.slot_list_clear PySem.F.type_list_clear n0 (bV (pos:=px) hN hv hd hcd) rfl hline) hs) fun D Y H hz1=>by
  obtain⟨Z,F,env,fp,S,q⟩:=hz1;unfold i6 at q;split at q
  ·rename_i xs eo
   obtain⟨a,ws,fp',h1,hl,hr,hf⟩:=S.lst eo;refine⟨_,h1,.inl ⟨rfl,ws,by rw[hK];exact SqL.of hl⟩,a,ws,rfl,rfl,hl,?_⟩;exact q F _ Y _ (S.mutL (v:=.non) (f':=[]) eo h1 hf (by unfold RelL;exact⟨rfl,rfl⟩) nodup_nil (fun _ z=>(nomatch z)) hl) fun _ _=>rfl
  ·exact q.elim
end
section
variable{P:Program}{w:World}{K:Frag}{mg:Ge}{base:Heap}{p:PT}{hA:p.attOk}
abbrev OkV(p:PT)(hA:p.attOk)(P:Program)(w:World)(K:Frag)(mg:Ge)(base:Heap)(k i c:Nat)(m:Gs->Option (PV×PV)):Prop:=b8 P w K mg base (CXP P w) k (p.fa K i) (dAt K (p.fa K i)) (p.ps i) (spV (p.T hA K) (p.ps i).length c m)
def okV(i:Nat)(t:Tx p K mg)(body:∀ (cdv:Value) (A:Around) (outer:List Env) (s:Shared) (H:Hp) (E:XK),Ctx (cy (CXP P w) P w K mg base (p.fs i).N (p.fs i).q (aw (p.fs i).s) (p.fa K i) cdv A outer s H E) (p.T hA K) (WD (p.T hA K) E) k->(p.fs i).N.Nodup ->
  PSs (cy (CXP P w) P w K mg base (p.fs i).N (p.fs i).q (aw (p.fs i).s) (p.fa K i) cdv A outer s H E) (bu (p.fs i).s) (tV (p.T hA K) (WD (p.T hA K) E) c m)):OkV p hA P w K mg base (k+1) i c (jR (p.fs i).N.length c m):=
 Bt (T:=p.T hA K) (t.fn i) (t.sc i) fun a b c d e f g=>body a b c d e f (jG (T:=p.T hA K) g) (t.sc i).nd
abbrev Cs(p:PT)(hA:p.attOk)(P:Program)(w:World)(K:Frag)(mg:Ge)(base:Heap)(k:Nat)(m:Gs->Option (PV×PV)):Prop:=FnF P w K mg base k p.fi.name p.fi.qual p.fi.params p.fi.body p.fi.scope p.gp p.fi.fr (spV (p.T hA K) (p.gp.length+p.fi.fr.length) p.gp.length m)
def Fr(hs:p.scF=true)(body:∀ (f:Addr) (cdv:Value) (cl:List (Str × Addr)) (A:Around) (outer:List Env) (s:Shared) (H:Hp) (E:XK),Ctx (cxF P w K mg base p.gs.N p.fi.qual p.fi.scope f cdv cl A outer s H E) (p.T hA K) (WD (p.T hA K) E) k->p.gs.N.Nodup ->
  PSs (cxF P w K mg base p.gs.N p.fi.qual p.fi.scope f cdv cl A outer s H E) p.fi.body (tV (p.T hA K) (WD (p.T hA K) E) p.gp.length m)):Cs p hA P w K mg base (k+1) (jR p.gs.N.length p.gp.length m):=by
 simp only[PT.scF,and_eq_true,decide_eq_true_eq,all_eq_true,not_eq_true']at hs;obtain⟨⟨⟨⟨⟨⟨⟨q1,q2⟩,q3⟩,q4⟩,q5⟩,q6⟩,q7⟩,q8⟩:=hs;exact Eo (T:=p.T hA K) ⟨q1,q2,q3,q4,q5,q6,q7,fun y hy=>(q8 y hy).2,fun y hy=>(q8 y hy).1⟩ fun a b c d e f g h i=>body a b c d e f g h i q4
end
section
variable{X:Cx}{W:Nat->St->Gq}{p:PT}{hA:p.attOk}
def Ao(G:Cs p hA X.prog X.w X.K X.mg X.base k m)(hb:EB p)(cx:Ctx X (p.T hA X.K) W kk)(ha:SA X (p.T hA X.K) W (e::es) ms)(hk:k<=kk:=by decide)(i0:i≠0:=by decide)(hN:X.N[i]?=some x:=by rfl)
  (hv:Vis X.env.scope x:=by first|exact Or.inl rfl|exact Or.inr (Or.inl rfl)|exact Or.inr (Or.inr rfl)) (hn:fk ms n:=by repeat' first|exact c9|apply cA) (hps:n=p.gp.length:=by rfl)
  (hd:(x ==("__debug__":Str))=false:=by decide) (hcd:(x ==("__classdict__":Str))=false:=by decide) (he:starEach (e::es) X.env=(false,eval e X.env)::starEach es X.env:=by rfl) (hpl:(backTo pos (starEach es X.env)).any (·.1)=false:=by rfl) :
  L2.PE X (.Call (.Name x np) (e::es) [] pos) (tP (p.T hA X.K) (i8 i 99 m ms)):=
 u9 (fi:=p.fi) (T:=p.T hA X.K) G (cx.room.mono hk) (fun H f cvs h=>PT.bx99 (hA:=hA) (K:=X.K)▸ h) hb i0 hN hv (fun env xs h=>(hn env xs h).trans hps) ha hd hcd he hpl
def uD(t:Tx p X.K X.mg)
  (G:b8 X.prog X.w X.K X.mg X.base (CXP X.prog X.w) k (p.fa X.K a) (dAt X.K (p.fa X.K a)) (p.ps a) (spV (p.T hA X.K) (p.ps a).length 2 m)) (cx:Ctx X (p.T hA X.K) W kk) (h0:SE X (p.T hA X.K) W e0 m0) (h1:SE X (p.T hA X.K) W e1 m1) (hr:SA X (p.T hA X.K) W es ms)
  (hk:k<=kk:=by decide) (hx:bc (p.fs a).s=x:=by rfl) (hc:(p.fs a).c=none:=by rfl) (hg:Gl X x:=by rfl) (i0:i≠0:=by decide) (hN:X.N[i]?=some y:=by rfl)
  (hv:Vis X.env.scope y:=by first|exact Or.inl rfl|exact Or.inr (Or.inl rfl)|exact Or.inr (Or.inr rfl)) (hn:fk (ae m0 (ae m1 ms)) n:=by repeat' first|exact c9|apply cA) (hps:n+1=(p.ps a).length:=by rfl)
  (hdb:(x ==("__debug__":Str))=false:=by decide) (hd:(y ==("__debug__":Str))=false:=by decide) (hcd:(y ==("__classdict__":Str))=false:=by decide)
  (s0:starEach (e0::e1::.Name y py::es) X.env=(false,eval e0 X.env)::starEach (e1::.Name y py::es) X.env:=by rfl) (s1:starEach (e1::.Name y py::es) X.env=(false,eval e1 X.env)::starEach (.Name y py::es) X.env:=by rfl)
  (s2:starEach (.Name y py::es) X.env=(false,eval (.Name y py) X.env)::starEach es X.env:=by rfl) (hpl:(backTo pos (starEach (e1::.Name y py::es) X.env)).any (·.1)=false:=by rfl) :
  L2.PE X (.Call (.Name x np) (e0::e1::.Name y py::es) [] pos) (tP (p.T hA X.K) (dJ i m (ae m0 (ae m1 ms)))):=
 u8 G (cx.room.mono hk) hg (by subst hx;exact t.gl a hc) (t.fn a).kp (t.bn a) i0 h0 h1 hN hv hr (fun env xs h=>by rw[hn env xs h];exact hps) hdb hd hcd s0 s1 s2 hpl
end
section
variable{env e e':En}{v:PV}{i:Nat}{r:Out}
@[simp] def Es:mC v env=.ok v:=rfl
@[simp] def fL:ah env=.ok []:=rfl
@[simp] def dY:ae a m env=(a env).bind fun x=>(m env).bind fun xs=>.ok (x::xs):=rfl
@[simp] def Er:mUn f a env=(a env).bind f:=rfl
@[simp] def lr:mOp f a b env=(a env).bind fun x=>(b env).bind fun y=>f x y:=rfl
@[simp] def iN:au f m env=(m env).bind f:=rfl
@[simp] def wm:eH m env=(m env).bind fun xs=>.ok (.lst .own xs):=rfl
@[simp] def FJ:ky m env=(m env).bind fun xs=>.ok (.tup xs):=rfl
@[simp] def y0:j5 a env=(a env).bind fun b=>.ok (!b):=rfl
@[simp] def wf:dI a env=(a env).bind lY:=rfl
@[simp] def FN:m7 a c env=(a env).bind (nU c):=rfl
@[simp] def tK:my env=.ok none:=rfl
@[simp] def yX:bT env=.ok true:=rfl
def AI:Option (Option PV)->Gu
 |some (some v)=>.ok (v.GJ Fl.Gv)
 |_=>.stuck
@[simp] def CH(v:PV):AI (some (some v))=.ok (v.GJ Fl.Gv):=rfl
@[simp] def jh:aa i env=AI env[i]?:=by
 unfold aa;cases env[i]? with
 |none=>rfl
 |some w=>cases w<;>rfl
def pBl:PV->Res Bool
 |.bl b=>.ok b
 |_=>.stuck
@[simp] def Fp(b:Bool):pBl (.bl b)=.ok b:=rfl
@[simp] def yY:av a env=(a env).bind pBl:=by rfl
def Dr:PV->Gu
 |.bl b=>.ok (.bl (!b))
 |_=>.stuck
@[simp] def EG(b:Bool):Dr (.bl b)=.ok (.bl (!b)):=rfl
@[simp] def E4:qK a env=(a env).bind Dr:=by rfl
def vg(r:Gu):PV->Gu
 |.bl b=>if b then r else .ok (.bl false)
 |_=>.stuck
@[simp] def EH(r:Gu)(b:Bool):vg r (.bl b)=if b then r else .ok (.bl false):=rfl
@[simp] def y2:gm a b env=(a env).bind (vg (b env)):=by
 unfold gm;congr 1;funext x;cases x with
 |bl b=>cases b<;>rfl
 |_=>rfl
def pOr(r:Gu):PV->Gu
 |.bl b=>if b then .ok (.bl true)else r
 |_=>.stuck
@[simp] def Fo(r:Gu)(b:Bool):pOr r (.bl b)=if b then .ok (.bl true)else r:=rfl
@[simp] def FL:n9 a b env=(a env).bind (pOr (b env)):=by
 unfold n9;congr 1;funext x;cases x with
 |bl b=>cases b<;>rfl
 |_=>rfl
@[simp] def Ee(g:Int->Int->PV)(i j:Int):k8 g (.int i) (.int j)=.ok (g i j):=rfl
def zH:PV->Res (Gn)
 |.int i=>.ok (some i)
 |_=>.stuck
@[simp] def CD(i:Int):zH (.int i)=.ok (some i):=rfl
@[simp] def yZ:qJ a env=(a env).bind zH:=by rfl
def Du(l h:Gn):PV->Gu
 |.lst _ xs=>.ok (.lst .own (tY xs l h))
 |_=>.stuck
@[simp] def Dt(l h:Gn)(f:Fl)(xs:Gs):Du l h (.lst f xs)=.ok (.lst .own (tY xs l h)):=rfl
@[simp] def wg:mw o lo hi env=(o env).bind fun x=>(lo env).bind fun l=>(hi env).bind fun h=>Du l h x:=by rfl
def aH(v:PV):Gu:=if v.has Fl.GD then .stuck else .ok v
@[simp] def Ev:aP f xs=(f (mapL Fl.Gw xs)).bind aH:=by unfold aP;cases f (mapL Fl.Gw xs)<;>rfl
def sE(disp:Nat->Option (Gs->Gu))(r:Res (Gs)):PV->Gu
 |.obj fl c ks vs=>match disp c with
  |some m=>r.bind fun xs=>aP m (.obj fl c ks vs::xs)
  |none=>.stuck
 |_=>.stuck
@[simp] def Ds(disp:Nat->Option (Gs->Gu))(r:Res (Gs))(fl:Fl)(c:Nat)(ks:List Nat)(vs:Gs):sE disp r (.obj fl c ks vs)=match disp c with
  |some m=>r.bind fun xs=>aP m (.obj fl c ks vs::xs)
  |none=>.stuck:=rfl
@[simp] def FM:bH disp o ms env=(o env).bind (sE disp (ms env)):=by unfold bH;congr 1;funext x;cases x<;>rfl
@[simp] def E2:gg m env=(m env).bind fun x=>match x with
 |.lst f xs=>if !f.GB&&dg xs then .ok xs else .stuck
 |.tup xs=>if dg xs then .ok xs else .stuck
 |_=>.stuck:=rfl
def ve(x:PV):Res (Gs):=match aN x with
 |some xs=>.ok xs
 |none=>.stuck
@[simp] def CG(f:Fl)(xs:Gs):ve (.lst f xs)=.ok xs:=rfl
@[simp] def CF(xs:Gs):ve (.tup xs)=.ok xs:=rfl
@[simp] def E3:cq m env=(m env).bind ve:=rfl
@[simp] def E5:fQ a b env=(a env).bind fun x=>if x then b env else .ok false:=rfl
@[simp] def FK:gh a b env=(a env).bind fun x=>if x then .ok true else b env:=rfl
@[simp] def FO:vR c a b env=(c env).bind fun x=>if x then a env else b env:=rfl
@[simp] def wj:hV c f m env=(m env).bind fun xs=>aP f (.obj .own c [] []::xs):=rfl
def af(h1:a env=.next e)(h2:b e=r):ax a b env=r:=by unfold ax;rw[h1];exact h2
def cW(h1:a env=.ret v):ax a b env=.ret v:=by unfold ax;rw[h1]
def gN(h:c env=.ok true)(h2:a env=r):mBr c a b env=r:=by unfold mBr;rw[h];exact h2
def bA(h:c env=.ok false)(h2:b env=r):mBr c a b env=r:=by unfold mBr;rw[h];exact h2
def zS(h:c env=.ok x):mBr c a b env=if x then a env else b env:=by unfold mBr;rw[h];cases x<;>rfl
def aG(h:m env=.ok v)(hl:v.GH=true:=by simp)(ho:aB i env=true:=by rfl):a6 i m env=.next (env.set i (some v)):=by unfold a6;rw[h];simp[hl,ho]
def a5(h:m env=.ok v)(hl:v.GH=true:=by simp):bz m env=.ret v:=by unfold bz;rw[h];simp[hl]
def lU(h:env[i]?=some (some v)):iA i env=.ret v:=by unfold iA;rw[h]
def fN(h:m env=.ok v):gj m env=.next env:=by unfold gj;rw[h]
def ay:aR env=.next env:=rfl
def bj(h:m env=.ok v)(ho:env[i]?=some (some (.obj .own c ks vs)))(hl:v.GH=true)(hk:ks.contains k=false)(hn:ks.length<900) :
  fe i k m env=.next (env.set i (some (.obj .own c (ks++[k]) (vs++[v])))):=by
 unfold fe;rw[h,ho];simp only[hl,hk];simp[hn]
def d9(h:m env=.ok v)(ho:env[i]?=some (some (.lst .own xs)))(hl:v.GH=true)(hn:xs.length<10000000):cz i m env=.next (env.set i (some (.lst .own (xs++[v])))):=by unfold cz;rw[h,ho];simp[hl,hn]
def oJ(ho:env[i]?=some (some (.lst .own xs))):i6 i env=.next (env.set i (some (.lst .own []))):=by unfold i6;rw[ho]
def nu(h:m env=.ok v)(ho:env[i]?=some (some (.lst .own xs)))(hk:mk env=.ok (.int j))(hj:ixN xs.length j=some n)(hl:v.GH=true) :
  g_ i mk m env=.next (env.set i (some (.lst .own (xs.set n v)))):=by
 unfold g_;rw[h,ho,hk];simp[hj,hl]
def eT(h:env[i]?=some (some v)):gL i env=.next (env.set i (some (v.GJ Fl.Gx))):=by unfold gL;rw[h]
def aF(h:m (args.map some++replicate (n-args.length) none)=.ret v):bv n m args=.ok v:=by unfold bv;rw[h]
def kY(h:m (args.map some++replicate (n-args.length) none)=.next e):bv n m args=.ok .non:=by unfold bv;rw[h]
def bU(h:m (args.map some++replicate (n-args.length) none)=.next e)(ho:e[0]?=some (some v)):gJ n m args=.ok v:=by unfold gJ;rw[h];simp[ho]
def iK(P:Nat->En->Prop)(h:it env=.ok xs)(h0:P 0 env)
  (step:∀(k:Nat) (x:PV) (e:En),xs[k]?=some x->P k e->∃e1 e2,g x e=some e1/\(body e1=.next e2\/body e1=.cont e2)/\P (k+1) e2):∃e2,dh it g body env=.next e2/\P xs.length e2:=by
 unfold dh;rw[h];dsimp only;have key:∀ (ys pre:Gs) (e:En),pre ++ ys=xs->P pre.length e->∃ e2,kB (fun x e=>match g x e with
  |some e'=>body e'
  |none=>.stuck) ys e=.next e2/\P xs.length e2:=by
  intro ys
  induction ys with
  |nil=>intro pre e hp hP;simp at hp;subst hp;exact⟨e,rfl,hP⟩
  |cons y ys ih=>
   intro pre e hp hP;obtain⟨e1,e2,h1,h2,h3⟩:=step pre.length y e (by rw[<- hp];simp) hP;obtain⟨e3,h4,h5⟩:=ih (pre++[y]) e2 (by rw[<- hp];simp) (by simpa using h3);refine⟨e3,?_,h5⟩;unfold kB;simp only[h1];rcases h2 with h2|h2<;>rw[h2]<;>exact h4
 exact key xs [] env rfl h0
def mD(P:Nat->En->Prop)(R:Out->Prop)(h:it env=.ok xs)(h0:P 0 env)
  (step:∀(k:Nat) (x:PV) (e:En),xs[k]?=some x->P k e->∃e1,g x e=some e1/\((∃e2,(body e1=.next e2\/body e1=.cont e2)/\P (k+1) e2)\/(∃e2,body e1=.brk e2/\R (.next e2))\/(∃v,body e1=.ret v/\R (.ret v))\/ ∃c e2,body e1=.exc c e2/\R (.exc c e2)))
  (fin:∀e,P xs.length e->R (.next e)):R (dh it g body env):=by
 unfold dh;rw[h];dsimp only;have key:∀ (ys pre:Gs) (e:En),pre ++ ys=xs->P pre.length e->R (kB (fun x e=>match g x e with
  |some e'=>body e'
  |none=>.stuck) ys e):=by
  intro ys
  induction ys with
  |nil=>intro pre e hp hP;simp at hp;subst hp;exact fin e hP
  |cons y ys ih=>
   intro pre e hp hP;obtain⟨e1,h1,h2⟩:=step pre.length y e (by rw[<- hp];simp) hP;unfold kB;simp only[h1];rcases h2 with⟨e2,h2,h3⟩ |⟨e2,h2,h3⟩ |⟨v,h2,h3⟩ |⟨c,e2,h2,h3⟩
   ·have:=ih (pre++[y]) e2 (by rw[<- hp];simp) (by simpa using h3);rcases h2 with h2|h2<;>rw[h2]<;>exact this
   ·rw[h2];exact h3
   ·rw[h2];exact h3
   ·rw[h2];exact h3
 exact key xs [] env rfl h0
def aU(h:mi env=.ok xs)(hl:xs.length<=10000000)(hc:cI g mc me (bE caps k env) xs=.ok ys):aZ caps k mi g mc me env=.ok (.lst .own ys):=by unfold aZ;rw[h];simp only[Res.GL,hl,if_true,hc]
def bR{α:Type}{a:α->PV}{f:α->PV}:∀(xs:List α),(∀x∈xs,∃e1,g (a x).Gy env=some e1/\me e1=.ok (f x)/\(f x).has Fl.GD=false/\(f x).has Fl.GB=false)->
  cI g bT me env (xs.map a)=.ok (xs.map f)
 | [],_=>rfl
 |x::xs,h=>by obtain⟨e1,h1,h2,h3,h4⟩:=h x mem_cons_self;rw[map_cons,cI,h1];simp only[yX,Res.GL,if_true,h2,h3,h4,Bool.or_self,false_eq_true,if_false,bR xs fun y hy=>h y (mem_cons_of_mem _ hy)];rfl
def cB{α:Type}{a:α->PV}{f:α->PV}{p:α->Bool}:∀(xs:List α),(∀x∈xs,∃e1,g (a x).Gy env=some e1/\mc e1=.ok (p x)/\(p x=true->me e1=.ok (f x)/\(f x).has Fl.GD=false/\(f x).has Fl.GB=false))->
  cI g mc me env (xs.map a)=.ok ((xs.filter p).map f)
 | [],_=>rfl
 |x::xs,h=>by
  obtain⟨e1,h1,h2,h3⟩:=h x mem_cons_self;have ih:=cB (g:=g) (mc:=mc) (me:=me) (a:=a) (f:=f) (p:=p) xs fun y hy=>h y (mem_cons_of_mem _ hy);rw[map_cons,cI,h1];cases hp:p x with
  |true=>obtain⟨h4,h5,h6⟩:=h3 hp;simp only[h2,hp,Res.GL,if_true,h4,h5,h6,Bool.or_self,false_eq_true,if_false,ih];rw[List.filter_cons_of_pos hp];rfl
  |false=>simp only[h2,hp,Res.GL,false_eq_true,if_false,ih];rw[List.filter_cons_of_neg (by simp[hp])]
end
def iL(ns:Gi):Gs:=ns.map .int
def ow(ns:Gi):ns.map PV.int=iL ns:=rfl
section
variable(ns ms:Gi)(g:Fl->Fl)(p:Fl->Bool)
@[simp] def Ec:iL []=[]:=rfl
@[simp] def d8(n:Int):iL (n::ns)=.int n::iL ns:=rfl
@[simp] def ba:(iL ns).length=ns.length:=by simp[iL]
@[simp] def Ed:iL ns++iL ms=iL (ns++ms):=by simp[iL]
@[simp] def sZ(k:Nat):(iL ns).drop k=iL (ns.drop k):=by simp[iL]
@[simp] def sY(k:Nat):(iL ns).take k=iL (ns.take k):=by simp[iL]
@[simp] def vX(k:Nat):(iL ns)[k]?=(ns[k]?).map .int:=by simp[iL]
@[simp] def ou(k:Nat)(n:Int):(iL ns).set k (.int n)=iL (ns.set k n):=by simp[iL,List.map_set]
@[simp] def sO:mapL g (iL ns)=iL ns:=by
 induction ns with
 |nil=>rfl
 |cons n ns ih=>simp[mapL,PV.GJ,ih]
@[simp] def CY:hasL p (iL ns)=false:=by
 induction ns with
 |nil=>rfl
 |cons n ns ih=>simp[hasL,PV.has,ih]
@[simp] def C1:PyData.canLayAll0 (dataL (iL ns))=true:=by
 induction ns with
 |nil=>rfl
 |cons n ns ih=>simp only[d8,dataL,PV.data,PyData.canLayAll0,ih];rfl
@[simp] def C0:PyData.depthAll (dataL (iL ns))=0:=by
 induction ns with
 |nil=>rfl
 |cons n ns ih=>simp only[d8,dataL,PV.data,PyData.depthAll,ih];rfl
@[simp] def ik(i:Int):shp (.int i)=true:=rfl
@[simp] def Fj(b:Bool):shp (.bl b)=true:=rfl
@[simp] def EC:shp .non=true:=rfl
@[simp] def nq(f:Fl):shp (.lst f (iL ns))=true:=by simp[shp,SeqAt.shaped,PV.data,PyData.canLay0,PyData.depth]
@[simp] def kT:(iL ns).all shp=true:=by
 induction ns with
 |nil=>rfl
 |cons n ns ih=>simp only[d8,all_cons,ik,ih];rfl
@[simp] def FP(i j:Int):pEq (.int i) (.int j)=.ok (.bl (decide (i=j))):=by unfold pEq;simp only[ik,Bool.and_self,if_true,PV.data,PyData.eqv];congr 2
@[simp] def Fy(i j:Int):pNe (.int i) (.int j)=.ok (.bl (!decide (i=j))):=by unfold pNe;simp only[ik,Bool.and_self,if_true,PV.data,PyData.eqv];congr 2
@[simp] def F_(i j:Bool):pEq (.bl i) (.bl j)=.ok (.bl (decide (i=j))):=by cases i<;>cases j<;>rfl
@[simp] def F6(i j:Bool):pNe (.bl i) (.bl j)=.ok (.bl (!decide (i=j))):=by cases i<;>cases j<;>rfl
def lx:PyData.eqvAll (dataL (iL ns)) (dataL (iL ms))=decide (ns=ms):=by
 induction ns generalizing ms with
 |nil=>cases ms<;>simp[dataL,PyData.eqvAll]
 |cons n ns ih=>
  cases ms with
  |nil=>simp[dataL,PyData.eqvAll]
  |cons m ms=>simp only[d8,dataL,PV.data,PyData.eqvAll,PyData.eqv,ih];by_cases h:n=m<;>simp[h]
@[simp] def y3(f f':Fl):pEq (.lst f (iL ns)) (.lst f' (iL ms))=.ok (.bl (decide (ns=ms))):=by unfold pEq;simp only[nq,Bool.and_self,if_true,PV.data,PyData.eqv,lx]
@[simp] def EI(f f':Fl):pNe (.lst f (iL ns)) (.lst f' (iL ms))=.ok (.bl (!decide (ns=ms))):=by unfold pNe;simp only[nq,Bool.and_self,if_true,PV.data,PyData.eqv,lx]
@[simp] def lt_int(i j:Int):pLt (.int i) (.int j)=.ok (.bl (decide (i<j))):=rfl
@[simp] def gt_int(i j:Int):pGt (.int i) (.int j)=.ok (.bl (decide (j<i))):=rfl
@[simp] def ge_int(i j:Int):pGe (.int i) (.int j)=.ok (.bl (decide (j<=i))):=rfl
@[simp] def Dn(i j:Int):aS (.int i) (.int j)=.ok (.int (i+j)):=rfl
@[simp] def sub_int(i j:Int):nT (.int i) (.int j)=.ok (.int (i-j)):=rfl
@[simp] def neg_int(i:Int):yk (.int i)=.ok (.int (-i)):=rfl
def aT(h:0<j):bC (.int i) (.int j)=.ok (.int (i%j)):=by simp[bC,eD,h]
def dN(h:0<j)(h2:j<1073741824):cm (.int i) (.int j)=.ok (.int (i / j)):=by simp[cm,eD,h,h2]
def fJ(h:(-(2 ^ 64)<i/\i<2 ^ 64)\/(-(2 ^ 64)<j/\j<2 ^ 64)):eC (.int i) (.int j)=.ok (.int (i*j)):=by unfold eC eD;dsimp only;rw[if_pos (by simpa using h)]
@[simp] def EN(f:Fl)(xs:Gs):bX (.lst f xs)=.ok (.int xs.length):=rfl
@[simp] def EM(xs:Gs):bX (.tup xs)=.ok (.int xs.length):=rfl
@[simp] def D6(f:Fl)(xs:Gs):dF (.lst f xs)=.ok (.lst .own xs):=rfl
@[simp] def Fq(f:PV->Gu)(x:PV):p1 f [x]=f x:=by simp only[p1]
@[simp] def ES(c:String)(i:Int):nU c (.int i)=.ok (.bl (jd "int" c)):=rfl
@[simp] def FD(c:String)(i:Bool):nU c (.bl i)=.ok (.bl (jd "bool" c)):=rfl
@[simp] def EQ(c:String):nU c .non=.ok (.bl (jd "NoneType" c)):=rfl
@[simp] def ER(c:String)(f:Fl)(xs:Gs):nU c (.lst f xs)=.ok (.bl (jd "list" c)):=rfl
@[simp] def EO(c:String)(xs:Gs):nU c (.tup xs)=.ok (.bl (jd "tuple" c)):=rfl
@[simp] def C7(b:Bool):lY (.bl b)=.ok b:=rfl
@[simp] def Cy(i:Int):lY (.int i)=.ok (i != 0):=rfl
@[simp] def D4(i:Int):(PV.int i).GJ g=.int i:=by simp[PV.GJ]
@[simp] def EL(b:Bool):(PV.bl b).GJ g=.bl b:=by simp[PV.GJ]
@[simp] def D2:PV.non.GJ g=.non:=by simp[PV.GJ]
@[simp] def D0(x:Str):(PV.str x).GJ g=.str x:=by simp[PV.GJ]
@[simp] def D5(x:Nat):(PV.exc x).GJ g=.exc x:=by simp[PV.GJ]
@[simp] def D3(f:Fl)(xs:Gs):(PV.lst f xs).GJ g=.lst (g f) (mapL g xs):=by simp[PV.GJ]
@[simp] def DZ(xs:Gs):(PV.tup xs).GJ g=.tup (mapL g xs):=by simp[PV.GJ]
@[simp] def D1(f:Fl)(c:Nat)(ks:List Nat)(xs:Gs):(PV.obj f c ks xs).GJ g=.obj (g f) c ks (mapL g xs):=by simp[PV.GJ]
@[simp] def DY:mapL g []=[]:=by simp[mapL]
@[simp] def CI(x:PV)(xs:Gs):mapL g (x::xs)=x.GJ g::mapL g xs:=by simp[mapL]
@[simp] def E0(i:Int):(PV.int i).has p=false:=by simp[PV.has]
@[simp] def FE(b:Bool):(PV.bl b).has p=false:=by simp[PV.has]
@[simp] def EY:PV.non.has p=false:=by simp[PV.has]
@[simp] def EW(x:Str):(PV.str x).has p=false:=by simp[PV.has]
@[simp] def E1(x:Nat):(PV.exc x).has p=false:=by simp[PV.has]
@[simp] def EZ(f:Fl)(xs:Gs):(PV.lst f xs).has p=(p f||hasL p xs):=by simp[PV.has]
@[simp] def EV(xs:Gs):(PV.tup xs).has p=hasL p xs:=by simp[PV.has]
@[simp] def EX(f:Fl)(c:Nat)(ks:List Nat)(xs:Gs):(PV.obj f c ks xs).has p=(p f||hasL p xs):=by simp[PV.has]
@[simp] def Ej:hasL p []=false:=by simp[hasL]
@[simp] def CZ(x:PV)(xs:Gs):hasL p (x::xs)=(x.has p||hasL p xs):=by simp[hasL]
@[simp] def DW(x:PV):x.GH=!x.has Fl.GB:=rfl
@[simp] def C2(x:PV):x.Gy=x.GJ Fl.Gy:=rfl
@[simp] def D7:Fl.own.Gv=.lnt:=rfl
@[simp] def D9:Fl.frz.Gv=.frz:=rfl
@[simp] def D_:Fl.bor.Gv=.bor:=rfl
@[simp] def D8:Fl.lnt.Gv=.lnt:=rfl
@[simp] def Cz:Fl.own.Gw=.own:=rfl
@[simp] def CB:Fl.frz.Gw=.frz:=rfl
@[simp] def CC:Fl.bor.Gw=.bor:=rfl
@[simp] def CA:Fl.lnt.Gw=.bor:=rfl
@[simp] def zT:Fl.own.Gy=.bor:=rfl
@[simp] def BX:Fl.frz.Gy=.frz:=rfl
@[simp] def BY:Fl.bor.Gy=.bor:=rfl
@[simp] def BW:Fl.lnt.Gy=.bor:=rfl
@[simp] def CJ:Fl.own.Gz=true:=rfl
@[simp] def CL:Fl.frz.Gz=false:=rfl
@[simp] def CM:Fl.bor.Gz=false:=rfl
@[simp] def CK:Fl.lnt.Gz=false:=rfl
@[simp] def CO:Fl.own.GB=false:=rfl
@[simp] def CQ:Fl.frz.GB=false:=rfl
@[simp] def CS:Fl.bor.GB=false:=rfl
@[simp] def CP:Fl.lnt.GB=true:=rfl
@[simp] def CT:Fl.own.GD=false:=rfl
@[simp] def CV:Fl.frz.GD=false:=rfl
@[simp] def CW:Fl.bor.GD=true:=rfl
@[simp] def CU:Fl.lnt.GD=false:=rfl
@[simp] def Bm:Fl.own.Gx=.frz:=rfl
@[simp] def Bp:Fl.frz.Gx=.frz:=rfl
@[simp] def Bq:Fl.bor.Gx=.bor:=rfl
@[simp] def Bo:Fl.lnt.Gx=.lnt:=rfl
def gn(h0:0<=i)(h:ns[i.toNat]?=some n):aL (.lst f (iL ns)) (.int i)=.ok (.int n):=by have hl:i.toNat<ns.length:=(List.getElem?_eq_some_iff.mp h).1;unfold aL;simp only[aN,atI,ixN,ba,h0,if_true];rw[if_pos (by omega)];simp[h]
end
section
variable{env:En}{r:Out}
def jl(o:Out)(Q:En->Prop):Prop:=∃e,(o=.next e\/o=.cont e)/\Q e
def cu(h1:a env=.next e)(h2:jl (b e) Q):jl (ax a b env) Q:=by obtain⟨e2,h3,h4⟩:=h2;refine⟨e2,?_,h4⟩;unfold ax;rw[h1];exact h3
def b9(h1:o=.next e)(h2:Q e):jl o Q:=⟨e,.inl h1,h2⟩
def jg(P:Nat->En->Prop)(h:it env=.ok xs)(h0:P 0 env)
  (step:∀(k:Nat) (x:PV) (e:En),xs[k]?=some x->P k e->∃e1,g x e=some e1/\jl (body e1) (P (k+1))) (fin:∀e,P xs.length e->Q e):jl (dh it g body env) Q:=by
 obtain⟨e2,h1,h2⟩:=iK P h h0 fun k x e h1 h2=>by obtain⟨e1,h3,e2,h4,h5⟩:=step k x e h1 h2;exact⟨e1,e2,h3,h4,h5⟩
 exact⟨e2,.inl h1,fin e2 h2⟩
def qp{it:MI}{g:TgM}{body aV:MS}{xs:Gs}(P:Nat->En->Prop)(h:it env=.ok xs)(h0:P 0 env)
  (step:∀(k:Nat) (x:PV) (e:En),xs[k]?=some x->P k e->∃e1,g x e=some e1/\jl (body e1) (P (k+1))) (fin:∀e,P xs.length e->aV e=r):ax (dh it g body) aV env=r:=by
 obtain⟨e2,h1,h2⟩:=iK P h h0 fun k x e h1 h2=>by obtain⟨e1,h3,e2,h4,h5⟩:=step k x e h1 h2;exact⟨e1,e2,h3,h4,h5⟩
 exact af h1 (fin e2 h2)
def pT(h:-1000000<=i/\i<=1000000):inR i=true:=by
 have e:(2:Int) ^ 62=4611686018427387904:=by decide
 unfold inR;rw[decide_eq_true_eq,e];omega
def xR(hi:inR n=true)(h:ms env=.ok [.int n]):b7 ms env=.ok (ck 0 n.toNat):=by unfold b7;rw[h,Res.GL];dsimp only;rw[if_pos hi]
def uG{n:Nat}(hi:inR (n:Int)=true)(h:ms env=.ok [.int n]):b7 ms env=.ok (ck 0 n):=by have:=xR hi h;rw[toNat_natCast]at this;exact this
def A_{n:Nat}(hn:n<=1000000):-1000000 <=(n:Int)/\(n:Int)<= 1000000:=by omega
def cb{n:Nat}(h:ms env=.ok [.int n])(hn:n<=1000000):b7 ms env=.ok (ck 0 n):=uG (pT (A_ hn)) h
def xQ(hh:(inR lo&&inR hi)=true)(h:ms env=.ok [.int lo,.int hi]):k_ ms env=.ok (ck lo (hi-lo).toNat):=by unfold k_;rw[h,Res.GL];dsimp only;rw[if_pos hh]
def xP(h:ms env=.ok [.int lo,.int hi])(hl:-1000000<=lo/\lo<=1000000)(hh:-1000000<=hi/\hi<=1000000):k_ ms env=.ok (ck lo (hi-lo).toNat):=
 xQ (by rw[pT hl,pT hh];rfl) h
def bD(lo:Int)(n:Nat):(ck lo n).length=n:=by simp[ck]
def dD(h:(ck lo n)[k]?=some x):k<n/\x=.int (lo+k):=by
 have hk:k<n:=by
  have:=(List.getElem?_eq_some_iff.mp h).1
  rwa [bD]at this
 refine⟨hk,?_⟩;simp[ck,hk]at h;exact h.symm
def pU{ns:Gi}{k:Nat}{x:PV}(h:(iL ns)[k]?=some x):∃n,ns[k]?=some n/\x=.int n:=by simp at h;obtain⟨n,h1,h2⟩:=h;exact⟨n,h1,h2.symm⟩
def du(h:aB i e=true):tgN i v e=some (e.set i (some v)):=by simp[tgN,h]
end
def ze(ns:Gi)(lo:Nat){l:Int}(hl:l=lo):tY (iL ns) (some l) none=iL (ns.drop lo):=by
 subst hl;unfold tY;rw[HT.sIx_nat,HT.sIx_none];simp only[ba,sZ,sY];congr 1;rcases Nat.le_total lo ns.length with h1|h1
 ·rw[Nat.min_eq_left h1,List.take_of_length_le (by simp)]
 ·rw[Nat.min_eq_right h1,List.drop_eq_nil_of_le (Nat.le_refl _),List.drop_eq_nil_of_le h1];simp
def iu(hf:f≠.mod)(hg:g≠.mod)(h:xs.length+ys.length<=10000000):aS (.lst f xs) (.lst g ys)=.ok (.lst .own (xs++ys)):=by
 unfold aS
 grind
def iH(h:k<n):ixN n (k:Int)=some k:=by unfold ixN;rw[if_pos (by omega),if_pos (by omega),toNat_natCast]
@[simp] def gF(ns:Gi):bh (iL ns)=some ns:=by
 induction ns with
 |nil=>rfl
 |cons n ns ih=>simp[bh,ih]
def la(h:ns.length<=1000):gC (.lst f (iL ns))=.ok (.int (lz ns)):=by unfold gC;simp only[gF];rw[if_pos (by simpa using h)]
def rD:∀(l acc:Gi),(acc++l).Nodup->l.foldl step_dedup acc=acc++l
 | [],acc,_=>by simp
 |x::l,acc,h=>by
  have h':((acc++[x])++ l).Nodup:=by simpa using h
  rw[List.foldl_cons];have hx:x∉acc:=fun hm=>by rw[nodup_append]at h;exact h.2.2 x hm x mem_cons_self rfl
  have:step_dedup acc x=acc++[x]:=by unfold step_dedup;rw[if_neg];simpa using hx
  rw[this,rD l _ h'];simp
def zd(ns:Gi):(range ns.length).map (fun i=>ns.getD i 0)=ns:=by
 apply List.ext_getElem?;intro i;by_cases h:i<ns.length
 ·simp[h]
 ·simp[h]
def oG(h:ns.Nodup):lz ns=ns.length:=by unfold lz firstMet;rw[zd,rD ns [] (by simpa using h)];rfl
def qQ(i:Int)(ns:Gi):inL (.int i) (iL ns)=ns.contains i:=by
 induction ns with
 |nil=>rfl
 |cons n ns ih=>have e:inL (.int i) (iL (n::ns))=(PyData.eqv (PV.int n).data (PV.int i).data||inL (.int i) (iL ns)):=rfl;rw[e,ih,List.contains_cons];congr 1;simp only[PV.data,PyData.eqv];exact Bool.beq_comm
@[simp] def F8(i:Int)(ns:Gi)(f:Fl):pIn (.int i) (.lst f (iL ns))=.ok (.bl (ns.contains i)):=by unfold pIn;simp only[aN,ik,kT,Bool.and_self,if_true,qQ]
@[simp] def DV(i:Int)(ns:Gi)(f:Fl):gZ (.int i) (.lst f (iL ns))=.ok (.bl (!ns.contains i)):=by unfold gZ;simp only[aN,ik,kT,Bool.and_self,if_true,qQ]
def Ends(o:Out):Prop:=∃e,o=.next e
section
variable{env e:En}
def eX(h:Ends (m (args.map some++replicate (n-args.length) none))):bv n m args=.ok .non:=by obtain⟨e,h⟩:=h;exact kY h
def gq(h1:a env=.next e)(h2:Ends (b e)):Ends (ax a b env):=by obtain⟨e2,h2⟩:=h2;exact⟨e2,af h1 h2⟩
def tL(h:o=.next e):Ends o:=⟨e,h⟩
def wo{it:MI}{g:TgM}{body aV:MS}{xs:Gs}(P:Nat->En->Prop)(h:it env=.ok xs)(h0:P 0 env)
  (step:∀(k:Nat) (x:PV) (e:En),xs[k]?=some x->P k e->∃e1,g x e=some e1/\jl (body e1) (P (k+1))) (fin:∀e,P xs.length e->Ends (aV e)):Ends (ax (dh it g body) aV env):=by
 obtain⟨e2,h1,h2⟩:=iK P h h0 fun k x e h1 h2=>by obtain⟨e1,h3,e2,h4,h5⟩:=step k x e h1 h2;exact⟨e1,e2,h3,h4,h5⟩
 exact gq h1 (fin e2 h2)
end
def f6(h:m env=.ok (.lst f xs))(hf:f.GB=false)(h1:hasL Fl.Gz xs=false)(h2:hasL Fl.GB xs=false):gg m env=.ok xs:=by unfold gg;rw[h];simp[hf,dg,h1,h2]
end PR
namespace PR
section
variable{n r s k o:Nat}{adj:Nat->Nat->Prop}{far:Gi}
def gt(far:Gi)(i:Nat):Int:=far.getD i 0
def v4(x:Int)(h:o<far.length)(i:Nat):gt (far.set o x) i=if i=o then x else gt far i:=by
 simp only[gt,getD_eq_getElem?_getD,getElem?_set];by_cases e:o=i
 ·subst e;simp[h]
 ·rw[if_neg e,if_neg (Ne.symm e)]
structure Far(n r:Nat)(adj:Nat->Nat->Prop)(s k:Nat)(d:Nat->Prop)(far:Gi):Prop where
 len:far.length=n
 rt:gt far r=0
 rng:∀i<n,0<=gt far i/\(gt far i<=s+1\/gt far i=n)
 top:∀i<n,gt far i<=n
 up:∀i<n,∀j<n,gt far i<s->adj i j->gt far j<=gt far i+1
 upk:∀i<k,∀j<n,gt far i=s->adj i j->gt far j<=s+1
 upd:∀j<n,d j->gt far j<=s+1
 dn:∀i<n,i≠r->gt far i<n->1<=gt far i/\∃j<n,adj i j/\gt far j=gt far i-1
def Far.start(hr:r<n)(h:∀i<n,gt far i=if i=r then 0 else(n:Int))(hl:far.length=n):Far n r adj 0 0 (fun _=>False) far where
 len:=hl
 rt:=by rw[h r hr,if_pos rfl]
 rng:=fun i hi=>by rw[h i hi];split<;>omega
 top:=fun i hi=>by rw[h i hi];split<;>omega
 up:=fun i hi j _ hv _=>by have:=h i hi;split at this<;>omega
 upk:=fun i hi=>absurd hi (Nat.not_lt_zero _)
 upd:=fun _ _ z=>z.elim
 dn:=fun i hi hn hv=>by rw[h i hi,if_neg hn]at hv;omega
def Far.skip(F:Far n r adj s k (fun _=>False) far)(hk:gt far k≠s):Far n r adj s (k+1) (fun _=>False) far where
 len:=F.len
 rt:=F.rt
 rng:=F.rng
 top:=F.top
 up:=F.up
 upk:=fun i hi j hj e a=>by
  rcases Nat.lt_or_ge i k with h|h
  ·exact F.upk i h j hj e a
  ·have:i=k:=by omega
   subst this;exact absurd e hk
 upd:=F.upd
 dn:=F.dn
def Far.close(F:Far n r adj s k d far)(hd:∀j,j<n->adj k j->d j):Far n r adj s (k+1) (fun _=>False) far where
 len:=F.len
 rt:=F.rt
 rng:=F.rng
 top:=F.top
 up:=F.up
 upk:=fun i hi j hj e a=>by
  rcases Nat.lt_or_ge i k with h|h
  ·exact F.upk i h j hj e a
  ·have:i=k:=by omega
   subst this;exact F.upd j hj (hd j hj a)
 upd:=fun _ _ z=>z.elim
 dn:=F.dn
def Far.none(F:Far n r adj s k (fun _=>False) far)(hd:∀j,¬d j):Far n r adj s k d far where
 len:=F.len
 rt:=F.rt
 rng:=F.rng
 top:=F.top
 up:=F.up
 upk:=F.upk
 upd:=fun j _ z=>absurd z (hd j)
 dn:=F.dn
def Far.relax(F:Far n r adj s k d far)(hk:k<n)(ek:gt far k=s)(ho:o<n)(a:adj o k)(hs:s<n) :
  Far n r adj s k (fun j=>d j\/j=o) (far.set o (min (gt far o) (s+1)))/\gt (far.set o (min (gt far o) (s+1))) k=s:=by
 have hol:o<far.length:=by rw[F.len];exact ho
 have g:=v4 (min (gt far o) ((s:Int)+1)) hol;by_cases hw:gt far o<=s+1
 ·have e:∀i,gt (far.set o (min (gt far o) ((s:Int)+1))) i=gt far i:=fun i=>by
   rw[g i];split
   ·rename_i z;subst z;omega
   ·rfl
  refine⟨⟨by rw[length_set];exact F.len,by rw[e];exact F.rt,fun i hi=>by rw[e];exact F.rng i hi,fun i hi=>by rw[e];exact F.top i hi,fun i hi j hj=>by rw[e,e];exact F.up i hi j hj,fun i hi j hj=>by rw[e,e];exact F.upk i hi j hj,fun j hj z=>?_,fun i hi hn=>?_⟩,by rw[e];exact ek⟩
  ·rw[e];rcases z with z|z
   ·exact F.upd j hj z
   ·subst z;exact hw
  ·rw[e];intro hv;obtain⟨h1,j,hj,aj,ej⟩:=F.dn i hi hn hv;exact⟨h1,j,hj,aj,by rw[e];exact ej⟩
 ·have hn:gt far o=n:=by have:=(F.rng o ho).2;omega
  have hm:min (gt far o) ((s:Int)+1)=s+1:=by omega
  rw[hm]at g ⊢;have hlt:(s:Int)+1<n:=by omega
  have ko:k≠o:=fun z=>by subst z;omega
  have ro:r≠o:=fun z=>by subst z;have:=F.rt;omega
  have le:∀i,gt (far.set o ((s:Int)+1)) i<=gt far i:=fun i=>by
   rw[g i];split
   ·rename_i z;subst z;omega
   ·exact Int.le_refl _
  have ne:∀i,i≠o->gt (far.set o ((s:Int)+1)) i=gt far i:=fun i z=>by rw[g i,if_neg z]
  have eo:gt (far.set o ((s:Int)+1)) o=s+1:=by rw[g o,if_pos rfl]
  refine⟨⟨by rw[length_set];exact F.len,by rw[ne r ro];exact F.rt,fun i hi=>?_,fun i hi=>Int.le_trans (le i) (F.top i hi),fun i hi j hj hv aj=>?_,fun i hi j hj hv aj=>?_,fun j hj z=>?_,fun i hi hn' hv=>?_⟩,by rw[ne k ko];exact ek⟩
  ·by_cases z:i=o
   ·subst z;rw[eo];omega
   ·rw[ne i z];exact F.rng i hi
  ·have z:i≠o:=fun z=>by subst z;rw[eo]at hv;omega
   rw[ne i z]at hv ⊢;exact Int.le_trans (le j) (F.up i hi j hj hv aj)
  ·have z:i≠o:=fun z=>by subst z;rw[eo]at hv;omega
   rw[ne i z]at hv;exact Int.le_trans (le j) (F.upk i hi j hj hv aj)
  ·rcases z with z|z
   ·exact Int.le_trans (le j) (F.upd j hj z)
   ·subst z;rw[eo];exact Int.le_refl _
  ·by_cases z:i=o
   ·subst z;rw[eo];exact⟨by omega,k,hk,a,by rw[ne k ko];omega⟩
   ·rw[ne i z]at hv ⊢;obtain⟨h1,j,hj,aj,ej⟩:=F.dn i hi hn' hv;refine⟨h1,j,hj,aj,?_⟩;rw[ne j fun q=>by subst q;omega];exact ej
def Far.next(F:Far n r adj s n (fun _=>False) far):Far n r adj (s+1) 0 (fun _=>False) far where
 len:=F.len
 rt:=F.rt
 rng:=fun i hi=>by have:=F.rng i hi;omega
 top:=F.top
 up:=fun i hi j hj hv a=>by
  by_cases h:gt far i<s
  ·exact F.up i hi j hj h a
  ·have e:gt far i=s:=by omega
   have:=F.upk i hi j hj e a;omega
 upk:=fun i hi=>absurd hi (Nat.not_lt_zero _)
 upd:=fun _ _ z=>z.elim
 dn:=F.dn
structure qf(n r:Nat)(adj:Nat->Nat->Prop)(far:Gi):Prop where
 len:far.length=n
 rt:gt far r=0
 rng:∀i<n,0<=gt far i/\gt far i<=n
 up:∀i<n,∀j<n,adj i j->gt far j<=gt far i+1
 dn:∀i<n,i≠r->gt far i<n->1<=gt far i/\∃j<n,adj i j/\gt far j=gt far i-1
def Far.dist(F:Far n r adj n 0 (fun _=>False) far):qf n r adj far where
 len:=F.len
 rt:=F.rt
 rng:=fun i hi=>⟨(F.rng i hi).1,F.top i hi⟩
 up:=fun i hi j hj a=>by
  by_cases h:gt far i<n
  ·exact F.up i hi j hj h a
  ·have:=F.top j hj;omega
 dn:=F.dn
def qF:∀{l l':Gi},l.Nodup->(∀x∈l,x∈l')->l.length<=l'.length
 | [],_,_,_=>zero_le _
 |x::l,l',nd,sub=>by obtain⟨h1,h2⟩:=nodup_cons.mp nd;have hx:=sub x mem_cons_self;have:=qF (l':=l'.erase x) h2 (by grind);rw[List.length_erase_of_mem hx]at this;have:=List.length_pos_of_mem hx;rw[length_cons];omega
def qf.below(D:qf n r adj far)(hr:r<n):∀(m:Nat),(∃i<n,gt far i=m)->m<n->∀v,v<=m->∃i<n,gt far i=v
 |0,h,_,v,hv=>by
  have:v=0:=by omega
  subst this;exact h
 |m+1,⟨i,hi,e⟩,hm,v,hv=>by
  rcases Nat.lt_or_ge v (m+1)with h|h
  ·have hir:i≠r:=fun z=>by subst z;have:=D.rt;omega
   obtain⟨_,j,hj,_,ej⟩:=D.dn i hi hir (by omega);exact D.below hr m ⟨j,hj,by omega⟩ (by omega) v (by omega)
  ·have:v=m+1:=by omega
   subst this;exact⟨i,hi,e⟩
def eR(h:i<far.length):gt far i∈far:=by simp[gt,h]
def qf.all(D:qf n r adj far)(hr:r<n)(conn:∀S:Nat->Prop,S r->(∀i<n,∀j<n,adj i j->S i->S j)->∀i<n,S i):∀i<n,gt far i<n:=by
 refine conn (fun i=>gt far i<n) (by show gt far r<n;rw[D.rt];omega) fun i hi j hj a hv=>?_;show gt far j<n;rcases Int.lt_or_le (gt far j) n with h|h
 ·exact h
 exfalso;have h1:=D.up i hi j hj a;have h2:=(D.rng j hj).2;have e:gt far i=((n-1:Nat):Int):=by omega
 have all:∀v:Nat,v<n+1->(v:Int)∈ far:=fun v hv=>by
  rcases Nat.lt_or_ge v n with h|h
  ·obtain⟨x,hx,ex⟩:=D.below hr (n-1) ⟨i,hi,e⟩ (by omega) v (by omega);rw[<- ex];exact eR (by rw[D.len];exact hx)
  ·have:(v:Int)=gt far j:=by omega
   rw[this];exact eR (by rw[D.len];exact hj)
 have:=qF (l:=(range (n+1)).map fun k:Nat=>(k:Int)) (l':=far) (Pairwise.map _ (fun a b h z=>h (by omega)) nodup_range) (by grind);rw[length_map,List.length_range,D.len]at this;omega
end
end PR
namespace PR
open PySem PySem.Spec L2
def prL(ps:Gf):Gs:=ps.map prV
section
variable{ps qs:Gf}{x:Int×Int}{f:Fl}{g:Fl->Fl}{p:Fl->Bool}
@[simp] def EF:prL []=[]:=rfl
@[simp] def uR:prL (x::ps)=prV x::prL ps:=rfl
@[simp] def jD:(prL ps).length=ps.length:=by simp[prL]
@[simp] def x_:prL ps++prL qs=prL (ps++qs):=by simp[prL]
@[simp] def x5(k:Nat):(prL ps)[k]?=(ps[k]?).map prV:=by simp[prL]
@[simp] def ED:PV.GJ g (prV x)=prV x:=rfl
@[simp] def EE:(prV x).has p=false:=rfl
@[simp] def DX:mapL g (prL ps)=prL ps:=by
 induction ps with
 |nil=>rfl
 |cons n ns ih=>simp[mapL,ih]
@[simp] def Ei:hasL p (prL ps)=false:=by
 induction ps with
 |nil=>rfl
 |cons n ns ih=>simp[hasL,ih]
@[simp] def pp:shp (prV x)=true:=rfl
@[simp] def nt:(prL ps).all shp=true:=by
 induction ps with
 |nil=>rfl
 |cons n ns ih=>simp only[uR,all_cons,pp,ih];rfl
def BQ(x y:Int×Int):PyData.eqv (prV x).data (prV y).data=decide (x=y):=by obtain⟨a,b⟩:=x;obtain⟨c,d⟩:=y;simp only[prV,PV.data,dataL,PyData.eqv,PyData.eqvAll];by_cases h1:a=c<;>by_cases h2:b=d<;>simp[h1,h2]
def vY:inL (prV x) (prL ps)=ps.contains x:=by
 induction ps with
 |nil=>rfl
 |cons n ns ih=>
  have e:inL (prV x) (prL (n::ns))=(PyData.eqv (prV n).data (prV x).data||inL (prV x) (prL ns)):=rfl;rw[e,ih,List.contains_cons,BQ];congr 1;by_cases h:n=x
  ·subst h;simp
  ·rw[decide_eq_false h];exact(beq_eq_false_iff_ne.mpr (Ne.symm h)).symm
@[simp] def F7:pIn (prV x) (.lst f (prL ps))=.ok (.bl (ps.contains x)):=by unfold pIn;simp only[aN,pp,nt,Bool.and_self,if_true,vY]
@[simp] def DU:gZ (prV x) (.lst f (prL ps))=.ok (.bl (!ps.contains x)):=by unfold gZ;simp only[aN,pp,nt,Bool.and_self,if_true,vY]
@[simp] def EU:aL (prV x) (.int 0)=.ok (.int x.1):=rfl
@[simp] def ET:aL (prV x) (.int 1)=.ok (.int x.2):=rfl
def lK(a b:Int):PV.tup [.int a,.int b]=prV (a,b):=rfl
@[simp] def Fz:e9 eQ (prV x)=.ok (.int (min x.1 x.2)):=rfl
@[simp] def FB:e9 iz (prV x)=.ok (.int (max x.1 x.2)):=rfl
@[simp] def pE:eO (prL ps)=some ps:=by
 induction ps with
 |nil=>rfl
 |cons n ns ih=>have:gc (prV n)=some n:=rfl;simp[eO,ih,this]
def rQ(ns:Gi)(h:ns.length<64):dW (.lst f (iL ns))=.ok (.lst .own (iL (ij ns))):=by simp[dW,h,gF];rfl
def o_(h:ps.length<64)(hd:ps.Nodup):dW (.lst f (prL ps))=.ok (.lst .own (prL (bY ps))):=by
 cases ps with
 |nil=>rfl
 |cons n ns=>have e:bh (prL (n::ns))=none:=rfl;simp only[dW,e,pE,jD];rw[if_pos (decide_eq_true h),if_pos (decide_eq_true hd)];rfl
def Au(n:Nat)(i:Int)(ns:Gi):bZ n (.int i) (iL ns)=iL (bZ n i ns):=by simp[bZ,iL]
def ir{α:Type}{n:Nat}{y z:α}{l:List α}:z∈bZ n y l↔z=y\/z∈l:=by
 unfold bZ;rw[mem_append,mem_cons];constructor
 ·rintro(h|h|h)
  ·exact .inr (List.mem_of_mem_take h)
  ·exact .inl h
  ·exact .inr (List.mem_of_mem_drop h)
 ·rintro(h|h)
  ·exact .inr (.inl h)
  ·rw[<- List.take_append_drop n l]at h;rcases mem_append.mp h with h|h
   ·exact .inl h
   ·exact .inr (.inr h)
def f9{α:Type}(n:Nat)(y:α)(l:List α):(bZ n y l).Perm (y::l):=by unfold bZ;refine List.perm_middle.trans ?_;rw[List.take_append_drop]
def s_{i n:Nat}{mk m:ME}{env:En}{xs:Gs}{v:PV}{j:Int}(hk:mk env=.ok (.int j))(h:m env=.ok v)(ho:env[i]?=some (some (.lst .own xs)))(hf:qU v=true)(hl:v.GH=true)(hj:j=n)(hn:n<=xs.length)(hx:xs.length<10000000) :
  iB i mk m env=.next (env.set i (some (.lst .own (bZ n v xs)))):=by
 subst hj;unfold iB;rw[hk,h,ho];simp only[hf,hl];simp[hx,hn]
end
def j_{x:PV}{xs:Gs}{k:Nat}{y:PV}(hs:aN x=some xs)(h:xs[k]?=some y)(ho:y.has Fl.Gz=false):aL x (.int k)=.ok y:=by have hl:k<xs.length:=(List.getElem?_eq_some_iff.mp h).1;unfold aL;simp only[hs,atI];rw[iH hl];simp[h,ho]
def nbL(ps:Gf)(at_:Int):Gi:=ij ((ps.filter fun x=>decide (x.2=at_)).map (·.1)++(ps.filter fun x=>decide (x.1=at_)).map (·.2))
def l_{ps:Gf}{a o:Int}:o∈nbL ps a ↔(o,a)∈ ps \/(a,o)∈ ps:=by
 unfold nbL;rw[(eA _).mem_iff,mem_append];simp only[mem_map,mem_filter,decide_eq_true_eq];constructor
 ·rintro(⟨⟨x,y⟩,⟨h1,h2⟩,h3⟩ |⟨⟨x,y⟩,⟨h1,h2⟩,h3⟩)
  ·dsimp only at h2 h3;subst h2 h3;exact .inl h1
  ·dsimp only at h2 h3;subst h2 h3;exact .inr h1
 ·rintro(h|h)
  ·exact .inl ⟨_,⟨h,rfl⟩,rfl⟩
  ·exact .inr ⟨_,⟨h,rfl⟩,rfl⟩
def mm(w:Int×Int):Int×Int:=(min w.1 w.2,max w.1 w.2)
structure Ct(n:Nat)(ws:Gf):Prop where
 rg:∀w∈ws,0<=w.1/\w.1<n/\0<=w.2/\w.2<n/\w.1≠w.2
 nd:(ws.map mm).Nodup
 sz:ws.length<64
end PR
namespace PR
def zL{w u:Int×Int}(h:mm w=mm u):w=u\/w=(u.2,u.1):=by obtain⟨a,b⟩:=w;obtain⟨c,d⟩:=u;simp only[mm,Prod.mk.injEq]at h ⊢;omega
def qG{w u:Int×Int}(h:mm w=mm u):(w.1=u.1/\w.2=u.2)\/(w.1=u.2/\w.2=u.1):=by
 rcases zL h with rfl|rfl
 ·exact .inl ⟨rfl,rfl⟩
 ·exact .inr ⟨rfl,rfl⟩
structure Tree(n:Nat)(od:Gi)(k:Nat)(ws:Gf):Prop where
 rg:∀w∈ws,w.1∈od.take k/\w.2∈od.take k/\w.1≠w.2
 nd:(ws.map mm).Nodup
 ln:ws.length+1=k
 cn:∀S:Int->Prop,(∀w∈ws,(S w.1↔S w.2))->∀a∈od.take k,(S a↔S (od.getD 0 0))
def Tree.start{n:Nat}{od:Gi}(h:od.length=n)(hn:1<=n):Tree n od 1 [] where
 rg:=fun w hw=>by cases hw
 nd:=.nil
 ln:=rfl
 cn:=fun S _ a ha=>by
  cases od with
  |nil=>simp at h;omega
  |cons x l=>
   have:a=x:=by simpa using ha
   subst this;simp
def Tree.more{n:Nat}{od:Gi}{k j:Nat}{ws:Gf}{w:Int×Int}{p:Nat}(T:Tree n od k ws)(hod:od.Nodup)(hk:k<od.length)(hj:j<k)(hw:w=(od.getD k 0,od.getD j 0)\/ w=(od.getD j 0,od.getD k 0)):Tree n od (k+1) (bZ p w ws):=by
 have hjl:j<od.length:=by omega
 have e1:od.getD k 0=od[k]:=by simp[hk]
 have e2:od.getD j 0=od[j]:=by simp[hjl]
 rw[e1,e2]at hw;have tk:od.take (k+1)=od.take k++[od[k]]:=by rw[take_add_one];simp[hk]
 have mj:od[j]∈ od.take k:=List.mem_take_iff_getElem.mpr ⟨j,by omega,rfl⟩;have nk:od[k]∉ od.take k:=fun z=>by obtain⟨i,hi,e⟩:=List.mem_take_iff_getElem.mp z;have:=(getElem_inj hod).mp e;omega
 have ne:od[k]≠ od[j]:=fun z=>nk (z▸mj);have mem:∀u∈bZ p w ws,u=w\/u∈ws:=fun u hu=>ir.mp hu;refine⟨fun u hu=>?_,?_,?_,fun S hS a ha=>?_⟩
 ·rcases mem u hu with rfl|hu
  ·grind
  ·obtain⟨h1,h2,h3⟩:=T.rg u hu;rw[tk];exact⟨mem_append_left _ h1,mem_append_left _ h2,h3⟩
 ·have:((bZ p w ws).map mm).Perm (mm w::ws.map mm):=(f9 p w ws).map mm;refine this.symm.nodup (nodup_cons.mpr ⟨fun z=>?_,T.nd⟩);obtain⟨u,hu,e⟩:=mem_map.mp z;obtain⟨h1,h2,_⟩:=T.rg u hu;rcases hw with rfl|rfl
  ·rcases qG e with⟨q1,q2⟩ |⟨q1,q2⟩
   ·exact nk (by rw[q1]at h1;exact h1)
   ·exact nk (by rw[q2]at h2;exact h2)
  ·rcases qG e with⟨q1,q2⟩ |⟨q1,q2⟩
   ·exact nk (by rw[q2]at h2;exact h2)
   ·exact nk (by rw[q1]at h1;exact h1)
 ·rw[(f9 p w ws).length_eq,length_cons,T.ln]
 ·have hw':=hS w (ir.mpr (.inl rfl));have cn:=T.cn S fun u hu=>hS u (ir.mpr (.inr hu))
  grind
structure eK(n m:Nat)(ws:Gf):Prop where
 rg:∀w∈ws,0<=w.1/\w.1<n/\0<=w.2/\w.2<n/\w.1≠w.2
 nd:(ws.map mm).Nodup
 ln:ws.length<=m
 cn:∀S:Int->Prop,(∀w∈ws,(S w.1↔S w.2))->∀i j:Nat,i<n->j<n->S i->S j
def Tree.whole{n:Nat}{od:Gi}{ws:Gf}(T:Tree n od n ws)(hp:od.Perm ((range n).map fun k:Nat=>(k:Int))):eK n n ws:=by
 have hl:od.length=n:=by simpa using hp.length_eq
 have ht:od.take n=od:=by rw[<- hl,take_length]
 have hm:∀a,a∈od↔∃k:Nat,k<n/\(k:Int)=a:=fun a=>by rw[hp.mem_iff];simp
 refine⟨fun w hw=>?_,T.nd,by have:=T.ln;omega,fun S hS i j hi hj hs=>?_⟩
 ·obtain⟨h1,h2,h3⟩:=T.rg w hw;rw[ht]at h1 h2;obtain⟨a,ha,ea⟩:=(hm _).mp h1;obtain⟨b,hb,eb⟩:=(hm _).mp h2;omega
 ·have cn:=T.cn S hS;rw[ht]at cn;exact(cn j ((hm _).mpr ⟨j,hj,rfl⟩)).mpr ((cn i ((hm _).mpr ⟨i,hi,rfl⟩)).mp hs)
def eK.more{n m p:Nat}{ws:Gf}{a b:Int}(h:eK n m ws)(ha:0<=a/\a<n)(hb:0<=b/\b<n)(hne:a≠b)(h1:(a,b)∉ ws)(h2:(b,a)∉ ws):eK n (m+1) (bZ p (a,b) ws):=by
 refine⟨fun u hu=>?_,?_,?_,fun S hS=>h.cn S fun u hu=>hS u (ir.mpr (.inr hu))⟩
 ·rcases ir.mp hu with rfl|hu
  ·exact⟨ha.1,ha.2,hb.1,hb.2,hne⟩
  ·exact h.rg u hu
 ·have:((bZ p (a,b) ws).map mm).Perm (mm (a,b)::ws.map mm):=(f9 p (a,b) ws).map mm;refine this.symm.nodup (nodup_cons.mpr ⟨fun z=>?_,h.nd⟩);obtain⟨u,hu,e⟩:=mem_map.mp z;rcases zL e with rfl|rfl
  ·exact h1 hu
  ·exact h2 hu
 ·rw[(f9 p (a,b) ws).length_eq,length_cons];have:=h.ln;omega
def eK.keep{n m:Nat}{ws:Gf}(h:eK n m ws):eK n (m+1) ws:=⟨h.rg,h.nd,Nat.le_succ_of_le h.ln,h.cn⟩
def eK.good{n m:Nat}{ws:Gf}(h:eK n m ws)(hm:m<64):Ct n ws:=⟨h.rg,h.nd,by have:=h.ln;omega⟩
open PySem L2 in
def qd(o:Out)(Q:PV->Prop):Prop:=∃v,o=.ret v/\Q v
section
open PySem L2
variable{env e:En}{Q:PV->Prop}
def eY{a b:MS}(h1:a env=.next e)(h2:qd (b e) Q):qd (ax a b env) Q:=by obtain⟨v,h,q⟩:=h2;exact⟨v,af h1 h,q⟩
def kZ{o:Out}{v:PV}(h:o=.ret v)(q:Q v):qd o Q:=⟨v,h,q⟩
def io{it:MI}{g:TgM}{body aV:MS}{xs:Gs}(P:Nat->En->Prop)(h:it env=.ok xs)(h0:P 0 env)
  (step:∀(k:Nat) (x:PV) (e:En),xs[k]?=some x->P k e->∃e1,g x e=some e1/\jl (body e1) (P (k+1))) (fin:∀e,P xs.length e->qd (aV e) Q):qd (ax (dh it g body) aV env) Q:=by
 obtain⟨e2,h1,h2⟩:=iK P h h0 fun k x e h1 h2=>by obtain⟨e1,h3,e2,h4,h5⟩:=step k x e h1 h2;exact⟨e1,e2,h3,h4,h5⟩
 exact eY h1 (fin e2 h2)
end
end PR
namespace PR
open PySem L2
section
variable{env:En}
def fu(ho:env[0]?=some (some (.obj .own c ks vs)))(ha:ms env=.ok xs)(hl:hasL Fl.GB xs=false)
  (hm:m (.obj .own c ks vs::mapL Fl.Gw xs)=.ok (.obj fl c' ks' vs')) (hb:(PV.obj fl c' ks' vs').has Fl.GD=false):fU m ms env=.next (env.set 0 (some (.obj fl c' ks' vs'))):=by
 unfold fU;rw[ho];dsimp only;rw[ha];dsimp only;rw[hl,if_neg (by decide),hm];dsimp only;rw[hb,if_neg (by decide)]
end
def lf(h:c env=.ok true)(h2:jl (a env) Q):jl (mBr c a b env) Q:=by rw[zS h];exact h2
def lg(h:c env=.ok false)(h2:jl (b env) Q):jl (mBr c a b env) Q:=by rw[zS h];exact h2
section
variable{env:En}{g:TgM}{me:ME}
def eG(f:Int->Int)(row:Gi)(h:∀x∈row,∃e1,g (.int x) env=some e1/\me e1=.ok (.int (f x))):cI g bT me env (iL row)=.ok (iL (row.map f)):=by rw[show iL (row.map f)=row.map fun x=>PV.int (f x) by simp[iL]];exact bR (a:=PV.int) (f:=fun x=>.int (f x)) row fun x hx=>let⟨e1,h1,h2⟩:=h x hx;⟨e1,h1,h2,rfl,rfl⟩
def lC(lo:Int)(f:Nat->Int)(n:Nat)(h:∀k<n,∃e1,g (.int (lo+(k:Int))) env=some e1/\me e1=.ok (.int (f k))):cI g bT me env (ck lo n)=.ok (iL ((range n).map f)):=by rw[show iL ((range n).map f)=(range n).map fun k=>PV.int (f k) by simp[iL]];exact bR (a:=fun k:Nat=>PV.int (lo+(k:Int))) (f:=fun k=>.int (f k)) (range n) fun k hk=>let⟨e1,h1,h2⟩:=h k (mem_range.mp hk);⟨e1,h1,h2,rfl,rfl⟩
def pY(p:Nat->Bool)(f:Nat->Int)(n:Nat)(h:∀k<n,∃e1,g (.int (0+(k:Int))) env=some e1/\mc e1=.ok (p k)/\(p k=true->me e1=.ok (.int (f k)))):cI g mc me env (ck 0 n)=.ok (iL (((range n).filter p).map f)):=by rw[show iL (((range n).filter p).map f)=((range n).filter p).map fun k=>PV.int (f k) by simp[iL]];exact cB (a:=fun k:Nat=>PV.int (0+(k:Int))) (f:=fun k=>.int (f k)) (p:=p) (range n) fun k hk=>let⟨e1,h1,h2,h3⟩:=h k (mem_range.mp hk);⟨e1,h1,h2,fun z=>⟨h3 z,rfl,rfl⟩⟩
end
def cr(h0:0<=i)(h:i<cs.length):aL (.lst f (iL cs)) (.int i)=.ok (.int (gt cs i.toNat)):=by
 have:i.toNat<cs.length:=by omega
 exact gn _ h0 (by simp[gt,this])
def cR(p:Int->Bool)(f:Int->Int)(row:Gi)(h:∀x∈row,∃e1,g (.int x) env=some e1/\mc e1=.ok (p x)/\(p x=true->me e1=.ok (.int (f x)))):cI g mc me env (iL row)=.ok (iL ((row.filter p).map f)):=by rw[show iL ((row.filter p).map f)=(row.filter p).map fun x=>PV.int (f x) by simp[iL]];exact cB (a:=PV.int) (f:=fun x=>.int (f x)) (p:=p) row fun x hx=>let⟨e1,h1,h2,h3⟩:=h x hx;⟨e1,h1,h2,fun z=>⟨h3 z,rfl,rfl⟩⟩
def qg{Fin:En->Prop}(P:Nat->En->Prop)(step:∀m e,P m e->(c e=.ok false/\Fin e)\/(c e=.ok true/\∃m' e',m'<m/\(b e=.next e'\/b e=.cont e')/\P m' e')) :
  ∀(k m:Nat) (env:En),m<k->P m env->∃e',whL c b k env=.next e'/\Fin e'
 |0,m,_,h,_=>absurd h (Nat.not_lt_zero m)
 |k+1,m,env,h,hP=>by
  unfold whL;rcases step m env hP with⟨h1,h2⟩ |⟨h1,m',e',h2,h3,h4⟩
  ·rw[h1];exact⟨env,rfl,h2⟩
  ·obtain⟨e2,h5,h6⟩:=qg P step k m' e' (by omega) h4;rw[h1];rcases h3 with h3|h3<;>rw[h3]<;>exact⟨e2,h5,h6⟩
section
variable{env:En}{r:Out}
def rT{c:MT}{b aV:MS}{Fin:En->Prop}(P:Nat->En->Prop)(m:Nat)(hm:m<100000)(h0:P m env)(step:∀m e,P m e->(c e=.ok false/\Fin e)\/(c e=.ok true/\∃m' e',m'<m/\(b e=.next e'\/b e=.cont e')/\P m' e'))(fin:∀e,Fin e->aV e=r):ax (mt c b) aV env=r:=by obtain⟨e',h1,h2⟩:=qg P step 100000 m env hm h0;exact af h1 (fin e' h2)
end
def ql(hl:l.length<=1000)(hb:∀x∈l,-1000000<=x/\x<=1000000):lZ (.lst f (iL l))=.ok (.int l.sum):=by
 have:cV l=true:=by simp only[cV,all_eq_true,decide_eq_true_eq];exact hb
 simp[lZ,aN,hl,this]
@[simp] def t7(bs:List Bool):dH (bs.map .bl)=some bs:=by
 induction bs with
 |nil=>rfl
 |cons b bs ih=>simp[dH,ih]
end PR
namespace PR
def s0_{α:Type}{a b:α}{l:List α}:(a::l).set 0 b=b::l:=rfl
def s1_{α:Type}{a b:α}{l:List α}{n:Nat}:(a::l).set (n+1) b=a::l.set n b:=rfl
end PR
namespace G
open PySem L2 PR
def wQ:MS:=
 (ax (mBr (av (mOp pLt (aa 1) (au (p1 bX) (ae (aa 0) ah))))
  (bz (mOp aL (aa 0) (aa 1)))
  aR)
 (bz (GM 0)))
def iM:=bv 2 wQ
def gx:MS:=
 (ax (fe 0 0 (aa 1))
 (ax (fe 0 7 (aa 2))
 (fe 0 8 (aa 3))))
def ff:=gJ 4 gx
def Ca:MS:=
 (ax (mBr ((gh (av (mOp pLt (aa 1) (GM 2))) (av (mOp pGt (aa 1) (GM 20)))))
  (a_ 2 (ae (mC (.str "the number of machines is out of bounds")) ah))
  aR)
 (ax (mBr (av (mOp pLt (aa 2) (aa 1)))
  (a_ 2 (ae (mC (.str "the span is less than the size")) ah))
  aR)
 (fU ff (ae (aa 1) (ae (aa 2) (ae (mC (.bl false)) ah))))))
def BC:=gJ 3 Ca
def wV:MS:=
 (ax (a6 2 (mOp bC (aa 0) (GM 998244353)))
 (ax (a6 3 (eH ah))
 (ax (dh (b7 (ae (aa 1) ah)) (tgN 4)
  (ax (a6 2 (mOp bC (mOp aS (mOp aS (mOp eC (aa 2) (mOp aS (mOp aS (aa 2) (mOp eC (GM 2) (aa 4))) (GM 40503))) (mOp eC (GM 12553) (aa 4))) (GM 1)) (GM 998244353)))
 (cz 3 (aa 2))))
 (iA 3))))
def ke:=bv 5 wV
def wJ:MS:=
 (ax (a6 2 (au (aP ke) (ae (aa 1) (ae (aa 0) ah))))
 (ax (a6 3 (eH ah))
 (ax (dh (b7 (ae (aa 0) ah)) (tgN 4)
  (iB 3 (mOp bC (mOp aL (aa 2) (aa 4)) (mOp aS (aa 4) (GM 1))) (aa 4)))
 (ax (a6 5 (eH ah))
 (ax (dh (k_ (ae (GM 1) (ae (aa 0) ah))) (tgN 4)
  (cz 5 (ky (ae (mOp aL (aa 3) (aa 4)) (ae (mOp aL (aa 3) (mOp bC (mOp cm (mOp aL (aa 2) (aa 4)) (GM 16)) (aa 4))) ah)))))
 (ax (dh (b7 (ae (aa 0) ah)) (tgN 4)
  (dh (b7 (ae (aa 4) ah)) (tgN 6)
  (ax (a6 7 ((n9 (mOp pEq (mOp bC (aa 1) (GM 7)) (GM 3)) ((gm (mOp pEq (mOp bC (mOp aS (mOp cm (mOp aL (aa 2) (aa 4)) (GM 512)) (aa 6)) (aa 0)) (GM 1)) (mOp pEq (mOp bC (mOp cm (mOp aL (aa 2) (aa 4)) (GM 8192)) (GM 3)) (GM 0)))))))
 (mBr ((fQ (dI (aa 7)) (fQ (av (mOp gZ (ky (ae (aa 6) (ae (aa 4) ah))) (aa 5))) (av (mOp gZ (ky (ae (aa 4) (ae (aa 6) ah))) (aa 5))))))
  (cz 5 (ky (ae (aa 6) (ae (aa 4) ah))))
  aR))))
 (iA 5)))))))
def lq:=bv 8 wJ
def wU:MS:=
 (mBr ((gh (av (mOp pLt (aa 0) (aa 1))) (av (mOp pGt (aa 0) (GM 10)))))
  (a_ 1 (ae (mC (.str "the number of machines is out of bounds")) ah))
  aR)
def wc:=bv 2 wU
def Cc:MS:=
 (ax (a6 2 (eH ah))
 (ax (dh (gg (aa 1)) (tgN 3)
  (ax (a6 4 (ky (ae (au (p1 (e9 eQ)) (ae (aa 3) ah)) (ae (au (p1 (e9 iz)) (ae (aa 3) ah)) ah))))
 (ax (mBr ((gh (av (mOp pLt (mOp aL (aa 4) (GM 0)) (GM 0))) (av (mOp pGe (mOp aL (aa 4) (GM 1)) (aa 0)))))
  (a_ 1 (ae (mC (.str "a way has a number that is no machine")) ah))
  aR)
 (ax (mBr (av (mOp pEq (mOp aL (aa 4) (GM 0)) (mOp aL (aa 4) (GM 1))))
  (a_ 1 (ae (mC (.str "a way has twice the same machine")) ah))
  aR)
 (ax (mBr (av (mOp pIn (aa 4) (aa 2)))
  (a_ 1 (ae (mC (.str "a way is told twice")) ah))
  aR)
 (cz 2 (aa 4)))))))
 (bz (au (p1 dW) (ae (aa 2) ah)))))
def BE:=bv 5 Cc
def wP:MS:=
 (ax (a6 2 (aZ [1] 1 (cq (aa 0)) (tgN 1) (av (mOp pEq (mOp aL (aa 1) (GM 1)) (aa 0))) (mOp aL (aa 1) (GM 0))))
 (ax (a6 3 (aZ [1] 1 (cq (aa 0)) (tgN 1) (av (mOp pEq (mOp aL (aa 1) (GM 0)) (aa 0))) (mOp aL (aa 1) (GM 1))))
 (bz (au (p1 dW) (ae (mOp aS (aa 2) (aa 3)) ah)))))
def rp:=bv 4 wP
def oT:MS:=
 (bz (au (p1 dF) (ae (mOp aL (mUn (ap 2) (aa 0)) (aa 1)) ah)))
def rk:=bv 2 oT
def br:Nat->Option (Gs->Gu)
 |8=>some rk
 |_=>none
def wK:MS:=
 (ax (a6 2 (aZ [0] 1 (b7 (ae (mUn (ap 0) (aa 0)) ah)) (tgN 1) bT (mUn (ap 0) (aa 0))))
 (ax (g_ 2 (aa 1) (GM 0))
 (ax (dh (b7 (ae (mUn (ap 0) (aa 0)) ah)) (tgN 3)
  (dh (b7 (ae (mUn (ap 0) (aa 0)) ah)) (tgN 4)
  (mBr (av (mOp pEq (mOp aL (aa 2) (aa 4)) (aa 3)))
  (dh (gg (bH br (aa 0) (ae (aa 4) ah))) (tgN 5)
  (g_ 2 (aa 5) (au (fE min) (ae (mOp aL (aa 2) (aa 5)) (ae (mOp aS (aa 3) (GM 1)) ah)))))
  aR)))
 (iA 2))))
def q_:=bv 6 wK
def wG:MS:=
 (ax (gj (au (aP wc) (ae (aa 1) (ae (GM 1) ah))))
 (ax (fe 0 0 (aa 1))
 (ax (fe 0 1 (au (p1 dw) (ae (au (aP BE) (ae (aa 1) (ae (aa 2) ah))) ah)))
 (ax (fe 0 2 (au (p1 dw) (ae (aZ [0] 1 (b7 (ae (aa 1) ah)) (tgN 1) bT (au (p1 dw) (ae (au (aP rp) (ae (mUn (ap 1) (aa 0)) (ae (aa 1) ah))) ah))) ah)))
 (mBr (av (mOp pEq (au (p1 (e9 iz)) (ae (au (aP q_) (ae (aa 0) (ae (GM 0) ah))) ah)) (aa 1)))
  (a_ 1 (ae (mC (.str "not every machine can be come to from machine 0")) ah))
  aR)))))
def lm:=gJ 3 wG
def wC:MS:=
 (fU ff (ae (aa 1) (ae (aa 2) (ae (mC (.bl false)) ah))))
def pX:=gJ 3 wC
def Cf:MS:=
 (ax (gL 1) (ax (fe 0 4 (aa 1))
 (fU pX (ae (mUn (ap 0) (aa 1)) (ae (mUn (ap 0) (aa 1)) ah)))))
def BH:=gJ 2 Cf
def Ce:MS:=
 (ax (mBr (av (mOp pGt (au (p1 bX) (ae (aa 0) ah)) (GM 9)))
  (a_ 2 (ae (mC (.str "there are more than nine parents")) ah))
  aR)
 (dh (sP (aa 0)) (tgT 2 (bF (tgN 1) (bF (tgN 2) fX)))
  (mBr ((gh (av (mOp pLt (aa 2) (GM 0))) (av (mOp pGe (aa 2) (aa 1)))))
  (a_ 2 (ae (mC (.str "a parent is no machine of a lower number than its kid")) ah))
  aR)))
def BG:=bv 3 Ce
def Cj:MS:=
 (ax (gj (au (aP BG) (ae (aa 1) ah)))
 (ax (fe 0 11 (au (p1 dw) (ae (aa 1) ah)))
 (fU pX (ae (mOp aS (au (p1 bX) (ae (aa 1) ah)) (GM 1)) (ae (mOp aS (au (p1 bX) (ae (aa 1) ah)) (GM 2)) ah)))))
def BK:=gJ 2 Cj
def wR:MS:=
 (mBr ((gh (av (mOp pLt (aa 0) (GM 1))) (av (mOp pGt (aa 0) (GM 10)))))
  (a_ 2 (ae (mC (.str "the stretch or the number of blocks is out of bounds")) ah))
  aR)
def rq:=bv 1 wR
def B7:MS:=
 (ax (mBr (av (mOp pNe (au (p1 bX) (ae (aa 1) ah)) (mUn (ap 0) (aa 0))))
  (a_ 2 (ae (mC (.str "there are not as many starts as machines")) ah))
  aR)
 (dh (gg (aa 1)) (tgN 3)
  (mBr ((fQ (av (mOp gO (aa 3) (mC .non))) ((gh (av (mOp pLt (aa 3) (GM 0))) (av (mOp pGe (aa 3) (aa 2)))))))
  (a_ 2 (ae (mC (.str "a start is out of bounds")) ah))
  aR)))
def Bz:=bv 4 B7
def Ci:MS:=
 (ax (gj (au (aP rq) (ae (aa 3) ah)))
 (ax (gj (au (aP rq) (ae (aa 4) ah)))
 (ax (fe 0 3 (mOp eC (aa 3) (aa 4)))
 (ax (gj (au (aP Bz) (ae (aa 1) (ae (aa 2) (ae (mUn (ap 3) (aa 0)) ah)))))
 (ax (gL 1) (ax (fe 0 4 (aa 1))
 (ax (fe 0 5 (au (p1 dw) (ae (aa 2) ah)))
 (ax (fe 0 6 (aa 3))
 (fU ff (ae (mUn (ap 0) (aa 1)) (ae (mOp aS (mUn (ap 3) (aa 0)) (GM 1)) (ae (mC (.bl true)) ah))))))))))))
def tD:=gJ 5 Ci
def wX:MS:=
 (ax (mBr ((gh (av (mOp pLt (aa 2) (GM 0))) (av (mOp pGe (aa 2) (mUn (ap 0) (aa 1))))))
  (a_ 2 (ae (mC (.str "the root is no machine")) ah))
  aR)
 (ax (a6 3 (aZ [2] 1 (b7 (ae (mUn (ap 0) (aa 1)) ah)) (tgN 1) bT (vR (av (mOp pEq (aa 1) (aa 0))) (GM 0) (mC .non))))
 (ax (gL 3) (ax (gL 1) (fU tD (ae (aa 1) (ae (aa 3) (ae (mUn (ap 0) (aa 1)) (ae (GM 1) ah)))))))))
def rA:=gJ 4 wX
def B5:MS:=
 (ax (mBr (av (mOp pNe (au (p1 bX) (ae (aa 1) ah)) (mUn (ap 0) (aa 0))))
  (a_ 2 (ae (mC (.str "there are not as many names as machines")) ah))
  aR)
 (ax (mBr (av (mOp pNe (mUn gC (aa 1)) (au (p1 bX) (ae (aa 1) ah))))
  (a_ 2 (ae (mC (.str "two machines have the same name")) ah))
  aR)
 (dh (gg (aa 1)) (tgN 2)
  (mBr ((gh (av (mOp pLt (aa 2) (GM 0))) (av (mOp pGt (aa 2) (GM 9)))))
  (a_ 2 (ae (mC (.str "a name is out of bounds")) ah))
  aR))))
def Bx:=bv 3 B5
def Cd:MS:=
 (ax (gL 1) (ax (gj (au (aP Bx) (ae (aa 1) (ae (aa 2) ah))))
 (ax (a6 3 (aZ [1] 1 (cq (aa 2)) (tgN 1) bT (mOp eC (mOp nT (GM 9) (aa 1)) (mUn (ap 0) (aa 0)))))
 (ax (gL 3) (fU tD (ae (aa 1) (ae (aa 3) (ae (mUn (ap 0) (aa 1)) (ae (GM 10) ah)))))))))
def BF:=gJ 4 Cd
def B8:MS:=
 (ax (gL 1) (ax (fe 0 9 (hV 5 rA (ae (aa 1) (ae (aa 2) ah))))
 (ax (fe 0 4 (aa 1))
 (ax (fe 0 10 (aa 2))
 (fU ff (ae (mUn (ap 0) (aa 1)) (ae (mOp eC (mOp aS (mUn (ap 0) (aa 1)) (GM 1)) (mOp aS (mUn (ap 0) (aa 1)) (GM 1))) (ae (mC (.bl true)) ah))))))))
def BA:=gJ 3 B8
def jx:MS:=
 (ax (mBr (av (mOp pEq (aa 0) (GM 0)))
  (bz (hV 9 BC (ae (mOp aS (aa 1) (GM 1)) (ae (mOp aS (mOp aS (aa 1) (GM 1)) (mOp nV (eH (ae (mOp bC (aa 2) (GM 3)) (ae (mOp bC (aa 2) (mOp AH (GM 10) (GM 59))) ah))) (mOp bC (mOp cm (aa 2) (GM 3)) (GM 2)))) ah))))
  aR)
 (ax (mBr (av (mOp pEq (aa 0) (GM 1)))
  (bz (hV 2 BH (ae (hV 8 lm (ae (aa 1) (ae (au (aP lq) (ae (aa 1) (ae (aa 3) ah))) ah))) ah)))
  aR)
 (ax (mBr (av (mOp pEq (aa 0) (GM 2)))
  (bz (hV 3 BK (ae (aZ [] 2 (oe (au (aP ke) (ae (aa 3) (ae (mOp nT (aa 1) (GM 1)) ah)))) (tgT 2 (bF (tgN 0) (bF (tgN 1) fX))) bT (mOp bC (mOp cm (aa 1) (GM 4)) (mOp aS (aa 0) (GM 1)))) ah)))
  aR)
 (ax (mBr (av (mOp pEq (aa 0) (GM 3)))
  (bz (hV 5 rA (ae (hV 8 lm (ae (aa 1) (ae (au (aP lq) (ae (aa 1) (ae (aa 3) ah))) ah))) (ae (mOp bC (aa 2) (aa 1)) ah))))
  aR)
 (ax (mBr (av (mOp pEq (aa 0) (GM 4)))
  (bz (hV 6 BF (ae (hV 8 lm (ae (aa 1) (ae (au (aP lq) (ae (aa 1) (ae (aa 3) ah))) ah))) (ae (aZ [2] 1 (b7 (ae (aa 1) ah)) (tgN 1) bT (mOp bC (mOp aS (aa 0) (mOp eC (GM 3) (aa 1))) (GM 10))) ah))))
  aR)
 (bz (hV 7 BA (ae (hV 8 lm (ae (aa 1) (ae (au (aP lq) (ae (aa 1) (ae (aa 3) ah))) ah))) (ae (mOp bC (aa 2) (aa 1)) ah)))))))))
def qZ:=bv 4 jx
def wN:MS:=
 (ax (mBr ((fQ (dI (aa 0)) (av (mOp pEq (mOp bC (aa 2) (GM 5)) (GM 4)))))
  (bz (mOp vf (eH (ae (mOp bC (mOp cm (aa 2) (GM 5)) (aa 1)) ah)) (mOp bC (mOp cm (aa 2) (GM 50)) (GM 2))))
  aR)
 (ax (mBr (dI (aa 0))
  (bz (eH (ae (mOp aL (aa 3) (mOp bC (mOp cm (aa 2) (GM 5)) (au (p1 bX) (ae (aa 3) ah)))) ah)))
  aR)
 (ax (a6 4 (mOp bC (mOp eC (mOp bC (mOp aS (aa 2) (mOp aL (aa 3) (GM 0))) (GM 65537)) (GM 48271)) (GM 65537)))
 (bz (aZ [4] 1 (qI (ae (aa 1) ah)) (tgN 1) (av (mOp pEq (mOp bC (mOp vd (aa 0) (aa 1)) (GM 2)) (GM 1))) (aa 1))))))
def oE:=bv 5 wN
def wH:MV:=
 (jI (kz 2 (cz 2 (aa 0)))
 (jI (a6 5 (au (aP oE) (ae (mUn (ap 8) (aa 4)) (ae (mUn (ap 0) (aa 4)) (ae (mOp aL (aa 3) (mOp bC (aa 0) (au (p1 bX) (ae (aa 3) ah)))) (ae (aa 1) ah))))))
 (jI (i6 1)
 (qi 5))))
def qY:Gs->Option (PV×PV):=jR 6 2 wH
def wL:MS:=
 (ax (mBr (av (mOp pNe (au (p1 bX) (ae (aa 1) ah)) (mUn (ap 0) (aa 0))))
  (a_ 3 (ae (mC (.str "there are not as many registers as machines")) ah))
  aR)
 (bz (aZ [0] 1 (cq (aa 1)) (tgN 1) bT (mOp bC (aa 1) (mUn (ap 7) (aa 0))))))
def fR:=bv 2 wL
def aC:Nat->Option (Gs->Gu)
 |0|1|2|3|4|5|6|7|9=>some fR
 |_=>none
def Ew:MS:=
 (bz (mOp aL (aa 1) (aa 2)))
def wa:=bv 3 Ew
def FQ:MS:=
 (bz (eH ah))
def Ep:=bv 2 FQ
def Cn:MS:=
 (bz (aZ [1] 1 (cq (bH br (mUn (ap 4) (aa 0)) (ae (aa 1) ah))) (tgN 1) (av (mOp pLt (aa 1) (aa 0))) (aa 1)))
def BO:=bv 2 Cn
def Co:MS:=
 (bz (aZ [1] 2 (yJ (mUn (ap 11) (aa 0))) (tgT 2 (bF (tgN 1) (bF (tgN 2) fX))) (av (mOp pEq (aa 2) (aa 0))) (aa 1)))
def BP:=bv 2 Co
def bp:Nat->Option (Gs->Gu)
 |1=>some Ep
 |2=>some BO
 |3=>some BP
 |_=>none
def Cb:MS:=
 (ax (a6 3 (aZ [1] 1 (cq (bH bp (aa 0) (ae (aa 2) ah))) (tgN 1) bT (mOp aL (aa 0) (aa 1))))
 (ax (a6 4 (GM 0))
 (ax (mt (av (mOp pIn (aa 4) (aa 3)))
  (a6 4 (mOp aS (aa 4) (GM 1))))
 (iA 4))))
def BD:=bv 5 Cb
def B6:MS:=
 (bz (au (fE min) (ae (mUn (ap 0) (aa 0)) (ae (mOp aS (GM 1) (au (p1 lZ) (ae (aZ [1] 1 (cq (bH bp (aa 0) (ae (aa 2) ah))) (tgN 1) bT (mOp aL (aa 0) (aa 1))) ah))) ah))))
def By:=bv 3 B6
def Cp:MS:=
 (bz ((gm (mOp pNe (aa 1) (mUn (ap 3) (aa 0))) (mOp pNe (mOp bC (mOp aS (aa 1) (GM 1)) (mUn (ap 6) (aa 0))) (GM 0)))))
def tH:=bv 2 Cp
def cF:Nat->Option (Gs->Gu)
 |4|5|6=>some tH
 |_=>none
def B_:MS:=
 (ax (a6 3 (aZ [1] 1 (cq (bH br (mUn (ap 4) (aa 0)) (ae (aa 2) ah))) (tgN 1) bT (mOp aL (aa 0) (aa 1))))
 (ax (a6 4 (aZ [0] 1 (cq (aa 3)) (tgN 1) (dI (bH cF (aa 0) (ae (aa 1) ah))) (mOp aS (aa 1) (GM 1))))
 (ax (mBr (av (mOp gO (mOp aL (mUn (ap 5) (aa 0)) (aa 2)) (mC .non)))
  (cz 4 (mOp aL (mUn (ap 5) (aa 0)) (aa 2)))
  aR)
 (bz (au (p1 (e9 eQ)) (ae (mOp aS (aa 4) (eH (ae (mUn (ap 3) (aa 0)) ah))) ah))))))
def tz:=bv 5 B_
def Cg:MS:=
 (bz (aZ [0] 1 (cq (aa 1)) (tgN 1) bT (ky (ae (mOp cm (aa 1) (mOp aS (mUn (ap 0) (aa 0)) (GM 1))) (ae (mOp bC (aa 1) (mOp aS (mUn (ap 0) (aa 0)) (GM 1))) ah)))))
def BI:=bv 2 Cg
def dG:Nat->Option (Gs->Gu)
 |7=>some BI
 |_=>none
def B9:MS:=
 (bz (aZ [] 1 (cq (bH dG (aa 0) (ae (aa 1) ah))) (tgN 0) bT (mOp aL (aa 0) (GM 0))))
def BB:=bv 2 B9
def eF:Nat->Option (Gs->Gu)
 |7=>some BB
 |_=>none
def ji:Nat->Option (Gs->Gu)
 |5=>some tz
 |_=>none
def Cl:MS:=
 (bz (aZ [] 1 (cq (bH dG (aa 0) (ae (aa 1) ah))) (tgN 0) bT (mOp aL (aa 0) (GM 1))))
def BM:=bv 2 Cl
def da:Nat->Option (Gs->Gu)
 |7=>some BM
 |_=>none
def Ch:MS:=
 (ax (mBr (av (mOp pEq (aa 2) (mUn (ap 10) (aa 0))))
  (bz (mC .non))
  aR)
 (ax (a6 3 (aZ [1,2] 1 (cq (bH br (mUn (ap 4) (aa 0)) (ae (aa 2) ah))) (tgN 2) (av (mOp pEq (mOp aL (aa 0) (aa 2)) (mOp nT (mOp aL (aa 0) (aa 1)) (GM 1)))) (aa 2)))
 (bz (mUn k7 (aa 3)))))
def BJ:=bv 4 Ch
def gu:Nat->Option (Gs->Gu)
 |7=>some BJ
 |_=>none
def Ck:MS:=
 (ax (a6 2 (bH eF (aa 0) (ae (aa 1) ah)))
 (bz (aZ [0,2] 1 (b7 (ae (mUn (ap 0) (aa 0)) ah)) (tgN 2) bT (bH gu (aa 0) (ae (aa 1) (ae (aa 2) ah))))))
def BL:=bv 3 Ck
def fM:Nat->Option (Gs->Gu)
 |7=>some BL
 |_=>none
def Cm:MS:=
 (ax (a6 3 (aZ [2] 2 (qH (ae (bH da (aa 0) (ae (aa 1) ah)) (ae (bH fM (aa 0) (ae (aa 1) ah)) ah))) (tgT 2 (bF (tgN 1) (bF (tgN 2) fX))) (av (mOp pEq (aa 2) (aa 0))) (aa 1)))
 (bz (au (fE min) (ae (mUn (ap 0) (aa 0)) (ae (mOp aS (GM 1) (au (p1 lZ) (ae (aa 3) ah))) ah)))))
def BN:=bv 4 Cm
def dM:Nat->Option (Gs->Gu)
 |7=>some BN
 |_=>none
def wY:MS:=
 (ax (a6 3 (bH eF (aa 0) (ae (aa 1) ah)))
 (ax (a6 4 (bH ji (mUn (ap 9) (aa 0)) (ae (aa 3) (ae (aa 2) ah))))
 (ax (a6 5 (mOp aL (bH da (aa 0) (ae (aa 1) ah)) (aa 2)))
 (ax (mBr (av (mOp pEq (aa 4) (mOp aL (aa 3) (aa 2))))
  (a6 5 (bH dM (aa 0) (ae (aa 1) (ae (aa 2) ah))))
  aR)
 (bz (mOp aS (mOp eC (aa 4) (mOp aS (mUn (ap 0) (aa 0)) (GM 1))) (aa 5)))))))
def wd:=bv 6 wY
def wZ:MS:=
 (ax (mBr (av (mOp pNe (aa 2) (GM 0)))
  (bz (mOp aL (aa 1) (mOp nT (aa 2) (GM 1))))
  aR)
 (ax (mBr (av (mOp pEq (mOp aL (aa 1) (GM 0)) (mOp aL (aa 1) (mOp nT (mUn (ap 0) (aa 0)) (GM 1)))))
  (bz (mOp bC (mOp aS (mOp aL (aa 1) (GM 0)) (GM 1)) (mUn (ap 7) (aa 0))))
  aR)
 (bz (mOp aL (aa 1) (GM 0)))))
def we:=bv 3 wZ
def aA:Nat->Option (Gs->Gu)
 |0|1=>some wa
 |2=>some BD
 |3=>some By
 |4|5|6=>some tz
 |7=>some wd
 |9=>some we
 |_=>none
def wS:MS:=
 (bz (aZ [0,1] 1 (b7 (ae (mUn (ap 0) (aa 0)) ah)) (tgN 2) (av (mOp pNe (bH aA (aa 0) (ae (aa 1) (ae (aa 2) ah))) (mOp aL (aa 1) (aa 2)))) (aa 2)))
def fS:=bv 2 wS
def aq:Nat->Option (Gs->Gu)
 |0|1|2|3|4|5|6|7|9=>some fS
 |_=>none
def wT:MS:=
 (ax (mBr ((fQ (dI (mUn (ap 8) (aa 0))) (av (mOp pGt (au (p1 bX) (ae (aa 1) ah)) (GM 1)))))
  (a_ 4 (ae (mC (.str "a rule that is alone gets one machine at a turn")) ah))
  aR)
 (ax (dh (gg (aa 1)) (tgN 2)
  (mBr ((gh (av (mOp pLt (aa 2) (GM 0))) (av (mOp pGe (aa 2) (mUn (ap 0) (aa 0))))))
  (a_ 4 (ae (mC (.str "a name is no machine")) ah))
  aR))
 (mBr (av (mOp pNe (mUn gC (aa 1)) (au (p1 bX) (ae (aa 1) ah))))
  (a_ 4 (ae (mC (.str "a machine is named twice")) ah))
  aR)))
def wb:=bv 3 wT
def wW:MS:=
 (ax (gj (au (aP wb) (ae (aa 0) (ae (aa 2) ah))))
 (bz (aZ [2,0,1] 1 (b7 (ae (mUn (ap 0) (aa 0)) ah)) (tgN 3) bT (vR (av (mOp pIn (aa 3) (aa 0))) (bH aA (aa 1) (ae (aa 2) (ae (aa 3) ah))) (mOp aL (aa 2) (aa 3))))))
def fT:=bv 3 wW
def aD:Nat->Option (Gs->Gu)
 |0|1|2|3|4|5|6|7|9=>some fT
 |_=>none
def wE:MS:=
 (ax (a6 3 (bH aD (aa 0) (ae (aa 1) (ae (aa 2) ah))))
 (ax (a6 4 (aZ [2] 1 (cq (bH aq (aa 0) (ae (aa 1) ah))) (tgN 1) (av (mOp pIn (aa 1) (aa 0))) (aa 1)))
 (pN 4 3)))
def qW:=bv 5 wE
def wD:MV:=
 (jI (a6 4 (bH aC (aa 0) (ae (aa 1) ah)))
 (jI (a6 5 (eH ah))
 (jI (yG ((fQ (av (mOp pLt (au (p1 bX) (ae (aa 5) ah)) (aa 3))) (av (mOp pGt (au (p1 bX) (ae (bH aq (aa 0) (ae (aa 4) ah)) ah)) (GM 0))))) (j4 6 (i8 2 99 qY (ae (au (p1 bX) (ae (aa 5) ah)) (ae (bH aq (aa 0) (ae (aa 4) ah)) ah)))) (au (aP qW) (ae (aa 0) (ae (aa 4) (ae (aa 6) ah)))) 5 4)
 (qi 5))))
def oC:Gs->Option (PV×PV):=jR 7 2 wD
def wM:MS:=
 (bz ((gm (m7 (aa 0) "int") (qK (m7 (aa 0) "bool")))))
def rj:=bv 1 wM
def wI:MS:=
 (bz ((gm (m7 (aa 0) "list") (gm (au (p1 (sF mT)) (ae (aZ [] 1 (cq (aa 0)) (tgN 0) bT (au (aP rj) (ae (aa 0) ah))) ah)) (mOp pEq (aa 0) (aa 1))))))
def q9:=bv 2 wI
def wF:MS:=
 (ax (mBr ((gh (j5 (dI (m7 (aa 0) "tuple"))) (av (mOp pNe (au (p1 bX) (ae (aa 0) ah)) (GM 2)))))
  (bz (mC (.bl false)))
  aR)
 (bz ((gm (au (aP q9) (ae (mOp aL (aa 0) (GM 0)) (ae (aa 1) ah))) (au (aP q9) (ae (mOp aL (aa 0) (GM 1)) (ae (aa 2) ah)))))))
def qX:=bv 3 wF
def wO:MV:=
 (jI (n_ 2 5 6
  (ax (a6 7 (bH aq (aa 0) (ae (au (p1 dF) (ae (aa 1) ah)) ah)))
 (ax (mBr (av (mOp pEq (aa 7) (eH ah)))
  (bz (mC (.bl false)))
  aR)
 (ax (a6 8 (au (aP oE) (ae (mUn (ap 8) (aa 0)) (ae (mUn (ap 0) (aa 0)) (ae (mOp aL (aa 3) (mOp bC (aa 5) (au (p1 bX) (ae (aa 3) ah)))) (ae (aa 7) ah))))))
 (ax (a6 1 (bH aD (aa 0) (ae (au (p1 dF) (ae (aa 1) ah)) (ae (aa 8) ah))))
 (ax (mBr (j5 (dI (au (aP qX) (ae (aa 6) (ae (aZ [8] 1 (cq (aa 7)) (tgN 1) (av (mOp pIn (aa 1) (aa 0))) (aa 1)) (ae (aa 1) ah))))))
  (bz (mC (.bl false)))
  aR)
 (ax (iD 6 0 (mUn yk (GM 1)))
 (iC 6 1))))))))
 (xk ((n9 (mOp pEq (au (p1 bX) (ae (aa 2) ah)) (aa 4)) (mOp pEq (bH aq (aa 0) (ae (au (p1 dF) (ae (aa 1) ah)) ah)) (eH ah))))))
def rm:Gs->Option (PV×PV):=jR 9 2 wO
noncomputable def w5:MS:=
 (ax (a6 1 (au (aP iM) (ae (aa 0) (ae (GM 0) ah))))
 (ax (a6 2 (mOp aS (GM 1) (mOp bC (mOp cm (aa 1) (GM 6)) (GM 6))))
 (ax (mBr ((fQ (av (mOp pEq (mOp bC (mOp cm (aa 1) (GM 36)) (GM 8)) (GM 3))) (av (mOp pNe (mOp bC (mOp cm (aa 1) (GM 6048)) (GM 9)) (GM 4)))))
  (a6 2 (GM 10))
  aR)
 (ax (a6 3 (au (aP qZ) (ae (mOp bC (aa 1) (GM 6)) (ae (aa 2) (ae (mOp cm (aa 1) (GM 288)) (ae (au (aP iM) (ae (aa 0) (ae (GM 1) ah))) ah))))))
 (ax (a6 4 (mOp bC (mOp cm (aa 1) (GM 288)) (GM 21)))
 (ax (mBr (av (mOp pEq (mOp bC (mOp cm (aa 1) (GM 6048)) (GM 9)) (GM 4)))
  (a6 4 (mOp aL (eH (ae (GM 300) (ae (GM 60) ah))) (au (p1 i4) (ae (mUn (ap 8) (aa 3)) ah))))
  aR)
 (ax (a6 5 (au (aP ke) (ae (au (aP iM) (ae (aa 0) (ae (GM 2) ah))) (ae (mUn (ap 0) (aa 3)) ah))))
 (ax (a6 6 (mOp aS (eH (ae (GM 0) ah)) (mw (aa 0) (qJ (GM 3)) my)))
 (ax (a6 7 (eH ah))
 (ax (gL 3) (ax (gL 6) (vS 7 (ax (og 8 99 7 [6,3])
 (ax (dh (b7 (ae (GM 2) ah)) (tgN 9)
  (ax (a6 10 (au (p1 dF) (ae (aa 5) ah)))
 (ax (kz 7 (i6 7))
 (ax (gL 10) (ax (j4 11 (mGv 7 8 (dJ 8 oC (ae (aa 3) (ae (aa 10) (ae (aa 4) ah))))))
 (ax (kz 7 (mBr ((gh (j5 (dI (m7 (aa 11) "list"))) (gh (av (mOp pGt (au (p1 bX) (ae (aa 11) ah)) (aa 4))) (gh (av (mOp pNe (aa 10) (aa 5))) (av (mOp pNe (aa 7) (au iw (ae (au (p1 bX) (ae (aa 11) ah)) ah))))))))
  (bz (mC (.bl false)))
  aR))
 (yI (dJ 11 rm (ae (aa 3) (ae (bH aC (aa 3) (ae (au (p1 dF) (ae (aa 5) ah)) ah)) (ae (aa 6) (ae (aa 4) ah))))))))))))
 (bz (mC (.bl true)))))))))))))))))
noncomputable def zR:Gs->Gu:=bv 12 w5
end G
namespace G
open PySem L2 PR
def top(i:Nat):Stmt:=PySem.Challenge.pw_calmring_k40_drive.main.body.getD i (.Pass ⟨0,0,0,0⟩)
def tF(q:Str)(i k:Nat)(N:Gm):FS:=⟨q,top i,k,N,none⟩
def tM(c:Nat)(q:Str)(i j k:Nat)(N:Gm):FS:=⟨q,yQ (top i) j,k,N,some c⟩
def mE(c:Nat)(n:Str)(i:Nat):Nat×Str×Nat:=(c,n,i)
noncomputable def pt:PT:={
 F:=[tF "_law_cell_at" 50 2 ["_law_script", "_law_k"],
  tM 0 "Rule.__init__" 14 0 4 ["self","size","span","alone"],
  tM 9 "PassRule.__init__" 46 0 3 ["self","size","span"],
  tF "_law_numbers" 53 2 ["_law_cell","_law_many","_law_number","_law_found","_law_k"],
  tF "_law_ways" 54 2 ["_law_size","_law_cell","_law_numbers_here","_law_order","_law_k","_law_ways_here","_law_j","_law_more"],
  tF "refuse_size" 40 2 ["size","least"],
  tF "ordered_pairs" 41 2 ["size","ways","pairs","way","pair"],
  tF "neighbours" 42 2 ["pairs","at","lower","higher"],
  tM 8 "Net.beside" 38 1 2 ["self","at"],
  tF "far_from" 39 2 ["net","root","far","steps","at","other"],
  tM 8 "Net.__init__" 38 0 3 ["self","size","ways"],
  tM 1 "DownRule.__init__" 18 0 3 ["self","size","span"],
  tM 2 "PaintRule.__init__" 19 0 2 ["self","net"],
  tF "refuse_parents" 21 1 ["parents","kid","parent"],
  tM 3 "CountRule.__init__" 20 0 2 ["self","parents"],
  tF "refuse_part" 29 1 ["part"],
  tF "refuse_starts" 30 3 ["net","starts","top","start"],
  tM 4 "LeastRule.__init__" 26 0 5 ["self","net","starts","stretch","blocks"],
  tM 5 "FarRule.__init__" 27 0 3 ["self","net","root","starts"],
  tF "refuse_names" 31 2 ["net","names","name"],
  tM 6 "LeadRule.__init__" 28 0 3 ["self","net","names","starts"],
  tM 7 "GrowRule.__init__" 33 0 3 ["self","net","root"],
  tF "_law_rule" 55 4 ["_law_kind","_law_size","_law_first","_law_cell"],
  tF "_law_named" 57 4 ["_law_alone","_law_size","_law_cell","_law_movers","_law_number"],
  tM 0 "Rule.read" 14 1 2 ["self","registers"],
  tM 0 "Rule.due" 14 2 3 ["self","cells","at"],
  tM 1 "DownRule.hangs_on" 18 1 2 ["self","at"],
  tM 2 "PaintRule.hangs_on" 19 1 2 ["self","at"],
  tM 3 "CountRule.hangs_on" 20 1 2 ["self","at"],
  tM 2 "PaintRule.due" 19 3 3 ["self","cells","at","taken","colour"],
  tM 3 "CountRule.due" 20 3 3 ["self","cells","at"],
  tM 4 "LeastRule.has_offer" 26 2 2 ["self","cell"],
  tM 4 "LeastRule.due" 26 1 3 ["self","cells","at","near","offers"],
  tM 7 "GrowRule.parts" 33 1 2 ["self","cells"],
  tM 7 "GrowRule.fars" 33 6 2 ["self","cells"],
  tM 7 "GrowRule.counts" 33 7 2 ["self","cells"],
  tM 7 "GrowRule.elder" 33 8 3 ["self","fars","at","nearer"],
  tM 7 "GrowRule.elders" 33 2 2 ["self","cells","fars"],
  tM 7 "GrowRule.due_count" 33 9 3 ["self","cells","at","kids"],
  tM 7 "GrowRule.due" 33 3 3 ["self","cells","at","fars","due_far","count"],
  tM 9 "PassRule.due" 46 1 3 ["self","cells","at"],
  tM 0 "Rule.movers" 14 3 2 ["self","cells"],
  tF "refuse_turn" 15 2 ["rule","named","at"],
  tM 0 "Rule.turned" 14 5 3 ["self","cells","named"],
  tF "row_of" 3 3 ["rule","cells","named","behind","done"],
  tF "drive" 2 4 ["rule","registers","hand","most","cells","rows","named"],
  tF "_law_whole" 51 1 ["_law_found"],
  tF "_law_list" 52 2 ["_law_found","_law_due"],
  tF "_law_row" 56 3 ["_law_found","_law_done","_law_cells"],
  tF "_law_walked" 58 5 ["_law_rule_here","_law_cells","_law_rows","_law_drawn","_law_most","_law_number","_law_row_here","_law_movers","_law_named_here"],
  tF "law" 59 1 ["_law_script","_law_first","_law_size","_law_rule_here","_law_most","_law_registers","_law_drawn","_law_heard","_law_hand","_law_again","_law_held","_law_rows"]]
 C:=["Rule","DownRule","PaintRule","CountRule","LeastRule","FarRule","LeadRule","GrowRule","Net","PassRule"]
 X:=["CalmError","BadNet","BadRule","BadState","BadTurn","NoMeasure"]
 A:=["size","pairs","near","top","net","starts","stretch","span","alone","far_rule","root","parents"]
 M:=[mE 8 "beside" 8,mE 0 "read" 24,mE 1 "read" 24,mE 2 "read" 24,mE 3 "read" 24,mE 4 "read" 24,mE 5 "read" 24,mE 6 "read" 24,mE 7 "read" 24,mE 9 "read" 24,mE 1 "hangs_on" 26,mE 2 "hangs_on" 27,mE 3 "hangs_on" 28,mE 4 "has_offer" 31,mE 5 "has_offer" 31,mE 6 "has_offer" 31,mE 7 "parts" 33,mE 7 "fars" 34,mE 5 "due" 32,mE 7 "counts" 35,mE 7 "elder" 36,mE 7 "elders" 37,mE 7 "due_count" 38,mE 0 "due" 25,mE 1 "due" 25,mE 2 "due" 29,mE 3 "due" 30,mE 4 "due" 32,mE 6 "due" 32,mE 7 "due" 39,mE 9 "due" 40,mE 0 "movers" 41,mE 1 "movers" 41,mE 2 "movers" 41,mE 3 "movers" 41,mE 4 "movers" 41,mE 5 "movers" 41,mE 6 "movers" 41,mE 7 "movers" 41,mE 9 "movers" 41,mE 0 "turned" 43,mE 1 "turned" 43,mE 2 "turned" 43,mE 3 "turned" 43,mE 4 "turned" 43,mE 5 "turned" 43,mE 6 "turned" 43,mE 7 "turned" 43,mE 9 "turned" 43]
 Mk:=[(3,14),(5,18),(7,21),(6,20),(8,10),(2,12),(9,2)]
 U:=[(1,11),(4,17),(0,1)]
 B:=["len","range","max","min","sorted","tuple","list","enumerate","set","int","reversed","sum","zip","isinstance","bool","all"]
 I:=[("LEAST_RING",2),("GREATEST_RING",20),("GREATEST_NET",10),("LEAST_NET",1),("MOST_PARENTS",9),("GREATEST_PART",10),("GREATEST_NAME",9),("LEAD_BLOCKS",10)]
 KT:=[]
 HT:=[]
 G:=some ⟨50,9,"law.<locals>._law_hand",2,["_law_heard","_law_drawn","_law_rule_here"],["_law_number","_law_movers","_law_heard","_law_drawn","_law_rule_here","_law_named_here"]⟩}
def hA:pt.attOk:=⟨by decide +kernel,by decide +kernel⟩
abbrev T(K:PySem.W.Frag):Tb:=pt.T hA K
section
variable{P:Program}{w:World}{K:PySem.W.Frag}{mg:Ge}{base:Heap}(t:Tx pt K mg)(hB:K.In base)(tg:TG pt K mg base)
include t hB tg
theorem pG:OkF pt hA P w K mg base 1 0 iM:=okC 0 t fun _ _ _ _ _ _ cx nd=>
 (am (bg (eV (sv 1) (bP cx.hK rfl (t.b 0) (sv 0))) (ao (aJ (bG cx (sv 0) (sv 1) (fun _ _=>rfl)))) aQ)
 (ao (aJ (ai))))
theorem l7:OkI pt hA P w K mg base 1 1 ff:=okI 1 t fun _ _ _ _ _ _ cx nd=>
 (am (sFld 0 t cx (sv 1))
 (am (sFld 7 t cx (sv 2))
 (ao (sFld 8 t cx (sv 3)))))
theorem DF:OkI pt hA P w K mg base 3 2 BC:=okI 2 t fun _ _ _ _ _ _ cx nd=>
 (am (bg (SW.st (eU (eV (sv 1) (cX rfl (t.c 0))) (d_ (jo (sv 1) (cX rfl (t.c 1)))))) (ao (bQ 2 t cx hB bN (ac (bO) ag))) aQ)
 (am (bg (eV (sv 2) (sv 1)) (ao (bQ 2 t cx hB bN (ac (bO) ag))) aQ)
 (ao (ny 0 t (l7 t hB tg) cx (ac (sv 1) (ac (sv 2) (ac (il) ag)))))))
theorem pH:OkF pt hA P w K mg base 1 3 ke:=okC 3 t fun _ _ _ _ _ _ cx nd=>
 (am (db nd (aW (sv 0) (ai)))
 (am (db nd (gW ag))
 (am (cU cx.po cx.calm (dv rfl (t.b 1) (ac (sv 1) ag)) (sgN nd) (am (db nd (aW (aX (aX (fA (sv 2) (aX (aX (sv 2) (fA (ai) (sv 4))) (ai))) (fA (ai) (sv 4))) (ai)) (ai)))
 (ao (uE cx (sv 2)))))
 (ao (jB rfl (Or.inl rfl))))))
theorem l6:OkF pt hA P w K mg base 2 4 lq:=okC 4 t fun _ _ _ _ _ _ cx nd=>
 (am (db nd (bJ t (pH t hB tg) cx (ac (sv 1) (ac (sv 0) ag))))
 (am (db nd (gW ag))
 (am (cU cx.po cx.calm (dv rfl (t.b 1) (ac (sv 0) ag)) (sgN nd) (ao (rN cx.hK rfl (Or.inl rfl) (aW (bG cx (sv 2) (sv 4) (fun _ _=>rfl)) (aX (sv 4) (ai))) (sv 4))))
 (am (db nd (gW ag))
 (am (cU cx.po cx.calm (rS rfl (t.b 1) (ac (ai) (ac (sv 0) ag))) (sgN nd) (ao (uE cx (rX (ac (bG cx (sv 3) (sv 4) (fun _ _=>rfl)) (ac (bG cx (sv 3) (aW (cN (bG cx (sv 2) (sv 4) (fun _ _=>rfl)) (ai)) (sv 4)) (fun _ _=>rfl)) ag))))))
 (am (cU cx.po cx.calm (dv rfl (t.b 1) (ac (sv 0) ag)) (sgN nd) (ao (cU cx.po cx.calm (dv rfl (t.b 1) (ac (sv 4) ag)) (sgN nd) (am (db nd ((zy (kX cx.hK cx.hu (aW (sv 1) (ai)) (ai)) (gU ((iU (kX cx.hK cx.hu (aW (aX (cN (bG cx (sv 2) (sv 4) (fun _ _=>rfl)) (ai)) (sv 6)) (sv 0)) (ai)) (gU (kX cx.hK cx.hu (aW (cN (bG cx (sv 2) (sv 4) (fun _ _=>rfl)) (ai)) (ai)) (ai)))))))))
 (ao (bg (SW.st (gS (dB cx.hK (sv 7)) (gS (m9 cx.hK cx.hu2 (rX (ac (sv 6) (ac (sv 4) ag))) (sv 5)) (gy (m9 cx.hK cx.hu2 (rX (ac (sv 4) (ac (sv 6) ag))) (sv 5)))))) (ao (uE cx (rX (ac (sv 6) (ac (sv 4) ag))))) aQ))))))
 (ao (jB rfl (Or.inl rfl)))))))))
theorem A4:OkF pt hA P w K mg base 1 5 wc:=okC 5 t fun _ _ _ _ _ _ cx nd=>
 (ao (bg (SW.st (eU (eV (sv 0) (sv 1)) (d_ (jo (sv 0) (cX rfl (t.c 2)))))) (ao (bQ 1 t cx hB bN (ac (bO) ag))) aQ))
theorem DH:OkF pt hA P w K mg base 1 6 BE:=okC 6 t fun _ _ _ _ _ _ cx nd=>
 (am (db nd (gW ag))
 (am (cU cx.po cx.calm (jM cx.hK (sv 1)) (sgN nd) (am (db nd (rX (ac (qq cx.hK cx.calm rfl (t.b 3) (sv 3)) (ac (qr cx.hK cx.calm rfl (t.b 2) (sv 3)) ag))))
 (am (bg (SW.st (eU (eV (bG cx (sv 4) (ai) (fun _ _=>rfl)) (ai)) (d_ (ng (bG cx (sv 4) (ai) (fun _ _=>rfl)) (sv 0))))) (ao (bQ 1 t cx hB bN (ac (bO) ag))) aQ)
 (am (bg (cC cx.hK cx.hu (bG cx (sv 4) (ai) (fun _ _=>rfl)) (bG cx (sv 4) (ai) (fun _ _=>rfl))) (ao (bQ 1 t cx hB bN (ac (bO) ag))) aQ)
 (am (bg (m_ cx.hK cx.hu2 (sv 4) (sv 2)) (ao (bQ 1 t cx hB bN (ac (bO) ag))) aQ)
 (ao (uE cx (sv 4))))))))
 (ao (aJ (kU cx.hK rfl (t.b 4) (sv 2))))))
theorem A2:OkF pt hA P w K mg base 1 7 rp:=okC 7 t fun _ _ _ _ _ _ cx nd=>
 (am (f8 ["pair"] cx nd (bM cx.hK (sv 0)) cS (fun _ _ _ _ nd=>⟨(sgN nd),(cT (cC cx.comp.hK cx.comp.hu (bG cx.comp (sv 1) (ai) (fun _ _=>rfl)) (sv 0))),(bG cx.comp (sv 1) (ai) (fun _ _=>rfl))⟩))
 (am (f8 ["pair"] cx nd (bM cx.hK (sv 0)) cS (fun _ _ _ _ nd=>⟨(sgN nd),(cT (cC cx.comp.hK cx.comp.hu (bG cx.comp (sv 1) (ai) (fun _ _=>rfl)) (sv 0))),(bG cx.comp (sv 1) (ai) (fun _ _=>rfl))⟩))
 (ao (aJ (kU cx.hK rfl (t.b 4) (aX (sv 2) (sv 3)))))))
theorem A0:OkF pt hA P w K mg base 1 8 rk:=okC 8 t fun _ _ _ _ _ _ cx nd=>
 (ao (aJ (gA cx.hK rfl (t.b 6) dZ (bG cx (aO 2 t cx (sv 0)) (sv 1) (fun _ _=>rfl)))))
omit t hB tg in
theorem cK{X:Cx}(t:Tx pt X.K X.mg)(hB:X.K.In X.base)(tg:TG pt X.K X.mg X.base):fV X (T X.K) 1 "beside" ["self","at"] [] br:=fun c _ hc e=>match c,hc,e with
 |8,_,e=>dm 0 t (A0 t hB tg) e
 |0,_,e|1,_,e|2,_,e|3,_,e|4,_,e|5,_,e|6,_,e|7,_,e|9,_,e=>nomatch e
 |_+10,h,_=>dno (n:=10) h
theorem AY:OkF pt hA P w K mg base 2 9 q_:=okC 9 t fun _ _ _ _ _ _ cx nd=>
 (am (f8 ["at"] cx nd (cM rfl (t.b 1) (ac (aO 0 t cx (sv 0)) ag)) cS (fun _ _ _ _ nd=>⟨(sgN nd),bL,(aO 0 t cx.comp (sv 0))⟩))
 (am (ni rfl (Or.inl rfl) (sv 1) (ai))
 (am (cU cx.po cx.calm (dv rfl (t.b 1) (ac (aO 0 t cx (sv 0)) ag)) (sgN nd) (ao (cU cx.po cx.calm (dv rfl (t.b 1) (ac (aO 0 t cx (sv 0)) ag)) (sgN nd) (ao (bg (cC cx.hK cx.hu (bG cx (sv 2) (sv 4) (fun _ _=>rfl)) (sv 3)) (ao (cU cx.po cx.calm (jM cx.hK (de t (cK t hB tg) cx (sv 0) (ac (sv 4) ag))) (sgN nd) (ao (ni rfl (Or.inl rfl) (sv 5) (lR cx.calm rfl (t.b 3) (ac (bG cx (sv 2) (sv 5) (fun _ _=>rfl)) (ac (aX (sv 3) (ai)) ag))))))) aQ)))))
 (ao (jB rfl (Or.inl rfl))))))
theorem l0:OkI pt hA P w K mg base 3 10 lm:=okI 10 t fun _ _ _ _ _ _ cx nd=>
 (am (fv (bJ t (A4 t hB tg) cx (ac (sv 1) (ac (cX rfl (t.c 3)) ag))))
 (am (sFld 0 t cx (sv 1))
 (am (sFld 1 t cx (f7 cx.hK rfl (t.b 5) fj (bJ t (DH t hB tg) cx (ac (sv 1) (ac (sv 2) ag)))))
 (am (sFld 2 t cx (f7 cx.hK rfl (t.b 5) fj (dP ["at"] cx (cM rfl (t.b 1) (ac (sv 1) ag)) cS (fun _ _ _ _ nd=>⟨(sgN nd),bL,(f7 cx.comp.hK rfl (t.b 5) fj (bJ t (A2 t hB tg) cx.comp (ac (aO 1 t cx.comp (sv 0)) (ac (sv 1) ag))))⟩))))
 (ao (bg (cC cx.hK cx.hu (qr cx.hK cx.calm rfl (t.b 2) (bJ t (AY t hB tg) cx (ac (sv 0) (ac (ai) ag)))) (sv 1)) (ao (bQ 1 t cx hB bN (ac (bO) ag))) aQ))))))
theorem zI:OkI pt hA P w K mg base 3 11 pX:=okI 11 t fun _ _ _ _ _ _ cx nd=>
 (ao (ny 0 t (l7 t hB tg) cx (ac (sv 1) (ac (sv 2) (ac (il) ag)))))
theorem DK:OkI pt hA P w K mg base 5 12 BH:=okI 12 t fun _ _ _ _ _ _ cx nd=>
 (eM (i:=1) (am (sFld 4 t cx (sv 1))
 (ao (ny 1 t (zI t hB tg) cx (ac (aO 0 t cx (sv 1)) (ac (aO 0 t cx (sv 1)) ag))))))
theorem DJ:OkF pt hA P w K mg base 1 13 BG:=okC 13 t fun _ _ _ _ _ _ cx nd=>
 (am (bg (jo (bP cx.hK rfl (t.b 0) (sv 0)) (cX rfl (t.c 4))) (ao (bQ 2 t cx hB bN (ac (bO) ag))) aQ)
 (ao (cU cx.po cx.calm (xC cx.hK rfl (t.b 7) (sv 0)) (lP cx.hK cx.calm (dC nd rfl (Or.inl rfl) (dC nd rfl (Or.inl rfl) jC))) (ao (bg (SW.st (eU (eV (sv 2) (ai)) (d_ (ng (sv 2) (sv 1))))) (ao (bQ 2 t cx hB bN (ac (bO) ag))) aQ)))))
theorem DN:OkI pt hA P w K mg base 5 14 BK:=okI 14 t fun _ _ _ _ _ _ cx nd=>
 (am (fv (bJ t (DJ t hB tg) cx (ac (sv 1) ag)))
 (am (sFld 11 t cx (f7 cx.hK rfl (t.b 5) fj (sv 1)))
 (ao (ny 1 t (zI t hB tg) cx (ac (aX (bP cx.hK rfl (t.b 0) (sv 1)) (ai)) (ac (aX (bP cx.hK rfl (t.b 0) (sv 1)) (ai)) ag))))))
theorem vt:OkF pt hA P w K mg base 1 15 rq:=okC 15 t fun _ _ _ _ _ _ cx nd=>
 (ao (bg (SW.st (eU (eV (sv 0) (ai)) (d_ (jo (sv 0) (cX rfl (t.c 5)))))) (ao (bQ 2 t cx hB bN (ac (bO) ag))) aQ))
theorem DC:OkF pt hA P w K mg base 1 16 Bz:=okC 16 t fun _ _ _ _ _ _ cx nd=>
 (am (bg (fY cx.hK cx.hu (bP cx.hK rfl (t.b 0) (sv 1)) (aO 0 t cx (sv 0))) (ao (bQ 2 t cx hB bN (ac (bO) ag))) aQ)
 (ao (cU cx.po cx.calm (jM cx.hK (sv 1)) (sgN nd) (ao (bg (SW.st (gS (qm (sv 3) (lQ)) (gy (SW.st (eU (eV (sv 3) (ai)) (d_ (ng (sv 3) (sv 2)))))))) (ao (bQ 2 t cx hB bN (ac (bO) ag))) aQ)))))
theorem zJ:OkI pt hA P w K mg base 3 17 tD:=okI 17 t fun _ _ _ _ _ _ cx nd=>
 (am (fv (bJ t (vt t hB tg) cx (ac (sv 3) ag)))
 (am (fv (bJ t (vt t hB tg) cx (ac (sv 4) ag)))
 (am (sFld 3 t cx (fA (sv 3) (sv 4)))
 (am (fv (bJ t (DC t hB tg) cx (ac (sv 1) (ac (sv 2) (ac (aO 3 t cx (sv 0)) ag)))))
 (eM (i:=1) (am (sFld 4 t cx (sv 1))
 (am (sFld 5 t cx (f7 cx.hK rfl (t.b 5) fj (sv 2)))
 (am (sFld 6 t cx (sv 3))
 (ao (ny 0 t (l7 t hB tg) cx (ac (aO 0 t cx (sv 1)) (ac (aX (aO 3 t cx (sv 0)) (ai)) (ac (il) ag)))))))))))))
theorem vv:OkI pt hA P w K mg base 5 18 rA:=okI 18 t fun _ _ _ _ _ _ cx nd=>
 (am (bg (SW.st (eU (eV (sv 2) (ai)) (d_ (ng (sv 2) (aO 0 t cx (sv 1)))))) (ao (bQ 2 t cx hB bN (ac (bO) ag))) aQ)
 (am (f8 ["at"] cx nd (cM rfl (t.b 1) (ac (aO 0 t cx (sv 1)) ag)) cS (fun _ _ _ _ nd=>⟨(sgN nd),bL,(nv (cC cx.comp.hK cx.comp.hu (sv 1) (sv 0)) (ai) (lQ))⟩))
 (eM (i:=3) (eM (i:=1) (ao (ny 4 t (zJ t hB tg) cx (ac (sv 1) (ac (sv 3) (ac (aO 0 t cx (sv 1)) (ac (ai) ag))))))))))
theorem DA:OkF pt hA P w K mg base 1 19 Bx:=okC 19 t fun _ _ _ _ _ _ cx nd=>
 (am (bg (fY cx.hK cx.hu (bP cx.hK rfl (t.b 0) (sv 1)) (aO 0 t cx (sv 0))) (ao (bQ 2 t cx hB bN (ac (bO) ag))) aQ)
 (am (bg (fY cx.hK cx.hu (kW cx.hK cx.calm rfl (t.b 0) rfl (t.b 8) (sv 1)) (bP cx.hK rfl (t.b 0) (sv 1))) (ao (bQ 2 t cx hB bN (ac (bO) ag))) aQ)
 (ao (cU cx.po cx.calm (jM cx.hK (sv 1)) (sgN nd) (ao (bg (SW.st (eU (eV (sv 2) (ai)) (d_ (jo (sv 2) (cX rfl (t.c 6)))))) (ao (bQ 2 t cx hB bN (ac (bO) ag))) aQ))))))
theorem DI:OkI pt hA P w K mg base 5 20 BF:=okI 20 t fun _ _ _ _ _ _ cx nd=>
 (eM (i:=1) (am (fv (bJ t (DA t hB tg) cx (ac (sv 1) (ac (sv 2) ag))))
 (am (f8 ["name"] cx nd (bM cx.hK (sv 2)) cS (fun _ _ _ _ nd=>⟨(sgN nd),bL,(fA (jO (cX rfl (t.c 6)) (sv 1)) (aO 0 t cx.comp (sv 0)))⟩))
 (eM (i:=3) (ao (ny 4 t (zJ t hB tg) cx (ac (sv 1) (ac (sv 3) (ac (aO 0 t cx (sv 1)) (ac (cX rfl (t.c 7)) ag))))))))))
theorem DD:OkI pt hA P w K mg base 7 21 BA:=okI 21 t fun _ _ _ _ _ _ cx nd=>
 (eM (i:=1) (am (sFld 9 t cx (jQ 5 t (vv t hB tg) cx (ac (sv 1) (ac (sv 2) ag))))
 (am (sFld 4 t cx (sv 1))
 (am (sFld 10 t cx (sv 2))
 (ao (ny 0 t (l7 t hB tg) cx (ac (aO 0 t cx (sv 1)) (ac (fA (aX (aO 0 t cx (sv 1)) (ai)) (aX (aO 0 t cx (sv 1)) (ai))) (ac (il) ag)))))))))
theorem AX:OkF pt hA P w K mg base 9 22 qZ:=okC 22 t fun _ _ _ _ _ _ cx nd=>
 (am (bg (cC cx.hK cx.hu (sv 0) (ai)) (ao (aJ (jQ 9 t (DF t hB tg) cx (ac (aX (sv 1) (ai)) (ac (aX (aX (sv 1) (ai)) (xJ cx.hK (gW (ac (aW (sv 2) (ai)) (ac (aW (sv 2) (Ag (ai) (ai))) ag))) (aW (cN (sv 2) (ai)) (ai)) (fun _ _=>rfl))) ag))))) aQ)
 (am (bg (cC cx.hK cx.hu (sv 0) (ai)) (ao (aJ (jQ 2 t (DK t hB tg) cx (ac (jQ 8 t (l0 t hB tg) cx (ac (sv 1) (ac (bJ t (l6 t hB tg) cx (ac (sv 1) (ac (sv 3) ag))) ag))) ag)))) aQ)
 (am (bg (cC cx.hK cx.hu (sv 0) (ai)) (ao (aJ (jQ 3 t (DN t hB tg) cx (ac (dP ["_law_k", "_law_number"] cx (rR cx.hK rfl (t.b 7) (bJ t (pH t hB tg) cx (ac (sv 3) (ac (jO (sv 1) (ai)) ag)))) (lL (d7 cS (d7 cS jJ))) (fun _ _ _ _ nd=>⟨(lP cx.comp.hK cx.comp.calm (dC nd rfl (Or.inl rfl) (dC nd rfl (Or.inl rfl) jC))),bL,(aW (cN (sv 1) (ai)) (aX (sv 0) (ai)))⟩)) ag)))) aQ)
 (am (bg (cC cx.hK cx.hu (sv 0) (ai)) (ao (aJ (jQ 5 t (vv t hB tg) cx (ac (jQ 8 t (l0 t hB tg) cx (ac (sv 1) (ac (bJ t (l6 t hB tg) cx (ac (sv 1) (ac (sv 3) ag))) ag))) (ac (aW (sv 2) (sv 1)) ag))))) aQ)
 (am (bg (cC cx.hK cx.hu (sv 0) (ai)) (ao (aJ (jQ 6 t (DI t hB tg) cx (ac (jQ 8 t (l0 t hB tg) cx (ac (sv 1) (ac (bJ t (l6 t hB tg) cx (ac (sv 1) (ac (sv 3) ag))) ag))) (ac (dP ["_law_k"] cx (cM rfl (t.b 1) (ac (sv 1) ag)) cS (fun _ _ _ _ nd=>⟨(sgN nd),bL,(aW (aX (sv 0) (fA (ai) (sv 1))) (ai))⟩)) ag))))) aQ)
 (ao (aJ (jQ 7 t (DD t hB tg) cx (ac (jQ 8 t (l0 t hB tg) cx (ac (sv 1) (ac (bJ t (l6 t hB tg) cx (ac (sv 1) (ac (sv 3) ag))) ag))) (ac (aW (sv 2) (sv 1)) ag))))))))))
theorem vq:OkF pt hA P w K mg base 1 23 oE:=okC 23 t fun _ _ _ _ _ _ cx nd=>
 (am (bg (SW.st (gS (dB cx.hK (sv 0)) (gy (cC cx.hK cx.hu (aW (sv 2) (ai)) (ai))))) (ao (aJ (Af (gW (ac (aW (cN (sv 2) (ai)) (sv 1)) ag)) (aW (cN (sv 2) (ai)) (ai))))) aQ)
 (am (bg (dB cx.hK (sv 0)) (ao (aJ (gW (ac (bG cx (sv 3) (aW (cN (sv 2) (ai)) (bP cx.hK rfl (t.b 0) (sv 3))) (fun _ _=>rfl)) ag)))) aQ)
 (am (db nd (aW (fA (aW (aX (sv 2) (bG cx (sv 3) (ai) (fun _ _=>rfl))) (ai)) (ai)) (ai)))
 (ao (aJ (dP ["_law_at"] cx (uu rfl (t.b 10) rfl (t.b 1) (ac (sv 1) ag)) cS (fun _ _ _ _ nd=>⟨(sgN nd),(cT (cC cx.comp.hK cx.comp.hu (aW (Ae (sv 0) (sv 1)) (ai)) (ai))),(sv 1)⟩)))))))
omit t hB tg in
theorem zn:EB pt:=fun _ _ _ _ _ us hl=>match us,hl with|[_,_],_=>rfl
theorem AW:Cs pt hA P w K mg base 2 qY:=Fr (by decide +kernel) fun _ _ _ _ _ _ _ _ cx nd=>
 (gT (qo PT.adr (by decide) (o8 cx.hK rfl (Or.inr (Or.inr rfl)) (sv 0)))
 (gT (gz (by decide) nd rfl (Or.inl rfl) (bJ t (vq t hB tg) cx (ac (aO 8 t cx (sv 4)) (ac (aO 0 t cx (sv 4)) (ac (bG cx (sv 3) (aW (sv 0) (bP cx.hK rfl (t.b 0) (sv 3))) (fun _ _=>rfl)) (ac (sv 1) ag))))))
 (gT (kQ cx.hK rfl (Or.inl rfl))
 (qk rfl (Or.inl rfl) (by decide)))))
theorem fF:OkF pt hA P w K mg base 1 24 fR:=okC 24 t fun _ _ _ _ _ _ cx nd=>
 (am (bg (fY cx.hK cx.hu (bP cx.hK rfl (t.b 0) (sv 1)) (aO 0 t cx (sv 0))) (ao (bQ 3 t cx hB bN (ac (bO) ag))) aQ)
 (ao (aJ (dP ["number"] cx (bM cx.hK (sv 1)) cS (fun _ _ _ _ nd=>⟨(sgN nd),bL,(aW (sv 1) (aO 7 t cx.comp (sv 0)))⟩)))))
omit t hB tg in
theorem bS{X:Cx}(t:Tx pt X.K X.mg)(hB:X.K.In X.base)(tg:TG pt X.K X.mg X.base):fV X (T X.K) 1 "read" ["self","registers"] [] aC:=fun c _ hc e=>match c,hc,e with
 |0,_,e=>dm 1 t (fF t hB tg) e
 |1,_,e=>dm 2 t (fF t hB tg) e
 |2,_,e=>dm 3 t (fF t hB tg) e
 |3,_,e=>dm 4 t (fF t hB tg) e
 |4,_,e=>dm 5 t (fF t hB tg) e
 |5,_,e=>dm 6 t (fF t hB tg) e
 |6,_,e=>dm 7 t (fF t hB tg) e
 |7,_,e=>dm 8 t (fF t hB tg) e
 |9,_,e=>dm 9 t (fF t hB tg) e
 |8,_,e=>nomatch e
 |_+10,h,_=>dno (n:=10) h
theorem vn:OkF pt hA P w K mg base 1 25 wa:=okC 25 t fun _ _ _ _ _ _ cx nd=>
 (ao (aJ (bG cx (sv 1) (sv 2) (fun _ _=>rfl))))
theorem DQ:OkF pt hA P w K mg base 1 26 Ep:=okC 26 t fun _ _ _ _ _ _ cx nd=>
 (ao (aJ (gW ag)))
theorem DS:OkF pt hA P w K mg base 2 27 BO:=okC 27 t fun _ _ _ _ _ _ cx nd=>
 (ao (aJ (dP ["other"] cx (bM cx.hK (de t (cK t hB tg) cx (aO 4 t cx (sv 0)) (ac (sv 1) ag))) cS (fun _ _ _ _ nd=>⟨(sgN nd),(cT (eV (sv 1) (sv 0))),(sv 1)⟩))))
theorem DT:OkF pt hA P w K mg base 1 28 BP:=okC 28 t fun _ _ _ _ _ _ cx nd=>
 (ao (aJ (dP ["kid","parent"] cx (uv cx.hK rfl (t.b 7) (aO 11 t cx (sv 0))) (lL (d7 cS (d7 cS jJ))) (fun _ _ _ _ nd=>⟨(lP cx.comp.hK cx.comp.calm (dC nd rfl (Or.inl rfl) (dC nd rfl (Or.inl rfl) jC))),(cT (cC cx.comp.hK cx.comp.hu (sv 2) (sv 0))),(sv 1)⟩))))
omit t hB tg in
theorem di{X:Cx}(t:Tx pt X.K X.mg)(hB:X.K.In X.base)(tg:TG pt X.K X.mg X.base):fV X (T X.K) 2 "hangs_on" ["self","at"] [] bp:=fun c _ hc e=>match c,hc,e with
 |1,_,e=>dm 10 t (DQ t hB tg) e
 |2,_,e=>dm 11 t (DS t hB tg) e
 |3,_,e=>dm 12 t (DT t hB tg) e
 |0,_,e|4,_,e|5,_,e|6,_,e|7,_,e|8,_,e|9,_,e=>nomatch e
 |_+10,h,_=>dno (n:=10) h
theorem DG:OkF pt hA P w K mg base 3 29 BD:=okC 29 t fun _ _ _ _ _ _ cx nd=>
 (am (f8 ["other"] cx nd (bM cx.hK (de t (di t hB tg) cx (sv 0) (ac (sv 2) ag))) cS (fun _ _ _ _ nd=>⟨(sgN nd),bL,(bG cx.comp (sv 0) (sv 1) (fun _ _=>rfl))⟩))
 (am (db nd (ai))
 (am (um cx.po (m_ cx.hK cx.hu2 (sv 4) (sv 3)) (ao (db nd (aX (sv 4) (ai)))))
 (ao (jB rfl (Or.inl rfl))))))
theorem DB:OkF pt hA P w K mg base 3 30 By:=okC 30 t fun _ _ _ _ _ _ cx nd=>
 (ao (aJ (lR cx.calm rfl (t.b 3) (ac (aO 0 t cx (sv 0)) (ac (aX (ai) (ux cx.hK cx.calm rfl (t.b 11) (dP ["kid"] cx (bM cx.hK (de t (di t hB tg) cx (sv 0) (ac (sv 2) ag))) cS (fun _ _ _ _ nd=>⟨(sgN nd),bL,(bG cx.comp (sv 0) (sv 1) (fun _ _=>rfl))⟩)))) ag)))))
theorem vw:OkF pt hA P w K mg base 1 31 tH:=okC 31 t fun _ _ _ _ _ _ cx nd=>
 (ao (aJ ((iU (zz cx.hK cx.hu (sv 1) (aO 3 t cx (sv 0))) (gU (zz cx.hK cx.hu (aW (aX (sv 1) (ai)) (aO 6 t cx (sv 0))) (ai)))))))
omit t hB tg in
theorem fI{X:Cx}(t:Tx pt X.K X.mg)(hB:X.K.In X.base)(tg:TG pt X.K X.mg X.base):fV X (T X.K) 1 "has_offer" ["self","cell"] [] cF:=fun c _ hc e=>match c,hc,e with
 |4,_,e=>dm 13 t (vw t hB tg) e
 |5,_,e=>dm 14 t (vw t hB tg) e
 |6,_,e=>dm 15 t (vw t hB tg) e
 |0,_,e|1,_,e|2,_,e|3,_,e|7,_,e|8,_,e|9,_,e=>nomatch e
 |_+10,h,_=>dno (n:=10) h
theorem qC:OkF pt hA P w K mg base 2 32 tz:=okC 32 t fun _ _ _ _ _ _ cx nd=>
 (am (f8 ["other"] cx nd (bM cx.hK (de t (cK t hB tg) cx (aO 4 t cx (sv 0)) (ac (sv 2) ag))) cS (fun _ _ _ _ nd=>⟨(sgN nd),bL,(bG cx.comp (sv 0) (sv 1) (fun _ _=>rfl))⟩))
 (am (f8 ["cell"] cx nd (bM cx.hK (sv 3)) cS (fun _ _ _ _ nd=>⟨(sgN nd),(cT (dB cx.comp.hK (de t (fI t hB tg) cx.comp (sv 0) (ac (sv 1) ag)))),(aX (sv 1) (ai))⟩))
 (am (bg (qm (bG cx (aO 5 t cx (sv 0)) (sv 2) (fun _ _=>rfl)) (lQ)) (ao (uE cx (bG cx (aO 5 t cx (sv 0)) (sv 2) (fun _ _=>rfl)))) aQ)
 (ao (aJ (qq cx.hK cx.calm rfl (t.b 3) (aX (sv 4) (gW (ac (aO 3 t cx (sv 0)) ag)))))))))
theorem DL:OkF pt hA P w K mg base 1 33 BI:=okC 33 t fun _ _ _ _ _ _ cx nd=>
 (ao (aJ (dP ["cell"] cx (bM cx.hK (sv 1)) cS (fun _ _ _ _ nd=>⟨(sgN nd),bL,(rX (ac (cN (sv 1) (aX (aO 0 t cx.comp (sv 0)) (ai))) (ac (aW (sv 1) (aX (aO 0 t cx.comp (sv 0)) (ai))) ag)))⟩))))
omit t hB tg in
theorem gd{X:Cx}(t:Tx pt X.K X.mg)(hB:X.K.In X.base)(tg:TG pt X.K X.mg X.base):fV X (T X.K) 1 "parts" ["self","cells"] [] dG:=fun c _ hc e=>match c,hc,e with
 |7,_,e=>dm 16 t (DL t hB tg) e
 |0,_,e|1,_,e|2,_,e|3,_,e|4,_,e|5,_,e|6,_,e|8,_,e|9,_,e=>nomatch e
 |_+10,h,_=>dno (n:=10) h
theorem DE:OkF pt hA P w K mg base 2 34 BB:=okC 34 t fun _ _ _ _ _ _ cx nd=>
 (ao (aJ (dP ["part"] cx (bM cx.hK (de t (gd t hB tg) cx (sv 0) (ac (sv 1) ag))) cS (fun _ _ _ _ nd=>⟨(sgN nd),bL,(bG cx.comp (sv 0) (ai) (fun _ _=>rfl))⟩))))
omit t hB tg in
theorem gP{X:Cx}(t:Tx pt X.K X.mg)(hB:X.K.In X.base)(tg:TG pt X.K X.mg X.base):fV X (T X.K) 2 "fars" ["self","cells"] [] eF:=fun c _ hc e=>match c,hc,e with
 |7,_,e=>dm 17 t (DE t hB tg) e
 |0,_,e|1,_,e|2,_,e|3,_,e|4,_,e|5,_,e|6,_,e|8,_,e|9,_,e=>nomatch e
 |_+10,h,_=>dno (n:=10) h
omit t hB tg in
theorem l8{X:Cx}(t:Tx pt X.K X.mg)(hB:X.K.In X.base)(tg:TG pt X.K X.mg X.base):fV X (T X.K) 2 "due" ["self","cells","at"] [] ji:=fun c _ hc e=>match c,hc,e with
 |5,_,e=>dm 18 t (qC t hB tg) e
 |0,_,e|1,_,e|2,_,e|3,_,e|4,_,e|6,_,e|7,_,e|8,_,e|9,_,e=>nomatch e
 |_+10,h,_=>dno (n:=10) h
theorem DP:OkF pt hA P w K mg base 2 35 BM:=okC 35 t fun _ _ _ _ _ _ cx nd=>
 (ao (aJ (dP ["part"] cx (bM cx.hK (de t (gd t hB tg) cx (sv 0) (ac (sv 1) ag))) cS (fun _ _ _ _ nd=>⟨(sgN nd),bL,(bG cx.comp (sv 0) (ai) (fun _ _=>rfl))⟩))))
omit t hB tg in
theorem fP{X:Cx}(t:Tx pt X.K X.mg)(hB:X.K.In X.base)(tg:TG pt X.K X.mg X.base):fV X (T X.K) 2 "counts" ["self","cells"] [] da:=fun c _ hc e=>match c,hc,e with
 |7,_,e=>dm 19 t (DP t hB tg) e
 |0,_,e|1,_,e|2,_,e|3,_,e|4,_,e|5,_,e|6,_,e|8,_,e|9,_,e=>nomatch e
 |_+10,h,_=>dno (n:=10) h
theorem DM:OkF pt hA P w K mg base 2 36 BJ:=okC 36 t fun _ _ _ _ _ _ cx nd=>
 (am (bg (cC cx.hK cx.hu (sv 2) (aO 10 t cx (sv 0))) (ao (aJ (lQ))) aQ)
 (am (f8 ["other"] cx nd (bM cx.hK (de t (cK t hB tg) cx (aO 4 t cx (sv 0)) (ac (sv 2) ag))) cS (fun _ _ _ _ nd=>⟨(sgN nd),(cT (cC cx.comp.hK cx.comp.hu (bG cx.comp (sv 0) (sv 2) (fun _ _=>rfl)) (jO (bG cx.comp (sv 0) (sv 1) (fun _ _=>rfl)) (ai)))),(sv 2)⟩))
 (ao (aJ (xG cx.hK cx.calm rfl (t.b 3) (sv 3))))))
omit t hB tg in
theorem j1{X:Cx}(t:Tx pt X.K X.mg)(hB:X.K.In X.base)(tg:TG pt X.K X.mg X.base):fV X (T X.K) 2 "elder" ["self","fars","at"] [] gu:=fun c _ hc e=>match c,hc,e with
 |7,_,e=>dm 20 t (DM t hB tg) e
 |0,_,e|1,_,e|2,_,e|3,_,e|4,_,e|5,_,e|6,_,e|8,_,e|9,_,e=>nomatch e
 |_+10,h,_=>dno (n:=10) h
theorem DO:OkF pt hA P w K mg base 3 37 BL:=okC 37 t fun _ _ _ _ _ _ cx nd=>
 (am (db nd (de t (gP t hB tg) cx (sv 0) (ac (sv 1) ag)))
 (ao (aJ (dP ["at"] cx (cM rfl (t.b 1) (ac (aO 0 t cx (sv 0)) ag)) cS (fun _ _ _ _ nd=>⟨(sgN nd),bL,(de t (j1 t hB tg) cx.comp (sv 0) (ac (sv 1) (ac (sv 2) ag)))⟩)))))
omit t hB tg in
theorem jy{X:Cx}(t:Tx pt X.K X.mg)(hB:X.K.In X.base)(tg:TG pt X.K X.mg X.base):fV X (T X.K) 3 "elders" ["self","cells"] [] fM:=fun c _ hc e=>match c,hc,e with
 |7,_,e=>dm 21 t (DO t hB tg) e
 |0,_,e|1,_,e|2,_,e|3,_,e|4,_,e|5,_,e|6,_,e|8,_,e|9,_,e=>nomatch e
 |_+10,h,_=>dno (n:=10) h
theorem DR:OkF pt hA P w K mg base 4 38 BN:=okC 38 t fun _ _ _ _ _ _ cx nd=>
 (am (f8 ["count", "elder"] cx nd (xB cx.hK rfl (t.b 12) (ac (de t (fP t hB tg) cx (sv 0) (ac (sv 1) ag)) (ac (de t (jy t hB tg) cx (sv 0) (ac (sv 1) ag)) ag))) (lL (d7 cS (d7 cS jJ))) (fun _ _ _ _ nd=>⟨(lP cx.comp.hK cx.comp.calm (dC nd rfl (Or.inl rfl) (dC nd rfl (Or.inl rfl) jC))),(cT (cC cx.comp.hK cx.comp.hu (sv 2) (sv 0))),(sv 1)⟩))
 (ao (aJ (lR cx.calm rfl (t.b 3) (ac (aO 0 t cx (sv 0)) (ac (aX (ai) (ux cx.hK cx.calm rfl (t.b 11) (sv 3))) ag))))))
omit t hB tg in
theorem g7{X:Cx}(t:Tx pt X.K X.mg)(hB:X.K.In X.base)(tg:TG pt X.K X.mg X.base):fV X (T X.K) 4 "due_count" ["self","cells","at"] [] dM:=fun c _ hc e=>match c,hc,e with
 |7,_,e=>dm 22 t (DR t hB tg) e
 |0,_,e|1,_,e|2,_,e|3,_,e|4,_,e|5,_,e|6,_,e|8,_,e|9,_,e=>nomatch e
 |_+10,h,_=>dno (n:=10) h
theorem A5:OkF pt hA P w K mg base 5 39 wd:=okC 39 t fun _ _ _ _ _ _ cx nd=>
 (am (db nd (de t (gP t hB tg) cx (sv 0) (ac (sv 1) ag)))
 (am (db nd (de t (l8 t hB tg) cx (aO 9 t cx (sv 0)) (ac (sv 3) (ac (sv 2) ag))))
 (am (db nd (bG cx (de t (fP t hB tg) cx (sv 0) (ac (sv 1) ag)) (sv 2) (fun _ _=>rfl)))
 (am (bg (cC cx.hK cx.hu (sv 4) (bG cx (sv 3) (sv 2) (fun _ _=>rfl))) (ao (db nd (de t (g7 t hB tg) cx (sv 0) (ac (sv 1) (ac (sv 2) ag))))) aQ)
 (ao (aJ (aX (fA (sv 4) (aX (aO 0 t cx (sv 0)) (ai))) (sv 5))))))))
theorem A6:OkF pt hA P w K mg base 1 40 we:=okC 40 t fun _ _ _ _ _ _ cx nd=>
 (am (bg (fY cx.hK cx.hu (sv 2) (ai)) (ao (aJ (bG cx (sv 1) (jO (sv 2) (ai)) (fun _ _=>rfl)))) aQ)
 (am (bg (cC cx.hK cx.hu (bG cx (sv 1) (ai) (fun _ _=>rfl)) (bG cx (sv 1) (jO (aO 0 t cx (sv 0)) (ai)) (fun _ _=>rfl))) (ao (aJ (aW (aX (bG cx (sv 1) (ai) (fun _ _=>rfl)) (ai)) (aO 7 t cx (sv 0))))) aQ)
 (ao (aJ (bG cx (sv 1) (ai) (fun _ _=>rfl))))))
omit t hB tg in
theorem b0{X:Cx}(t:Tx pt X.K X.mg)(hB:X.K.In X.base)(tg:TG pt X.K X.mg X.base):fV X (T X.K) 5 "due" ["self","cells","at"] [] aA:=fun c _ hc e=>match c,hc,e with
 |0,_,e=>dm 23 t (vn t hB tg) e
 |1,_,e=>dm 24 t (vn t hB tg) e
 |2,_,e=>dm 25 t (DG t hB tg) e
 |3,_,e=>dm 26 t (DB t hB tg) e
 |4,_,e=>dm 27 t (qC t hB tg) e
 |5,_,e=>dm 18 t (qC t hB tg) e
 |6,_,e=>dm 28 t (qC t hB tg) e
 |7,_,e=>dm 29 t (A5 t hB tg) e
 |9,_,e=>dm 30 t (A6 t hB tg) e
 |8,_,e=>nomatch e
 |_+10,h,_=>dno (n:=10) h
theorem fG:OkF pt hA P w K mg base 6 41 fS:=okC 41 t fun _ _ _ _ _ _ cx nd=>
 (ao (aJ (dP ["at"] cx (cM rfl (t.b 1) (ac (aO 0 t cx (sv 0)) ag)) cS (fun _ _ _ _ nd=>⟨(sgN nd),(cT (fY cx.comp.hK cx.comp.hu (de t (b0 t hB tg) cx.comp (sv 0) (ac (sv 1) (ac (sv 2) ag))) (bG cx.comp (sv 1) (sv 2) (fun _ _=>rfl)))),(sv 2)⟩))))
omit t hB tg in
theorem aK{X:Cx}(t:Tx pt X.K X.mg)(hB:X.K.In X.base)(tg:TG pt X.K X.mg X.base):fV X (T X.K) 6 "movers" ["self","cells"] [] aq:=fun c _ hc e=>match c,hc,e with
 |0,_,e=>dm 31 t (fG t hB tg) e
 |1,_,e=>dm 32 t (fG t hB tg) e
 |2,_,e=>dm 33 t (fG t hB tg) e
 |3,_,e=>dm 34 t (fG t hB tg) e
 |4,_,e=>dm 35 t (fG t hB tg) e
 |5,_,e=>dm 36 t (fG t hB tg) e
 |6,_,e=>dm 37 t (fG t hB tg) e
 |7,_,e=>dm 38 t (fG t hB tg) e
 |9,_,e=>dm 39 t (fG t hB tg) e
 |8,_,e=>nomatch e
 |_+10,h,_=>dno (n:=10) h
theorem A3:OkF pt hA P w K mg base 1 42 wb:=okC 42 t fun _ _ _ _ _ _ cx nd=>
 (am (bg (SW.st (gS (dB cx.hK (aO 8 t cx (sv 0))) (gy (jo (bP cx.hK rfl (t.b 0) (sv 1)) (ai))))) (ao (bQ 4 t cx hB bN (ac (bO) ag))) aQ)
 (am (cU cx.po cx.calm (jM cx.hK (sv 1)) (sgN nd) (ao (bg (SW.st (eU (eV (sv 2) (ai)) (d_ (ng (sv 2) (aO 0 t cx (sv 0)))))) (ao (bQ 4 t cx hB bN (ac (bO) ag))) aQ)))
 (ao (bg (fY cx.hK cx.hu (kW cx.hK cx.calm rfl (t.b 0) rfl (t.b 8) (sv 1)) (bP cx.hK rfl (t.b 0) (sv 1))) (ao (bQ 4 t cx hB bN (ac (bO) ag))) aQ))))
theorem fH:OkF pt hA P w K mg base 6 43 fT:=okC 43 t fun _ _ _ _ _ _ cx nd=>
 (am (fv (bJ t (A3 t hB tg) cx (ac (sv 0) (ac (sv 2) ag))))
 (ao (aJ (dP ["at"] cx (cM rfl (t.b 1) (ac (aO 0 t cx (sv 0)) ag)) cS (fun _ _ _ _ nd=>⟨(sgN nd),bL,(nv (m_ cx.comp.hK cx.comp.hu2 (sv 3) (sv 0)) (de t (b0 t hB tg) cx.comp (sv 1) (ac (sv 2) (ac (sv 3) ag))) (bG cx.comp (sv 2) (sv 3) (fun _ _=>rfl)))⟩)))))
omit t hB tg in
theorem bK{X:Cx}(t:Tx pt X.K X.mg)(hB:X.K.In X.base)(tg:TG pt X.K X.mg X.base):fV X (T X.K) 6 "turned" ["self","cells","named"] [] aD:=fun c _ hc e=>match c,hc,e with
 |0,_,e=>dm 40 t (fH t hB tg) e
 |1,_,e=>dm 41 t (fH t hB tg) e
 |2,_,e=>dm 42 t (fH t hB tg) e
 |3,_,e=>dm 43 t (fH t hB tg) e
 |4,_,e=>dm 44 t (fH t hB tg) e
 |5,_,e=>dm 45 t (fH t hB tg) e
 |6,_,e=>dm 46 t (fH t hB tg) e
 |7,_,e=>dm 47 t (fH t hB tg) e
 |9,_,e=>dm 48 t (fH t hB tg) e
 |8,_,e=>nomatch e
 |_+10,h,_=>dno (n:=10) h
theorem AU:OkF pt hA P w K mg base 7 44 qW:=okC 44 t fun _ _ _ _ _ _ cx nd=>
 (am (db nd (de t (bK t hB tg) cx (sv 0) (ac (sv 1) (ac (sv 2) ag))))
 (am (f8 ["at"] cx nd (bM cx.hK (de t (aK t hB tg) cx (sv 0) (ac (sv 1) ag))) cS (fun _ _ _ _ nd=>⟨(sgN nd),(cT (m_ cx.comp.hK cx.comp.hu2 (sv 1) (sv 0))),(sv 1)⟩))
 (ao (uo rfl (Or.inl rfl) rfl (Or.inl rfl)))))
theorem AT:OkV pt hA P w K mg base 8 45 2 oC:=okV 45 t fun _ _ _ _ _ _ cx nd=>
 (gT (gz (by decide) nd rfl (Or.inl rfl) (de t (bS t hB tg) cx (sv 0) (ac (sv 1) ag)))
 (gT (gz (by decide) nd rfl (Or.inl rfl) (gW ag))
 (gT (xp (ks:=[2]) cx.po cx.hK nd rfl (Or.inl rfl) rfl (Or.inl rfl) (by decide) (by decide) (by decide) (by decide) (SW.st (gS (eV (bP cx.hK rfl (t.b 0) (sv 5)) (sv 3)) (gy (jo (bP cx.hK rfl (t.b 0) (de t (aK t hB tg) cx (sv 0) (ac (sv 4) ag))) (ai))))) (nh (by decide) nd rfl (Or.inl rfl) (Ao (AW t hB tg) zn cx (ac (bP cx.hK rfl (t.b 0) (sv 5)) (ac (de t (aK t hB tg) cx (sv 0) (ac (sv 4) ag)) ag)))) (bJ t (AU t hB tg) cx (ac (sv 0) (ac (sv 4) (ac (sv 6) ag)))))
 (qk rfl (Or.inl rfl) (by decide)))))
theorem AZ:OkF pt hA P w K mg base 1 46 rj:=okC 46 t fun _ _ _ _ _ _ cx nd=>
 (ao (aJ ((iU (jP cx.hK yL rfl (t.b 13) cJ rfl (t.b 9) wB (sv 0)) (gU (Ah (jP cx.hK vT rfl (t.b 13) cJ rfl (t.b 14) zo (sv 0))))))))
theorem vp:OkF pt hA P w K mg base 2 47 q9:=okC 47 t fun _ _ _ _ _ _ cx nd=>
 (ao (aJ ((iU (jP cx.hK om rfl (t.b 13) cJ rfl (t.b 6) dZ (sv 0)) (iU (An cx.hK cx.calm rfl (t.b 15) (dP ["_law_one"] cx (bM cx.hK (sv 0)) cS (fun _ _ _ _ nd=>⟨(sgN nd),bL,(bJ t (AZ t hB tg) cx.comp (ac (sv 0) ag))⟩))) (gU (kX cx.hK cx.hu (sv 0) (sv 1))))))))
theorem AV:OkF pt hA P w K mg base 3 48 qX:=okC 48 t fun _ _ _ _ _ _ cx nd=>
 (am (bg (SW.st (eU (o5 (dB cx.hK (jP cx.hK sV rfl (t.b 13) cJ rfl (t.b 5) fj (sv 0)))) (d_ (fY cx.hK cx.hu (bP cx.hK rfl (t.b 0) (sv 0)) (ai))))) (ao (aJ (il))) aQ)
 (ao (aJ ((iU (bJ t (vp t hB tg) cx (ac (bG cx (sv 0) (ai) (fun _ _=>rfl)) (ac (sv 1) ag))) (gU (bJ t (vp t hB tg) cx (ac (bG cx (sv 0) (ai) (fun _ _=>rfl)) (ac (sv 2) ag)))))))))
theorem A1:OkV pt hA P w K mg base 7 49 2 rm:=okV 49 t fun _ _ _ _ _ _ cx nd=>
 (gT (ul cx.po cx.calm cx.hK nd rfl (t.b 7) rfl (Or.inl rfl) rfl (Or.inl rfl) rfl (Or.inl rfl) (by decide) (by decide) (by decide) (by decide) (by decide) (eW (gz (by decide) nd rfl (Or.inl rfl) (de t (aK t hB tg) cx (sv 0) (ac (gA cx.hK rfl (t.b 6) dZ (sv 1)) ag)))
 (eW (o6 (cC cx.hK cx.hu (sv 7) (gW ag)) (jA (SSK.ofRet (aJ (il)) (jS _))) lM)
 (eW (gz (by decide) nd rfl (Or.inr rfl) (bJ t (vq t hB tg) cx (ac (aO 8 t cx (sv 0)) (ac (aO 0 t cx (sv 0)) (ac (bG cx (sv 3) (aW (sv 5) (bP cx.hK rfl (t.b 0) (sv 3))) (fun _ _=>rfl)) (ac (sv 7) ag))))))
 (eW (gz (by decide) nd rfl (Or.inl rfl) (de t (bK t hB tg) cx (sv 0) (ac (gA cx.hK rfl (t.b 6) dZ (sv 1)) (ac (sv 8) ag))))
 (eW (o6 (o5 (dB cx.hK (bJ t (AV t hB tg) cx (ac (sv 6) (ac (dP ["_law_at"] cx (bM cx.hK (sv 7)) cS (fun _ _ _ _ nd=>⟨(sgN nd),(cT (m_ cx.comp.hK cx.comp.hu2 (sv 1) (sv 0))),(sv 1)⟩)) (ac (sv 1) ag)))))) (jA (SSK.ofRet (aJ (il)) (jS _))) lM)
 (eW (o9 cx.hK rfl (Or.inl rfl) (Aj (ai)) (fun _ _=>rfl))
 (jA (o7 cx.hK rfl (Or.inl rfl) (fun _ _=>rfl))))))))))
 (z6 ((zy (kX cx.hK cx.hu (bP cx.hK rfl (t.b 0) (sv 2)) (sv 4)) (gU (kX cx.hK cx.hu (de t (aK t hB tg) cx (sv 0) (ac (gA cx.hK rfl (t.b 6) dZ (sv 1)) ag)) (gW ag)))))))
theorem A7:OkF pt hA P w K mg base 10 50 zR:=Fs 50 t fun _ _ _ _ _ cx cl nd=>
 (dX (fun _=>rfl) (db nd (bJ t (pG t hB tg) cx (ac (sv 0) (ac (ai) ag))))
 (dX (fun _=>rfl) (db nd (aX (ai) (aW (cN (sv 1) (ai)) (ai))))
 (dX (fun _=>rfl) (bg (SW.st (gS (cC cx.hK cx.hu (aW (cN (sv 1) (ai)) (ai)) (ai)) (gy (fY cx.hK cx.hu (aW (cN (sv 1) (ai)) (ai)) (ai))))) (ao (db nd (ai))) aQ)
 (dX (fun _=>rfl) (db nd (bJ t (AX t hB tg) cx (ac (aW (sv 1) (ai)) (ac (sv 2) (ac (cN (sv 1) (ai)) (ac (bJ t (pG t hB tg) cx (ac (sv 0) (ac (ai) ag))) ag))))))
 (dX (fun _=>rfl) (db nd (aW (cN (sv 1) (ai)) (ai)))
 (dX (fun _=>rfl) (bg (cC cx.hK cx.hu (aW (cN (sv 1) (ai)) (ai)) (ai)) (ao (db nd (bG cx (gW (ac (ai) (ac (ai) ag))) (uz rfl (t.b 9) (aO 8 t cx (sv 3))) (fun _ _=>rfl)))) aQ)
 (dX (fun _=>rfl) (db nd (bJ t (pH t hB tg) cx (ac (bJ t (pG t hB tg) cx (ac (sv 0) (ac (ai) ag))) (ac (aO 0 t cx (sv 3)) ag))))
 (dX (fun _=>rfl) (db nd (aX (gW (ac (ai) ag)) (uy cx.hK (sv 0) (xw (ai)) xy)))
 (dX (fun _=>rfl) (db nd (gW ag))
 (Bl (fun _=>rfl) (eM (i:=3) (eM (i:=6) (Aa PT.adr (by decide) (am (Dg ["_law_drawn", "_law_heard", "_law_rule_here"] 8 7 [6,3] tg nd)
 (am (cU cl.po cl.calm (dv rfl (t.b 1) (ac (ai) ag)) (sgN nd) (am (db nd (gA cl.hK rfl (t.b 6) dZ (sv 5)))
 (am (ur PT.adr (by decide) (kQ cl.hK rfl (Or.inr (Or.inl rfl))))
 (eM (i:=10) (am (SSK.ss (nh (by decide) nd rfl (Or.inl rfl) (Dq PT.adr (by decide) (by decide) (by decide) (uD t (AT t hB tg) cl (sv 3) (sv 10) (ac (sv 4) ag)))))
 (am (ur PT.adr (by decide) (o6 (SW.st (eU (o5 (dB cl.hK (jP cl.hK om rfl (t.b 13) cJ rfl (t.b 6) dZ (sv 11)))) (eU (jo (bP cl.hK rfl (t.b 0) (sv 11)) (sv 4)) (eU (fY cl.hK cl.hu (sv 10) (sv 5)) (d_ (fY cl.hK cl.hu (sv 7) (rV cl.calm rfl (t.b 6) dZ rfl (t.b 1) (ac (bP cl.hK rfl (t.b 0) (sv 11)) ag)))))))) (jA (SSK.ofRet (aJ (il)) (jS _))) lM))
 (ao (z9 (uD t (A1 t hB tg) cl (sv 3) (de t (bS t hB tg) cl (sv 3) (ac (gA cl.hK rfl (t.b 6) dZ (sv 5)) ag)) (ac (sv 6) (ac (sv 4) ag)))))))))))
 (ao (aJ (il))))))))))))))))))
end
end G
namespace G
open PySem L2 PR
def pB(n k:Int)(h1:k<=n)(h2:n<=10):wc [.int n,.int k]=.ok .non:=by refine kY (e:=[some (.int n),some (.int k)]) ?_;show wU [some (.int n),some (.int k)]=_;unfold wU;exact bA (by simp;rw[if_neg (by omega),decide_eq_false (by omega)]) ay
def pF{fl:Fl}{n:Nat}{ws:Gf}(g:Ct n ws)(hf:fl.Gv=fl)(hl:fl.GB=false):BE [.int n,.lst fl (prL ws)]=.ok (.lst .own (prL (bY (ws.map mm)))):=by
 refine aF (v:=.lst .own (prL (bY (ws.map mm)))) ?_;show Cc [some (.int n),some (.lst fl (prL ws)),none,none,none]=_;unfold Cc;refine af (aG (v:=.lst .own []) (by simp)) ?_;simp only[s0_,s1_];refine qp (fun k e=>∃c d,e=[some (.int n),some (.lst fl (prL ws)),some (.lst .own (prL ((ws.take k).map mm))),c,d]) (xs:=prL ws) (f6 (by simp[hf]) hl (by simp) (by simp)) ⟨_,_,rfl⟩ (fun k x e hx hP=>?_) (fun e hP=>?_)
 ·obtain⟨c,d,rfl⟩:=hP;rw[x5]at hx;obtain⟨w,hw,rfl⟩:∃w,ws[k]?=some w/\x=prV w:=by
   cases e:ws[k]? with
   |none=>rw[e]at hx;cases hx
   |some w=>rw[e]at hx;cases hx;exact⟨w,rfl,rfl⟩
  have hk:k<ws.length:=(List.getElem?_eq_some_iff.mp hw).1;obtain⟨r1,r2,r3,r4,r5⟩:=g.rg w (List.mem_of_getElem? hw);have hn:((ws.take k).map mm).contains (mm w)=false:=by
   rw[Bool.eq_false_iff];intro z;have z':mm w ∈(ws.take k).map mm:=by simpa using z
   have nd:=g.nd;rw[<- List.take_append_drop k ws,List.map_append,nodup_append]at nd;refine nd.2.2 _ z' (mm w) (List.mem_map_of_mem ?_) rfl;rw[List.drop_eq_getElem_cons hk];obtain⟨_,e⟩:=List.getElem?_eq_some_iff.mp hw;rw[e];exact mem_cons_self
  have hn':mm w ∉(ws.map mm).take k:=by rw[<- List.map_take];simpa using hn
  have ht:(ws.take (k+1)).map mm=(ws.take k).map mm++[mm w]:=by rw[take_add_one,hw];simp
  have hz:=g.sz;refine⟨_,du rfl,cu (aG (v:=prV (mm w)) (by simp[p1,lK,mm])) ?_⟩;simp only[s0_,s1_];refine cu (bA (by simp[mm];rw[if_neg (by omega),decide_eq_false (by omega)]) ay) ?_;refine cu (bA (by simp[mm];omega) ay) ?_;refine cu (bA (by simp only[yY,lr,jh];simp[hn']) ay) ?_;refine b9 (d9 (v:=prV (mm w)) (xs:=prL ((ws.take k).map mm)) (by simp) rfl (by simp) (by simp;omega)) ⟨some (prV w),some (prV (mm w)),?_⟩;simp only[s0_,s1_];rw[ht,<- x_];rfl
 ·obtain⟨c,d,rfl⟩:=hP;refine a5 ?_ (by simp);have e:ws.take (prL ws).length=ws:=by rw[jD,take_length]
  simp only[e];simp[p1,o_ (f:=.lnt) (ps:=ws.map mm) (by simpa using g.sz) g.nd]
def jm(a:Int):∀(ps:Gf),(∀x∈ps,x.1≠x.2)->(ps.filter fun x=>decide (x.2=a)).length+(ps.filter fun x=>decide (x.1=a)).length<=ps.length
 | [],_=>Nat.le_refl _
 |x::ps,h=>by
  have:=jm a ps fun y hy=>h y (mem_cons_of_mem _ hy);have hx:=h x mem_cons_self;rw[List.filter_cons,List.filter_cons];by_cases h1:x.2=a
  ·have h2:x.1≠a:=fun z=>hx (z.trans h1.symm);simp[h1,h2];omega
  ·by_cases h2:x.1=a
   ·simp[h1,h2];omega
   ·simp[h1,h2];omega
def vC(ps:Gf)(a:Int)(h:ps.length<64)(hne:∀x∈ps,x.1≠x.2):rp [.tup (prL ps),.int a]=.ok (.lst .own (iL (nbL ps a))):=by
 refine aF (v:=.lst .own (iL (nbL ps a))) ?_;show wP [some (.tup (prL ps)),some (.int a),none,none]=_;unfold wP;refine af (aG (v:=.lst .own (iL ((ps.filter fun x=>decide (x.2=a)).map (·.1)))) ?_) ?_
 ·refine aU (xs:=prL ps) (by simp) (by simp;omega) ?_;unfold iL prL;rw[map_map];exact cB (a:=prV) (f:=PV.int ∘ Prod.fst) (p:=fun x=>decide (x.2=a)) ps fun x _=>⟨[some (.int a),some (prV x)],by simp[tgN,aB,bE],by simp,fun _=>⟨by simp,rfl,rfl⟩⟩
 simp only[s0_,s1_];refine af (aG (v:=.lst .own (iL ((ps.filter fun x=>decide (x.1=a)).map (·.2)))) ?_) ?_
 ·refine aU (xs:=prL ps) (by simp) (by simp;omega) ?_;rw[show iL ((ps.filter fun x=>decide (x.1=a)).map (·.2))=(ps.filter fun x=>decide (x.1=a)).map (PV.int ∘ Prod.snd)from map_map ..];exact cB (a:=prV) (f:=PV.int ∘ Prod.snd) (p:=fun x=>decide (x.1=a)) ps fun x _=>⟨[some (.int a),some (prV x)],by simp[tgN,aB,bE],by simp,fun _=>⟨by simp,rfl,rfl⟩⟩
 simp only[s0_,s1_];refine a5 ?_ (by simp);have h1:=jm a ps hne;simp only[iN,dY,lr,jh,fL];simp[p1];rw[iu (by decide) (by decide) (by simp;omega)];simp;rw[rQ _ (by simp;omega)];rfl
abbrev net(fl:Fl)(n:Nat)(ps:Gf):PV:=.obj fl 8 [0,1,2] [.int n,.tup (prL ps),.tup ((range n).map fun k:Nat=>.tup (iL (nbL ps k)))]
@[simp] def EK{n:Nat}{ps:Gf}{p:Fl->Bool}:hasL p ((range n).map fun k:Nat=>PV.tup (iL (nbL ps k)))=false:=by
 induction range n with
 |nil=>rfl
 |cons a l ih=>simp[hasL,PV.has,ih]
@[simp] def EJ{n:Nat}{ps:Gf}{g:Fl->Fl}:mapL g ((range n).map fun k:Nat=>PV.tup (iL (nbL ps k)))=(range n).map fun k:Nat=>PV.tup (iL (nbL ps k)):=by
 induction range n with
 |nil=>rfl
 |cons a l ih=>simp[mapL,PV.GJ,ih]
def t8{n:Nat}{ps:Gf}{k:Nat}(hk:k<n):rk [net .bor n ps,.int k]=.ok (.lst .own (iL (nbL ps k))):=by
 refine aF (v:=.lst .own (iL (nbL ps k))) ?_;show oT [some (net .bor n ps),some (.int k)]=_;unfold oT;refine a5 ?_ (by simp);have e:aL (.tup ((range n).map fun k:Nat=>PV.tup (iL (nbL ps k)))) (.int k)=.ok (.tup (iL (nbL ps k))):=by
  have hk':((range n).map fun k:Nat=>PV.tup (iL (nbL ps k)))[k]?=some (.tup (iL (nbL ps k))):=by simp[hk]
  exact j_ rfl hk' (by simp[PV.has])
 simp[ap,a9,p1,dF,e,aN]
def kq(ps:Gf)(i j:Nat):Prop:=((i:Int),(j:Int))∈ ps \/((j:Int),(i:Int))∈ ps
def Bw{n r:Nat}{ps:Gf}(hr:r<n)(hn:n<=10)(g:∀x∈ps,0<=x.1/\x.1<n/\0<=x.2/\x.2<n) :
  ∃far,q_ [net .bor n ps,.int r]=.ok (.lst .own (iL far))/\qf n r (kq ps) far:=by
 have a0:ap 0 (net .bor n ps)=.ok (.int n):=by simp[ap,a9]
 have end_:∀e:En,(∃far a b c,e=[some (net .bor n ps),some (.int r),some (.lst .own (iL far)),a,b,c]/\Far n r (kq ps) n 0 (fun _=>False) far)->∃far,iA 2 e=.ret (.lst .own (iL far))/\qf n r (kq ps) far:=fun e ⟨far,a,b,c,he,F⟩=>⟨far,by subst he;exact lU rfl,F.dist⟩
 let P:Nat->En->Prop:=fun s e=>∃far a b c,e=[some (net .bor n ps),some (.int r),some (.lst .own (iL far)),a,b,c]/\Far n r (kq ps) s 0 (fun _=>False) far
 have loop:∃e2,dh (b7 (ae (mUn (ap 0) (aa 0)) ah)) (tgN 3)
   (dh (b7 (ae (mUn (ap 0) (aa 0)) ah)) (tgN 4)
   (mBr (av (mOp pEq (mOp aL (aa 2) (aa 4)) (aa 3)))
   (dh (gg (bH br (aa 0) (ae (aa 4) ah))) (tgN 5)
   (g_ 2 (aa 5) (au (fE min) (ae (mOp aL (aa 2) (aa 5)) (ae (mOp aS (aa 3) (GM 1)) ah)))))
   aR)) [some (net .bor n ps),some (.int r),some (.lst .own (iL (((range n).map fun _=>(n:Int)).set r 0))),none,none,none]=.next e2/\P (ck 0 n).length e2:=by
  refine iK P (cb (n:=n) (by simp[a0]) (by omega)) ⟨_,_,_,_,rfl,Far.start hr (fun i hi=>?_) (by simp)⟩ (fun s x e hx hP=>?_)
  ·rw[v4 _ (by simpa using hr)];simp[gt,hi]
  ·obtain⟨far,a,b,c,rfl,F⟩:=hP;obtain⟨hs,rfl⟩:=dD hx
   suffices jl _ _ by obtain⟨e2,h1,h2⟩:=this;exact⟨_,e2,du rfl,h1,h2⟩
   refine jg (fun k e=>∃far b c,e=[some (net .bor n ps),some (.int r),some (.lst .own (iL far)),some (.int (0+(s:Int))),b,c]/\Far n r (kq ps) s k (fun _=>False) far) (cb (n:=n) (by simp[a0]) (by omega)) ⟨_,_,_,rfl,F⟩ (fun k x e hx hP=>?_) (fun e hP=>?_)
   ·obtain⟨far,b,c,rfl,F⟩:=hP;obtain⟨hk,rfl⟩:=dD hx;have ix:∀ (f:Fl) (i:Nat),i < n->aL (.lst f (iL far)) (.int i)=.ok (.int (gt far i)):=fun f i hi=>gn _ (by omega) (by
     have:i<far.length:=by rw[F.len];exact hi
     simp[gt,this])
    refine⟨_,du rfl,?_⟩;simp only[s0_,s1_];by_cases hv:gt far k=s
    ·refine lf (by simp[ix _ k hk,hv]) ?_;have nbs:∀o∈nbL ps k,∃j:Nat,o=j/\j<n/\kq ps j k:=fun o ho=>by
      rcases l_.mp ho with q|q
      ·have:=g _ q;exact⟨o.toNat,by omega,by omega,.inl (by rw[show((o.toNat:Nat):Int)=o by omega];exact q)⟩
      ·have:=g _ q;exact⟨o.toNat,by omega,by omega,.inr (by rw[show((o.toNat:Nat):Int)=o by omega];exact q)⟩
     refine jg (fun q e=>∃far c,e=[some (net .bor n ps),some (.int r),some (.lst .own (iL far)),some (.int (0+(s:Int))),some (.int (0+(k:Int))),c]/\Far n r (kq ps) s k (fun j=>(j:Int)∈(nbL ps k).take q) far/\gt far k=s) (xs:=iL (nbL ps k)) ?_ ⟨far,_,rfl,F.none (by simp),hv⟩ (fun q x e hx hP=>?_) (fun e hP=>?_)
     ·have bk:=t8 (ps:=ps) hk;refine f6 (f:=.own) ?_ rfl (by simp) (by simp);simp[br,bk,aH]
     ·obtain⟨far,c,rfl,F,hv⟩:=hP;rw[vX]at hx;obtain⟨o,ho,rfl⟩:∃o,(nbL ps k)[q]?=some o/\x=.int o:=by
       cases e:(nbL ps k)[q]? with
       |none=>rw[e]at hx;cases hx
       |some w=>rw[e]at hx;cases hx;exact⟨w,rfl,rfl⟩
      obtain⟨j,rfl,hj,aj⟩:=nbs o (List.mem_of_getElem? ho);have ix:∀ (f:Fl) (i:Nat),i < n->aL (.lst f (iL far)) (.int i)=.ok (.int (gt far i)):=fun f i hi=>gn _ (by omega) (by
       have:i<far.length:=by rw[F.len];exact hi
       simp[gt,this])
      obtain⟨F',hv'⟩:=F.relax hk hv hj aj hs;refine⟨_,du rfl,b9 (nu (v:=.int (min (gt far j) ((s:Int)+1))) (xs:=iL far) (j:=j) (n:=j) (by simp[ix _ j hj,fE]) rfl (by simp) (iH (by rw[ba,F.len];exact hj)) (by simp)) ⟨_,some (.int j),?_,?_,hv'⟩⟩
      ·rw[ou];rfl
      ·have e:∀i:Nat,((i:Int)∈(nbL ps k).take (q+1))=((i:Int)∈(nbL ps k).take q\/i=j):=fun i=>by rw[take_add_one,ho];simp;exact or_congr_right ⟨fun h=>by omega,fun h=>by omega⟩
       simp only[e];exact F'
     ·obtain⟨far,c,rfl,F,hv⟩:=hP;refine⟨far,_,_,rfl,F.close fun j hj a=>?_⟩;rw[ba,take_length];exact l_.mpr (a.elim .inr .inl)
    ·refine lg (by simp[ix _ k hk,hv]) (b9 ay ⟨far,_,_,rfl,F.skip hv⟩)
   ·obtain⟨far,b,c,rfl,F⟩:=hP;rw[bD]at F;exact⟨far,_,_,_,rfl,F.next⟩
 obtain⟨e2,h1,h2⟩:=loop;rw[bD]at h2;obtain⟨far,h3,h4⟩:=end_ e2 h2;refine⟨far,aF (v:=.lst .own (iL far)) ?_,h4⟩;show wK [some (net .bor n ps),some (.int r),none,none,none,none]=_;unfold wK;refine af (aG (v:=.lst .own (iL ((range n).map fun _=>(n:Int)))) ?_) ?_
 ·refine aU (xs:=ck 0 n) (cb (n:=n) (by simp[a0]) (by omega)) (by rw[bD];omega) ?_;rw[show iL ((range n).map fun _=>(n:Int))=(range n).map (fun _=>PV.int n)from by simp[iL]];exact bR (a:=fun k:Nat=>PV.int (0+(k:Int))) (f:=fun _=>PV.int n) (range n) fun k _=>⟨[some (net .bor n ps),some (.int (0+k))],by simp[tgN,aB,bE,PV.Gy],by simp[a0],rfl,rfl⟩
 simp only[s0_,s1_];refine af (nu (v:=.int 0) (xs:=iL ((range n).map fun _=>(n:Int))) (j:=r) (n:=r) (by simp) rfl (by simp) (iH (by simpa using hr)) (by simp)) ?_;rw[ou];exact af h1 h3
def Bb{far:Gi}{b:Int}(h:far≠[])(hb:∀x∈far,x<b):iz far<b:=hb _ (j3 h).1
def yP{fl:Fl}{n:Nat}{ws:Gf}(g:Ct n ws)(h1:1<=n)(hn:n<=10)(hf:fl.Gv.Gw=.bor\/fl.Gv.Gw=.frz)(conn:∀S:Nat->Prop,S 0->(∀i<n,∀j<n,kq (bY (ws.map mm)) i j->S i->S j)->∀i<n,S i) :
  lm [.obj .own 8 [] [],.int n,.lst fl (prL ws)]=.ok (net .own n (bY (ws.map mm))):=by
 have hfl:fl.Gv.Gw.Gv=fl.Gv.Gw:=by rcases hf with e|e<;>rw[e]<;>rfl
 have hfi:fl.Gv.Gw.GB=false:=by rcases hf with e|e<;>rw[e]<;>rfl
 have o1:=pF (fl:=fl.Gv.Gw) g hfl hfi;have rg:∀x∈bY (ws.map mm),0<=x.1/\x.1<n/\0<=x.2/\x.2<n/\x.1≠x.2:=fun x hx=>by obtain⟨w,hw,rfl⟩:=mem_map.mp ((cj _).mem_iff.mp hx);have:=g.rg w hw;simp only[mm];omega
 have sz:(bY (ws.map mm)).length<64:=by rw[(cj _).length_eq,length_map];exact g.sz
 generalize hps:bY (ws.map mm)=ps at *;have nb:∀k:Nat,rp [.tup (prL ps),.int k]=.ok (.lst .own (iL (nbL ps k))):=fun k=>vC ps k sz fun x hx=>(rg x hx).2.2.2.2;obtain⟨far,e1,D⟩:=Bw (n:=n) (r:=0) (ps:=ps) (by omega) hn fun x hx=>⟨(rg x hx).1,(rg x hx).2.1,(rg x hx).2.2.1,(rg x hx).2.2.2.1⟩
 have hall:=D.all (by omega) conn;have hne:far≠[]:=fun z=>by have:=D.len;rw[z]at this;simp at this;omega
 have hmx:iz far<n:=Bb hne fun x hx=>by obtain⟨i,hi,rfl⟩:=getElem_of_mem hx;have:=hall i (by rw[<- D.len];exact hi);simpa[gt,hi]using this
 refine bU (e:=[some (net .own n ps),some (.int n),some (.lst fl (prL ws))]) ?_ rfl;show wG [some (.obj .own 8 [] []),some (.int n),some (.lst fl (prL ws))]=_;unfold wG;have rf:=pB n 1 (by omega) (by omega);refine af (fN (v:=.non) (by simp[rf,aH])) ?_;refine af (bj (v:=.int n) (ks:=[]) (vs:=[]) (by simp) rfl (by simp) rfl (by decide)) ?_;simp only[s0_,s1_];refine af (bj (v:=.tup (prL ps)) (ks:=[0]) (vs:=[.int n]) ?_ rfl (by simp) rfl (by decide)) ?_
 ·simp[o1,aH,p1,dw,aN]
 simp only[s0_,s1_];refine af (bj (v:=.tup ((range n).map fun k:Nat=>.tup (iL (nbL ps k)))) (ks:=[0,1]) (vs:=[.int n,.tup (prL ps)]) ?_ rfl (by simp) rfl (by decide)) ?_
 ·simp only[iN,dY,fL];rw [aU (xs:=ck 0 n) (ys:=(range n).map fun k:Nat=>.tup (iL (nbL ps k))) (cb (n:=n) (by simp) (by omega)) (by rw [bD];omega)
   (bR (a:=fun k:Nat=>PV.int (0+(k:Int))) (f:=fun k:Nat=>.tup (iL (nbL ps k))) (range n) fun k _=>⟨[some (.obj .bor 8 [0,1] [.int n,.tup (prL ps)]),some (.int (0+k))],by simp[tgN,aB,bE],by simp[ap,a9,nb,aH,p1,dw,aN],by simp[PV.has],by simp[PV.has]⟩)]
  simp[p1,dw,aN]
 simp only[s0_,s1_];refine bA ?_ ay;have hi:far.isEmpty=false:=by cases far with|nil=>exact absurd rfl hne|cons a l=>rfl
 have e2:q_ [net .bor n ps,.int 0]=.ok (.lst .own (iL far)):=e1;simp[e2,aH,p1,e9,aN,hi];omega
def cell(ns:Gi)(k:Nat):Int:=ns.getD k 0
def zi{fl:Fl}(ns:Gi)(k:Nat)(h:Scr fl):iM [.lst fl (iL ns),.int k]=.ok (.int (cell ns k)):=by
 refine aF ?_;show wQ [some (.lst fl (iL ns)),some (.int k)]=_;unfold wQ cell;by_cases hk:k<ns.length
 ·refine cW (gN (by simp[h.Gv,hk]) (a5 ?_));simp only[lr,jh];simp[h.Gv];rw[gn ns (by omega) (n:=ns.getD k 0) (by simp[hk])];simp[hk]
 ·refine af (bA (by simp[h.Gv,hk]) ay) (a5 (by simp[List.getElem?_eq_none (Nat.le_of_not_lt hk)]))
def uc(n:Int):rj [.int n]=.ok (.bl true):=by refine aF (v:=.bl true) ?_;show wM [some (.int n)]=_;unfold wM;exact a5 (by simp[jd]) (by simp)
def zg{n m r:Nat}{ws:Gf}(Wh:eK n m ws)(hr:r<n)(S:Nat->Prop)(h0:S r)(hc:∀i<n,∀j<n,kq (bY (ws.map mm)) i j->S i->S j):∀i<n,S i:=fun i hi=>by
 have:=Wh.cn (fun x=>S x.toNat) (fun w hw=>?_) r i hr hi (by simpa using h0)
 ·simpa using this
 ·have rg:=Wh.rg w hw;have hm:mm w∈bY (ws.map mm):=(cj _).mem_iff.mpr (List.mem_map_of_mem hw);have e1:((w.1.toNat:Nat):Int)=w.1:=by omega
  have e2:((w.2.toNat:Nat):Int)=w.2:=by omega
  have ad:kq (bY (ws.map mm)) w.1.toNat w.2.toNat:=by
   unfold kq;rw[e1,e2];rcases Int.le_total w.1 w.2 with h|h
   ·left;rw[show(w.1,w.2)=mm w by simp only[mm,Prod.mk.injEq];omega];exact hm
   ·right;rw[show(w.2,w.1)=mm w by simp only[mm,Prod.mk.injEq];omega];exact hm
  exact⟨hc _ (by omega) _ (by omega) ad,hc _ (by omega) _ (by omega) (ad.elim .inr .inl)⟩
def fnd(ws:Gf)(a:Int):Gi:=ws.flatMap fun w=>(if w.1=a then [w.2]else [])++(if w.2=a then [w.1]else [])
def g8(c:Int)(m:Nat)(hm:m<=1000):∃l:Gi,ke [.int c,.int m]=.ok (.lst .own (iL l))/\l.length=m/\∀x∈l,0<=x/\x<998244353:=by
 suffices hh:qd (wV [some (.int c),some (.int m),none,none,none]) (fun v=>∃l:Gi,v=.lst .own (iL l)/\l.length=m/\∀x∈l,0<=x/\x<998244353) by obtain⟨v,h1,l,rfl,h2⟩:=hh;exact⟨l,aF h1,h2⟩
 unfold wV;have c1:=emod_nonneg c (show(998244353:Int)≠ 0 by decide);have c2:=emod_lt_of_pos c (show(0:Int)<998244353 by decide);refine eY (aG (v:=.int (c%998244353)) (by simp[aT])) ?_;simp only[s0_,s1_];refine eY (aG (v:=.lst .own []) (by simp)) ?_;simp only[s0_,s1_];refine io (fun k e=>∃z l x4,e=[some (.int c),some (.int m),some (.int z),some (.lst .own (iL l)),x4]/\l.length=k/\k<=m/\(0<=z/\z<998244353)/\∀x∈l,0<=x/\x<998244353) (cb (n:=m) (by simp) (by omega)) ⟨c%998244353,[],none,rfl,rfl,by omega,⟨c1,c2⟩,fun _ z=>nomatch z⟩ (fun k x e hx hP=>?_) (fun e hP=>?_)
 ·obtain⟨z,l,x4,rfl,hk,_,⟨z1,z2⟩,hl⟩:=hP;obtain⟨hkm,rfl⟩:=dD hx;have e1:eC (.int 2) (.int (k:Int))=.ok (.int (2*(k:Int))):=fJ (.inl ⟨by decide,by decide⟩);have e2:eC (.int 12553) (.int (k:Int))=.ok (.int (12553*(k:Int))):=fJ (.inl ⟨by decide,by decide⟩);have e3:eC (.int z) (.int (z+2*(k:Int)+40503))=.ok (.int (z*(z+2*(k:Int)+40503))):=fJ (.inl ⟨by omega,by omega⟩);generalize hw:(z*(z+2*(k:Int)+40503)+12553*(k:Int)+1)%998244353=w;have w1:0<=w:=by rw[<- hw];exact emod_nonneg _ (by decide)
  have w2:w<998244353:=by rw[<- hw];exact emod_lt_of_pos _ (by decide)
  refine⟨_,du rfl,?_⟩;simp only[s0_,s1_];refine cu (aG (v:=.int w) (by simp[e1,e2,e3,aT,hw])) ?_;simp only[s0_,s1_];refine b9 (d9 (v:=.int w) (xs:=iL l) (by simp) rfl (by simp) (by rw[ba];omega)) ⟨w,l++[w],_,by simp[iL];rfl,by simp[hk],by omega,⟨w1,w2⟩,fun x hx=>?_⟩;rcases mem_append.mp hx with hx|hx
  ·exact hl x hx
  ·simp at hx;subst hx;exact⟨w1,w2⟩
 ·obtain⟨z,l,x4,rfl,hk,_,_,hl⟩:=hP;rw[bD]at hk;exact kZ (lU rfl) ⟨l,rfl,hk,hl⟩
def tri:Nat->Nat
 |0=>0
 |k+1=>tri k+k
def qv{α:Type}(y:α)(xs:List α):PR.bZ xs.length y xs=xs++[y]:=by simp[PR.bZ]
def xj{n:Nat}(c:Int)(n1:1<=n)(n2:n<=10):∃ws:Gf,lq [.int n,.int c]=.ok (.lst .own (prL ws))/\eK n 55 ws:=by
 obtain⟨l,hl1,hl2,hl3⟩:=g8 c n (by omega)
 suffices hh:qd (wJ [some (.int n),some (.int c),none,none,none,none,none,none]) (fun v=>∃ws:Gf,v=.lst .own (prL ws)/\eK n 55 ws) by obtain⟨v,h1,ws,rfl,h2⟩:=hh;exact⟨ws,aF h1,h2⟩
 unfold wJ;have np:(0:Int)<n:=by omega
 have gl:∀(f:Fl) (k:Nat),k<n->aL (.lst f (iL l)) (.int (k:Int))=.ok (.int (gt l k)):=fun f k hk=>by simpa using cr (f:=f) (cs:=l) (i:=k) (by omega) (by omega)
 refine eY (aG (v:=.lst .own (iL l)) (by simp[hl1,aH])) ?_;simp only[s0_,s1_];refine eY (aG (v:=.lst .own []) (by simp)) ?_;simp only[s0_,s1_];refine io (fun k e=>∃od a,e=[some (.int n),some (.int c),some (.lst .own (iL l)),some (.lst .own (iL od)),a,none,none,none]/\od.Perm ((range k).map fun k:Nat=>(k:Int))) (cb (n:=n) (by simp) (by omega)) ⟨[],_,rfl,.refl _⟩ (fun k x e hx hP=>?_) (fun e hP=>?_)
 ·obtain⟨od,a,rfl,hp⟩:=hP;obtain⟨hk,rfl⟩:=dD hx;have hlen:od.length=k:=by simpa using hp.length_eq
  have b1:=emod_nonneg (gt l k) (show(k:Int)+1≠0 by omega);have b2:=emod_lt_of_pos (gt l k) (show(0:Int) <(k:Int)+1 by omega);refine⟨_,du rfl,b9 (s_ (v:=.int k) (xs:=iL od) (j:=gt l k%((k:Int)+1)) (n:=(gt l k%((k:Int)+1)).toNat) ?_ (by simp) rfl rfl rfl (by omega) (by rw[ba,hlen];omega) (by rw[ba];omega)) ⟨PR.bZ (gt l k%((k:Int)+1)).toNat (k:Int) od,some (.int (0+k)),?_,?_⟩⟩
  ·simp[gl _ k hk,aT (show(0:Int) <(k:Int)+1 by omega)]
  ·rw[Au];rfl
  ·refine(f9 _ _ _).trans ((hp.cons _).trans ?_);rw[List.range_succ,List.map_append];exact(List.perm_append_singleton _ _).symm
 obtain⟨od,a,rfl,hp⟩:=hP;rw[bD]at hp;have hlen:od.length=n:=by simpa using hp.length_eq
 have hod:od.Nodup:=hp.symm.nodup (Pairwise.map _ (fun a b h z=>h (by omega)) nodup_range);have ix:∀ (f:Fl) (i:Nat),i < n->aL (.lst f (iL od)) (.int i)=.ok (.int (od.getD i 0)):=fun f i hi=>gn _ (by omega) (by
  have:i<od.length:=by rw[hlen];exact hi
  simp[this])
 refine eY (aG (v:=.lst .own []) (by simp)) ?_;simp only[s0_,s1_];refine io (fun q e=>∃ws a,e=[some (.int n),some (.int c),some (.lst .own (iL l)),some (.lst .own (iL od)),a,some (.lst .own (prL ws)),none,none]/\PR.Tree n od (q+1) ws) (xs:=ck 1 (n-1)) ?_ ⟨[],_,rfl,PR.Tree.start hlen n1⟩ (fun q x e hx hP=>?_) (fun e hP=>?_)
 ·rw[xP (lo:=1) (hi:=n) (by simp) (by omega) (by omega)];rw[show((n:Int)-1).toNat=n-1 by omega]
 ·obtain⟨ws,a,rfl,T⟩:=hP;obtain⟨hq,rfl⟩:=dD hx;have lt:=T.ln;have kp:(0:Int)<1+(q:Int):=by omega
  have g1:∀f:Fl,aL (.lst f (iL l)) (.int (1+(q:Int)))=.ok (.int (gt l (q+1))):=fun f=>by
   have:=gl f (q+1) (by omega)
   rwa [show((q+1:Nat):Int)=1+(q:Int) by omega]at this
  have d16:cm (.int (gt l (q+1))) (.int 16)=.ok (.int (gt l (q+1) / 16)):=dN (by decide) (by decide);generalize gt l (q+1) / 16=z at d16;have b1:=emod_nonneg z (show(1:Int)+q≠0 by omega);have b2:=emod_lt_of_pos z kp;have i1:∀f:Fl,aL (.lst f (iL od)) (.int (1+(q:Int)))=.ok (.int (od.getD (q+1) 0)):=fun f=>by
   have:=ix f (q+1) (by omega)
   rwa [show((q+1:Nat):Int)=1+(q:Int) by omega]at this
  have i2:∀f:Fl,aL (.lst f (iL od)) (.int (z%(1+(q:Int))))=.ok (.int (od.getD (z%(1+(q:Int))).toNat 0)):=fun f=>by
   have:=ix f (z%(1+(q:Int))).toNat (by omega)
   rwa [show(((z%(1+(q:Int))).toNat:Nat):Int)=z%(1+(q:Int)) by omega]at this
  refine⟨_,du rfl,b9 (d9 (v:=prV (od.getD (q+1) 0,od.getD (z%(1+(q:Int))).toNat 0)) (xs:=prL ws) (by simp[i1,i2,g1,d16,aT kp,prV]) rfl (by simp) (by rw[jD];omega)) ⟨ws++[(od.getD (q+1) 0,od.getD (z%(1+(q:Int))).toNat 0)],some (.int (1+(q:Int))),by simp[prL],?_⟩⟩;rw[<- qv];exact T.more (j:=(z%(1+(q:Int))).toNat) hod (by omega) (by omega) (.inl rfl)
 obtain⟨ws,a,rfl,T⟩:=hP;rw[bD,show n-1+1=n by omega]at T;have Wh:=T.whole hp;have t10:∀k,k<=10->tri k<=45:=by decide
 refine io (fun k e=>∃ws a b d,e=[some (.int n),some (.int c),some (.lst .own (iL l)),some (.lst .own (iL od)),a,some (.lst .own (prL ws)),b,d]/\eK n (10+tri k) ws) (cb (n:=n) (by simp) (by omega)) ⟨ws,_,_,_,rfl,⟨Wh.rg,Wh.nd,Nat.le_trans Wh.ln n2,Wh.cn⟩⟩ (fun k x e hx hP=>?_) (fun e hP=>?_)
 ·obtain⟨ws,a,b,d,rfl,Wh⟩:=hP;obtain⟨hk,rfl⟩:=dD hx;refine⟨_,du rfl,?_⟩;simp only[s0_,s1_,Int.zero_add];have tk:=t10 k (by omega);refine jg (fun j e=>∃ws b d,e=[some (.int n),some (.int c),some (.lst .own (iL l)),some (.lst .own (iL od)),some (.int k),some (.lst .own (prL ws)),b,d]/\eK n (10+tri k+j) ws) (cb (n:=k) (by simp) (by omega)) ⟨ws,_,_,rfl,Wh⟩ (fun j y e hy hP=>?_) (fun e hP=>?_)
  ·obtain⟨ws,b,d,rfl,Wh⟩:=hP;obtain⟨hj,rfl⟩:=dD hy;have wl:=Wh.ln;have d512:cm (.int (gt l k)) (.int 512)=.ok (.int (gt l k / 512)):=dN (by decide) (by decide);have d8192:cm (.int (gt l k)) (.int 8192)=.ok (.int (gt l k / 8192)):=dN (by decide) (by decide);refine⟨_,du rfl,?_⟩;simp only[s0_,s1_,Int.zero_add];obtain⟨m,hm⟩:∃m:Bool,n9 (mOp pEq (mOp bC (aa 1) (GM 7)) (GM 3)) ((gm (mOp pEq (mOp bC (mOp aS (mOp cm (mOp aL (aa 2) (aa 4)) (GM 512)) (aa 6)) (aa 0)) (GM 1)) (mOp pEq (mOp bC (mOp cm (mOp aL (aa 2) (aa 4)) (GM 8192)) (GM 3)) (GM 0)))) [some (.int n),some (.int c),some (.lst .own (iL l)),some (.lst .own (iL od)),some (.int k),some (.lst .own (prL ws)),some (.int j),d]=.ok (.bl m):=by
    refine⟨decide (c%7=3) ||(decide ((gt l k / 512+(j:Int))%n=1)&&decide (gt l k / 8192%3=0)),?_⟩;by_cases h7:c%7=3
    ·simp[aT,h7,pOr]
    ·by_cases h8:(gt l k / 512+(j:Int))%n=1
     ·simp[aT,aT np,h7,pOr,gl _ k hk,d512,d8192,h8,vg]
     ·simp[aT,aT np,h7,pOr,gl _ k hk,d512,d8192,h8,vg]
   refine cu (aG (v:=.bl m) hm) ?_;simp only[s0_,s1_];by_cases hc:m=true/\((j:Int),(k:Int))∉ ws/\((k:Int),(j:Int))∉ ws
   ·obtain⟨c1,c2,c3⟩:=hc;refine lf (by simp[lK,c1,c2,c3]) (b9 (d9 (v:=prV ((j:Int),(k:Int))) (xs:=prL ws) (by simp;rfl) rfl (by simp) (by rw[jD];omega)) ⟨ws++[((j:Int),(k:Int))],some (.int j),some (.bl m),by simp[prL],?_⟩);rw[<- qv];exact Wh.more ⟨by omega,by omega⟩ ⟨by omega,by omega⟩ (by omega) c2 c3
   ·refine lg ?_ (b9 ay ⟨ws,some (.int j),some (.bl m),rfl,Wh.keep⟩);by_cases c1:m=true
    ·by_cases c2:((j:Int),(k:Int))∈ ws
     ·simp[lK,c1,c2]
     ·have c3:((k:Int),(j:Int))∈ ws:=by
       by_cases q:((k:Int),(j:Int))∈ ws
       ·exact q
       ·exact absurd ⟨c1,c2,q⟩ hc
      simp[lK,c1,c2,c3]
    ·simp[c1]
  ·obtain⟨ws,b,d,rfl,Wh⟩:=hP;rw[bD]at Wh;exact⟨ws,_,_,_,rfl,by rw[show 10+tri (k+1)=10+tri k+k by simp[tri];omega];exact Wh⟩
 ·obtain⟨ws,a,b,d,rfl,Wh⟩:=hP;rw[bD]at Wh;have tn:=t10 n n2;exact kZ (lU rfl) ⟨ws,rfl,⟨Wh.rg,Wh.nd,by have:=Wh.ln;omega,Wh.cn⟩⟩
def oV:Gn->PV
 |none=>.non
 |some s=>.int s
def oL(os:List (Gn)):Gs:=os.map oV
@[simp] def Fu(os:List (Gn)):(oL os).length=os.length:=by simp[oL]
@[simp] def Fv{p:Fl->Bool}{os:List (Gn)}:hasL p (oL os)=false:=by
 induction os with
 |nil=>rfl
 |cons o os ih=>cases o<;>simpa[oL,oV,hasL,PV.has]using ih
@[simp] def Ft{g:Fl->Fl}{os:List (Gn)}:mapL g (oL os)=oL os:=by
 induction os with
 |nil=>rfl
 |cons o os ih=>cases o<;>simpa[oL,oV,mapL,PV.GJ]using ih
@[simp] def Fx{os:List (Gn)}:PyData.canLayAll0 (dataL (oL os))=true:=by
 induction os with
 |nil=>rfl
 |cons o os ih=>cases o <;>(simp only[oL,map_cons,oV,dataL,PV.data,PyData.canLayAll0]at ih ⊢;rw[ih];rfl)
@[simp] def Fw{os:List (Gn)}:PyData.depthAll (dataL (oL os))=0:=by
 induction os with
 |nil=>rfl
 |cons o os ih=>cases o <;>(simp only[oL,map_cons,oV,dataL,PV.data,PyData.depthAll]at ih ⊢;rw[ih];rfl)
def OkS(tp:Int)(os:List (Gn)):Prop:=∀s,some s∈os->0<=s/\s<tp
def Fc(f:Fl):Prop:=f=.bor\/f=.frz
def Fc.le{f:Fl}(h:Fc f):f.Gv=f:=by rcases h with rfl|rfl<;>rfl
def Fc.tb{f:Fl}(h:Fc f):f.Gw=f:=by rcases h with rfl|rfl<;>rfl
def Fc.bo{f:Fl}(h:Fc f):f.Gy=f:=by rcases h with rfl|rfl<;>rfl
def Fc.nl{f:Fl}(h:Fc f):f.GB=false:=by rcases h with rfl|rfl<;>rfl
def Fc.of{f:Fl}(h:Fc f\/f=.own):Fc f.Gy:=by
 rcases h with(rfl|rfl)|rfl
 ·exact .inl rfl
 ·exact .inr rfl
 ·exact .inl rfl
def ie{n:Nat}{ps:Gf}{k:Nat}(hk:k<n):rk [net .frz n ps,.int k]=.ok (.lst .own (iL (nbL ps k))):=by
 refine aF (v:=.lst .own (iL (nbL ps k))) ?_;show oT [some (net .frz n ps),some (.int k)]=_;unfold oT;refine a5 ?_ (by simp);have e:aL (.tup ((range n).map fun k:Nat=>PV.tup (iL (nbL ps k)))) (.int k)=.ok (.tup (iL (nbL ps k))):=by
  have hk':((range n).map fun k:Nat=>PV.tup (iL (nbL ps k)))[k]?=some (.tup (iL (nbL ps k))):=by simp[hk]
  exact j_ rfl hk' (by simp[PV.has])
 simp[ap,a9,p1,dF,e,aN]
abbrev pnt(fl:Fl)(n:Nat)(ps:Gf):PV:=.obj fl 2 [4,0,7,8] [net .frz n ps,.int n,.int n,.bl false]
def r9{n:Nat}{ps:Gf}:ff [.obj .own 2 [4] [net .frz n ps],.int n,.int n,.bl false]=.ok (pnt .own n ps):=by refine bU (e:=[some (pnt .own n ps),some (.int n),some (.int n),some (.bl false)]) ?_ rfl;show gx [some (.obj .own 2 [4] [net .frz n ps]),some (.int n),some (.int n),some (.bl false)]=_;unfold gx;refine af (bj (v:=.int n) (ks:=[4]) (vs:=[net .frz n ps]) (by simp) rfl (by simp) rfl (by decide)) ?_;refine af (bj (v:=.int n) (ks:=[4,0]) (vs:=[net .frz n ps,.int n]) (by simp) rfl (by simp) rfl (by decide)) ?_;exact bj (v:=.bl false) (ks:=[4,0,7]) (vs:=[net .frz n ps,.int n,.int n]) (by simp) rfl (by simp) rfl (by decide)
def tW{n:Nat}{ps:Gf}:pX [.obj .own 2 [4] [net .frz n ps],.int n,.int n]=.ok (pnt .own n ps):=by refine bU (e:=[some (pnt .own n ps),some (.int n),some (.int n)]) ?_ rfl;show wC [some (.obj .own 2 [4] [net .frz n ps]),some (.int n),some (.int n)]=_;unfold wC;exact fu (xs:=[.int n,.int n,.bl false]) rfl (by simp) (by simp) (by simpa using r9 (n:=n) (ps:=ps)) (by simp[PV.has])
def sx{n:Nat}{ps:Gf}:BH [.obj .own 2 [] [],net .own n ps]=.ok (pnt .own n ps):=by refine bU (e:=[some (pnt .own n ps),some (net .frz n ps)]) ?_ rfl;show Cf [some (.obj .own 2 [] []),some (net .own n ps)]=_;unfold Cf;refine af (eT (v:=net .own n ps) rfl) ?_;simp only[s0_,s1_];refine af (bj (v:=net .frz n ps) (ks:=[]) (vs:=[]) (by simp[PV.GJ,Fl.Gx]) rfl (by simp[PV.GH,PV.has]) rfl (by decide)) ?_;simp only[s0_,s1_];have:=fu (env:=[some (.obj .own 2 [4] [net .frz n ps]),some (net .frz n ps)]) (m:=pX) (ms:=ae (mUn (ap 0) (aa 1)) (ae (mUn (ap 0) (aa 1)) ah)) (xs:=[.int n,.int n]) rfl (by simp[ap,a9]) (by simp) (by simpa using tW (n:=n) (ps:=ps)) (by simp[PV.has]);simpa[PV.GJ,Fl.Gx]using this
def j6(ps:Gf)(i:Nat):Gi:=(nbL ps i).filter fun x=>decide (x <(i:Int))
def v3{n:Nat}{ps:Gf}{i:Nat}(hi:i<n)(hl:(nbL ps i).length<=1000):BO [pnt .frz n ps,.int i]=.ok (.lst .own (iL (j6 ps i))):=by
 refine aF ?_;show Cn [some (pnt .frz n ps),some (.int i)]=_;unfold Cn j6;have be:=ie (ps:=ps) hi;refine a5 ?_ (by simp);have:=cR (env:=bE [1] 1 [some (pnt .frz n ps),some (.int i)]) (g:=tgN 1) (mc:=av (mOp pLt (aa 1) (aa 0))) (me:=aa 1) (fun x=>decide (x <(i:Int))) (fun x=>x) (nbL ps i) fun x hx=>⟨[some (.int i),some (.int x)],by simp[tgN,aB,bE],by simp,fun _=>by simp⟩
 rw[map_id']at this;exact aU (xs:=iL (nbL ps i)) (by simp[ap,a9,br,be,aH]) (by rw[ba];omega) this
def i5(l:Gi):Nat:=((range (l.length+1)).find? fun j:Nat=>!l.contains (j:Int)).getD 0
def n8(l:Gi):((i5 l:Nat):Int)∉ l/\∀j,j<i5 l->(j:Int)∈ l:=by
 have ex:∃j,j<l.length+1/\(j:Int)∉ l:=by
  apply Classical.byContradiction;intro no;have h:=qF (l:=(range (l.length+1)).map fun k:Nat=>(k:Int)) (l':=l) (Pairwise.map _ (fun a b h e=>h (by omega)) nodup_range) fun x hx=>by obtain⟨k,hk,rfl⟩:=mem_map.mp hx;exact Classical.byContradiction fun z=>no ⟨k,mem_range.mp hk,z⟩
  simp at h;omega
 unfold i5;cases e:(range (l.length+1)).find? fun j:Nat=>!l.contains (j:Int)with
 |none=>exfalso;obtain⟨j,h1,h2⟩:=ex;have:=List.find?_eq_none.mp e j (mem_range.mpr h1);simp at this;exact h2 this
 |some m=>simp only[Option.getD_some];have h1:=List.find?_some e;refine⟨by simpa using h1,fun j hj=>?_⟩;have h2:=(List.find?_range_eq_some.mp e).2.2 j hj;simpa using h2
def vP{l L':Gi}(h:∀x∈l,x∈L'):i5 l<=L'.length:=by
 have:=qF (l:=(range (i5 l)).map fun k:Nat=>(k:Int)) (l':=L') (Pairwise.map _ (fun a b h e=>h (by omega)) nodup_range) fun x hx=>by obtain⟨k,hk,rfl⟩:=mem_map.mp hx;exact h _ ((n8 l).2 k (mem_range.mp hk))
 simpa using this
def tQ(ps:Gf)(cs:Gi)(i:Nat):Int:=i5 ((j6 ps i).map fun o=>gt cs o.toNat)
def qM{ps:Gf}{i:Nat}{n:Nat}(rg:∀x∈ps,0<=x.1/\x.1<n/\0<=x.2/\x.2<n/\x.1≠x.2){o:Int}(h:o∈j6 ps i):0<=o/\o<n/\o<i/\((o,(i:Int))∈ ps \/((i:Int),o)∈ ps):=by
 obtain⟨h1,h2⟩:=mem_filter.mp h;have h3:=l_.mp h1;simp only[decide_eq_true_eq]at h2;rcases h3 with z|z
 ·have:=rg _ z;exact⟨this.1,this.2.1,h2,.inl z⟩
 ·have:=rg _ z;exact⟨this.2.2.1,this.2.2.2.1,h2,.inr z⟩
def y9{ps:Gf}{cs:Gi}{i n:Nat}(rg:∀x∈ps,0<=x.1/\x.1<n/\0<=x.2/\x.2<n/\x.1≠x.2)(hi:i<n):0<=tQ ps cs i/\tQ ps cs i<n:=by
 unfold tQ;have:=vP (l:=(j6 ps i).map fun o=>gt cs o.toNat) (L':=(range i).map fun k=>gt cs k) fun x hx=>by obtain⟨o,ho,rfl⟩:=mem_map.mp hx;have:=qM rg ho;exact mem_map.mpr ⟨o.toNat,mem_range.mpr (by omega),rfl⟩
 simp at this;omega
def xl{n:Nat}{ps:Gf}{cs:Gi}{i:Nat}(rg:∀x∈ps,0<=x.1/\x.1<n/\0<=x.2/\x.2<n/\x.1≠x.2){fc:Fl}(hfc:Fc fc)(hl:∀i,(nbL ps i).length<=1000)(hn:cs.length=n)(hi:i<n):BD [pnt .frz n ps,.lst fc (iL cs),.int i]=.ok (.int (tQ ps cs i)):=by
 refine aF ?_;show Cb [some (pnt .frz n ps),some (.lst fc (iL cs)),some (.int i),none,none]=_;unfold Cb tQ;have ha:=v3 (ps:=ps) hi (hl i);have ll:(j6 ps i).length<=1000:=Nat.le_trans (length_filter_le _ _) (hl i);refine af (aG (v:=.lst .own (iL ((j6 ps i).map fun o=>gt cs o.toNat))) ?_) ?_
 ·refine aU (xs:=iL (j6 ps i)) (by simp[bp,ha,aH]) (by rw[ba];omega) (eG (fun o=>gt cs o.toNat) (j6 ps i) fun o ho=>⟨[some (.lst fc (iL cs)),some (.int o)],by simp[tgN,aB,bE,hfc.bo],?_⟩);have:=qM rg ho;simp[hfc.le,cr (f:=fc) (cs:=cs) (i:=o) this.1 (by omega)]
 simp only[s0_,s1_];have tkl:((j6 ps i).map fun o=>gt cs o.toNat).length<=1000:=by rw[length_map];exact ll
 generalize(j6 ps i).map (fun o=>gt cs o.toNat)=tk at *;obtain⟨m1,m2⟩:=n8 tk;refine af (aG (v:=.int 0) (by simp)) ?_;simp only[s0_,s1_];have mb:i5 tk<100000:=by have:=vP (l:=tk) (L':=tk) fun x hx=>hx;omega
 refine rT (Fin:=fun e=>e=[some (pnt .frz n ps),some (.lst fc (iL cs)),some (.int i),some (.lst .own (iL tk)),some (.int (i5 tk))]) (fun m e=>∃c:Nat,e=[some (pnt .frz n ps),some (.lst fc (iL cs)),some (.int i),some (.lst .own (iL tk)),some (.int c)]/\m=i5 tk-c/\c<=i5 tk) (i5 tk) mb ⟨0,rfl,by omega,by omega⟩ (fun m e hP=>?_) fun e hF=>?_
 ·obtain⟨c,rfl,rfl,hc⟩:=hP;by_cases q:c=i5 tk
  ·subst q;exact .inl ⟨by simp;exact m1,rfl⟩
  ·have:=m2 c (by omega);exact .inr ⟨by simp;exact this,i5 tk-(c+1),[some (pnt .frz n ps),some (.lst fc (iL cs)),some (.int i),some (.lst .own (iL tk)),some (.int (c+1:Nat))],by omega,.inl (aG (v:=.int ((c+1:Nat):Int)) (by simp)),c+1,rfl,rfl,by omega⟩
 ·subst hF;exact lU rfl
abbrev lea(fl:Fl)(c:Nat)(n:Nat)(ps:Gf)(os:List (Gn))(st tp:Int):PV:=.obj fl c [3,4,5,6,0,7,8] [.int tp,net .frz n ps,.tup (oL os),.int st,.int n,.int (tp+1),.bl true]
def qA{x:Int}(h1:1<=x)(h2:x<=10):rq [.int x]=.ok .non:=by refine eX ⟨[some (.int x)],?_⟩;show wR [some (.int x)]=_;unfold wR;exact bA (by simp[show ¬x<1 by omega,show ¬10<x by omega]) ay
def pz{n:Nat}{ps:Gf}{os:List (Gn)}{tp:Int}{f gf:Fl}(hg:gf=.bor\/gf=.frz)(hf:f=.bor\/f=.frz)(hn:os.length=n)(ho:OkS tp os):Bz [net gf n ps,.lst f (oL os),.int tp]=.ok .non:=by
 have hf1:f.Gv=f:=by rcases hf with rfl|rfl<;>rfl
 have hf2:f.GB=false:=by rcases hf with rfl|rfl<;>rfl
 have hg1:gf.Gv=gf:=by rcases hg with rfl|rfl<;>rfl
 refine eX ?_;show Ends (B7 [some (net gf n ps),some (.lst f (oL os)),some (.int tp),none]);unfold B7;refine gq (bA (by simp[hf1,hg1,p1,bX,aN,ap,a9,hn]) ay) ?_;refine mD (fun _ e=>∃x,e=[some (net gf n ps),some (.lst f (oL os)),some (.int tp),x]) (fun r=>∃e,r=.next e) (xs:=oL os) (f6 (f:=f) (by simp[hf1]) hf2 (by simp) (by simp)) ⟨_,rfl⟩ (fun k x e hx hP=>?_) (fun e hP=>⟨e,rfl⟩);obtain⟨y,rfl⟩:=hP;simp only[oL,getElem?_map]at hx;obtain⟨o,ho1,rfl⟩:=map_eq_some_iff.mp hx;refine⟨_,du rfl,.inl ⟨_,.inl (bA ?_ ay),_,rfl⟩⟩;cases o with
 |none=>simp[oV,gO,PV.isNon]
 |some s=>have:=ho s (List.mem_of_getElem? ho1);simp[oV,gO,PV.isNon,show ¬s<0 by omega,show ¬tp<=s by omega]
def r_{cc n:Nat}{ps:Gf}{os:List (Gn)}{st tp:Int}:ff [.obj .own cc [3,4,5,6] [.int tp,net .frz n ps,.tup (oL os),.int st],.int n,.int (tp+1),.bl true]=.ok (lea .own cc n ps os st tp):=by refine bU (e:=[some (lea .own cc n ps os st tp),some (.int n),some (.int (tp+1)),some (.bl true)]) ?_ rfl;show gx [some (.obj .own cc [3,4,5,6] [.int tp,net .frz n ps,.tup (oL os),.int st]),some (.int n),some (.int (tp+1)),some (.bl true)]=_;unfold gx;refine af (bj (v:=.int n) (ks:=[3,4,5,6]) (vs:=[.int tp,net .frz n ps,.tup (oL os),.int st]) (by simp) rfl (by simp) rfl (by decide)) ?_;refine af (bj (v:=.int (tp+1)) (ks:=[3,4,5,6,0]) (vs:=[.int tp,net .frz n ps,.tup (oL os),.int st,.int n]) (by simp) rfl (by simp) rfl (by decide)) ?_;exact bj (v:=.bl true) (ks:=[3,4,5,6,0,7]) (vs:=[.int tp,net .frz n ps,.tup (oL os),.int st,.int n,.int (tp+1)]) (by simp) rfl (by simp) rfl (by decide)
def oi{cc n:Nat}{ps:Gf}{os:List (Gn)}{st bk:Int}{f:Fl}(hf:f.Gv.Gw=.bor\/f.Gv.Gw=.frz)(h1:1<=st)(h2:st<=10)(h3:1<=bk)(h4:bk<=10)(hn:os.length=n)(ho:OkS (st*bk) os):tD [.obj .own cc [] [],net .frz n ps,.lst f (oL os),.int st,.int bk]=.ok (lea .own cc n ps os st (st*bk)):=by refine bU (e:=[some (lea .own cc n ps os st (st*bk)),some (net .frz n ps),some (.lst f (oL os)),some (.int st),some (.int bk)]) ?_ rfl;show Ci [some (.obj .own cc [] []),some (net .frz n ps),some (.lst f (oL os)),some (.int st),some (.int bk)]=_;unfold Ci;have r1:=qA h1 h2;have r2:=qA h3 h4;have r3:=pz (ps:=ps) (gf:=.frz) (.inr rfl) hf hn ho;have mu:eC (.int st) (.int bk)=.ok (.int (st*bk)):=fJ (.inl ⟨by omega,by omega⟩);generalize st*bk=tp at *;refine af (fN (v:=.non) (by simp[r1,aH])) ?_;refine af (fN (v:=.non) (by simp[r2,aH])) ?_;refine af (bj (v:=.int tp) (ks:=[]) (vs:=[]) (by simp[mu]) rfl (by simp) rfl (by decide)) ?_;simp only[s0_,s1_];refine af (fN (v:=.non) (by simp[ap,a9,r3,aH])) ?_;refine af (eT (v:=net .frz n ps) rfl) ?_;simp only[s0_,s1_];refine af (bj (v:=net .frz n ps) (ks:=[3]) (vs:=[.int tp]) (by simp[PV.GJ,Fl.Gx]) rfl (by simp[PV.GH,PV.has]) rfl (by decide)) ?_;simp only[s0_,s1_];refine af (bj (v:=.tup (oL os)) (ks:=[3,4]) (vs:=[.int tp,net .frz n ps]) (by simp[p1,dw,aN]) rfl (by simp[PV.GH,PV.has]) rfl (by decide)) ?_;simp only[s0_,s1_];refine af (bj (v:=.int st) (ks:=[3,4,5]) (vs:=[.int tp,net .frz n ps,.tup (oL os)]) (by simp) rfl (by simp) rfl (by decide)) ?_;simp only[s0_,s1_];have:=fu (env:=[some (.obj .own cc [3,4,5,6] [.int tp,net .frz n ps,.tup (oL os),.int st]),some (net .frz n ps),some (.lst f (oL os)),some (.int st),some (.int bk)]) (m:=ff) (ms:=ae (mUn (ap 0) (aa 1)) (ae (mOp aS (mUn (ap 3) (aa 0)) (GM 1)) (ae (mC (.bl true)) ah))) (xs:=[.int n,.int (tp+1),.bl true]) rfl (by simp[ap,a9]) (by simp) (by simpa using r_ (cc:=cc) (n:=n) (ps:=ps) (os:=os) (st:=st) (tp:=tp)) (by simp[PV.has]);simpa[PV.GJ,Fl.Gx]using this
def qE(st tp c:Int):Bool:=decide (c≠tp)&&decide ((c+1)%st≠0)
def l9(ps:Gf)(st tp:Int)(cs:Gi)(i:Nat):Gi:=(((nbL ps i).map fun o=>gt cs o.toNat).filter (qE st tp)).map (· + 1)
def kD(ps:Gf)(os:List (Gn))(st tp:Int)(cs:Gi)(i:Nat):Int:=eQ (l9 ps st tp cs i ++(os.getD i none).toList++[tp])
def qw{f:Fl}{l:Gi}(h:l≠[]):e9 eQ (.lst f (iL l))=.ok (.int (eQ l)):=by unfold e9;simp only[aN,gF];rw[if_neg (by simpa using h)]
def vx{cc n:Nat}{ps:Gf}{os:List (Gn)}{st tp c:Int}(hs:0<st):tH [lea .frz cc n ps os st tp,.int c]=.ok (.bl (qE st tp c)):=by
 refine aF ?_;show Cp [some (lea .frz cc n ps os st tp),some (.int c)]=_;unfold Cp qE;refine a5 ?_ (by simp);by_cases h:c=tp
 ·simp[ap,a9,h]
 ·simp[ap,a9,h,aT hs]
def oj{fc:Fl}(hfc:Fc fc){cc n:Nat}{ps:Gf}{os:List (Gn)}{st tp:Int}{cs:Gi}{i:Nat}(hcc:cF cc=some tH)(hnb:∀x∈nbL ps i,0<=x/\x<n)(hl:(nbL ps i).length<=1000)(hs:0<st)(hn:cs.length=n)(ho:os.length=n)(hi:i<n):tz [lea .frz cc n ps os st tp,.lst fc (iL cs),.int i]=.ok (.int (kD ps os st tp cs i)):=by
 refine aF ?_;show B_ [some (lea .frz cc n ps os st tp),some (.lst fc (iL cs)),some (.int i),none,none]=_;unfold B_;have e3:=hfc.bo;have be:=ie (ps:=ps) hi;have l1:((nbL ps i).map fun o=>gt cs o.toNat).length<=1000:=by simpa using hl
 refine af (aG (v:=.lst .own (iL ((nbL ps i).map fun o=>gt cs o.toNat))) ?_) ?_
 ·refine aU (xs:=iL (nbL ps i)) (by simp[ap,a9,br,be,aH]) (by rw[ba];omega) (eG (fun o=>gt cs o.toNat) _ fun x hx=>⟨[some (.lst fc (iL cs)),some (.int x)],by simp[tgN,aB,bE,e3],?_⟩);obtain⟨h1,h2⟩:=hnb x hx;simp[hfc.le,cr (f:=fc) (cs:=cs) (i:=x) (by omega) (by omega)]
 simp only[s0_,s1_];have l2:(l9 ps st tp cs i).length<=1000:=by unfold l9;rw[length_map];exact Nat.le_trans (length_filter_le _ _) l1
 refine af (aG (v:=.lst .own (iL (l9 ps st tp cs i))) ?_) ?_
 ·unfold l9;exact aU (xs:=iL ((nbL ps i).map fun o=>gt cs o.toNat)) (by simp) (by rw[ba];omega) (cR (qE st tp) (· + 1) _ fun x hx=>⟨[some (lea .frz cc n ps os st tp),some (.int x)],by simp[tgN,aB,bE],by simp[hcc,vx hs,aH],fun _=>by simp⟩)
 simp only[s0_,s1_];have hio:i<os.length:=by omega
 have ix:aL (.tup (oL os)) (.int (i:Int))=.ok (oV os[i]):=j_ rfl (by simp[oL,hio]) (by cases os[i]<;>rfl);have eg:os.getD i none=os[i]:=by simp[hio]
 unfold kD;rw[eg];generalize os[i]=o at *;generalize l9 ps st tp cs i=of at *;cases o with
 |none=>
  refine af (bA (by simp[ap,a9,ix,oV,gO,PV.isNon]) ay) (a5 ?_);have pl:aS (.lst .lnt (iL of)) (.lst .own [.int tp])=.ok (.lst .own (iL (of++[tp]))):=by rw[iu (by decide) (by decide) (by simp;omega)];simp[iL]
  simp[ap,a9,pl,p1,qw (l:=of++[tp]) (by simp)]
 |some s=>
  refine af (gN (by simp[ap,a9,ix,oV,gO,PV.isNon]) (d9 (v:=.int s) (xs:=iL of) (by simp[ap,a9,ix,oV]) rfl (by simp) (by rw[ba];omega))) ?_;simp only[s0_,s1_];rw[show iL of++[PV.int s]=iL (of++[s]) by simp[iL]];refine a5 ?_ (by simp);have pl:aS (.lst .lnt (iL (of++[s]))) (.lst .own [.int tp])=.ok (.lst .own (iL (of++[s]++ [tp]))):=by rw[iu (by decide) (by decide) (by simp;omega)];simp[iL]
  have pm:=qw (f:=.own) (l:=of++[s]++ [tp]) (by simp);show _=Res.ok (PV.int (eQ (of++[s]++ [tp])));generalize of++[s]=of2 at *;simp[ap,a9,pl,p1];exact pm
def fs(n r:Nat):List (Gn):=(range n).map fun i=>if i=r then some 0 else none
def El{n r:Nat}:oL (fs n r)=(range n).map fun i=>oV (if i=r then some 0 else none):=by simp[oL,fs]
def oB{f:Fl}{n r:Nat}{ps:Gf}(hf:f=.frz\/f=.own)(n1:1<=n)(n10:n<=10)(hr:r<n):rA [.obj .own 5 [] [],net f n ps,.int r]=.ok (lea .own 5 n ps (fs n r) n n):=by
 refine bU (e:=[some (lea .own 5 n ps (fs n r) n n),some (net .frz n ps),some (.int r),some (.lst .frz (oL (fs n r)))]) ?_ rfl;show wX [some (.obj .own 5 [] []),some (net f n ps),some (.int r),none]=_;unfold wX;refine af (bA (by simp[ap,a9,show ¬(r:Int)<0 by omega,show ¬(n:Int)<= r by omega]) ay) ?_;refine af (aG (v:=.lst .own (oL (fs n r))) ?_ (by simp[PV.GH,PV.has]) rfl) ?_
 ·refine aU (xs:=ck 0 n) (cb (n:=n) (by simp[ap,a9]) (by omega)) (by rw[bD];omega) ?_;rw[El];refine bR (a:=fun k:Nat=>PV.int (0+(k:Int))) (f:=fun i=>oV (if i=r then some 0 else none)) (range n) fun k hk=>⟨[some (.int r),some (.int (0+k))],by simp[tgN,aB,bE],?_,?_,?_⟩
  ·by_cases e:k=r
   ·simp[e,oV]
   ·simp[e,oV,show ¬(k:Int)=r by omega]
  ·by_cases e:k=r<;>simp[e,oV,PV.has]
  ·by_cases e:k=r<;>simp[e,oV,PV.has]
 simp only[s0_,s1_];refine af (eT (v:=.lst .own (oL (fs n r))) rfl) ?_;simp only[s0_,s1_];refine af (eT (v:=net f n ps) rfl) ?_;have efz:(net f n ps).GJ Fl.Gx=net .frz n ps:=by rcases hf with rfl|rfl<;>simp[PV.GJ,Fl.Gx]
 simp only[s0_,s1_,efz];have li:=oi (cc:=5) (n:=n) (ps:=ps) (os:=fs n r) (st:=n) (bk:=1) (f:=.frz) (.inr rfl) (by omega) (by omega) (by decide) (by decide) (by simp [fs]) (fun s hs=>by
  simp only[fs,mem_map,mem_range]at hs;obtain⟨i,_,e⟩:=hs;split at e
  ·cases e;omega
  ·cases e)
 rw[Int.mul_one]at li;have:=fu (env:=[some (.obj .own 5 [] []),some (net .frz n ps),some (.int r),some (.lst .frz (oL (fs n r)))]) (m:=tD) (ms:=ae (aa 1) (ae (aa 3) (ae (mUn (ap 0) (aa 1)) (ae (GM 1) ah)))) (xs:=[net .frz n ps,.lst .frz (oL (fs n r)),.int n,.int 1]) rfl (by simp[ap,a9,Fl.Gv]) (by simp[PV.has]) (by simpa[Fl.Gw]using li) (by simp[PV.has]);simpa[PV.GJ,Fl.Gx]using this
structure OkM(n:Nat)(ms:Gi):Prop where
 ml:ms.length=n
 nd:ms.Nodup
 mr:∀x∈ms,0<=x/\x<=9
def ls(n:Nat)(ms:Gi):List (Gn):=ms.map fun x=>some ((9-x)*n)
def vD{n:Nat}{ps:Gf}{ms:Gi}(N:OkM n ms)(n10:n<=10):Bx [net .frz n ps,.lst .bor (iL ms)]=.ok .non:=by have lu:=N.ml;refine eX ?_;show Ends (B5 [some (net .frz n ps),some (.lst .bor (iL ms)),none]);unfold B5;refine gq (bA (by simp[p1,bX,aN,ap,a9,lu,Fl.Gv]) ay) ?_;refine gq (bA (by simp[p1,bX,aN,la (show ms.length<=1000 by omega),oG N.nd,Fl.Gv]) ay) ?_;refine mD (fun _ e=>∃x,e=[some (net .frz n ps),some (.lst .bor (iL ms)),x]) (fun r=>∃e,r=.next e) (xs:=iL ms) (f6 (f:=.bor) (by simp[Fl.Gv]) rfl (by simp) (by simp)) ⟨_,rfl⟩ (fun k x e hx hP=>?_) (fun e hP=>⟨e,rfl⟩);obtain⟨y,rfl⟩:=hP;obtain⟨z,hz,rfl⟩:=pU hx;have:=N.mr z (List.mem_of_getElem? hz);refine⟨_,du rfl,.inl ⟨_,.inl (bA ?_ ay),_,rfl⟩⟩;simp[show ¬z<0 by omega,show ¬(9:Int)<z by omega]
def sS{n:Nat}{ps:Gf}{ms:Gi}{fm:Fl}(hf:fm=.bor\/fm=.own)(N:OkM n ms)(n1:1<=n)(n10:n<=10):BF [.obj .own 6 [] [],net .own n ps,.lst fm (iL ms)]=.ok (lea .own 6 n ps (ls n ms) n (10*n)):=by
 refine bU (e:=[some (lea .own 6 n ps (ls n ms) n (10*n)),some (net .frz n ps),some (.lst fm (iL ms)),some (.lst .frz (oL (ls n ms)))]) ?_ rfl;show Cd [some (.obj .own 6 [] []),some (net .own n ps),some (.lst fm (iL ms)),none]=_;unfold Cd;have e1:fm.Gv.Gw=.bor:=by rcases hf with rfl|rfl<;>rfl
 have rn:=vD (ps:=ps) N n10;refine af (eT (v:=net .own n ps) rfl) ?_;have efz:(net .own n ps).GJ Fl.Gx=net .frz n ps:=by simp[PV.GJ,Fl.Gx]
 simp only[s0_,s1_,efz];refine af (fN (v:=.non) (by simp[e1,rn,aH,PV.GJ])) ?_;have eL:oL (ls n ms)=iL (ms.map fun x=>(9-x)*n):=by simp[oL,ls,iL,oV]
 refine af (aG (v:=.lst .own (oL (ls n ms))) ?_ (by simp[PV.GH,PV.has]) rfl) ?_
 ·rw[eL];refine aU (xs:=iL ms) (by simp) (by rw[ba,N.ml];omega) (eG (fun x=>(9-x)*n) ms fun x hx=>⟨[some (net .frz n ps),some (.int x)],by simp[tgN,aB,bE,PV.Gy,Fl.Gy,PV.GJ],?_⟩);have m:eC (.int (9-x)) (.int (n:Int))=.ok (.int ((9-x)*n)):=fJ (.inr ⟨by omega,by omega⟩);simp[ap,a9,m]
 simp only[s0_,s1_];refine af (eT (v:=.lst .own (oL (ls n ms))) rfl) ?_;simp only[s0_,s1_];have li:=oi (cc:=6) (n:=n) (ps:=ps) (os:=ls n ms) (st:=n) (bk:=10) (f:=.frz) (.inr rfl) (by omega) (by omega) (by decide) (by decide) (by simp [ls,N.ml]) (fun s hs=>by
  simp only[ls,mem_map]at hs;obtain⟨x,hx,e⟩:=hs;have:=N.mr x hx;cases e;have h1:0 <=(9-x)*(n:Int):=Int.mul_nonneg (by omega) (by omega);have h2:(9-x)*(n:Int)<= 9*n:=Int.mul_le_mul_of_nonneg_right (by omega) (by omega);omega)
 rw[Int.mul_comm (n:Int) 10]at li;have:=fu (env:=[some (.obj .own 6 [] []),some (net .frz n ps),some (.lst fm (iL ms)),some (.lst .frz (oL (ls n ms)))]) (m:=tD) (ms:=ae (aa 1) (ae (aa 3) (ae (mUn (ap 0) (aa 1)) (ae (GM 10) ah)))) (xs:=[net .frz n ps,.lst .frz (oL (ls n ms)),.int n,.int 10]) rfl (by simp[ap,a9,Fl.Gv]) (by simp[PV.has]) (by simpa[Fl.Gw]using li) (by simp[PV.has]);simpa[PV.GJ,Fl.Gx]using this
abbrev gro(fl:Fl)(n:Nat)(ps:Gf)(r:Nat):PV:=.obj fl 7 [9,4,10,0,7,8] [lea fl 5 n ps (fs n r) n n,net .frz n ps,.int r,.int n,.int (((n:Int)+1)*((n:Int)+1)),.bl true]
def sd{n:Nat}{ps:Gf}{r:Nat}:ff [.obj .own 7 [9,4,10] [lea .own 5 n ps (fs n r) n n,net .frz n ps,.int r],.int n,.int (((n:Int)+1)*((n:Int)+1)),.bl true]=.ok (gro .own n ps r):=by refine bU (e:=[some (gro .own n ps r),some (.int n),some (.int (((n:Int)+1)*((n:Int)+1))),some (.bl true)]) ?_ rfl;show gx [some (.obj .own 7 [9,4,10] [lea .own 5 n ps (fs n r) n n,net .frz n ps,.int r]),some (.int n),some (.int (((n:Int)+1)*((n:Int)+1))),some (.bl true)]=_;unfold gx;refine af (bj (v:=.int n) (ks:=[9,4,10]) (vs:=[lea .own 5 n ps (fs n r) n n,net .frz n ps,.int r]) (by simp) rfl (by simp) rfl (by decide)) ?_;refine af (bj (v:=.int (((n:Int)+1)*((n:Int)+1))) (ks:=[9,4,10,0]) (vs:=[lea .own 5 n ps (fs n r) n n,net .frz n ps,.int r,.int n]) (by simp) rfl (by simp) rfl (by decide)) ?_;exact bj (v:=.bl true) (ks:=[9,4,10,0,7]) (vs:=[lea .own 5 n ps (fs n r) n n,net .frz n ps,.int r,.int n,.int (((n:Int)+1)*((n:Int)+1))]) (by simp) rfl (by simp) rfl (by decide)
def v5{n:Nat}{ps:Gf}{r:Nat}{f:Fl}(hf:f=.frz\/f=.own)(n1:1<=n)(n10:n<=10)(hr:r<n):BA [.obj .own 7 [] [],net f n ps,.int r]=.ok (gro .own n ps r):=by
 refine bU (e:=[some (gro .own n ps r),some (net .frz n ps),some (.int r)]) ?_ rfl;show B8 [some (.obj .own 7 [] []),some (net f n ps),some (.int r)]=_;unfold B8;have fi:=oB (f:=.frz) (ps:=ps) (.inl rfl) n1 n10 hr;have mu:eC (.int ((n:Int)+1)) (.int ((n:Int)+1))=.ok (.int (((n:Int)+1)*((n:Int)+1))):=fJ (.inl ⟨by omega,by omega⟩);have ri:=sd (n:=n) (ps:=ps) (r:=r);generalize((n:Int)+1)*((n:Int)+1)=sq at mu ri;refine af (eT (v:=net f n ps) rfl) ?_;have efz:(net f n ps).GJ Fl.Gx=net .frz n ps:=by rcases hf with rfl|rfl<;>simp[PV.GJ,Fl.Gx]
 simp only[s0_,s1_,efz];refine af (bj (v:=lea .own 5 n ps (fs n r) n n) (ks:=[]) (vs:=[]) (by simp[fi,aH,PV.has,Fl.Gv,Fl.Gw]) rfl (by simp[PV.GH,PV.has]) rfl (by decide)) ?_;simp only[s0_,s1_];refine af (bj (v:=net .frz n ps) (ks:=[9]) (vs:=[lea .own 5 n ps (fs n r) n n]) (by simp[PV.GJ,Fl.Gv]) rfl (by simp[PV.GH,PV.has]) rfl (by decide)) ?_;simp only[s0_,s1_];refine af (bj (v:=.int r) (ks:=[9,4]) (vs:=[lea .own 5 n ps (fs n r) n n,net .frz n ps]) (by simp) rfl (by simp) rfl (by decide)) ?_;simp only[s0_,s1_];have:=fu (env:=[some (.obj .own 7 [9,4,10] [lea .own 5 n ps (fs n r) n n,net .frz n ps,.int r]),some (net .frz n ps),some (.int r)]) (m:=ff) (ms:=ae (mUn (ap 0) (aa 1)) (ae (mOp eC (mOp aS (mUn (ap 0) (aa 1)) (GM 1)) (mOp aS (mUn (ap 0) (aa 1)) (GM 1))) (ae (mC (.bl true)) ah))) (xs:=[.int n,.int sq,.bl true]) rfl (by simp[ap,a9,mu]) (by simp) (by simpa using ri) (by simp[PV.has]);simpa using this
def PT(n:Nat)(cs:Gi):Gf:=cs.map fun c=>(c / ((n:Int)+1),c%((n:Int)+1))
def FA(n:Nat)(cs:Gi):Gi:=cs.map (· / ((n:Int)+1))
def CN(n:Nat)(cs:Gi):Gi:=cs.map (· % ((n:Int)+1))
@[simp] def FW{n:Nat}{cs:Gi}:(FA n cs).length=cs.length:=by simp[FA]
@[simp] def Cv{n:Nat}{cs:Gi}:(CN n cs).length=cs.length:=by simp[CN]
def nea(ps:Gf)(fa:Gi)(i:Nat):Gi:=(nbL ps i).filter fun o=>decide (gt fa o.toNat=gt fa i-1)
def eld(ps:Gf)(r:Nat)(fa:Gi)(i:Nat):Gn:=if i=r then none else if(nea ps fa i).isEmpty then none else some (eQ (nea ps fa i))
def kA(n:Nat)(ps:Gf)(r:Nat)(cs:Gi)(i:Nat):Gi:=((range n).filter fun j=>decide (eld ps r (FA n cs) j=some (i:Int))).map (gt (CN n cs))
def dcn(n:Nat)(ps:Gf)(r:Nat)(cs:Gi)(i:Nat):Int:=min (n:Int) (1+(kA n ps r cs i).sum)
def tU(n:Nat)(ps:Gf)(r:Nat)(cs:Gi)(i:Nat):Int:=
 kD ps (fs n r) n n (FA n cs) i*((n:Int)+1)+(if kD ps (fs n r) n n (FA n cs) i=gt (FA n cs) i then dcn n ps r cs i else gt (CN n cs) i)
def nQ{n:Nat}{ps:Gf}{r:Nat}{cs:Gi}{fc:Fl}(hfc:Fc fc)(n10:n<=10)(hn:cs.length=n):BI [gro .frz n ps r,.lst fc (iL cs)]=.ok (.lst .own (prL (PT n cs))):=by
 refine aF ?_;show Cg [some (gro .frz n ps r),some (.lst fc (iL cs))]=_;unfold Cg;refine a5 ?_ (by simp[PV.GH,PV.has]);have e4:fc≠.mod:=by rcases hfc with rfl|rfl<;>decide
 rw[show prL (PT n cs)=cs.map fun c=>prV (c / ((n:Int)+1),c%((n:Int)+1)) by simp[prL,PT]];refine aU (xs:=iL cs) (by rcases hfc with rfl|rfl<;>simp) (by rw[ba];omega) (bR (a:=PV.int) (f:=fun c=>prV (c / ((n:Int)+1),c%((n:Int)+1))) cs fun c _=>⟨[some (gro .frz n ps r),some (.int c)],by simp[tgN,aB,bE,PV.GJ,Fl.Gy],?_,by simp,by simp⟩);have np:(0:Int) <(n:Int)+1:=by omega
 simp[ap,a9,aT np,dN np (show(n:Int)+1<1073741824 by omega),prV]
def qV{n:Nat}{ps:Gf}{r:Nat}{cs:Gi}{fc:Fl}(hfc:Fc fc)(n10:n<=10)(hn:cs.length=n):BB [gro .frz n ps r,.lst fc (iL cs)]=.ok (.lst .own (iL (FA n cs))):=by refine aF ?_;show B9 [some (gro .frz n ps r),some (.lst fc (iL cs))]=_;unfold B9;refine a5 ?_ (by simp);have pt:=nQ (ps:=ps) (r:=r) hfc n10 hn;rw[show iL (FA n cs)=(PT n cs).map fun x=>PV.int x.1 by simp[iL,FA,PT]];refine aU (xs:=prL (PT n cs)) (by rcases hfc with rfl|rfl<;>simp[dG,pt,aH,PV.has,Fl.Gv,Fl.Gw,PV.GJ]) (by simp[PT];omega) (bR (a:=prV) (f:=fun x=>PV.int x.1) (PT n cs) fun x _=>⟨[some (prV x)],by simp[tgN,aB,bE,cE],?_,by simp,by simp⟩);simp
def lA{n:Nat}{ps:Gf}{r:Nat}{cs:Gi}{fc:Fl}(hfc:Fc fc)(n10:n<=10)(hn:cs.length=n):BM [gro .frz n ps r,.lst fc (iL cs)]=.ok (.lst .own (iL (CN n cs))):=by refine aF ?_;show Cl [some (gro .frz n ps r),some (.lst fc (iL cs))]=_;unfold Cl;refine a5 ?_ (by simp);have pt:=nQ (ps:=ps) (r:=r) hfc n10 hn;rw[show iL (CN n cs)=(PT n cs).map fun x=>PV.int x.2 by simp[iL,CN,PT]];refine aU (xs:=prL (PT n cs)) (by rcases hfc with rfl|rfl<;>simp[dG,pt,aH,PV.has,Fl.Gv,Fl.Gw,PV.GJ]) (by simp[PT];omega) (bR (a:=prV) (f:=fun x=>PV.int x.2) (PT n cs) fun x _=>⟨[some (prV x)],by simp[tgN,aB,bE,cE],?_,by simp,by simp⟩);simp
def yD{f:Fl}{l:Gi}:k7 (.lst f (iL l))=.ok (if l.isEmpty then .non else .int (eQ l)):=by unfold k7;simp only[aN,gF]
def wp{n:Nat}{ps:Gf}{r:Nat}{fa:Gi}{i:Nat}(hnb:∀x∈nbL ps i,0<=x/\x<n)(hl:(nbL ps i).length<=1000)(hn:fa.length=n)(hi:i<n):BJ [gro .frz n ps r,.lst .bor (iL fa),.int i]=.ok (oV (eld ps r fa i)):=by
 refine aF ?_;show Ch [some (gro .frz n ps r),some (.lst .bor (iL fa)),some (.int i),none]=_;unfold Ch eld;by_cases q:i=r
 ·rw[if_pos q];exact cW (gN (by simp[ap,a9,q]) (a5 (by simp[oV]) (by simp[oV])))
 rw[if_neg q];refine af (bA (by simp[ap,a9,show ¬(i:Int)=r by omega]) ay) ?_;have be:=ie (ps:=ps) hi;refine af (aG (v:=.lst .own (iL (nea ps fa i))) ?_) ?_
 ·have hz:nea ps fa i=((nbL ps i).filter fun o=>decide (gt fa o.toNat=gt fa i-1)).map id:=by simp[nea]
  rw[hz];refine aU (xs:=iL (nbL ps i)) (by simp[ap,a9,br,be,aH]) (by rw[ba];omega) (cR (fun o=>decide (gt fa o.toNat=gt fa i-1)) id _ fun x hx=>⟨[some (.lst .bor (iL fa)),some (.int i),some (.int x)],by simp[tgN,aB,bE,Fl.Gy],?_,fun _=>by simp⟩);obtain⟨h1,h2⟩:=hnb x hx;simp[cr (f:=.bor) (cs:=fa) (i:=x) (by omega) (by omega),cr (f:=.bor) (cs:=fa) (i:=i) (by omega) (by omega)]
 simp only[s0_,s1_];generalize nea ps fa i=l;refine a5 ?_ (by cases l<;>simp[oV]);simp only[Er,jh,getElem?_cons_zero,getElem?_cons_succ,AI,Res.GL,PV.GJ,Fl.Gv,sO];rw[yD];cases l<;>simp[oV]
abbrev ELs(n:Nat)(ps:Gf)(r:Nat)(fa:Gi):List (Gn):=(range n).map (eld ps r fa)
def tN{n:Nat}{ps:Gf}{r:Nat}{cs:Gi}{fc:Fl}(hfc:Fc fc)(n10:n<=10)(hnb:∀i:Nat,∀x∈nbL ps i,0<=x/\x<n)(hl:∀i:Nat,(nbL ps i).length<=1000)(hn:cs.length=n):BL [gro .frz n ps r,.lst fc (iL cs)]=.ok (.lst .own (oL (ELs n ps r (FA n cs)))):=by
 refine aF ?_;show Ck [some (gro .frz n ps r),some (.lst fc (iL cs)),none]=_;unfold Ck;have fo:=qV (ps:=ps) (r:=r) hfc n10 hn;refine af (aG (v:=.lst .own (iL (FA n cs))) (by rcases hfc with rfl|rfl<;>simp[eF,fo,aH,PV.has,Fl.Gv,Fl.Gw,PV.GJ])) ?_;simp only[s0_,s1_];refine a5 ?_ (by simp[PV.GH,PV.has]);rw[show oL (ELs n ps r (FA n cs))=(range n).map fun i=>oV (eld ps r (FA n cs) i) by simp[oL]];refine aU (xs:=ck 0 n) (cb (n:=n) (by simp[ap,a9]) (by omega)) (by rw[bD];omega) (bR (a:=fun k:Nat=>PV.int (0+(k:Int))) (f:=fun i=>oV (eld ps r (FA n cs) i)) (range n) fun k hk=>⟨[some (gro .frz n ps r),some (.lst .bor (iL (FA n cs))),some (.int (0+k))],by simp[tgN,aB,bE,Fl.Gy,PV.GJ],?_,?_,?_⟩)
 ·have el:=wp (r:=r) (hnb k) (hl k) (show(FA n cs).length=n by simpa using hn) (mem_range.mp hk);simp[gu,el,aH,PV.has,Fl.Gv,Fl.Gw,PV.GJ];cases eld ps r (FA n cs) k<;>simp[oV,PV.has]
 ·cases eld ps r (FA n cs) k<;>simp[oV,PV.has]
 ·cases eld ps r (FA n cs) k<;>simp[oV,PV.has]
def mY(f:Nat->Int)(g:Nat->Gn):∀l:List Nat,ii (iL (l.map f)) (oL (l.map g))=l.map fun i=>PV.tup [.int (f i),oV (g i)]
 | []=>rfl
 |i::l=>by have:=mY f g l;simp only[iL,oL,map_cons,ii]at this ⊢;rw[this]
def eqO(o:Gn)(i:Int):pEq (oV o) (.int i)=.ok (.bl (decide (o=some i))):=by
 cases o with
 |none=>simp[oV,pEq,PV.data];rfl
 |some s=>simp[oV]
def gtR(l:Gi):(range l.length).map (gt l)=l:=by apply List.ext_getElem (by simp);intro i h1 h2;simp[gt,h2]
def w_{n:Nat}{cs:Gi}(hn:cs.length=n):∀i,i<n->0<=gt (CN n cs) i/\gt (CN n cs) i<=n:=fun i hi=>by have hm:=eR (far:=CN n cs) (i:=i) (by simpa using hn▸hi);obtain⟨c,_,e⟩:=mem_map.mp hm;rw[<- e];have:=emod_nonneg c (show(n:Int)+1≠0 by omega);have:=emod_lt_of_pos c (show(0:Int) <(n:Int)+1 by omega);omega
def oq{n:Nat}{ps:Gf}{r:Nat}{cs:Gi}{i:Nat}(hn:cs.length=n){x:Int}(hx:x∈kA n ps r cs i):0<=x/\x<=n:=by obtain⟨j,hj,rfl⟩:=mem_map.mp hx;exact w_ hn j (mem_range.mp (mem_filter.mp hj).1)
def vU{n:Nat}{ps:Gf}{r:Nat}{cs:Gi}{i:Nat}:(kA n ps r cs i).length<=n:=by have:=length_filter_le (fun j=>decide (eld ps r (FA n cs) j=some (i:Int))) (range n);simpa[kA]using this
def BT{n:Nat}{ps:Gf}{r:Nat}{cs:Gi}{i:Nat}{fc:Fl}(hfc:Fc fc)(n10:n<=10)(hnb:∀i:Nat,∀x∈nbL ps i,0<=x/\x<n)(hl:∀i:Nat,(nbL ps i).length<=1000)(hn:cs.length=n):BN [gro .frz n ps r,.lst fc (iL cs),.int i]=.ok (.int (dcn n ps r cs i)):=by
 refine aF ?_;show Cm [some (gro .frz n ps r),some (.lst fc (iL cs)),some (.int i),none]=_;unfold Cm;have co:=lA (ps:=ps) (r:=r) hfc n10 hn;have eo:=tN (ps:=ps) (r:=r) hfc n10 hnb hl hn;have zp:ii (iL (CN n cs)) (oL (ELs n ps r (FA n cs)))=(range n).map fun j=>PV.tup [.int (gt (CN n cs) j),oV (eld ps r (FA n cs) j)]:=by
  have:=mY (gt (CN n cs)) (eld ps r (FA n cs)) (range n)
  rwa [show(range n).map (gt (CN n cs))=CN n cs by have:=gtR (CN n cs);rw[Cv,hn]at this;exact this]at this
 refine af (aG (v:=.lst .own (iL (kA n ps r cs i))) ?_) ?_
 ·rw[show iL (kA n ps r cs i)=((range n).filter fun j=>decide (eld ps r (FA n cs) j=some (i:Int))).map fun j=>PV.int (gt (CN n cs) j) by simp[iL,kA]];refine aU (xs:=(range n).map fun j=>PV.tup [.int (gt (CN n cs) j),oV (eld ps r (FA n cs) j)]) ?_ (by simp;omega) (cB (a:=fun j=>PV.tup [.int (gt (CN n cs) j),oV (eld ps r (FA n cs) j)]) (f:=fun j=>.int (gt (CN n cs) j)) (p:=fun j=>decide (eld ps r (FA n cs) j=some (i:Int))) (range n) fun j hj=>⟨[some (.int i),some (.int (gt (CN n cs) j)),some (oV (eld ps r (FA n cs) j))],?_,?_,fun _=>⟨by simp,rfl,rfl⟩⟩)
  ·unfold qH;rcases hfc with rfl|rfl<;>simp[da,fM,co,eo,aH,PV.has,Fl.Gv,Fl.Gw,PV.GJ,dg,zp]
  ·cases eld ps r (FA n cs) j<;>rfl
  ·have ob:∀o:Gn,PV.GJ Fl.Gv (oV o)=oV o:=fun o=>by cases o<;>rfl
   simp[ob,eqO]
 simp only[s0_,s1_];have sm:lZ (.lst .lnt (iL (kA n ps r cs i)))=.ok (.int (kA n ps r cs i).sum):=ql (by have:=vU (n:=n) (ps:=ps) (r:=r) (cs:=cs) (i:=i);omega) fun x hx=>by have:=oq hn hx;omega
 refine a5 ?_ (by simp);simp[ap,a9,p1,sm,dcn,fE]
def za{n:Nat}{ps:Gf}{r:Nat}{cs:Gi}{i:Nat}{fc:Fl}(hfc:Fc fc)(n1:1<=n)(n10:n<=10)(hnb:∀i:Nat,∀x∈nbL ps i,0<=x/\x<n)(hl:∀i:Nat,(nbL ps i).length<=1000)(hn:cs.length=n)(hi:i<n):wd [gro .frz n ps r,.lst fc (iL cs),.int i]=.ok (.int (tU n ps r cs i)):=by
 refine aF ?_;show wY [some (gro .frz n ps r),some (.lst fc (iL cs)),some (.int i),none,none,none]=_;unfold wY;have fo:=qV (ps:=ps) (r:=r) hfc n10 hn;have co:=lA (ps:=ps) (r:=r) hfc n10 hn;have dc:=BT (ps:=ps) (r:=r) (i:=i) hfc n10 hnb hl hn;have fl:(FA n cs).length=n:=by simpa using hn
 have cl:(CN n cs).length=n:=by simpa using hn
 have ld:=oj (.inl rfl) (cc:=5) (os:=fs n r) (st:=n) (tp:=n) (cs:=FA n cs) rfl (hnb i) (hl i) (by omega) fl (by simp[fs]) hi;refine af (aG (v:=.lst .own (iL (FA n cs))) (by rcases hfc with rfl|rfl<;>simp[eF,fo,aH,PV.has,Fl.Gv,Fl.Gw,PV.GJ])) ?_;simp only[s0_,s1_];unfold tU;generalize kD ps (fs n r) n n (FA n cs) i=df at *;refine af (aG (v:=.int df) (by simp[ap,a9,ji,ld,aH,PV.has,Fl.Gv,Fl.Gw,PV.GJ])) ?_;simp only[s0_,s1_];have ic:∀f,aL (.lst f (iL (CN n cs))) (.int (i:Int))=.ok (.int (gt (CN n cs) i)):=fun f=>by simpa using cr (f:=f) (cs:=CN n cs) (i:=i) (by omega) (by omega)
 have ia:∀f,aL (.lst f (iL (FA n cs))) (.int (i:Int))=.ok (.int (gt (FA n cs) i)):=fun f=>by simpa using cr (f:=f) (cs:=FA n cs) (i:=i) (by omega) (by omega)
 refine af (aG (v:=.int (gt (CN n cs) i)) (by rcases hfc with rfl|rfl<;>simp[da,co,ic,aH,PV.has,Fl.Gv,Fl.Gw,PV.GJ])) ?_;simp only[s0_,s1_];have mu:eC (.int df) (.int ((n:Int)+1))=.ok (.int (df*((n:Int)+1))):=fJ (.inr ⟨by omega,by omega⟩);by_cases q:df=gt (FA n cs) i
 ·rw[if_pos q];refine af (gN (by simp[ia,q]) (aG (v:=.int (dcn n ps r cs i)) (by rcases hfc with rfl|rfl<;>simp[dM,dc,aH,PV.has,Fl.Gv,Fl.Gw,PV.GJ]))) ?_;simp only[s0_,s1_];exact a5 (by simp[ap,a9,mu]) (by simp)
 ·rw[if_neg q];refine af (bA (by simp[ia,q]) ay) ?_;exact a5 (by simp[ap,a9,mu]) (by simp)
def cQ(at_:Int):Int->Gi->Gi
 |_,[]=>[]
 |k,p::ps=>if p=at_ then k::cQ at_ (k+1) ps else cQ at_ (k+1) ps
def iG{at_:Int}:∀{k:Int}{ps:Gi}{x:Int},x∈cQ at_ k ps->k<=x/\x<k+ps.length/\ps[(x-k).toNat]?=some at_
 |_,[],x,h=>by simp[cQ]at h
 |k,p::ps,x,h=>by
  have key:x∈cQ at_ (k+1) ps->k<=x/\x<k+(p::ps).length/\(p::ps)[(x-k).toNat]?=some at_:=fun h=>by obtain⟨h1,h2,h3⟩:=iG h;refine⟨by omega,by simp only[length_cons];omega,?_⟩;rw[show(x-k).toNat=(x-(k+1)).toNat+1 by omega,getElem?_cons_succ];exact h3
  unfold cQ at h;split at h
  ·rename_i hp
   rcases mem_cons.mp h with rfl|h
   ·refine⟨by omega,by simp only[length_cons];omega,by simp[hp]⟩
   ·exact key h
  ·exact key h
def on{at_:Int}:∀{k:Int}{ps:Gi},(cQ at_ k ps).length<=ps.length
 |_,[]=>by simp[cQ]
 |k,p::ps=>by have:=on (at_:=at_) (k:=k+1) (ps:=ps);unfold cQ;split<;>simp<;>omega
def jK(cs l:Gi):Int:=(l.map fun k=>gt cs k.toNat).sum
def zc(n:Nat)(ps cs:Gi)(i:Nat):Int:=min (n:Int) (1+jK cs (cQ i 1 ps))
def m8{cs:Gi}:∀{l:Gi},(∀k∈l,0<=gt cs k.toNat)->0<=jK cs l
 | [],_=>by simp[jK]
 |k::l,h=>by have:=m8 (cs:=cs) (l:=l) fun x hx=>h x (mem_cons_of_mem _ hx);have h2:=h k mem_cons_self;simp only[jK,map_cons,List.sum_cons]at this ⊢;omega
def Tree(ps:Gi):Prop:=∀i (h:i<ps.length),0<=ps[i]/\ps[i]<= i
structure Gb(ps hs:Gi)(j:Nat):Prop where
 len:hs.length=ps.length+1
 eqn:∀i:Nat,i<=ps.length->gt hs i=1+jK hs (cQ i (j+1) (ps.drop j))
 bnd:∀i:Nat,i<=ps.length->1<=gt hs i/\gt hs i<=ps.length+1
 sum:(hs.take (j+1)).sum=ps.length+1
structure Ga(ps hs:Gi):Prop where
 len:hs.length=ps.length+1
 eqn:∀i:Nat,i<=ps.length->gt hs i=1+jK hs (cQ i 1 ps)
 bnd:∀i:Nat,i<=ps.length->1<=gt hs i/\gt hs i<=ps.length+1
abbrev cnt(fl:Fl)(ps:Gi):PV:=.obj fl 3 [11,0,7,8] [.tup (iL ps),.int (ps.length+1),.int (ps.length+2),.bl false]
def se{ps:Gi}:ff [.obj .own 3 [11] [.tup (iL ps)],.int (ps.length+1),.int (ps.length+2),.bl false]=.ok (cnt .own ps):=by refine bU (e:=[some (cnt .own ps),some (.int (ps.length+1)),some (.int (ps.length+2)),some (.bl false)]) ?_ rfl;show gx [some (.obj .own 3 [11] [.tup (iL ps)]),some (.int (ps.length+1)),some (.int (ps.length+2)),some (.bl false)]=_;unfold gx;refine af (bj (v:=.int (ps.length+1)) (ks:=[11]) (vs:=[.tup (iL ps)]) (by simp) rfl (by simp) rfl (by decide)) ?_;refine af (bj (v:=.int (ps.length+2)) (ks:=[11,0]) (vs:=[.tup (iL ps),.int (ps.length+1)]) (by simp) rfl (by simp) rfl (by decide)) ?_;exact bj (v:=.bl false) (ks:=[11,0,7]) (vs:=[.tup (iL ps),.int (ps.length+1),.int (ps.length+2)]) (by simp) rfl (by simp) rfl (by decide)
def tX{ps:Gi}:pX [.obj .own 3 [11] [.tup (iL ps)],.int (ps.length+1),.int (ps.length+2)]=.ok (cnt .own ps):=by refine bU (e:=[some (cnt .own ps),some (.int (ps.length+1)),some (.int (ps.length+2))]) ?_ rfl;show wC [some (.obj .own 3 [11] [.tup (iL ps)]),some (.int (ps.length+1)),some (.int (ps.length+2))]=_;unfold wC;exact fu (xs:=[.int (ps.length+1),.int (ps.length+2),.bl false]) rfl (by simp) (by simp) (by simpa using se (ps:=ps)) (by simp[PV.has])
def BS{f:Fl}{m:ME}{env:En}{ps:Gi}(h:m env=.ok (.lst f (iL ps)))(hf:f.GB=false):sP m env=.ok (enP 1 (iL ps)):=by unfold sP;rw[h];simp[hf,dg]
def pC{f:Fl}{ps:Gi}(T:Tree ps)(hl:ps.length<=9)(hf:f=.bor\/f=.frz):BG [.lst f (iL ps)]=.ok .non:=by
 have hf1:f.Gv=f:=by rcases hf with rfl|rfl<;>rfl
 have hf2:f.GB=false:=by rcases hf with rfl|rfl<;>rfl
 have key:∃e,Ce [some (.lst f (iL ps)),none,none]=.next e:=by
  unfold Ce;have s1:∀a:MS,mBr (av (mOp pGt (au (p1 bX) (ae (aa 0) ah)) (GM 9))) a aR [some (.lst f (iL ps)),none,none]=.next [some (.lst f (iL ps)),none,none]:=fun a=>bA (by simp[p1,bX,aN];omega) ay
  suffices hh:∃e,dh (sP (aa 0)) (tgT 2 (bF (tgN 1) (bF (tgN 2) fX))) (mBr ((gh (av (mOp pLt (aa 2) (GM 0))) (av (mOp pGe (aa 2) (aa 1))))) (a_ 2 (ae (mC (.str "a parent is no machine of a lower number than its kid")) ah)) aR) [some (.lst f (iL ps)),none,none]=.next e by obtain⟨e,h⟩:=hh;exact⟨e,af (s1 _) h⟩
  refine mD (fun _ e=>∃a b,e=[some (.lst f (iL ps)),a,b]) (fun r=>∃e,r=.next e) (xs:=enP 1 (iL ps)) (BS (f:=f) (by simp[hf1]) hf2) ⟨_,_,rfl⟩ (fun k x e hx hP=>?_) (fun e hP=>⟨e,rfl⟩);obtain⟨a,b,rfl⟩:=hP;rw[iO]at hx;obtain⟨y,hy,rfl⟩:=map_eq_some_iff.mp hx;obtain⟨v,hv,rfl⟩:=pU hy;obtain⟨hk,ev⟩:=List.getElem?_eq_some_iff.mp hv;have:=T k hk;rw[ev]at this;refine⟨[some (.lst f (iL ps)),some (.int (1+k)),some (.int v)],rfl,.inl ⟨_,.inl (bA ?_ ay),_,_,rfl⟩⟩;simp[show ¬v<0 by omega,show ¬1+(k:Int)<= v by omega]
 obtain⟨e,h⟩:=key;exact eX ⟨e,h⟩
def wv{f:Fl}{ps:Gi}(T:Tree ps)(hl:ps.length<=9)(hf:f.Gv.Gw=.bor\/f.Gv.Gw=.frz):BK [.obj .own 3 [] [],.lst f (iL ps)]=.ok (cnt .own ps):=by refine bU (e:=[some (cnt .own ps),some (.lst f (iL ps))]) ?_ rfl;show Cj [some (.obj .own 3 [] []),some (.lst f (iL ps))]=_;unfold Cj;have rf:=pC T hl hf;refine af (fN (v:=.non) (by simp[rf,aH])) ?_;refine af (bj (v:=.tup (iL ps)) (ks:=[]) (vs:=[]) (by simp[p1,dw,aN]) rfl (by simp[PV.GH,PV.has]) rfl (by decide)) ?_;have:=fu (env:=[some (.obj .own 3 [11] [.tup (iL ps)]),some (.lst f (iL ps))]) (m:=pX) (ms:=ae (mOp aS (au (p1 bX) (ae (aa 1) ah)) (GM 1)) (ae (mOp aS (au (p1 bX) (ae (aa 1) ah)) (GM 2)) ah)) (xs:=[.int (ps.length+1),.int (ps.length+2)]) rfl (by simp[p1,bX,aN]) (by simp) (by simpa using tX (ps:=ps)) (by simp[PV.has]);exact this
def oI{env:En}{g:TgM}{mc:MT}{me:ME}{at_:Int}:∀(ps:Gi) (k:Int),(∀j v:Int,v∈ps->∃e1,g (.tup [.int j,.int v]) env=some e1/\mc e1=.ok (decide (v=at_))/\me e1=.ok (.int j))->cI g mc me env (enP k (iL ps))=.ok (iL (cQ at_ k ps))
 | [],_,_=>rfl
 |p::ps,k,h=>by
  obtain⟨e1,h1,h2,h3⟩:=h k p mem_cons_self;have ih:=oI (at_:=at_) ps (k+1) fun j v hv=>h j v (mem_cons_of_mem _ hv);simp only[d8,enP,cI];have b:(PV.tup [.int k,.int p]).Gy=.tup [.int k,.int p]:=by simp[PV.Gy]
  rw[b,h1];simp only[h2,Res.GL];unfold cQ;by_cases hc:p=at_
  ·simp[hc,h3,ih]
  ·simp[hc,ih]
def tq{ps:Gi}{i:Int}(hl:ps.length<=1000):BP [cnt .frz ps,.int i]=.ok (.lst .own (iL (cQ i 1 ps))):=by refine aF ?_;show Co [some (cnt .frz ps),some (.int i)]=_;unfold Co;refine a5 (aU (xs:=enP 1 (iL ps)) ?_ (by rw[gH,ba];omega) (oI ps 1 fun j v _=>⟨[some (.int i),some (.int j),some (.int v)],by simp[tgT,bF,tgN,fX,aB,bE],by simp,by simp⟩)) (by simp);unfold yJ;simp[ap,a9,aN]
def Sm(cs:Gi):Prop:=∀c∈cs,0<=c/\c<=1000
def zj{ps cs:Gi}{i:Nat}{fc:Fl}(hfc:Fc fc)(hl:ps.length<=9)(hs:Sm cs)(hn:cs.length=ps.length+1):By [cnt .frz ps,.lst fc (iL cs),.int i]=.ok (.int (zc (ps.length+1) ps cs i)):=by
 refine aF ?_;show B6 [some (cnt .frz ps),some (.lst fc (iL cs)),some (.int i)]=_;unfold B6 zc jK;have ho:=tq (ps:=ps) (i:=(i:Int)) (by omega);have kl:=on (at_:=(i:Int)) (k:=1) (ps:=ps);have hc:aZ [1] 1 (cq (bH bp (aa 0) (ae (aa 2) ah))) (tgN 1) bT (mOp aL (aa 0) (aa 1)) [some (cnt .frz ps),some (.lst fc (iL cs)),some (.int i)]=.ok (.lst .own (iL ((cQ i 1 ps).map fun k=>gt cs k.toNat))):=by refine aU (xs:=iL (cQ i 1 ps)) (by simp[bp,ho,aH]) (by rw[ba];omega) (eG (fun k=>gt cs k.toNat) _ fun x hx=>⟨[some (.lst fc (iL cs)),some (.int x)],by simp[tgN,aB,bE,hfc.bo],?_⟩);obtain⟨h1,h2,_⟩:=iG hx;simp[hfc.le,cr (f:=fc) (cs:=cs) (i:=x) (by omega) (by omega)]
 have sm:lZ (.lst .own (iL ((cQ i 1 ps).map fun k=>gt cs k.toNat)))=.ok (.int ((cQ i 1 ps).map fun k=>gt cs k.toNat).sum):=ql (by simp;omega) fun x hx=>by obtain⟨k,hk,rfl⟩:=mem_map.mp hx;obtain⟨h1,h2,_⟩:=iG hk;have:=hs _ (eR (far:=cs) (i:=k.toNat) (by omega));omega
 refine a5 ?_ (by simp);simp only[iN,dY,fL,lr,hc];simp[ap,a9,p1,sm,fE]
def InS(sp:Int)(cs:Gi):Prop:=∀c∈cs,0<=c/\c<sp
structure Rl(o:PV)(n:Nat)(sp:Int)(al:Bool)(D:Gi->Nat->Int):Prop where
 le:o.GJ Fl.Gv=o:=by simp
 tb:o.GJ Fl.Gw=o:=by simp
 bo:o.GJ Fl.Gy=o:=by simp
 a0:ap 0 o=.ok (.int n):=by simp[ap,a9]
 a7:ap 7 o=.ok (.int sp):=by simp[ap,a9]
 a8:ap 8 o=.ok (.bl al):=by simp[ap,a9]
 s0:0<sp:=by omega
 n1:1<=n:=by omega
 n20:n<=20:=by omega
 due:∀fc cs k,Fc fc->cs.length=n->InS sp cs->k<n->sE aA (.ok [.lst fc (iL cs),.int k]) o=.ok (.int (D cs k))/\0<=D cs k/\D cs k<sp
 rd:∀r,sE aC r o=r.bind fun xs=>aP fR (o::xs):=by intro r;simp[aC]
 mv:∀r,sE aq r o=r.bind fun xs=>aP fS (o::xs):=by intro r;simp[aq]
 tu:∀r,sE aD r o=r.bind fun xs=>aP fT (o::xs):=by intro r;simp[aD]
def mvR(n:Nat)(D:Gi->Nat->Int)(cs:Gi):Gi:=((range n).filter fun i=>decide (D cs i≠gt cs i)).map fun i:Nat=>(i:Int)
def stR(n:Nat)(D:Gi->Nat->Int)(cs nm:Gi):Gi:=(range n).map fun i:Nat=>if nm.contains (i:Int)then D cs i else gt cs i
def oU(n:Nat)(al:Bool)(nm:Gi):Prop:=nm.Nodup/\(∀x∈nm,0<=x/\x<n)/\(al=true->nm.length<=1)/\nm.length<=1000
section
variable{o:PV}{n:Nat}{sp:Int}{al:Bool}{D:Gi->Nat->Int}{cs nm:Gi}{f fn:Fl}
def uk(r:Rl o n sp al D)(hn:cs.length=n)(hc:InS sp cs)(nm:Gi):(stR n D cs nm).length=n/\InS sp (stR n D cs nm):=by
 refine⟨by simp[stR],fun c hc'=>?_⟩;unfold stR at hc';obtain⟨i,hi,rfl⟩:=mem_map.mp hc';have hi:=mem_range.mp hi;split
 ·exact(r.due .bor cs i (.inl rfl) hn hc hi).2
 ·exact hc _ (eR (by omega))
def md:(mvR n D cs).length<=n:=by
 unfold mvR;rw[length_map];have:=length_filter_le (fun i=>decide (D cs i≠gt cs i)) (range n)
 rwa [List.length_range]at this
def gD(r:Rl o n sp al D)(hf:Fc f\/f=.own)(hn:cs.length=n)(hc:InS sp cs):fS [o,.lst f (iL cs)]=.ok (.lst .own (iL (mvR n D cs))):=by
 have n20:=r.n20;have fb:=Fc.of hf;refine aF ?_;show wS [some o,some (.lst f (iL cs))]=_;unfold wS mvR;refine a5 ?_ (by simp);refine aU (xs:=ck 0 n) (cb (n:=n) (by simp[r.le,r.a0]) (by omega)) (by rw[bD];omega) (pY (fun k=>decide (D cs k≠gt cs k)) (fun k=>(k:Int)) n fun k hk=>⟨[some o,some (.lst f.Gy (iL cs)),some (.int (0+k))],by simp[tgN,aB,bE,PV.Gy,r.bo],?_,fun _=>by simp⟩);generalize f.Gy=fc at *;have gk:aL (.lst fc (iL cs)) (.int (k:Int))=.ok (.int (gt cs k)):=by simpa using cr (f:=fc) (cs:=cs) (i:=k) (by omega) (by omega)
 simp[r.le,fb.le,(r.due fc cs k fb hn hc hk).1,gk]
def si(r:Rl o n sp al D)(hf:Fc fn)(hg:oU n al nm):wb [o,.lst fn (iL nm)]=.ok .non:=by
 obtain⟨hd,hr,ha,hl⟩:=hg;refine eX ?_;show Ends (wT [some o,some (.lst fn (iL nm)),none]);unfold wT;refine gq (bA ?_ ay) ?_
 ·cases al with
  |false=>simp[r.le,r.a8]
  |true=>have:=ha rfl;simp[r.le,r.a8];omega
 refine wo (fun _ e=>∃x,e=[some o,some (.lst fn (iL nm)),x]) (xs:=iL nm) (f6 (f:=fn) (by simp[hf.le]) hf.nl (by simp) (by simp)) ⟨_,rfl⟩ (fun k x e hx hP=>?_) (fun e hP=>?_)
 ·obtain⟨y,rfl⟩:=hP;obtain⟨m,hm,rfl⟩:=pU hx;obtain⟨h1,h2⟩:=hr m (List.mem_of_getElem? hm);refine⟨_,du rfl,b9 (bA ?_ ay) ⟨_,rfl⟩⟩;simp[r.le,r.a0,show ¬m<0 by omega,show ¬(n:Int)<= m by omega]
 ·obtain⟨y,rfl⟩:=hP;exact tL (bA (by simp[la hl,oG hd]) ay)
def Fc.call{f:Fl}(h:Fc f\/f=.own):Fc f.Gv.Gw:=by
 rcases h with(rfl|rfl)|rfl
 ·exact .inl rfl
 ·exact .inr rfl
 ·exact .inl rfl
def kM(r:Rl o n sp al D)(hf:Fc f\/f=.own)(hfn:Fc fn\/fn=.own)(hn:cs.length=n)(hc:InS sp cs)(hg:oU n al nm):fT [o,.lst f (iL cs),.lst fn (iL nm)]=.ok (.lst .own (iL (stR n D cs nm))):=by
 have n20:=r.n20;have fb:=Fc.of hf;refine aF ?_;show wW [some o,some (.lst f (iL cs)),some (.lst fn (iL nm))]=_;unfold wW stR;refine af (fN (v:=.non) (by simp[r.le,r.tb,si r (Fc.call hfn) hg,aH])) (a5 ?_);refine aU (xs:=ck 0 n) (cb (n:=n) (by simp[r.le,r.a0]) (by omega)) (by rw[bD];omega) (lC 0 (fun i:Nat=>if nm.contains (i:Int)then D cs i else gt cs i) n fun k hk=>⟨[some (.lst fn.Gy (iL nm)),some o,some (.lst f.Gy (iL cs)),some (.int (0+k))],by simp[tgN,aB,bE,PV.Gy,r.bo],?_⟩);generalize f.Gy=fc at *;have gk:∀f,aL (.lst f (iL cs)) (.int (k:Int))=.ok (.int (gt cs k)):=fun f=>by simpa using cr (f:=f) (cs:=cs) (i:=k) (by omega) (by omega)
 have dk:=(r.due fc cs k fb hn hc hk).1;by_cases q:nm.contains (k:Int)=true
 ·simp only[q,if_true];simp at q;simp[q,r.le,fb.le,dk,aH]
 ·simp only[q];simp at q;simp[q,gk]
def dnR(n:Nat)(D:Gi->Nat->Int)(cs nm:Gi):Gi:=(mvR n D cs).filter fun a=>nm.contains a
def rY(r:Rl o n sp al D)(hf:Fc f)(hfn:Fc fn)(hn:cs.length=n)(hc:InS sp cs)(hg:oU n al nm):qW [o,.lst f (iL cs),.lst fn (iL nm)]=.ok (.tup [.lst .own (iL (dnR n D cs nm)),.lst .own (iL (stR n D cs nm))]):=by
 have n20:=r.n20;have ml:=md (n:=n) (D:=D) (cs:=cs);refine aF ?_;show wE [some o,some (.lst f (iL cs)),some (.lst fn (iL nm)),none,none]=_;unfold wE;refine af (aG (v:=.lst .own (iL (stR n D cs nm))) (by simp[r.le,r.tb,r.tu,hf.le,hf.tb,hfn.le,hfn.tb,kM r (.inl hf) (.inl hfn) hn hc hg,aH])) ?_;simp only[s0_,s1_];refine af (aG (v:=.lst .own (iL (dnR n D cs nm))) ?_) ?_
 ·refine aU (xs:=iL (mvR n D cs)) (by simp[r.le,r.tb,r.mv,hf.le,hf.tb,gD r (.inl hf) hn hc,aH]) (by simp;omega) ?_;have:=cR (env:=bE [2] 1 [some o,some (.lst f (iL cs)),some (.lst fn (iL nm)),some (.lst .own (iL (stR n D cs nm))),none]) (g:=tgN 1) (mc:=av (mOp pIn (aa 1) (aa 0))) (me:=aa 1) (fun a=>nm.contains a) (fun a=>a) (mvR n D cs) fun x hx=>⟨[some (.lst fn (iL nm)),some (.int x)],by simp[tgN,aB,bE,PV.Gy,hfn.bo],by simp,fun _=>by simp⟩
  unfold dnR;rw[map_id']at this;exact this
 ·simp only[s0_,s1_];rfl
def b_(f:Fl)(p:Gi×Gi):PV:=.tup [.lst f (iL p.1),.lst f (iL p.2)]
def Dh(n:Nat)(D:Gi->Nat->Int):Gi->List (Gi)->List (Gi×Gi)
 |_,[]=>[]
 |cs,nm::tns=>(dnR n D cs nm,stR n D cs nm)::Dh n D (stR n D cs nm) tns
def nA{p:Fl->Bool}(h:p f=false)(ps:List (Gi×Gi)):hasL p (ps.map (b_ f))=false:=by
 induction ps with
 |nil=>simp
 |cons a l ih=>simp[ih,b_,h]
@[simp] def Di{g:Fl->Fl}(ps:List (Gi×Gi)):mapL g (ps.map (b_ f))=ps.map (b_ (g f)):=by
 induction ps with
 |nil=>simp
 |cons a l ih=>simp[ih,b_]
def qu{rs:Gi}(r:Rl o n sp al D)(hn:rs.length=n):fR [o,.lst f (iL rs)]=.ok (.lst .own (iL (rs.map (· % sp)))):=by have n20:=r.n20;refine aF ?_;show wL [some o,some (.lst f (iL rs))]=_;unfold wL;refine af (bA (by simp[r.le,r.a0,hn]) ay) (a5 ?_);refine aU (xs:=iL rs) (by simp) (by simp;omega) ?_;exact eG (· % sp) rs fun x hx=>⟨[some o,some (.int x)],by simp[tgN,aB,bE,PV.Gy,r.bo],by simp[r.le,r.a7,aT r.s0]⟩
def vH{rs:Gi}(r:Rl o n sp al D):InS sp (rs.map (· % sp)):=fun c hc=>by obtain⟨x,_,rfl⟩:=mem_map.mp hc;have:=r.s0;exact⟨emod_nonneg _ (by omega),emod_lt_of_pos _ r.s0⟩
end
abbrev lT(f:Fl)(size span:Int):PV:=.obj f 9 [0,7,8] [.int size,.int span,.bl false]
def uU{size span:Int}(h1:2<=size)(h2:size<=20)(h3:size<=span):BC [.obj .own 9 [] [],.int size,.int span]=.ok (lT .own size span):=by
 refine bU (e:=[some (lT .own size span),some (.int size),some (.int span)]) ?_ rfl;show Ca [some (.obj .own 9 [] []),some (.int size),some (.int span)]=_;unfold Ca;refine af (bA (by simp[show ¬size<2 by omega,show ¬20<size by omega]) ay) ?_;refine af (bA (by simp[show ¬span<size by omega]) ay) ?_;have ri:ff [.obj .own 9 [] [],.int size,.int span,.bl false]=.ok (lT .own size span):=by refine bU (e:=[some (lT .own size span),some (.int size),some (.int span),some (.bl false)]) ?_ rfl;show gx [some (.obj .own 9 [] []),some (.int size),some (.int span),some (.bl false)]=_;unfold gx;refine af (bj (v:=.int size) (ks:=[]) (vs:=[]) (by simp) rfl (by simp) rfl (by decide)) ?_;refine af (bj (v:=.int span) (ks:=[0]) (vs:=[.int size]) (by simp) rfl (by simp) rfl (by decide)) ?_;exact bj (v:=.bl false) (ks:=[0,7]) (vs:=[.int size,.int span]) (by simp) rfl (by simp) rfl (by decide)
 have:=fu (env:=[some (.obj .own 9 [] []),some (.int size),some (.int span)]) (m:=ff) (ms:=ae (aa 1) (ae (aa 2) (ae (mC (.bl false)) ah))) (xs:=[.int size,.int span,.bl false]) rfl (by simp) (by simp) (by simpa using ri) (by simp[PV.has]);simpa using this
def tR(sp:Int)(cs:Gi)(i:Nat):Int:=if i=0 then(if gt cs 0=gt cs (cs.length-1)then(gt cs 0+1)%sp else gt cs 0)else gt cs (i-1)
def yj{n:Nat}{sp:Int}{cs:Gi}{i:Nat}{fc:Fl}(hfc:Fc fc)(hn:cs.length=n)(hi:i<n)(hs:0<sp):we [lT .frz n sp,.lst fc (iL cs),.int i]=.ok (.int (tR sp cs i)):=by
 refine aF ?_;show wZ [some (lT .frz n sp),some (.lst fc (iL cs)),some (.int i)]=_;unfold wZ tR;by_cases h0:i=0
 ·subst h0;rw[if_pos rfl];have g0:aL (.lst fc (iL cs)) (.int 0)=.ok (.int (gt cs 0)):=cr (by omega) (by omega);have gl:aL (.lst fc (iL cs)) (.int ((n:Int)-1))=.ok (.int (gt cs (cs.length-1))):=by rw[cr (by omega) (by omega)];congr 3;omega
  refine af (bA (by simp) ay) ?_;by_cases hc:gt cs 0=gt cs (cs.length-1)
  ·rw[if_pos hc];exact cW (gN (by simp[ap,a9,hfc.le,g0,gl,<- hc]) (a5 (by simp[ap,a9,hfc.le,g0,aT hs])))
  ·rw[if_neg hc];exact af (bA (by simp[ap,a9,hfc.le,g0,gl,hc]) ay) (a5 (by simp[hfc.le,g0]))
 ·rw[if_neg h0];have gl:aL (.lst fc (iL cs)) (.int ((i:Int)-1))=.ok (.int (gt cs (i-1))):=by rw[cr (by omega) (by omega)];congr 3;omega
  exact cW (gN (by simp;omega) (a5 (by simp[hfc.le,gl])))
def y_{n:Nat}{sp:Int}{cs:Gi}{i:Nat}(hn:cs.length=n)(hc:InS sp cs)(hi:i<n)(hs:0<sp):0<=tR sp cs i/\tR sp cs i<sp:=by
 unfold tR;split
 ·split
  ·exact⟨emod_nonneg _ (by omega),emod_lt_of_pos _ hs⟩
  ·exact hc _ (eR (by omega))
 ·exact hc _ (eR (by omega))
def xS{n:Nat}{sp:Int}(h1:1<=n)(h20:n<=20)(hs:0<sp):Rl (lT .frz n sp) n sp false (tR sp) where
 due:=fun fc cs k hfc hn hc hk=>⟨by simp[aA,hfc.tb,yj hfc hn hk hs,aH],y_ hn hc hk hs⟩
def uH{n:Nat}{ps:Gf}(h1:1<=n)(h20:n<=20)(rg:∀x∈ps,0<=x.1/\x.1<n/\0<=x.2/\x.2<n/\x.1≠x.2)(hl:∀i,(nbL ps i).length<=1000):Rl (pnt .frz n ps) n n false (tQ ps) where
 due:=fun fc cs k hfc hn hc hk=>⟨by simp[aA,hfc.tb,xl rg hfc hl hn hk,aH],y9 rg hk⟩
def uI{ps:Gi}(hl:ps.length<=9):Rl (cnt .frz ps) (ps.length+1) ((ps.length:Int)+2) false (zc (ps.length+1) ps) where
 due:=fun fc cs k hfc hn hc hk=>by
  have sm:Sm cs:=fun c hc'=>by have:=hc c hc';omega
  refine⟨by simp[aA,hfc.tb,zj (i:=k) hfc hl sm hn,aH],?_⟩;have nn:=m8 (cs:=cs) (l:=cQ k 1 ps) fun j hj=>by obtain⟨h1,h2,_⟩:=iG hj;exact(hc _ (eR (far:=cs) (i:=j.toNat) (by omega))).1
  unfold zc;omega
def rB{n:Nat}{ps:Gf}{os:List (Gn)}{st tp:Int}{cs:Gi}{i:Nat}(ht:0<=tp)(ho:OkS tp os)(hn:cs.length=n)(hnb:∀x∈nbL ps i,0<=x/\x<n)(hc:∀c∈cs,0<=c):0<=kD ps os st tp cs i/\kD ps os st tp cs i<=tp:=by
 unfold kD;obtain⟨m1,m2⟩:=j2 (l:=l9 ps st tp cs i ++(os.getD i none).toList++[tp]) (by simp);have h2:=m2 tp (by simp);generalize eQ (l9 ps st tp cs i ++(os.getD i none).toList++[tp])=M at *;refine⟨?_,h2⟩;rcases mem_append.mp m1 with q|q
 ·rcases mem_append.mp q with q|q
  ·unfold l9 at q;obtain⟨c,hc1,rfl⟩:=mem_map.mp q;obtain⟨o,ho1,rfl⟩:=mem_map.mp (mem_filter.mp hc1).1;have:=hnb o ho1;have:=hc _ (eR (far:=cs) (i:=o.toNat) (by omega));omega
  ·have e:os.getD i none=some M:=by
    cases eo:os.getD i none with
    |none=>rw[eo]at q;cases q
    |some s=>rw[eo]at q;exact congrArg some (mem_singleton.mp q).symm
   have hm:some M∈os:=by
    rw[getD_eq_getElem?_getD]at e;cases e2:os[i]? with
    |none=>rw[e2]at e;cases e
    |some x=>rw[e2]at e;rw[<- show x=some M from e];exact List.mem_of_getElem? e2
   exact(ho M hm).1
 ·have:=mem_singleton.mp q;omega
def nC{cc n:Nat}{ps:Gf}{os:List (Gn)}{st tp:Int}(hcc:cc=4\/cc=5\/cc=6)(h1:1<=n)(h20:n<=20)(hst:0<st)(ht:0<=tp)(ho:OkS tp os)(hol:os.length=n)(hnb:∀i:Nat,∀x∈nbL ps i,0<=x/\x<n)(hl:∀i,(nbL ps i).length<=1000):Rl (lea .frz cc n ps os st tp) n (tp+1) true (kD ps os st tp) where
 due:=fun fc cs k hfc hn hc hk=>by have d:=oj (cc:=cc) (ps:=ps) (os:=os) (st:=st) (tp:=tp) (cs:=cs) (i:=k) hfc (by rcases hcc with rfl|rfl|rfl<;>rfl) (hnb k) (hl k) hst hn hol hk;have b:=rB (st:=st) (i:=k) ht ho hn (hnb k) fun c hc'=>(hc c hc').1;refine⟨?_,b.1,by omega⟩;rcases hcc with rfl|rfl|rfl<;>simp[aA,hfc.tb,d,aH]
 rd:=fun r=>by rcases hcc with rfl|rfl|rfl<;>simp[aC]
 mv:=fun r=>by rcases hcc with rfl|rfl|rfl<;>simp[aq]
 tu:=fun r=>by rcases hcc with rfl|rfl|rfl<;>simp[aD]
def v7{n r:Nat}(h:1<=n):OkS n (fs n r):=fun s hs=>by
 simp only[fs,mem_map,mem_range]at hs;obtain⟨i,_,e⟩:=hs;split at e
 ·cases e;omega
 ·cases e
def zb{n r:Nat}{ps:Gf}{cs:Gi}{i:Nat}(h1:1<=n)(hn:cs.length=n)(hi:i<n)(hnb:∀i:Nat,∀x∈nbL ps i,0<=x/\x<n)(hc:InS (((n:Int)+1)*((n:Int)+1)) cs):0<=tU n ps r cs i/\tU n ps r cs i <((n:Int)+1)*((n:Int)+1):=by
 have hfa:∀c∈FA n cs,0<=c:=fun c hc'=>by obtain⟨x,hx,rfl⟩:=mem_map.mp hc';exact Int.ediv_nonneg (hc x hx).1 (by omega)
 obtain⟨b1,b2⟩:=rB (ps:=ps) (os:=fs n r) (st:=n) (tp:=n) (cs:=FA n cs) (i:=i) (by omega) (v7 h1) (show(FA n cs).length=n by simpa using hn) (hnb i) hfa;have c1:=w_ hn i hi;have sn:0 <=(kA n ps r cs i).sum:=by
  have:∀l:Gi,(∀x∈l,0<=x)->0<=l.sum:=fun l=>by
   induction l with
   |nil=>simp
   |cons a l ih=>intro h;have:=ih fun x hx=>h x (mem_cons_of_mem _ hx);have:=h a mem_cons_self;simp;omega
  exact this _ fun x hx=>(oq hn hx).1
 unfold tU dcn;generalize kD ps (fs n r) n n (FA n cs) i=d at *;have m1:0<=d*((n:Int)+1):=Int.mul_nonneg b1 (by omega);have m2:d*((n:Int)+1)<= n*((n:Int)+1):=Int.mul_le_mul_of_nonneg_right b2 (by omega);have m3:((n:Int)+1)*((n:Int)+1)=n*((n:Int)+1)+((n:Int)+1):=by rw[Int.add_mul,Int.one_mul]
 split<;>omega
def xT{n r:Nat}{ps:Gf}(h1:1<=n)(h10:n<=10)(hnb:∀i:Nat,∀x∈nbL ps i,0<=x/\x<n)(hl:∀i:Nat,(nbL ps i).length<=1000):Rl (gro .frz n ps r) n (((n:Int)+1)*((n:Int)+1)) true (tU n ps r) where
 s0:=Int.mul_pos (by omega) (by omega)
 due:=fun fc cs k hfc hn hc hk=>⟨by simp[aA,hfc.tb,za (r:=r) hfc h1 h10 hnb hl hn hk,aH],zb h1 hn hk hnb hc⟩
structure KR(O o:PV)(n:Nat)(sp:Int)(al:Bool)(D:Gi->Nat->Int):Prop where
 own:O.has Fl.GD=false
 nl:O.GH=true
 fz:O.GJ Fl.Gx=o
 hh:o.has Fl.GD=false/\o.has Fl.GB=false/\o.has Fl.Gz=false
 la0:ap 0 (O.GJ Fl.Gv)=.ok (.int n)
 la8:ap 8 (O.GJ Fl.Gv)=.ok (.bl al)
 r:Rl o n sp al D
def nmL(u:Int)(n:Nat):Gi:=(range n).map fun a:Nat=>(u+3*(a:Int))%10
def A9(u:Int){n:Nat}(n10:n<=10):OkM n (nmL u n):=by
 refine⟨by simp[nmL],?_,fun x hx=>?_⟩
 ·unfold nmL;rw[Nodup,List.pairwise_iff_getElem];intro i j hi hj hij;have hj':j<n:=by simpa using hj
  simp;omega
 ·obtain⟨a,_,rfl⟩:=mem_map.mp hx;omega
def gb(k:Nat):Gi->Gi
 | []=>[]
 |x::xs=>(x / 4%((k:Int)+1))::gb (k+1) xs
def nR:∀(l:Gi) (k:Nat),(gb k l).length=l.length
 | [],_=>rfl
 |x::l,k=>by simp[gb,nR l]
def nS:∀(l:Gi) (k i:Nat) (h:i <(gb k l).length),0 <=(gb k l)[i]/\(gb k l)[i]<= k+i
 | [],_,i,h=>by simp[gb]at h
 |x::l,k,0,_=>by simp only[gb,List.getElem_cons_zero];have:=emod_nonneg (x / 4) (show(k:Int)+1≠0 by omega);have:=emod_lt_of_pos (x / 4) (show(0:Int) <(k:Int)+1 by omega);omega
 |x::l,k,i+1,h=>by have:=nS l (k+1) i (by simpa[gb]using h);simp only[gb,List.getElem_cons_succ];omega
def lD{env:En}{g:TgM}{me:ME}:∀(l:Gi) (k:Nat),(∀(j:Nat) (x:Int),x∈l->∃e1,g (.tup [.int j,.int x]) env=some e1/\me e1=.ok (.int (x / 4%((j:Int)+1))))->cI g bT me env (enP k (iL l))=.ok (iL (gb k l))
 | [],_,_=>rfl
 |x::l,k,h=>by
  obtain⟨e1,h1,h2⟩:=h k x mem_cons_self;have ih:=lD l (k+1) fun j v hv=>h j v (mem_cons_of_mem _ hv);simp only[d8,enP,cI];have b:(PV.tup [.int k,.int x]).Gy=.tup [.int k,.int x]:=by simp[PV.Gy]
  rw[b,h1];rw[show((k+1:Nat):Int)=(k:Int)+1 by omega]at ih;simp[h2,ih,gb]
def xN{kd m:Nat}(fr cell:Int)(hk:kd<6)(m1:1<=m)(m10:m<=10):∃O o n sp al D,qZ [.int kd,.int m,.int fr,.int cell]=.ok O/\KR O o n sp al D/\n<=11:=by
 obtain⟨ws,hw,Wh⟩:=xj (n:=m) cell m1 m10;have Gd:=Wh.good (by omega);have hin:=yP (fl:=.own) Gd m1 m10 (.inl rfl) fun S h0 hc=>zg Wh (by omega) S h0 hc;have rg:∀x∈bY (ws.map mm),0<=x.1/\x.1<m/\0<=x.2/\x.2<m/\x.1≠x.2:=fun x hx=>by obtain⟨w,hw,rfl⟩:=mem_map.mp ((cj _).mem_iff.mp hx);have:=Gd.rg w hw;simp only[mm];omega
 have hl:∀i,(nbL (bY (ws.map mm)) i).length<=1000:=fun i=>by
  unfold nbL;rw[(eA _).length_eq,length_append,length_map,length_map];have h1:=length_filter_le (fun x:Int×Int=>decide (x.2=(i:Int))) (bY (ws.map mm));have h2:=length_filter_le (fun x:Int×Int=>decide (x.1=(i:Int))) (bY (ws.map mm));have h3:(bY (ws.map mm)).length<64:=by rw[(cj _).length_eq,length_map];exact Gd.sz
  omega
 generalize bY (ws.map mm)=ps at *;have hnb:∀i:Nat,∀x∈nbL ps i,0<=x/\x<m:=fun i x hx=>by
  rcases l_.mp hx with q|q
  ·have:=rg _ q;omega
  ·have:=rg _ q;omega
 have np:(0:Int)<m:=by omega
 obtain⟨r,hr0⟩:∃r:Nat,fr%(m:Int)=r:=⟨(fr%(m:Int)).toNat,by have:=emod_nonneg fr (show(m:Int)≠ 0 by omega);omega⟩
 have hr:r<m:=by have:=emod_lt_of_pos fr np;omega
 have run:∀O,jx [some (.int kd),some (.int m),some (.int fr),some (.int cell)]=.ret O->qZ [.int kd,.int m,.int fr,.int cell]=.ok O:=fun O h=>aF h;have:kd=0\/kd=1\/kd=2\/kd=3\/kd=4\/kd=5:=by omega
 rcases this with rfl|rfl|rfl|rfl|rfl|rfl
 ·have d3:cm (.int fr) (.int 3)=.ok (.int (fr / 3)):=dN (by decide) (by decide);have p59:AH (.int 10) (.int 59)=.ok (.int 100000000000000000000000000000000000000000000000000000000000):=by rfl
  have m59:bC (.int fr) (.int 100000000000000000000000000000000000000000000000000000000000)=.ok (.int (fr%100000000000000000000000000000000000000000000000000000000000)):=aT (by decide);have b59:=emod_nonneg fr (show(100000000000000000000000000000000000000000000000000000000000:Int)≠ 0 by decide);generalize fr%100000000000000000000000000000000000000000000000000000000000=w at m59 b59;obtain⟨u,hu,hu0⟩:∃u:Int,nV (.lst .own [.int (fr%3),.int w]) (.int (fr / 3%2))=.ok (.int u)/\0<=u:=by
   have:fr / 3%2=0\/fr / 3%2=1:=by omega
   rcases this with e|e
   ·exact⟨fr%3,by rw[e];rfl,by omega⟩
   ·exact⟨w,by rw[e];rfl,b59⟩
  have pi:=uU (size:=(m:Int)+1) (span:=(m:Int)+1+u) (by omega) (by omega) (by omega);refine⟨lT .own ((m+1:Nat):Int) ((m:Int)+1+u),lT .frz ((m+1:Nat):Int) ((m:Int)+1+u),m+1,_,_,_,run _ ?_,⟨by simp[PV.has],by simp[PV.GH,PV.has],by simp[Fl.Gx],by simp[PV.has],by simp[ap,a9],by simp[ap,a9],xS (by omega) (by omega) (by omega)⟩,by omega⟩;unfold jx;exact cW (gN (by simp) (a5 (by simp[d3,p59,m59,aT,hu,pi,aH,PV.has]) (by simp[PV.GH,PV.has])))
 ·have pi:=sx (n:=m) (ps:=ps);refine⟨pnt .own m ps,pnt .frz m ps,m,_,_,_,run _ ?_,⟨by simp[PV.has],by simp[PV.GH,PV.has],by simp[Fl.Gx],by simp[PV.has],by simp[ap,a9],by simp[ap,a9],uH m1 (by omega) rg hl⟩,by omega⟩;unfold jx;exact af (bA (by simp) ay) (cW (gN (by simp) (a5 (by simp[hw,hin,pi,aH,PV.has]) (by simp[PV.GH,PV.has]))))
 ·obtain⟨l,hl1,hl2,hl3⟩:=g8 cell (m-1) (by omega);have hT:Tree (gb 0 l):=fun i h=>by have:=nS l 0 i h;omega
  have hp:(gb 0 l).length=m-1:=by rw[nR,hl2]
  have hci:=wv (f:=.own) hT (by omega) (.inl rfl);have rc:=uI (ps:=gb 0 l) (by omega);have hc:aZ [] 2 (oe (au (aP ke) (ae (aa 3) (ae (mOp nT (aa 1) (GM 1)) ah)))) (tgT 2 (bF (tgN 0) (bF (tgN 1) fX))) bT (mOp bC (mOp cm (aa 1) (GM 4)) (mOp aS (aa 0) (GM 1))) [some (.int (2:Nat)),some (.int m),some (.int fr),some (.int cell)]=.ok (.lst .own (iL (gb 0 l))):=by
   have cp:=lD (env:=bE [] 2 [some (.int (2:Nat)),some (.int m),some (.int fr),some (.int cell)]) (g:=tgT 2 (bF (tgN 0) (bF (tgN 1) fX))) (me:=mOp bC (mOp cm (aa 1) (GM 4)) (mOp aS (aa 0) (GM 1))) l 0 fun j x hx=>⟨[some (.int j),some (.int x)],by simp[tgT,bF,tgN,fX,aB,bE,cE],by simp[dN (i:=x) (show(0:Int)<4 by decide) (by decide),aT (i:=x / 4) (show(0:Int) <(j:Int)+1 by omega)]⟩
   refine aU (xs:=enP 0 (iL l)) ?_ (by rw[gH,ba];omega) cp;have nb:ke [.int cell,.int ((m:Int)-1)]=.ok (.lst .own (iL l)):=by rw[show(m:Int)-1=((m-1:Nat):Int) by omega];exact hl1
   unfold oe;simp[nb,aH,aN]
  generalize gb 0 l=qs at *;have e1:qs.length+1=m:=by omega
  refine⟨cnt .own qs,cnt .frz qs,qs.length+1,_,_,_,run _ ?_,⟨by simp[PV.has],by simp[PV.GH,PV.has],by simp[Fl.Gx],by simp[PV.has],by simp[ap,a9],by simp[ap,a9],rc⟩,by omega⟩;unfold jx;refine af (bA (by simp) ay) (af (bA (by simp) ay) (cW (gN (by simp) (a5 ?_ (by simp[PV.GH,PV.has])))));simp only[wj,dY,fL,hc];simp[hci,aH,PV.has]
 ·have pi:=oB (f:=.own) (ps:=ps) (.inr rfl) m1 m10 hr;refine⟨lea .own 5 m ps (fs m r) m m,lea .frz 5 m ps (fs m r) m m,m,_,_,_,run _ ?_,⟨by simp[PV.has],by simp[PV.GH,PV.has],by simp[Fl.Gx],by simp[PV.has],by simp[ap,a9],by simp[ap,a9],nC (.inr (.inl rfl)) m1 (by omega) np (by omega) (v7 m1) (by simp[fs]) hnb hl⟩,by omega⟩;unfold jx;exact af (bA (by simp) ay) (af (bA (by simp) ay) (af (bA (by simp) ay) (cW (gN (by simp) (a5 (by simp[hw,hin,aT np,hr0,pi,aH,PV.has]) (by simp[PV.GH,PV.has]))))))
 ·have N:=A9 fr m10;have pi:=sS (ps:=ps) (fm:=.own) (.inr rfl) N m1 m10;have os:OkS (10*(m:Int)) (ls m (nmL fr m)):=fun s hs=>by simp only[ls,mem_map]at hs;obtain⟨x,hx,e⟩:=hs;have:=N.mr x hx;cases e;have h1:0 <=(9-x)*(m:Int):=Int.mul_nonneg (by omega) (by omega);have h2:(9-x)*(m:Int)<= 9*m:=Int.mul_le_mul_of_nonneg_right (by omega) (by omega);omega
  have hc:aZ [2] 1 (b7 (ae (aa 1) ah)) (tgN 1) bT (mOp bC (mOp aS (aa 0) (mOp eC (GM 3) (aa 1))) (GM 10)) [some (.int (4:Nat)),some (.int m),some (.int fr),some (.int cell)]=.ok (.lst .own (iL (nmL fr m))):=
   aU (xs:=ck 0 m) (cb (n:=m) (by simp) (by omega)) (by rw [bD];omega) (lC 0 (fun a:Nat=>(fr+3 * (a:Int)) % 10) m fun k hk=>⟨[some (.int fr),some (.int (0+k))],by simp [tgN,aB,bE],by
    have m3:eC (.int 3) (.int (k:Int))=.ok (.int (3*(k:Int))):=fJ (.inl ⟨by decide,by decide⟩);simp[m3,aT]⟩)
  refine⟨lea .own 6 m ps (ls m (nmL fr m)) m (10*m),lea .frz 6 m ps (ls m (nmL fr m)) m (10*m),m,_,_,_,run _ ?_,⟨by simp[PV.has],by simp[PV.GH,PV.has],by simp[Fl.Gx],by simp[PV.has],by simp[ap,a9],by simp[ap,a9],nC (.inr (.inr rfl)) m1 (by omega) np (by omega) os (by simp[ls,nmL]) hnb hl⟩,by omega⟩;unfold jx;refine af (bA (by simp) ay) (af (bA (by simp) ay) (af (bA (by simp) ay) (af (bA (by simp) ay) (cW (gN (by simp) (a5 ?_ (by simp[PV.GH,PV.has])))))));simp only[wj,dY,fL,hc];simp[hw,hin,pi,aH,PV.has]
 ·have pi:=v5 (f:=.own) (ps:=ps) (.inr rfl) m1 m10 hr;refine⟨gro .own m ps r,gro .frz m ps r,m,_,_,_,run _ ?_,⟨by simp[PV.has],by simp[PV.GH,PV.has],by simp[Fl.Gx],by simp[PV.has],by simp[ap,a9],by simp[ap,a9],xT m1 m10 hnb fun i=>hl i⟩,by omega⟩;unfold jx;exact af (bA (by simp) ay) (af (bA (by simp) ay) (af (bA (by simp) ay) (af (bA (by simp) ay) (af (bA (by simp) ay) (a5 (by simp[hw,hin,aT np,hr0,pi,aH,PV.has]) (by simp[PV.GH,PV.has]))))))
def qN{f g:Fl}(l:Gi)(hl:l.length<=1000):q9 [.lst f (iL l),.lst g (iL l)]=.ok (.bl true):=by
 refine aF (v:=.bl true) ?_;show wI [some (.lst f (iL l)),some (.lst g (iL l))]=_;unfold wI;refine a5 ?_ (by simp);have hc:aZ [] 1 (cq (aa 0)) (tgN 0) bT (au (aP rj) (ae (aa 0) ah)) [some (.lst f (iL l)),some (.lst g (iL l))]=.ok (.lst .own ((l.map fun _=>true).map .bl)):=by refine aU (xs:=iL l) (by simp) (by rw[ba];omega) ?_;rw[map_map];exact bR (a:=PV.int) (f:=PV.bl ∘ fun _=>true) l fun x _=>⟨[some (.int x)],by simp[tgN,aB,bE,cE],by simp[uc,aH],by simp,by simp⟩
 have hb:sF mT (.lst .own ((l.map fun _=>true).map .bl))=.ok (.bl true):=by unfold sF;dsimp only;rw[t7];simp[mT]
 simp only[y2,iN,dY,fL,hc];simp only[Res.GL,p1,hb];simp[jd,vg]
def pO{a b:Gi}(ha:a.length<=1000)(hb:b.length<=1000):qX [.tup [.lst .bor (iL a),.lst .bor (iL b)],.lst .own (iL a),.lst .bor (iL b)]=.ok (.bl true):=by refine aF ?_;show wF [some (.tup [.lst .bor (iL a),.lst .bor (iL b)]),some (.lst .own (iL a)),some (.lst .bor (iL b))]=_;unfold wF;have i0:aL (.tup [.lst .bor (iL a),.lst .bor (iL b)]) (.int 0)=.ok (.lst .bor (iL a)):=j_ (k:=0) rfl rfl (by simp);have i1:aL (.tup [.lst .bor (iL a),.lst .bor (iL b)]) (.int 1)=.ok (.lst .bor (iL b)):=j_ (k:=1) rfl rfl (by simp);have l1:=qN (f:=.bor) (g:=.bor) a ha;have l2:=qN (f:=.bor) (g:=.bor) b hb;exact af (bA (by simp[jd]) ay) (a5 (by simp[i0,i1,l1,l2,aH]))
def nmF(al:Bool)(n:Nat)(z:Int)(mv:Gi):Gi:=
 if al then(if z%5=4 then replicate (z / 50%2).toNat (z / 5%n)else [gt mv (z / 5%mv.length).toNat])
 else((range n).map fun k:Nat=>(n:Int)-1+(k:Int)*(-1)).filter fun a=>decide ((z+gt mv 0)%65537*48271%65537 / 2 ^ a.toNat%2=1)
def nX{al:Bool}{n:Nat}{z:Int}{mv:Gi}(n1:1<=n)(n20:n<=20)(hm:mv≠[])(hr:∀x∈mv,0<=x/\x<n):oU n al (nmF al n z mv):=by
 have ml:0<mv.length:=length_pos_iff.mpr hm;unfold nmF;cases al with
 |true=>
  rw[if_pos rfl];split
  ·have:z / 50%2=0\/z / 50%2=1:=by omega
   have a1:=emod_nonneg (z / 5) (show(n:Int)≠ 0 by omega);have a2:=emod_lt_of_pos (z / 5) (show(0:Int)<n by omega);rcases this with e|e<;>rw[e]<;>refine⟨by simp,fun x hx=>?_,fun _=>by simp,by simp⟩
   ·simp at hx
   ·simp at hx;omega
  ·have a1:=emod_nonneg (z / 5) (show(mv.length:Int)≠ 0 by omega);have a2:=emod_lt_of_pos (z / 5) (show(0:Int)<mv.length by omega);refine⟨by simp,fun x hx=>?_,fun _=>by simp,by simp⟩;simp at hx;subst hx;exact hr _ (eR (by omega))
 |false=>
  rw[if_neg (by decide)];refine⟨?_,fun x hx=>?_,fun z=>(nomatch z),?_⟩
  ·refine Nodup.sublist List.filter_sublist ?_;exact Pairwise.map _ (fun a b h e=>h (by omega)) nodup_range
  ·have:=(mem_filter.mp hx).1;obtain⟨k,hk,rfl⟩:=mem_map.mp this;have:=mem_range.mp hk;omega
  ·refine Nat.le_trans (length_filter_le _ _) ?_;simp;omega
def nZ{al:Bool}{n:Nat}{z:Int}{mv:Gi}{f:Fl}(n1:1<=n)(n20:n<=20)(hf:Fc f)(hm:mv≠[]):oE [.bl al,.int n,.int z,.lst f (iL mv)]=.ok (.lst .own (iL (nmF al n z mv))):=by
 have ml:0<mv.length:=length_pos_iff.mpr hm;have np:(0:Int)<n:=by omega
 have mp:(0:Int)<mv.length:=by omega
 have d5:cm (.int z) (.int 5)=.ok (.int (z / 5)):=dN (by decide) (by decide);have d50:cm (.int z) (.int 50)=.ok (.int (z / 50)):=dN (by decide) (by decide);refine aF ?_;show wN [some (.bl al),some (.int n),some (.int z),some (.lst f (iL mv)),none]=_;unfold wN nmF;cases al with
 |true=>
  rw[if_pos rfl];by_cases q:z%5=4
  ·rw[if_pos q];have e2:z / 50%2=0\/z / 50%2=1:=by omega
   refine cW (gN (by simp[aT,q]) (a5 ?_));simp only[lr,wm,dY,fL,jh,Es];rcases e2 with e|e<;>simp[d5,d50,aT,aT np,e,vf,dg,uJ,PV.has,iL]
  ·rw[if_neg q];have a1:=emod_nonneg (z / 5) (show(mv.length:Int)≠ 0 by omega);have a2:=emod_lt_of_pos (z / 5) mp;have ix:aL (.lst f (iL mv)) (.int (z / 5%mv.length))=.ok (.int (gt mv (z / 5%mv.length).toNat)):=cr a1 a2;exact af (bA (by simp[aT,q]) ay) (cW (gN (by simp) (a5 (v:=.lst .own [.int (gt mv (z / 5%mv.length).toNat)]) (by simp[d5,hf.le,aT mp,ix]))))
 |false=>
  rw[if_neg (by decide)];have i0:aL (.lst f (iL mv)) (.int 0)=.ok (.int (gt mv 0)):=cr (by omega) (by omega);have b1:=emod_nonneg (z+gt mv 0) (show(65537:Int)≠ 0 by decide);have b2:=emod_lt_of_pos (z+gt mv 0) (show(0:Int)<65537 by decide);have mu:eC (.int ((z+gt mv 0)%65537)) (.int 48271)=.ok (.int ((z+gt mv 0)%65537*48271)):=fJ (.inr ⟨by decide,by decide⟩);generalize hw:(z+gt mv 0)%65537*48271%65537=w;refine af (bA (by simp) ay) (af (bA (by simp) ay) (af (aG (v:=.int w) (by simp[hf.le,i0,aT,mu,hw])) (a5 ?_)));simp only[s0_,s1_];refine aU (xs:=iL ((range n).map fun k:Nat=>(n:Int)-1+(k:Int)*(-1))) ?_ (by simp;omega) ?_
  ·unfold qI;simp[show(n:Int)<= 1000000 by omega,rZ,iL]
  ·have:=cR (env:=bE [4] 1 [some (.bl false),some (.int n),some (.int z),some (.lst f (iL mv)),some (.int w)]) (g:=tgN 1) (mc:=av (mOp pEq (mOp bC (mOp vd (aa 0) (aa 1)) (GM 2)) (GM 1))) (me:=aa 1) (fun a=>decide (w / 2 ^ a.toNat%2=1)) (fun a=>a) ((range n).map fun k:Nat=>(n:Int)-1+(k:Int)*(-1)) fun x hx=>by
    have h0:0<=x:=by obtain⟨k,hk,rfl⟩:=mem_map.mp hx;have:=mem_range.mp hk;omega
    have sh:vd (.int w) (.int x)=.ok (.int (w / 2 ^ x.toNat)):=by simp[vd,eD,h0]
    exact⟨[some (.int w),some (.int x)],by simp[tgN,aB,bE,PV.Gy],by simp[sh,aT],fun _=>by simp⟩
   rw[map_id']at this;exact this
def gR{a:MS}{b:MV}{env e:En}{x:Option (PV×En)}(h:a env=.next e)(h2:b e=x):jI a b env=x:=by unfold jI;rw[h];exact h2
def lS{n c:Nat}{m:MV}{args:Gs}{r o:PV}{e:En}(h:m (args.map some++replicate (n-args.length) none)=some (r,e))(h2:e[c]?=some (some o)):jR n c m args=some (r,o):=by unfold jR;rw[h];simp only[h2]
section
variable{o:PV}{n:Nat}{sp:Int}{al:Bool}{D:Gi->Nat->Int}{cs nm dr:Gi}{f fn:Fl}{kk:Nat}
def NM(al:Bool)(n:Nat)(dr:Gi)(t:Nat)(mv:Gi):Gi:=nmF al n (gt dr (t%dr.length)) mv
def yR{mv hs:Gi}{t:Nat}(r:Rl o n sp al D)(hk:1000<=kk)(hm:mv≠[])(hd:dr≠[])(hh:hs.length<10000000) :
  qY [.int t,.lst .own (iL mv),.box kk [.lst .own (iL hs)],.lst .frz (iL dr),o]=some (.lst .own (iL (NM al n dr t mv)),.box kk [.lst .own (iL (hs++[(t:Int)]))]):=by
 have dl:0<dr.length:=length_pos_iff.mpr hd;have dp:(0:Int)<dr.length:=by omega
 refine lS (e:=[some (.int t),some (.lst .own []),some (.box kk [.lst .own (iL (hs++[(t:Int)]))]),some (.lst .frz (iL dr)),some o,none]) ?_ rfl;show wH [some (.int t),some (.lst .own (iL mv)),some (.box kk [.lst .own (iL hs)]),some (.lst .frz (iL dr)),some o,none]=_;unfold wH;refine gR (e:=[some (.int t),some (.lst .own (iL mv)),some (.box kk [.lst .own (iL (hs++[(t:Int)]))]),some (.lst .frz (iL dr)),some o,none]) ?_ ?_
 ·unfold kz;simp only[getElem?_cons_zero,getElem?_cons_succ,s0_,s1_,hk,if_true];rw[d9 (v:=.int t) (xs:=iL hs) (by simp) rfl (by simp) (by simpa using hh)];simp only[getElem?_cons_zero,getElem?_cons_succ,s0_,s1_];simp[iL]
 have a1:(t:Int)%(dr.length:Int)=((t%dr.length:Nat):Int):=by omega
 have a2:t%dr.length<dr.length:=Nat.mod_lt _ dl;have ix:aL (.lst .frz (iL dr)) (.int ((t:Int)%dr.length))=.ok (.int (gt dr (t%dr.length))):=by rw[a1];exact(cr (f:=.frz) (cs:=dr) (i:=((t%dr.length:Nat):Int)) (by omega) (by omega)).trans (by rw[toNat_natCast])
 have nk:=nZ (f:=.bor) (al:=al) (z:=gt dr (t%dr.length)) r.n1 r.n20 (.inl rfl) hm;refine gR (aG (v:=.lst .own (iL (NM al n dr t mv))) (by simp[r.le,r.a8,r.a0,Fl.Gv,aT dp,ix,nk,aH,NM])) ?_;simp only[s0_,s1_];refine gR (oJ (xs:=iL mv) rfl) ?_;simp only[s0_,s1_];rfl
def drR(n:Nat)(D:Gi->Nat->Int)(N:Nat->Gi->Gi):Nat->Nat->Gi->List (Gi×Gi)
 |0,_,_=>[]
 |k+1,t,cs=>if mvR n D cs=[]then []else(dnR n D cs (N t (mvR n D cs)),stR n D cs (N t (mvR n D cs)))::drR n D N k (t+1) (stR n D cs (N t (mvR n D cs)))
def rC(N:Nat->Gi->Gi):∀(k t:Nat) (cs:Gi),(drR n D N k t cs).length<=k
 |0,_,_=>by simp[drR]
 |k+1,t,cs=>by
  unfold drR;split
  ·simp
  ·simpa using rC N k (t+1) _
def vE:∀x∈mvR n D cs,0<=x/\x<n:=fun x hx=>by unfold mvR at hx;obtain⟨k,hk,rfl⟩:=mem_map.mp hx;have:=mem_range.mp (mem_filter.mp hk).1;omega
abbrev bxV(kk:Nat)(hs dr:Gi)(o:PV):PV:=.box 99 [.box kk [.lst .own (iL hs)],.lst .frz (iL dr),o]
abbrev drC:MT:=fQ (av (mOp pLt (au (p1 bX) (ae (aa 5) ah)) (aa 3))) (av (mOp pGt (au (p1 bX) (ae (bH aq (aa 0) (ae (aa 4) ah)) ah)) (GM 0)))
abbrev drS:MS:=j4 6 (i8 2 99 qY (ae (au (p1 bX) (ae (aa 5) ah)) (ae (bH aq (aa 0) (ae (aa 4) ah)) ah)))
abbrev drE:ME:=au (aP qW) (ae (aa 0) (ae (aa 4) (ae (aa 6) ah)))
def ud{rs:Gi}{most:Nat}(r:Rl o n sp al D)(ob:o.has Fl.GD=false/\o.has Fl.GB=false/\o.has Fl.Gz=false)(hk:1000<=kk)(hd:dr≠[]):∀(m fuel t:Nat) (cs hs:Gi) (R:List (Gi×Gi)) (x6:Option PV),m<fuel->R.length=t->t+m=most->most<=1000->hs.length<=t->cs.length=n->InS sp cs->(∀v,x6=some v->gK v=true)->
  ∃y6,whV drC drS drE 5 4 fuel (R.map (b_ .own)) (.lst .bor (iL cs)) [some o,some (.lst .frz (iL rs)),some (bxV kk hs dr o),some (.int most),none,some (.lst .own (R.map (b_ .own))),x6]
   = some [some o,some (.lst .frz (iL rs)),some (bxV kk (hs ++(range (drR n D (NM al n dr) m t cs).length).map fun j:Nat=>((t+j:Nat):Int)) dr o),some (.int most),none,some (.lst .own ((R++drR n D (NM al n dr) m t cs).map (b_ .own))),y6]
 |m,0,_,_,_,_,_,h,_,_,_,_,_,_,_=>by omega
 |m,fuel+1,t,cs,hs,R,x6,hf,hR,ht,hmo,hhs,hn,hc,h6=>by
  have n20:=r.n20;have mo:=gD (f:=.bor) r (.inl (.inl rfl)) hn hc;have bw:PV.Gy (.lst .own (R.map (b_ .own)))=.lst .bor (R.map (b_ .bor)):=by simp[PV.Gy,Fl.Gy]
  unfold whV;simp only[s0_,s1_,bw];have ev:drC [some o,some (.lst .frz (iL rs)),some (bxV kk hs dr o),some (.int most),some (.lst .bor (iL cs)),some (.lst .bor (R.map (b_ .bor))),x6]=.ok (decide (t<most)&&decide (mvR n D cs≠[])):=by
   by_cases q:t<most
   ·by_cases q2:mvR n D cs=[]
    ·simp[r.le,r.tb,r.mv,mo,aH,hR,q2,q]
    ·have:0 <(mvR n D cs).length:=length_pos_iff.mpr q2;have t2:(t:Int)<most:=by omega
     simp[this,t2,r.le,r.tb,r.mv,mo,aH,hR,q,q2]
   ·have:¬((t:Int)<most):=by omega
    simp[hR,q]
  rw[ev];cases m with
  |zero=>
   have:¬t<most:=by omega
   refine⟨x6,?_⟩;simp[this,drR]
  |succ m=>
   have tm:t<most:=by omega
   by_cases q:mvR n D cs=[]
   ·refine⟨x6,?_⟩;simp[q,drR]
   ·have g:=nX (al:=al) (z:=gt dr (t%dr.length)) r.n1 r.n20 q (vE (D:=D) (cs:=cs));have ha:=yR (t:=t) r hk q hd (show hs.length<10000000 by omega);have st:drS [some o,some (.lst .frz (iL rs)),some (bxV kk hs dr o),some (.int most),some (.lst .bor (iL cs)),some (.lst .bor (R.map (b_ .bor))),x6]=.next [some o,some (.lst .frz (iL rs)),some (bxV kk (hs++[(t:Int)]) dr o),some (.int most),some (.lst .bor (iL cs)),some (.lst .bor (R.map (b_ .bor))),some (.lst .own (iL (NM al n dr t (mvR n D cs))))]:=by
     have e1:ae (au (p1 bX) (ae (aa 5) ah)) (ae (bH aq (aa 0) (ae (aa 4) ah)) ah) [some o,some (.lst .frz (iL rs)),some (bxV kk hs dr o),some (.int most),some (.lst .bor (iL cs)),some (.lst .bor (R.map (b_ .bor))),x6]=.ok [.int t,.lst .own (iL (mvR n D cs))]:=by simp[r.le,r.tb,r.mv,mo,aH,hR]
     unfold drS j4 i8;rw[e1];simp[ha,dg,hasL,PV.has,ob.2.1,ob.2.2,gK,aB,ob.1]
    obtain⟨h1,h2⟩:=uk r hn hc (NM al n dr t (mvR n D cs));have ro:=rY r (f:=.bor) (fn:=.bor) (.inl rfl) (.inl rfl) hn hc (show oU n al (NM al n dr t (mvR n D cs))from g);have ee:drE [some o,some (.lst .frz (iL rs)),some (bxV kk (hs++[(t:Int)]) dr o),some (.int most),some (.lst .bor (iL cs)),some (.lst .bor (R.map (b_ .bor))),some (.lst .own (iL (NM al n dr t (mvR n D cs))))]=.ok (.tup [.lst .own (iL (dnR n D cs (NM al n dr t (mvR n D cs)))),.lst .own (iL (stR n D cs (NM al n dr t (mvR n D cs))))]):=by simp[r.le,r.tb,ro,aH]
    obtain⟨y6,ih⟩:=ud (rs:=rs) (most:=most) r ob hk hd m fuel (t+1) (stR n D cs (NM al n dr t (mvR n D cs))) (hs++[(t:Int)]) (R++[(dnR n D cs (NM al n dr t (mvR n D cs)),stR n D cs (NM al n dr t (mvR n D cs)))]) (some (.lst .own (iL (NM al n dr t (mvR n D cs))))) (by omega) (by simp[hR]) (by omega) hmo (by simp;omega) h1 h2 (by simp[gK,PV.has]);refine⟨y6,?_⟩;simp only[tm,q,decide_true,ne_eq,not_false_eq_true,Bool.and_self];rw[st];dsimp only;rw[if_pos (by simp[vA,gK,PV.has,hasL,ob.1]),ee];dsimp only;rw[if_neg (by simp[PV.has,hasL];omega)];have eb:(PV.lst .own (iL (stR n D cs (NM al n dr t (mvR n D cs))))).Gy=.lst .bor (iL (stR n D cs (NM al n dr t (mvR n D cs)))):=by simp
    rw[eb];simp only[s0_,s1_];have e3:∀(x:Gi×Gi),R.map (b_ .own)++ [PV.tup [.lst .own (iL x.1),.lst .own (iL x.2)]]=(R++[x]).map (b_ .own):=fun x=>by simp[b_]
    have e3':=e3 (dnR n D cs (NM al n dr t (mvR n D cs)),stR n D cs (NM al n dr t (mvR n D cs)));dsimp only at e3';rw[e3',ih];have e4:drR n D (NM al n dr) (m+1) t cs=(dnR n D cs (NM al n dr t (mvR n D cs)),stR n D cs (NM al n dr t (mvR n D cs)))::drR n D (NM al n dr) m (t+1) (stR n D cs (NM al n dr t (mvR n D cs))):=by
     conv=>lhs;unfold drR
     rw[if_neg q]
    rw[e4,length_cons,List.range_succ_eq_map];simp[Nat.add_comm,Nat.add_left_comm,Nat.add_assoc,Function.comp_def]
def wr{rs hs:Gi}{most:Nat}(r:Rl o n sp al D)(ob:o.has Fl.GD=false/\o.has Fl.GB=false/\o.has Fl.Gz=false)(hk:1000<=kk)(hd:dr≠[])(hm:most<=1000)(hn:rs.length=n) :
  oC [o,.lst .frz (iL rs),bxV kk [] dr o,.int most]=some (.lst .own ((drR n D (NM al n dr) most 0 (rs.map (· % sp))).map (b_ .own)),bxV kk ((range (drR n D (NM al n dr) most 0 (rs.map (· % sp))).length).map fun j:Nat=>(j:Int)) dr o):=by
 obtain⟨y6,w⟩:=ud (rs:=rs) (most:=most) r ob hk hd most 100000 0 (rs.map (· % sp)) [] [] none (by omega) rfl (by omega) hm (Nat.le_refl _) (by simpa using hn) (vH r) (fun v h=>nomatch h);simp only[List.nil_append,List.map_nil,Nat.zero_add]at w;have rd:=qu (f:=.frz) r hn;generalize drR n D (NM al n dr) most 0 (rs.map (· % sp))=R at *;refine lS (e:=[some o,some (.lst .frz (iL rs)),some (bxV kk ((range R.length).map fun j:Nat=>(j:Int)) dr o),some (.int most),none,none,y6]) ?_ rfl;show wD [some o,some (.lst .frz (iL rs)),some (bxV kk [] dr o),some (.int most),none,none,none]=_;unfold wD;refine gR (aG (v:=.lst .own (iL (rs.map (· % sp)))) (by simp[r.le,r.tb,r.rd,Fl.Gv,Fl.Gw,rd,aH])) ?_;simp only[s0_,s1_];refine gR (aG (v:=.lst .own []) (by simp)) ?_;simp only[s0_,s1_];refine gR (e:=[some o,some (.lst .frz (iL rs)),some (bxV kk ((range R.length).map fun j:Nat=>(j:Int)) dr o),some (.int most),none,some (.lst .own (R.map (b_ .own))),y6]) ?_ rfl;unfold yG;have eb:(PV.lst .own (iL (rs.map (· % sp)))).Gy=.lst .bor (iL (rs.map (· % sp))):=by simp
 simp only[getElem?_cons_zero,getElem?_cons_succ,s0_,s1_,eb];rw[w]
def wn(f:Fl)(l:Gi):pEq (.lst f (iL l)) (.lst .own [])=.ok (.bl (decide (l=[]))):=y3 (ns:=l) (ms:=[]) f .own
def eJ{g:Fl->Fl}:∀xs:Gs,(mapL g xs).length=xs.length
 | []=>rfl
 |x::xs=>by simp[mapL,eJ xs]
def im(p:Gi×Gi):PV:=.tup [.lst .own (iL (p.1++[-1])),.lst .own []]
def mZ:MS:=(ax (a6 7 (bH aq (aa 0) (ae (au (p1 dF) (ae (aa 1) ah)) ah)))
 (ax (mBr (av (mOp pEq (aa 7) (eH ah)))
  (bz (mC (.bl false)))
  aR)
 (ax (a6 8 (au (aP oE) (ae (mUn (ap 8) (aa 0)) (ae (mUn (ap 0) (aa 0)) (ae (mOp aL (aa 3) (mOp bC (aa 5) (au (p1 bX) (ae (aa 3) ah)))) (ae (aa 7) ah))))))
 (ax (a6 1 (bH aD (aa 0) (ae (au (p1 dF) (ae (aa 1) ah)) (ae (aa 8) ah))))
 (ax (mBr (j5 (dI (au (aP qX) (ae (aa 6) (ae (aZ [8] 1 (cq (aa 7)) (tgN 1) (av (mOp pIn (aa 1) (aa 0))) (aa 1)) (ae (aa 1) ah))))))
  (bz (mC (.bl false)))
  aR)
 (ax (iD 6 0 (mUn yk (GM 1)))
 (iC 6 1)))))))
def C4{t:Nat}{x2 x4 x7 x8:Option PV}(r:Rl o n sp al D)(hd:dr≠[])(hn:cs.length=n)(hc:InS sp cs)(q:mvR n D cs≠[]):∃y7 y8,
  mZ [some o,some (.lst .own (iL cs)),x2,some (.lst .frz (iL dr)),x4,some (.int t),some (b_ .own (dnR n D cs (NM al n dr t (mvR n D cs)),stR n D cs (NM al n dr t (mvR n D cs)))),x7,x8]
   = .next [some o,some (.lst .own (iL (stR n D cs (NM al n dr t (mvR n D cs))))),x2,some (.lst .frz (iL dr)),x4,some (.int t),some (im (dnR n D cs (NM al n dr t (mvR n D cs)),stR n D cs (NM al n dr t (mvR n D cs)))),y7,y8]:=by
 have n20:=r.n20;have dl:0<dr.length:=length_pos_iff.mpr hd;have dp:(0:Int)<dr.length:=by omega
 have mo:=gD (f:=.own) r (.inr rfl) hn hc;have ml:=md (n:=n) (D:=D) (cs:=cs);have g:=nX (al:=al) (z:=gt dr (t%dr.length)) r.n1 r.n20 q (vE (D:=D) (cs:=cs));have nk:=nZ (f:=.bor) (al:=al) (z:=gt dr (t%dr.length)) r.n1 r.n20 (.inl rfl) q;have tu:=kM (f:=.own) (fn:=.bor) r (.inr rfl) (.inl (.inl rfl)) hn hc g;have a1:(t:Int)%(dr.length:Int)=((t%dr.length:Nat):Int):=by omega
 have a2:t%dr.length<dr.length:=Nat.mod_lt _ dl;have ix:aL (.lst .frz (iL dr)) (.int ((t:Int)%dr.length))=.ok (.int (gt dr (t%dr.length))):=by rw[a1];exact(cr (f:=.frz) (cs:=dr) (i:=((t%dr.length:Nat):Int)) (by omega) (by omega)).trans (by rw[toNat_natCast])
 show ∃y7 y8,mZ [some o,some (.lst .own (iL cs)),x2,some (.lst .frz (iL dr)),x4,some (.int t),some (b_ .own (dnR n D cs (nmF al n (gt dr (t%dr.length)) (mvR n D cs)),stR n D cs (nmF al n (gt dr (t%dr.length)) (mvR n D cs)))),x7,x8]
   = .next [some o,some (.lst .own (iL (stR n D cs (nmF al n (gt dr (t%dr.length)) (mvR n D cs))))),x2,some (.lst .frz (iL dr)),x4,some (.int t),some (im (dnR n D cs (nmF al n (gt dr (t%dr.length)) (mvR n D cs)),stR n D cs (nmF al n (gt dr (t%dr.length)) (mvR n D cs)))),y7,y8]
 generalize nmF al n (gt dr (t%dr.length)) (mvR n D cs)=nm at *;have dl2:(dnR n D cs nm).length<=n:=Nat.le_trans (length_filter_le _ _) md;refine⟨some (.lst .own (iL (mvR n D cs))),some (.lst .own (iL nm)),?_⟩;unfold mZ;refine af (aG (v:=.lst .own (iL (mvR n D cs))) (by simp[r.le,r.tb,r.mv,mo,aH])) ?_;simp only[s0_,s1_];have ne:iL (mvR n D cs)≠ []:=fun z=>q (by cases h:mvR n D cs with|nil=>rfl|cons a l=>rw[h]at z;simp[iL]at z);refine af (bA ?_ ay) ?_
 ·have:=wn .lnt (mvR n D cs);simp[this,q]
 refine af (aG (v:=.lst .own (iL nm)) (by simp[r.le,r.a8,r.a0,Fl.Gv,aT dp,ix,nk,aH])) ?_;simp only[s0_,s1_];refine af (aG (v:=.lst .own (iL (stR n D cs nm))) (by simp[r.le,r.tb,r.tu,tu,aH])) ?_;simp only[s0_,s1_];have hcp:aZ [8] 1 (cq (aa 7)) (tgN 1) (av (mOp pIn (aa 1) (aa 0))) (aa 1) [some o,some (.lst .own (iL (stR n D cs nm))),x2,some (.lst .frz (iL dr)),x4,some (.int t),some (b_ .own (dnR n D cs nm,stR n D cs nm)),some (.lst .own (iL (mvR n D cs))),some (.lst .own (iL nm))]=.ok (.lst .own (iL (dnR n D cs nm))):=by
  refine aU (xs:=iL (mvR n D cs)) (by simp) (by simp;omega) ?_;have:=cR (env:=bE [8] 1 [some o,some (.lst .own (iL (stR n D cs nm))),x2,some (.lst .frz (iL dr)),x4,some (.int t),some (b_ .own (dnR n D cs nm,stR n D cs nm)),some (.lst .own (iL (mvR n D cs))),some (.lst .own (iL nm))]) (g:=tgN 1) (mc:=av (mOp pIn (aa 1) (aa 0))) (me:=aa 1) (fun a=>nm.contains a) (fun a=>a) (mvR n D cs) fun x hx=>⟨[some (.lst .bor (iL nm)),some (.int x)],by simp[tgN,aB,bE,PV.Gy],by simp,fun _=>by simp⟩
  unfold dnR;rw[map_id']at this;exact this
 have rw1:=pO (a:=dnR n D cs nm) (b:=stR n D cs nm) (by omega) (by simp[stR];omega);refine af (bA ?_ ay) ?_
 ·simp only[y0,wf,iN,dY,fL,hcp];simp[b_,rw1,aH]
 refine af (e:=[some o,some (.lst .own (iL (stR n D cs nm))),x2,some (.lst .frz (iL dr)),x4,some (.int t),some (.tup [.lst .own (iL (dnR n D cs nm++[-1])),.lst .own (iL (stR n D cs nm))]),some (.lst .own (iL (mvR n D cs))),some (.lst .own (iL nm))]) ?_ ?_
 ·unfold iD;have e:ixN 2 0=some 0:=iH (n:=2) (k:=0) (by decide);simp[b_,e,show(dnR n D cs nm).length<=1000000 by omega,ow];simp[iL]
 ·unfold iC;have e:ixN 2 1=some 1:=iH (n:=2) (k:=1) (by decide);simp[e,im]
def qT{x4:Option PV}(r:Rl o n sp al D)(hd:dr≠[]):∀(m t:Nat) (cs:Gi) (done:Gs) (a b c:Option PV),done.length=t->cs.length=n->InS sp cs ->
  ∃cs' a' b' c',kC mZ 5 6 done ((drR n D (NM al n dr) m t cs).map (b_ .own)) [some o,some (.lst .own (iL cs)),none,some (.lst .frz (iL dr)),x4,a,none,b,c]=some (done ++(drR n D (NM al n dr) m t cs).map im,[some o,some (.lst .own (iL cs')),none,some (.lst .frz (iL dr)),x4,a',none,b',c'])/\((drR n D (NM al n dr) m t cs).length=m\/mvR n D cs'=[])/\cs'.length=n/\InS sp cs'
 |0,t,cs,done,a,b,c,_,hn,hc=>⟨cs,a,b,c,by simp[drR,kC],.inl rfl,hn,hc⟩
 |m+1,t,cs,done,a,b,c,ht,hn,hc=>by
  by_cases q:mvR n D cs=[]
  ·exact⟨cs,a,b,c,by simp[drR,q,kC],.inr q,hn,hc⟩
  ·have e4:drR n D (NM al n dr) (m+1) t cs=(dnR n D cs (NM al n dr t (mvR n D cs)),stR n D cs (NM al n dr t (mvR n D cs)))::drR n D (NM al n dr) m (t+1) (stR n D cs (NM al n dr t (mvR n D cs))):=by
    conv=>lhs;unfold drR
    rw[if_neg q]
   obtain⟨y7,y8,st⟩:=C4 (t:=t) (x2:=none) (x4:=x4) (x7:=b) (x8:=c) r hd hn hc q;obtain⟨h1,h2⟩:=uk r hn hc (NM al n dr t (mvR n D cs));obtain⟨cs',a',b',c',ih,h3,h4⟩:=qT (x4:=x4) r hd m (t+1) (stR n D cs (NM al n dr t (mvR n D cs))) (done++[im (dnR n D cs (NM al n dr t (mvR n D cs)),stR n D cs (NM al n dr t (mvR n D cs)))]) (some (.int t)) y7 y8 (by simp[ht]) h1 h2;refine⟨cs',a',b',c',?_,?_,h4⟩
   ·rw[e4,map_cons];unfold kC;simp only[s0_,s1_,ht];rw[st];simp only[getElem?_cons_zero,getElem?_cons_succ,s0_,s1_];rw[ih];simp
   ·rw[e4,length_cons];rcases h3 with h|h
    ·exact .inl (by omega)
    ·exact .inr h
def uF{p:Fl->Bool}(h:p .own=false)(ps:List (Gi×Gi)):hasL p (ps.map im)=false:=by
 induction ps with
 |nil=>simp
 |cons a l ih=>simp[ih,im,h]
def rH{most:Nat}(r:Rl o n sp al D)(hd:dr≠[])(hn:cs.length=n)(hc:InS sp cs) :
  rm [o,.lst .own (iL cs),.lst .own ((drR n D (NM al n dr) most 0 cs).map (b_ .own)),.lst .frz (iL dr),.int most]=some (.bl true,.lst .own ((drR n D (NM al n dr) most 0 cs).map im)):=by
 obtain⟨cs',a',b',c',w,h3,hn',hc'⟩:=qT (x4:=some (.int most)) (al:=al) r hd most 0 cs [] none none none rfl hn hc;rw[List.nil_append]at w;generalize drR n D (NM al n dr) most 0 cs=R at *;have mo:=gD (f:=.own) r (.inr rfl) hn' hc';refine lS (e:=[some o,some (.lst .own (iL cs')),some (.lst .own (R.map im)),some (.lst .frz (iL dr)),some (.int most),a',none,b',c']) ?_ rfl;show wO [some o,some (.lst .own (iL cs)),some (.lst .own (R.map (b_ .own))),some (.lst .frz (iL dr)),some (.int most),none,none,none,none]=_;unfold wO;refine gR (e:=[some o,some (.lst .own (iL cs')),some (.lst .own (R.map im)),some (.lst .frz (iL dr)),some (.int most),a',none,b',c']) ?_ ?_
 ·show n_ 2 5 6 mZ _=_;unfold n_;simp only[getElem?_cons_zero,getElem?_cons_succ,s0_,s1_];rw[w];simp only[s0_,s1_]
 ·unfold xk;have e:n9 (mOp pEq (au (p1 bX) (ae (aa 2) ah)) (aa 4)) (mOp pEq (bH aq (aa 0) (ae (au (p1 dF) (ae (aa 1) ah)) ah)) (eH ah)) [some o,some (.lst .own (iL cs')),some (.lst .own (R.map im)),some (.lst .frz (iL dr)),some (.int most),a',none,b',c']=.ok (.bl true):=by
   by_cases q:R.length=most
   ·simp[q,eJ]
   ·have hm:=h3.resolve_left q;have:=wn .own [];have q2:¬((R.length:Int)=most):=by omega
    rw[hm]at mo;simp[q2,eJ,r.le,r.tb,r.mv,mo,aH];exact this
  rw[e];simp[PV.GH,PV.has]
end
def Cq{i:Nat}{m:MS}{env:En}{xs:Gs}{x:Out}(h:env[i]?=some (some (.lst .own xs)))(hk:∀n,m (env.set i (some (.box (1000+n) [.lst .own xs])))=x):vS i m env=x:=by unfold vS;rw[h];dsimp only;have h0:m (env.set i (some (.box 1000 [.lst .own xs])))=x:=hk 0;rw[if_pos (fun n=>by rw[hk n,h0]),h0]
def law_true(fl:Fl)(ns:Gi)(h:Scr fl)(hl:ns.length<=63):zR [.lst fl (ns.map .int)]=.ok (.bl true):=by
 rw[ow];have cl:∀k:Nat,iM [.lst fl (iL ns),.int k]=.ok (.int (cell ns k)):=fun k=>zi ns k h;have c0:iM [.lst fl (iL ns),.int 0]=.ok (.int (cell ns 0)):=cl 0;have c1:iM [.lst fl (iL ns),.int 1]=.ok (.int (cell ns 1)):=cl 1;have c2:iM [.lst fl (iL ns),.int 2]=.ok (.int (cell ns 2)):=cl 2;generalize cell ns 0=z0 at c0;generalize cell ns 1=z1 at c1;generalize cell ns 2=z2 at c2;have d6:cm (.int z0) (.int 6)=.ok (.int (z0 / 6)):=dN (by decide) (by decide);have d36:cm (.int z0) (.int 36)=.ok (.int (z0 / 36)):=dN (by decide) (by decide);have d288:cm (.int z0) (.int 288)=.ok (.int (z0 / 288)):=dN (by decide) (by decide);have d6048:cm (.int z0) (.int 6048)=.ok (.int (z0 / 6048)):=dN (by decide) (by decide);obtain⟨kd,hkd⟩:∃kd:Nat,z0%6=kd:=⟨(z0%6).toNat,by omega⟩
 refine aF (v:=.bl true) ?_;show w5 [some (.lst fl (iL ns)),none,none,none,none,none,none,none,none,none,none,none]=_;unfold w5;refine af (aG (v:=.int z0) (by simp[h.Gv,h.Gw,c0,aH])) ?_;simp only[s0_,s1_];refine af (aG (v:=.int (1+z0 / 6%6)) (by simp[d6,aT])) ?_;simp only[s0_,s1_];obtain⟨m,m1,m10,hbr⟩:∃m:Nat,1<=m/\m<=10/\mBr (fQ (av (mOp pEq (mOp bC (mOp cm (aa 1) (GM 36)) (GM 8)) (GM 3))) (av (mOp pNe (mOp bC (mOp cm (aa 1) (GM 6048)) (GM 9)) (GM 4)))) (a6 2 (GM 10)) aR [some (.lst fl (iL ns)),some (.int z0),some (.int (1+z0 / 6%6)),none,none,none,none,none,none,none,none,none]=.next [some (.lst fl (iL ns)),some (.int z0),some (.int m),none,none,none,none,none,none,none,none,none]:=by
  by_cases q:z0 / 36%8=3/\z0 / 6048%9≠4
  ·refine⟨10,by decide,by decide,gN (by simp[d36,d6048,aT,q.1,q.2]) ?_⟩;exact aG (v:=.int 10) (by simp) (by simp) rfl
  ·refine⟨(1+z0 / 6%6).toNat,by omega,by omega,bA ?_ ?_⟩
   ·by_cases q1:z0 / 36%8=3
    ·have q2:z0 / 6048%9=4:=Classical.byContradiction fun z=>q ⟨q1,z⟩;simp[d36,d6048,aT,q1,q2]
    ·simp[d36,aT,q1]
   ·rw[Int.toNat_of_nonneg (by omega)];rfl
 refine af hbr ?_;clear hbr;obtain⟨O,o,n,sp,al,D,hru,K,n11⟩:=xN (kd:=kd) (m:=m) (z0 / 288) z1 (by omega) m1 m10;have n1:=K.r.n1;refine af (aG (v:=O) (by simp[h.Gv,h.Gw,c1,aT,d288,hkd,hru,aH,K.own]) K.nl rfl) ?_;simp only[s0_,s1_];refine af (aG (v:=.int (z0 / 288%21)) (by simp[d288,aT])) ?_;simp only[s0_,s1_];obtain⟨most,hmo,hbr⟩:∃most:Nat,most<=300/\mBr (av (mOp pEq (mOp bC (mOp cm (aa 1) (GM 6048)) (GM 9)) (GM 4))) (a6 4 (mOp aL (eH (ae (GM 300) (ae (GM 60) ah))) (au (p1 i4) (ae (mUn (ap 8) (aa 3)) ah)))) aR [some (.lst fl (iL ns)),some (.int z0),some (.int m),some O,some (.int (z0 / 288%21)),none,none,none,none,none,none,none]=.next [some (.lst fl (iL ns)),some (.int z0),some (.int m),some O,some (.int most),none,none,none,none,none,none,none]:=by
  by_cases q:z0 / 6048%9=4
  ·cases al with
   |true=>refine⟨60,by decide,gN (by simp[d6048,aT,q]) (aG (v:=.int 60) ?_)⟩;simp[K.la8,i4];rfl
   |false=>refine⟨300,by decide,gN (by simp[d6048,aT,q]) (aG (v:=.int 300) ?_)⟩;simp[K.la8,i4];rfl
  ·refine⟨(z0 / 288%21).toNat,by omega,bA (by simp[d6048,aT,q]) ?_⟩;rw[Int.toNat_of_nonneg (by omega)];rfl
 refine af hbr ?_;clear hbr;obtain⟨l,hl1,hl2,hl3⟩:=g8 z2 n (by omega);refine af (aG (v:=.lst .own (iL l)) (by simp[h.Gv,h.Gw,c2,K.la0,hl1,aH])) ?_;simp only[s0_,s1_];obtain⟨dr,hdr⟩:∃dr:Gi,dr=0::ns.drop 3:=⟨_,rfl⟩
 have hd:dr≠[]:=by rw[hdr];simp
 have ec:tY (iL ns) (some 3) none=iL (ns.drop 3):=ze ns 3 rfl;refine af (aG (v:=.lst .own (iL dr)) ?_) ?_
 ·simp only[lr,wm,dY,fL,Es,wg,jh,yZ,tK];simp[h.Gv,ec];rw[iu (by decide) (by decide) (by simp;omega)];simp[hdr,iL]
 simp only[s0_,s1_];refine af (aG (v:=.lst .own []) (by simp)) ?_;simp only[s0_,s1_];refine af (eT (v:=O) rfl) ?_;simp only[s0_,s1_,K.fz];refine af (eT (v:=.lst .own (iL dr)) rfl) ?_;have efz:(PV.lst .own (iL dr)).GJ Fl.Gx=.lst .frz (iL dr):=by simp[Fl.Gx]
 simp only[s0_,s1_,efz];refine Cq (xs:=[]) rfl fun kn=>?_;generalize hkk:1000+kn=kk;have hk:1000<=kk:=by omega
 simp only[s0_,s1_];refine af (e:=[some (.lst fl (iL ns)),some (.int z0),some (.int m),some o,some (.int most),some (.lst .own (iL l)),some (.lst .frz (iL dr)),some (.box kk [.lst .own []]),some (.box 99 [.box kk [],.lst .frz (iL dr),o]),none,none,none]) ?_ ?_
 ·unfold og;simp[ww,hk,dg,PV.has,hasL,K.hh,aB]
 have dk:=wr (hs:=[]) (rs:=l) (most:=most) K.r K.hh hk hd (by omega) hl2;have wk:=rH (cs:=l.map (· % sp)) (most:=most) K.r hd (by simpa using hl2) (vH K.r);have rd:=qu (f:=.own) K.r hl2;have rlen:=rC (n:=n) (D:=D) (NM al n dr) most 0 (l.map (· % sp));generalize drR n D (NM al n dr) most 0 (l.map (· % sp))=R at *;have rb:hasL Fl.GD (R.map (b_ .own))=false:=nA rfl R;have rn:hasL Fl.GB (R.map (b_ .own))=false:=nA rfl R;have xb:hasL Fl.GD (R.map im)=false:=uF rfl R;refine qp (fun k e=>∃hs x9 x10 x11,e=[some (.lst fl (iL ns)),some (.int z0),some (.int m),some o,some (.int most),some (.lst .own (iL l)),some (.lst .frz (iL dr)),some (.box kk [.lst .own (iL hs)]),some (.box 99 [.box kk [],.lst .frz (iL dr),o]),x9,x10,x11]) (cb (n:=2) (by simp) (by omega)) ⟨[],_,_,_,rfl⟩ (fun k x e hx hP=>?_) (fun e hP=>?_)
 ·obtain⟨hs,x9,x10,x11,rfl⟩:=hP;obtain⟨hk9,rfl⟩:=dD hx;refine⟨_,du rfl,?_⟩;simp only[s0_,s1_];refine cu (aG (v:=.lst .own (iL l)) (by simp)) ?_;simp only[s0_,s1_];refine cu (e:=[some (.lst fl (iL ns)),some (.int z0),some (.int m),some o,some (.int most),some (.lst .own (iL l)),some (.lst .frz (iL dr)),some (.box kk [.lst .own []]),some (.box 99 [.box kk [],.lst .frz (iL dr),o]),some (.int (0+(k:Int))),some (.lst .own (iL l)),x11]) ?_ ?_
  ·unfold kz;simp only[getElem?_cons_zero,getElem?_cons_succ,s0_,s1_,hk,if_true];rw[oJ (xs:=iL hs) rfl];simp only[getElem?_cons_zero,getElem?_cons_succ,s0_,s1_]
  refine cu (eT (v:=.lst .own (iL l)) rfl) ?_;have efz:(PV.lst .own (iL l)).GJ Fl.Gx=.lst .frz (iL l):=by simp[Fl.Gx]
  simp only[s0_,s1_,efz];refine cu (e:=[some (.lst fl (iL ns)),some (.int z0),some (.int m),some o,some (.int most),some (.lst .own (iL l)),some (.lst .frz (iL dr)),some (.box kk [.lst .own (iL ((range R.length).map fun j:Nat=>(j:Int)))]),some (.box 99 [.box kk [],.lst .frz (iL dr),o]),some (.int (0+(k:Int))),some (.lst .frz (iL l)),some (.lst .own (R.map (b_ .own)))]) ?_ ?_
  ·unfold j4 mGv;have dk':oC [o,.lst .frz (iL l),.box 99 [.box kk [.lst .own []],.lst .frz (iL dr),o],.int most]=_:=dk;have gv:oz 7 8 [some (.lst fl (iL ns)),some (.int z0),some (.int m),some o,some (.int most),some (.lst .own (iL l)),some (.lst .frz (iL dr)),some (.box kk [.lst .own []]),some (.box 99 [.box kk [],.lst .frz (iL dr),o]),some (.int (0+(k:Int))),some (.lst .frz (iL l)),x11]=some [some (.lst fl (iL ns)),some (.int z0),some (.int m),some o,some (.int most),some (.lst .own (iL l)),some (.lst .frz (iL dr)),some (.box kk []),some (.box 99 [.box kk [.lst .own []],.lst .frz (iL dr),o]),some (.int (0+(k:Int))),some (.lst .frz (iL l)),x11]:=by simp[oz,hk]
   have cw:dJ 8 oC (ae (aa 3) (ae (aa 10) (ae (aa 4) ah))) [some (.lst fl (iL ns)),some (.int z0),some (.int m),some o,some (.int most),some (.lst .own (iL l)),some (.lst .frz (iL dr)),some (.box kk []),some (.box 99 [.box kk [.lst .own []],.lst .frz (iL dr),o]),some (.int (0+(k:Int))),some (.lst .frz (iL l)),x11]=some (.lst .own (R.map (b_ .own)),[some (.lst fl (iL ns)),some (.int z0),some (.int m),some o,some (.int most),some (.lst .own (iL l)),some (.lst .frz (iL dr)),some (.box kk []),some (bxV kk ((range R.length).map fun j:Nat=>(j:Int)) dr o),some (.int (0+(k:Int))),some (.lst .frz (iL l)),x11]):=by
    have e1:ae (aa 3) (ae (aa 10) (ae (aa 4) ah)) [some (.lst fl (iL ns)),some (.int z0),some (.int m),some o,some (.int most),some (.lst .own (iL l)),some (.lst .frz (iL dr)),some (.box kk []),some (.box 99 [.box kk [.lst .own []],.lst .frz (iL dr),o]),some (.int (0+(k:Int))),some (.lst .frz (iL l)),x11]=.ok [o,.lst .frz (iL l),.int most]:=by simp[K.r.le,Fl.Gv]
    unfold dJ;rw[e1];simp only[getElem?_cons_zero,getElem?_cons_succ];rw[if_neg (by simp[hasL,PV.has,K.hh]),dk'];simp[gK,PV.has,hasL,K.hh,rb]
   rw[gv];dsimp only;rw[cw];dsimp only;have tk:m6 7 8 [some (.lst fl (iL ns)),some (.int z0),some (.int m),some o,some (.int most),some (.lst .own (iL l)),some (.lst .frz (iL dr)),some (.box kk []),some (bxV kk ((range R.length).map fun j:Nat=>(j:Int)) dr o),some (.int (0+(k:Int))),some (.lst .frz (iL l)),x11]=some [some (.lst fl (iL ns)),some (.int z0),some (.int m),some o,some (.int most),some (.lst .own (iL l)),some (.lst .frz (iL dr)),some (.box kk [.lst .own (iL ((range R.length).map fun j:Nat=>(j:Int)))]),some (.box 99 [.box kk [],.lst .frz (iL dr),o]),some (.int (0+(k:Int))),some (.lst .frz (iL l)),x11]:=by simp[m6,hk]
   rw[tk];simp[aB]
  refine cu (e:=[some (.lst fl (iL ns)),some (.int z0),some (.int m),some o,some (.int most),some (.lst .own (iL l)),some (.lst .frz (iL dr)),some (.box kk [.lst .own (iL ((range R.length).map fun j:Nat=>(j:Int)))]),some (.box 99 [.box kk [],.lst .frz (iL dr),o]),some (.int (0+(k:Int))),some (.lst .frz (iL l)),some (.lst .own (R.map (b_ .own)))]) ?_ ?_
  ·unfold kz;simp only[getElem?_cons_zero,getElem?_cons_succ,s0_,s1_,hk,if_true];rw[bA (r:=.next [some (.lst fl (iL ns)),some (.int z0),some (.int m),some o,some (.int most),some (.lst .own (iL l)),some (.lst .frz (iL dr)),some (.lst .own (iL ((range R.length).map fun j:Nat=>(j:Int)))),some (.box 99 [.box kk [],.lst .frz (iL dr),o]),some (.int (0+(k:Int))),some (.lst .frz (iL l)),some (.lst .own (R.map (b_ .own)))]) ?_ ay]
   ·simp only[getElem?_cons_zero,getElem?_cons_succ,s0_,s1_]
   ·have e2:ck 0 R.length=iL ((range R.length).map fun j:Nat=>(j:Int)):=by simp[ck,iL]
    have e3:iw [.int (R.length:Int)]=.ok (.lst .own (iL ((range R.length).map fun j:Nat=>(j:Int)))):=by simp[iw,show(R.length:Int)<= 1000000 by omega,e2]
    have e4:¬((most:Int) <(R.length:Int)):=by omega
    simp[jd,eJ,e3,e4]
  refine b9 (e:=[some (.lst fl (iL ns)),some (.int z0),some (.int m),some o,some (.int most),some (.lst .own (iL l)),some (.lst .frz (iL dr)),some (.box kk [.lst .own (iL ((range R.length).map fun j:Nat=>(j:Int)))]),some (.box 99 [.box kk [],.lst .frz (iL dr),o]),some (.int (0+(k:Int))),some (.lst .frz (iL l)),some (.lst .own (R.map im))]) ?_ ⟨_,_,_,_,rfl⟩;unfold yI;have cw:dJ 11 rm (ae (aa 3) (ae (bH aC (aa 3) (ae (au (p1 dF) (ae (aa 5) ah)) ah)) (ae (aa 6) (ae (aa 4) ah)))) [some (.lst fl (iL ns)),some (.int z0),some (.int m),some o,some (.int most),some (.lst .own (iL l)),some (.lst .frz (iL dr)),some (.box kk [.lst .own (iL ((range R.length).map fun j:Nat=>(j:Int)))]),some (.box 99 [.box kk [],.lst .frz (iL dr),o]),some (.int (0+(k:Int))),some (.lst .frz (iL l)),some (.lst .own (R.map (b_ .own)))]=some (.bl true,[some (.lst fl (iL ns)),some (.int z0),some (.int m),some o,some (.int most),some (.lst .own (iL l)),some (.lst .frz (iL dr)),some (.box kk [.lst .own (iL ((range R.length).map fun j:Nat=>(j:Int)))]),some (.box 99 [.box kk [],.lst .frz (iL dr),o]),some (.int (0+(k:Int))),some (.lst .frz (iL l)),some (.lst .own (R.map im))]):=by
   have e1:ae (aa 3) (ae (bH aC (aa 3) (ae (au (p1 dF) (ae (aa 5) ah)) ah)) (ae (aa 6) (ae (aa 4) ah))) [some (.lst fl (iL ns)),some (.int z0),some (.int m),some o,some (.int most),some (.lst .own (iL l)),some (.lst .frz (iL dr)),some (.box kk [.lst .own (iL ((range R.length).map fun j:Nat=>(j:Int)))]),some (.box 99 [.box kk [],.lst .frz (iL dr),o]),some (.int (0+(k:Int))),some (.lst .frz (iL l)),some (.lst .own (R.map (b_ .own)))]=.ok [o,.lst .own (iL (l.map (· % sp))),.lst .frz (iL dr),.int most]:=by simp[K.r.le,K.r.tb,K.r.rd,rd,Fl.Gv,aH]
   unfold dJ;rw[e1];simp only[getElem?_cons_zero,getElem?_cons_succ];rw[if_neg (by simp[hasL,PV.has,K.hh]),wk];simp[gK,PV.has,hasL,xb]
  rw[cw]
 ·obtain⟨hs,x9,x10,x11,rfl⟩:=hP;exact a5 (by simp) (by simp)
end G
namespace G
open PySem L2 PR
def hb:xc pt.F:=⟨bn2,bn4,bn3,bn2,bn2,bn2,bn2,bn2,bn2,bn2,bn3,bn3,bn2,bn1,bn2,bn1,bn3,bn5,bn3,bn2,bn3,bn3,bn4,bn4,bn2,bn3,bn2,bn2,bn2,bn3,bn3,bn2,bn3,bn2,bn2,bn2,bn3,bn2,bn3,bn3,bn3,bn2,bn2,bn3,bn3,bn4,bn1,bn2,bn3,bn5,bn1,trivial⟩
def hs:pt.F.all scB=true:=by decide +kernel
def fin{l:PySem.W.OpenLaw}{w:World}{K:PySem.W.Frag}{mg:Ge}{fa:Addr}(t:Tx pt K mg)(hfa:mg "law"=some (.ref fa)) :
  ∃fd:FuncData,(∀(s:Shared) (u:Value),BindsTo s fd ⟨[u],[]⟩ [("_law_script",u)])/\∀base:Heap,K.In base->TG pt K mg base->b8 l.prog w K mg base (CXP l.prog w) 10 fa fd ["_law_script"] (ut K (pt.T hA K).tb):=by
 have e:=hfa.symm.trans (t.gl 50 rfl);cases e;refine⟨dAt K (pt.fa K 50),fun s u=>?_,fun base hB tg=>Bc (T:=T K) (A7 t hB tg) law_true⟩;obtain⟨oc,od,kV,doc,pm,an,cdv,ct,osl,e,_⟩:=(t.fn 50).ex;rw[e];exact .of_eq rfl
end G
namespace PySem.W.Fast
theorem t:True:=trivial
def tw90986318272460049:=t
def tw8406523124635127710:=t
def tw9023697821348480968:=t
def tw1045065774830405449:=t
def tw6889275557510054448:=t
def tw16275334568283712757:=t
def tw13097549414832821457:=t
def tw8541199665982921990:=t
def tw16212075123122131903:=t
def tw7108007336742464577:=t
def tw12885325647290149979:=t
def tw3245148005179571077:=t
def tw16070500043638847965:=t
def tw7987130662702282234:=t
def tw12269192613625420632:=t
def tw9933395031865293112:=t
def tw1614943077358157562:=t
def tw11922535880294038084:=t
def tw10911540271517408658:=t
def tw9582058653702218283:=t
def tw12838444476387178213:=t
def tw6633806213871818596:=t
def tw736248520217958225:=t
def tw9450336671625800517:=t
def tw11378792171923468872:=t
def tw8169335020342720228:=t
def tw6722680511058044144:=t
def tw17560953541619657114:=t
def tw4099283860324077859:=t
def tw14792486982604270222:=t
def tw5626553304099388788:=t
def tw10857588004674143529:=t
def tw17944783578259367578:=t
def tw3000566276802741793:=t
def tw5510589990533236341:=t
def tw1674397185507109250:=t
def tw15099510308999140616:=t
def tw10206911308573571187:=t
def tw13411079947145966065:=t
def tw4352893909908034569:=t
def tw10658677630737512408:=t
def tw532869302850725361:=t
def tw3890736489529986993:=t
def tw4664931547468971252:=t
def tw183739926853907565:=t
def tw7097094156900059191:=t
def tw7710413332839112302:=t
def tw6891647688387243013:=t
def tw14344802967922686090:=t
def tw10562083122119897562:=t
def tw10945027535829010529:=t
def tw5982576286125757060:=t
def tw11266533819064733737:=t
def tw6744803187189578075:=t
def tw11574601641445248078:=t
def tw14381429103190411247:=t
def tw5770626045940129785:=t
def tw4431851931795111642:=t
def tw17374933750741412498:=t
def tw12031874486622960660:=t
def tw10580361892249201302:=t
def tw11141807930738432638:=t
def tw2933400823271219605:=t
def tw9004927350126133862:=t
def tw5831053323718761496:=t
def tw9897697852784361308:=t
def tw3436744802065023065:=t
def tw1730000586322230025:=t
def tw7330954984507551399:=t
def tw8870148728101287264:=t
def tw13425662261737664959:=t
def tw2619332951945960135:=t
def tw2412763452855897512:=t
def tw6576770724548120386:=t
def tw18339211255889804693:=t
def tw6474534564117252422:=t
def tw17067874294799338493:=t
def tw18400644817787670160:=t
def tw6952746299742153428:=t
def tw11549809746670906591:=t
def tw13057897870130463842:=t
def tw14175767403819804964:=t
def tw8974892916449817106:=t
def tw11240299073808434820:=t
def tw4599562474209848956:=t
def tw8782507749603291104:=t
def tw9348262286472360034:=t
def tw16928041994080626384:=t
def tw2115141771659412727:=t
def tw8809407015284759960:=t
def tw2594544554211686567:=t
def tw14898249433747808731:=t
def tw18418432478626583317:=t
def tw1136644096412399147:=t
def tw4604042331034762871:=t
def tw16544922922942363453:=t
def tw7922081578318736356:=t
def tw14578578399222673030:=t
def tw11872306066875867920:=t
def tw4544513949349781369:=t
def tw6206054730406836471:=t
def tw7150495085701301606:=t
def tw16242110444819631969:=t
def tw327963544736719122:=t
def tw12974830041686151573:=t
def tw2649455273926447951:=t
def tw14783113247079032387:=t
def tw16528606621407826771:=t
def tw5331228870949011063:=t
def tw17859494333701161207:=t
def tw1701176854045410655:=t
def tw7749918446999698787:=t
def tw8971396999984617915:=t
def tw4303993787282322574:=t
def tw3411059147437635254:=t
def tw5974460396772502902:=t
def tw17290087831816084062:=t
def tw990029466357117244:=t
def tw17011810477320713924:=t
def tw9525759042247061481:=t
def tw9114313034500848407:=t
def tw17955609076200660076:=t
def tw9115571361551500505:=t
def tw7480774374173656143:=t
def tw8731951768032697709:=t
def tw16288446094179843217:=t
def tw9282367807039388641:=t
def tw10386789405511286763:=t
def tw1607633266316260190:=t
def tw10062334365179101197:=t
def tw4697477595306897526:=t
def tw7588548302581824853:=t
def tw17477759475192040088:=t
def tw16480618120790940170:=t
def tw9812427814601692646:=t
def tw1321966657685353586:=t
def tw14425302206436429936:=t
def tw1827178238053018082:=t
def tw3232755834543972690:=t
def tw3508475956762443293:=t
def tw4032494315019387514:=t
def tw7101564190527617864:=t
def tw9946319919898926340:=t
def tw17339395728208027511:=t
def tw13902019099559395391:=t
def tw11972973582509661740:=t
def tw121301952219485278:=t
def tw3422231560712032505:=t
def tw1509900878012546758:=t
def tw7765663464959194484:=t
def tw14261803558623288426:=t
def tw1727449488139619295:=t
def tw15643804540872393947:=t
def tw15161712538659576224:=t
def tw4254673022832505404:=t
def tw6387514611839796185:=t
def tw5318142469688409109:=t
def tw9430640272976246103:=t
def tw16418657260112178199:=t
def tw8808102655606431728:=t
def tw1602391166892318989:=t
def tw15395431079516948617:=t
def tw12134969768707372857:=t
def tw15689189581175829669:=t
def tw4715175241295401630:=t
def tw10788595198506203335:=t
def tw4829418950285182336:=t
def tw6547330863315325911:=t
def tw15222547058576824264:=t
def tw13051219732079954426:=t
def tw16333362535915211726:=t
def tw12034742775259416613:=t
def tw10600020871253206677:=t
def tw14427667227660996840:=t
def tw10316357550957436399:=t
def tw13463962018139485543:=t
def tw4242444987740456792:=t
def tw17014675986999706337:=t
def tw17333326100293153834:=t
def tw8711603652981435908:=t
def tw11015897657988612679:=t
def tw8537364429299732799:=t
def tw13267494605318615583:=t
def tw3603376423674308539:=t
def tw18015413881541481811:=t
def tw15036563632979446338:=t
def tw17919424075777996711:=t
def tw12784210989733369351:=t
def tw14542984876311751996:=t
def tw993104192438678587:=t
def tw14806164312490097609:=t
def tw13559582532585204973:=t
def tw9767483888943415334:=t
def tw13211667234584110379:=t
def tw4524906181349265369:=t
def tw16041189339559069413:=t
def tw7661957773046035510:=t
def tw13500536374873812004:=t
def tw13096147455947650460:=t
def tw16729322001972746478:=t
def tw3393445057453381296:=t
def tw18357419990933899495:=t
def tw5714765882098520657:=t
def tw11452174031191635569:=t
def tw11587614582710677701:=t
def tw8723909600753651483:=t
def tw13932255086910646089:=t
def tw17308648486955631044:=t
def tw13307479840611755814:=t
def tw8225642878631088905:=t
def tw11783915909167265993:=t
def tw2068249827486541651:=t
def tw950416733489180381:=t
def tw7175417179368037120:=t
def tw7854747857598067264:=t
def tw8995379084499173760:=t
def tw16174584608079936541:=t
def tw16851854150270010218:=t
def tw763156659101813214:=t
def tw6179851589072816572:=t
def tw8513716359942506885:=t
def tw2638217836611883715:=t
def tw2381040080220812663:=t
def tw11368718110974522116:=t
def tw7693159175737788633:=t
def tw7980731118397350868:=t
def tw715426047333075294:=t
def tw13607110499695797608:=t
def tw1354579518934228873:=t
def tw5806131881973049985:=t
def tw8555981239097924086:=t
def tw3936082528673321876:=t
def tw99284997827023594:=t
def tw2859068203061334278:=t
def tw17860419443124559807:=t
def tw17440641581849400306:=t
def tw9131093482150071342:=t
def tw11121786604643800155:=t
def tw1412325313559962451:=t
def tw3945567762212285624:=t
def tw3568418410376691098:=t
def tw656863876392680755:=t
def tw11527613398564855363:=t
def tw6626131974193502211:=t
def tw5925954024280235280:=t
def tw12988435811375940728:=t
def tw12811132606518822163:=t
def tw16669900014714426599:=t
def tw8305454371253859989:=t
def tw16496345311025436316:=t
def tw8321460523829258088:=t
def tw7582182510394212146:=t
def tw1279126694312261590:=t
def tw17543862435923304467:=t
def tw7473553122794662088:=t
def tw8148909372845707743:=t
def tw65429323317353918:=t
def tw888421705600672889:=t
def tw11076664082615187283:=t
def tw14008646229717979424:=t
def tw13388654923372593126:=t
def tw950156618601347817:=t
def tw957018475793140164:=t
end PySem.W.Fast
open PySem PySem.W PyProof.Rows
set_option maxRecDepth 100000 in
set_option maxHeartbeats 0 in
theorem PySem.Challenge.cw_calmring_k40_drive_holds : PySem.Challenge.rw_calmring_k40_drive.Holds := by
 w_on;o_law;k_head;(case hw=>w_witness2)
 k_fill
 refine PR.sT _root_.G.pt _root_.G.hA (l:=PySem.Challenge.rw_calmring_k40_drive) (k:=10) (x := "_law_script") rfl rfl ⟨rfl,by decide,by decide⟩ (fun w h Y=>PySem.W.km_in_of Y) ?r ?G ?F
 (case r=>kernel_rfl)
 (case G=>exact fun w=>by kernel_rfl)
 case F =>
  intro w mg fa h KX G hmg
  refine' _root_.G.fin (_root_.PR.Tx.of KX G _root_.G.hb _root_.G.hs ?a ?b ?c ?d ?e ?f ?g) hmg
  (case a=>exact fun z=>nomatch z)
  (case b=>exact fun z=>nomatch z)
  (case c=>exact fun z=>nomatch z)
  (case d=>kernel_rfl)
  (case e=>kernel_rfl)
  (case f=>kernel_rfl)
  (case g=>kernel_rfl)
