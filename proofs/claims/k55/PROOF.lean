import PyProof.Rows.All
import Wide.All
import OpenK.AllK
import Wide.FinOn
import Lean
import PyProof.EqAt
import PyProof.EqKinds
import PyProof.TupleCall
import PySem.Challenge.RW_calmring_k55_every_rule_at_its_turns
abbrev JD:=PySem.Value->PySem.Shared->Prop
abbrev JE:=PySem.Str->Option PySem.Value
abbrev JF:=List (Int×Int)
abbrev JG:=List (PySem.Addr×PySem.Obj)
abbrev JH:=PySem.Addr->Prop
abbrev JI:=List Int
abbrev JJ:=List PySem.Value
abbrev JK:=List PySem.Addr
abbrev JL:=List PySem.Str
abbrev JM:=Option Int
abbrev JN:=Array PySem.Value
open List(range mem_filter mem_range mem_cons_self mem_cons_of_mem mem_cons mem_append mem_append_left getElem_inj getElem?_set_self getElem?_set_ne mem_append_right size_toArray length_cons map_cons length_map append_nil nodup_cons of_mem_zip replicate length_take getElem?_append_right getElem?_replicate getElem?_append_left getElem?_map length_append zip_cons_cons length_nil length_drop length_set replicate_succ flatten_cons foldl append_assoc foldl_cons Pairwise nodup_nil nodup_append lookup_cons Sublist all_cons any_eq_true pairwise_cons mem_map all_eq_true not_mem_nil getD_eq_getElem?_getD getElem_of_mem getElem?_eq_getElem getElem_mem nodup_range take_add_one take_length getElem?_cons_succ getElem?_cons_zero eq_nil_of_length_eq_zero map_map length_range filter_cons length_filter_le mem_singleton pairwise_map)
open PySem.W(instObj methodObj hideAll hideAll_get lookIn plainGet hasDictIn handedIn plainGet_of plainOver takerIn makesIn emptyDict looks_findIn specialIn takesIn mroIn kitOne kia_one kitx_none kitx_bool kitx_int kitx_str kitx_list kitx_dict callWith_K methodCall_KW clsIn exmOne excIn readsIn findCls fnMade mg_of tabIn envX fnX FnAt CodeHd)
open PySem.Heap(lt_size SameBut get?_push_of_some get?_push_size size_push get?_update_self get?_update_other FlyingW ExtBut)
open Nat(zero_le le_succ)
open Bool(or_eq_false_iff and_eq_true false_eq_true not_eq_true' eq_false_iff or_eq_true)
open Option(isSome_iff_exists map_eq_some_iff join_some)
open Int(toNat_natCast emod_nonneg emod_lt_of_pos)
open PyProof.Rows(firstMet evalArgs_kw2 step_dedup)
set_option Elab.async false
set_option linter.all false
set_option maxRecDepth 100000
noncomputable section
set_option genSizeOf false
set_option compiler.extract_closed false
set_option bootstrap.genMatcherCode false
namespace L2
open PySem PySem.Spec PyProof.Rows
abbrev Key:=Sum Int Str
def Ca:Key->Value->Bool
 |.inl k,v=>Value.isInt k v
 |.inr x,v=>Value.isStrOf x v
def Jd(w:World):Key->Int
 |.inl k=>hashInt k
 |.inr x=>hashStr w x
def cK:∀{k:Key}{v:Value},Ca k v=true->(∃i t,k=Sum.inl i/\v=Value.int i t)\/(∃x t,k=Sum.inr x/\v=Value.str x t)
 |.inl i,v,h=>by obtain⟨t,e⟩:=Value.isInt_shape (k:=i) (v:=v) h;exact .inl ⟨i,t,rfl,e⟩
 |.inr x,v,h=>by obtain⟨t,e⟩:=Value.isStrOf_shape (x:=x) (v:=v) h;exact .inr ⟨x,t,rfl,e⟩
def Ef(a b:Int):decide ((Sum.inl a:Key)=Sum.inl b)=(a==b):=by
 by_cases e:a=b
 ·subst e;simp
 ·have h:¬(Sum.inl a:Key)=Sum.inl b:=fun q=>e (Sum.inl.inj q);rw[decide_eq_false h];exact(beq_eq_false_iff_ne.mpr e).symm
def Ec(a b:Str):decide ((Sum.inr a:Key)=Sum.inr b)=decide (a=b):=by
 by_cases e:a=b
 ·subst e;simp
 ·have h:¬(Sum.inr a:Key)=Sum.inr b:=fun q=>e (Sum.inr.inj q);rw[decide_eq_false h,decide_eq_false e]
def Ee(a:Int)(b:Str):decide ((Sum.inl a:Key)=Sum.inr b)=false:=decide_eq_false (fun q=>nomatch q)
def Ed(a:Str)(b:Int):decide ((Sum.inr a:Key)=Sum.inl b)=false:=decide_eq_false (fun q=>nomatch q)
def oW(prog:Program)(w:World):PySem.KeyKind prog w Key where
 is:=Ca
 hash:=Jd w
 inj:=fun v a b ha hb=>by
  rcases cK ha with⟨i,t,rfl,rfl⟩ |⟨x,t,rfl,rfl⟩
  ·rcases cK hb with⟨j,u,rfl,e⟩ |⟨y,u,rfl,e⟩
   ·injection e with e1 _;rw[e1]
   ·exact nomatch e
  ·rcases cK hb with⟨j,u,rfl,e⟩ |⟨y,u,rfl,e⟩
   ·exact nomatch e
   ·injection e with e1 _;rw[e1]
 byValue:=fun k v h=>by rcases cK h with⟨i,t,rfl,rfl⟩ |⟨x,t,rfl,rfl⟩<;>rfl
 pyHash:=fun hv h=>by
  rcases cK hv with⟨i,t,rfl,rfl⟩ |⟨x,t,rfl,rfl⟩
  ·exact wpAny_pyHash_int h
  ·exact wpAny_pyHash_str h
 eqBool:=fun hu hv h=>by
  rcases cK hu with⟨i,t,rfl,rfl⟩ |⟨x,t,rfl,rfl⟩
  ·rcases cK hv with⟨j,u,rfl,rfl⟩ |⟨y,u,rfl,rfl⟩
   ·rw[Ef]at h;exact wpAny_eqBool_int h
   ·rw[Ee]at h;exact SeqAt.EqAt.int_str i t y u _ _ _ _ h
  ·rcases cK hv with⟨j,u,rfl,rfl⟩ |⟨y,u,rfl,rfl⟩
   ·rw[Ed]at h;exact SeqAt.EqAt.str_int x t j u _ _ _ _ h
   ·rw[Ec]at h;exact wpAny_eqBool_str h
 «strs»:=fun k x t v h=>by
  rcases cK h with⟨i,u,rfl,e⟩ |⟨y,u,rfl,e⟩
  ·exact nomatch e
  ·injection e with e1 _;subst e1;cases v<;>rfl
end L2
namespace L2
open PySem PySem.Spec PyProof.Rows
inductive V where
 |non|bl (b:Bool)|int (i:Int)|str (x:Str)|byt (b:Array UInt8)|flt (b:UInt64)|ref (a:Addr)|ty (n:String)
 deriving DecidableEq
abbrev JO:=List V
def bX:V->Value->Prop
 |.non,u=>u=Value.none
 |.bl b,u=>u=Value.bool b
 |.int i,u=>∃t,u=Value.int i t
 |.str x,u=>∃t,u=Value.str x t
 |.byt b,u=>∃t,u=Value.bytes b t
 |.flt b,u=>∃t,u=Value.float b t
 |.ref a,u=>u=Value.ref a
 |.ty n,u=>u=Value.type n
abbrev aW:JO->JJ->Prop:=Paired bX
def aW.length{xs:JO}{us:JJ}(r:aW xs us):xs.length=us.length:=Paired.length r
def aW.get:∀{xs:JO}{us:JJ}{i:Nat}{x:V},aW xs us->xs[i]?=some x->∃u,us[i]?=some u/\bX x u
 |_,_,_,_,.nil,e=>by simp at e
 |_,_,0,_,.cons r _,e=>by simp at e;subst e;exact⟨_,rfl,r⟩
 |_,_,i+1,x,.cons _ t,e=>by obtain⟨u,h1,h2⟩:=aW.get (i:=i) (x:=x) t (by simpa using e);exact⟨u,by simpa using h1,h2⟩
def aW.set{x:V}{u:Value}(r:bX x u):∀{xs:JO}{us:JJ} (i:Nat),aW xs us->aW (xs.set i x) (us.set i u)
 |_,_,_,.nil=>.nil
 |_,_,0,.cons _ t=>.cons r t
 |_,_,i+1,.cons q t=>.cons q (aW.set r i t)
def aW.append:∀{xs ys:JO}{us ws:JJ},aW xs us->aW ys ws->aW (xs++ys) (us++ws)
 |_,_,_,_,.nil,s=>s
 |_,_,_,_,.cons r t,s=>.cons r (aW.append t s)
def aW.take:∀{xs:JO}{us:JJ} (n:Nat),aW xs us->aW (xs.take n) (us.take n)
 |_,_,0,_|_,_,_+1,.nil=>.nil
 |_,_,n+1,.cons r t=>.cons r (aW.take n t)
def aW.drop:∀{xs:JO}{us:JJ} (n:Nat),aW xs us->aW (xs.drop n) (us.drop n)
 |_,_,0,r=>r
 |_,_,_+1,.nil=>.nil
 |_,_,n+1,.cons _ t=>aW.drop n t
def nq:Option V->Option Value->Prop
 |some v,some u=>bX v u
 |none,none=>True
 |_,_=>False
def KV{κ:Type}:List (κ×V)->List (κ×Value)->Prop:=Paired fun(p:κ×V) (q:κ×Value)=>p.1=q.1/\bX p.2 q.2
def kV:Key->V
 |.inl i=>.int i
 |.inr x=>.str x
inductive HO where
 |lst (xs:JO)
 |tup (xs:JO)
 |dK (kvs:List (Key×V))|dT (kvs:List (List Key×V))
 |set(S:Int->Bool) (n:Nat)
 |ins (C dx:Addr) (fs:List (Str×V))
 |own (x:Addr)
 |xd (fs:List (Str×V))
 |met (f x:Addr)
 |rng (lo hi:Int)
 |frz (o:Obj) (u:HO)
 |tbl (ps:JN)
 |ext (φ:Heap->Prop)
abbrev Hp:=Addr->Option HO
abbrev JP:=Hp->Prop
def upd(H:Hp)(a:Addr)(o:HO):Hp:=fun b=>if b=a then some o else H b
def bz{H:Hp}{a:Addr}{o:HO}:upd H a o a=some o:=by unfold upd;rw[if_pos rfl]
def aJ{H:Hp}{a b:Addr}{o:HO}(h:b≠a):upd H a o b=H b:=by unfold upd;rw[if_neg h]
def bP{H:Hp}{a b:Addr}{o:HO}(h:H a=some o)(h':H b=none):a≠b:=by intro e;subst e;rw[h]at h';cases h'
section
variable(P:Program)(w:World)
def Kp:HO->Prop
 |.tup _|.frz _ _=>True
 |_=>False
def Tab(H:Hp)(ps qs:JN):Prop:=qs=#[]\/ ∃l c q t0 c' oc u vs t,ps=#[l,c,.str q t0]/\qs=#[l,c,.ref c']/\H c'=some (.frz oc u)/\oc.data=.fields vs/\vs[1]?=some (.str q t)
def cU(H:Hp)(h:Heap)(a:Addr):HO->Prop
 |.lst xs=>xs.length<=sizeLine/\∃(its:JJ) (n:Nat),aW xs its/\h.get? a=some {cls:=.type "list",data:=.seq its.toArray n}
 |.tup xs=>xs.length<=sizeLine/\∃its:JJ,aW xs its/\IsTup h a its.toArray
 |.dK kvs=>kvs.length<=sizeLine/\(a==sysModules)=false/\∃vs,KV kvs vs/\h.DictOf (oW P w) a vs
 |.dT kvs=>kvs.length<=sizeLine/\(a==sysModules)=false/\∃xs:List (List Key×Addr×Value),
   Paired (fun(p:List Key×V) (q:List Key×Addr×Value)=>p.1=q.1/\H q.2.1=some (.tup (p.1.map kV))/\bX p.2 q.2.2) kvs xs /\
   ∃o es ep,h.get? a=some o/\o.ExactDict/\o.data=.dict es ep/\es.toList=xs.map (entryOfKey (tupleKind (oW P w)))/\(xs.map (·.1)).Nodup
 |.set S n=>h.SetOf (intKind P w) a S n
 |.ins C dx fs=>H dx=some (.own a)/\fs.length<=1000/\dx≠a/\h.get? a=some (instObj C dx)/\
   ∃mA,h.Ns1 dx mA/\(∀f,nq (fs.lookup f) (mA f))/\PySem.Within mA (fs.map (·.1))
 |.own _=>∃o,h.get? a=some o
 |.xd fs=>∃mA,h.Ns1 a mA/\∀f,nq (fs.lookup f) (mA f)
 |.rng lo hi=>∃t u v,h.get? a=some {cls:=.type "range",data:=.fields #[.int lo t,.int hi u,.int 1 v]}
 |.frz o u=>h.get? a=some o/\cU H h a u
 |.tbl ps=>∃qs,h.get? a=some {cls:=.none,data:=.fields qs}/\Tab H ps qs
 |.met f x=>h.get? a=some (methodObj (.ref f) (.ref x))
 |.ext φ=>φ h/\(∃o,h.get? a=some o)/\∀h1 h2:Heap,φ h1->(∀o,h1.get? a=some o->h2.get? a=some o)->φ h2
def HOk(H:Hp)(h:Heap):Prop:=∀a o,H a=some o->cU P w H h a o
end
section
variable{P:Program}{w:World}{H H':Hp}{h h':Heap}{a:Addr}{o:HO}
def cU.lt(x:cU P w H h a o):a<h.objs.size:=by
 cases o with
 |lst xs=>obtain⟨_,_,_,_,e⟩:=x;exact lt_size e
 |tup xs=>obtain⟨_,_,_,p⟩:=x;exact p.lt
 |dK kvs|dT kvs=>obtain⟨_,_,_,_,o,_,_,e,_⟩:=x;exact lt_size e
 |set S n=>obtain⟨o,_,_,_,e,_⟩:=x;exact lt_size e
 |ins C dx fs=>obtain⟨_,_,_,e,_⟩:=x;exact lt_size e
 |own y=>obtain⟨_,e⟩:=x;exact lt_size e
 |xd fs=>obtain⟨_,⟨_,_,_,e,_⟩,_⟩:=x;exact lt_size e
 |rng lo hi=>obtain⟨_,_,_,e⟩:=x;exact lt_size e
 |frz ob u=>obtain⟨e,_⟩:=x;exact lt_size e
 |tbl ps=>obtain⟨_,e,_⟩:=x;exact lt_size e
 |met f y=>exact lt_size (show h.get? a=some _ from x)
 |ext φ=>obtain⟨_,⟨_,e⟩,_⟩:=x;exact lt_size e
def Paired.mapP{α β:Type}{F G:α->β->Prop}:∀{l₁:List α}{l₂:List β},Paired F l₁ l₂->(∀a b,F a b->G a b)->Paired G l₁ l₂
 |_,_,.nil,_=>.nil
 |_,_,.cons r t,f=>.cons (f _ _ r) (Paired.mapP t f)
def cU.stay(x:cU P w H h a o)(k:∀b u,(b=a\/H b=some (.own a))->h.get? b=some u->h'.get? b=some u)
  (ho:∀b,H b=some (.own a)->H' b=some (.own a)) (ht:∀b u,Kp u->H b=some u->H' b=some u):cU P w H' h' a o:=by
 induction o with
 |lst xs=>obtain⟨z,its,n,r,e⟩:=x;exact⟨z,its,n,r,k _ _ (.inl rfl) e⟩
 |tup xs=>obtain⟨z,its,r,ob,e,c⟩:=x;exact⟨z,its,r,ob,k _ _ (.inl rfl) e,c⟩
 |dK kvs=>obtain⟨z,y,vs,r,ob,es,ep,e,c⟩:=x;exact⟨z,y,vs,r,ob,es,ep,k _ _ (.inl rfl) e,c⟩
 |dT kvs=>obtain⟨z,y,xs,r,ob,es,ep,e,c⟩:=x;exact⟨z,y,xs,Paired.mapP r fun p q z=>⟨z.1,ht _ _ True.intro z.2.1,z.2.2⟩,ob,es,ep,k _ _ (.inl rfl) e,c⟩
 |set S n=>obtain⟨ob,es,ep,t,e,c⟩:=x;exact⟨ob,es,ep,t,k _ _ (.inl rfl) e,c⟩
 |ins C dx fs=>obtain⟨d,z,ne,e,mA,⟨od,es,ep,e2,c⟩,r⟩:=x;exact⟨ho _ d,z,ne,k _ _ (.inl rfl) e,mA,⟨od,es,ep,k _ _ (.inr d) e2,c⟩,r⟩
 |own y=>obtain⟨ob,e⟩:=x;exact⟨ob,k _ _ (.inl rfl) e⟩
 |xd fs=>obtain⟨mA,⟨od,es,ep,e,c⟩,r⟩:=x;exact⟨mA,⟨od,es,ep,k _ _ (.inl rfl) e,c⟩,r⟩
 |rng lo hi=>obtain⟨t,u,v,e⟩:=x;exact⟨t,u,v,k _ _ (.inl rfl) e⟩
 |frz ob u ih=>obtain⟨e,q⟩:=x;exact⟨k _ _ (.inl rfl) e,ih q⟩
 |tbl ps=>obtain⟨qs,e,c⟩:=x;exact⟨qs,k a _ (.inl rfl) e,c.imp (fun z=>z) fun z=>by obtain⟨l,c,q,t0,c',oc,u,vs,t,e1,e2,e3,r⟩:=z;exact⟨l,c,q,t0,c',oc,u,vs,t,e1,e2,ht _ _ True.intro e3,r⟩⟩
 |met f y=>have e:h.get? a=some (methodObj (.ref f) (.ref y)):=x;show h'.get? a=some (methodObj (.ref f) (.ref y));exact k a _ (.inl rfl) e
 |ext φ=>obtain⟨p,⟨o,e⟩,st⟩:=x;exact⟨st _ _ p fun o q=>k _ _ (.inl rfl) q,⟨o,k _ _ (.inl rfl) e⟩,st⟩
def HOk.lt(x:HOk P w H h)(e:H a=some o):a<h.objs.size:=(x a o e).lt
def HOk.fresh(x:HOk P w H h)(e:h.objs.size<=a):H a=none:=by
 cases q:H a with
 |none=>rfl
 |some u=>exact absurd (Nat.lt_of_lt_of_le (x.lt q) e) (Nat.lt_irrefl _)
def HOk.kept(x:HOk P w H h)(k:∀b u,h.get? b=some u->h'.get? b=some u):HOk P w H h':=fun a o e=>
 (x a o e).stay (fun b u _ q=>k b u q) (fun _ q=>q) fun _ _ _ q=>q
def HOk.laid(x:HOk P w H h)(k:∀b u,h.get? b=some u->h'.get? b=some u)(hp:h.objs.size<=a)(new:cU P w (upd H a o) h' a o):HOk P w (upd H a o) h':=fun b u e=>by
 have hn:=x.fresh hp;by_cases hb:b=a
 ·subst hb;rw[bz]at e;cases e;exact new
 ·rw[aJ hb]at e;exact(x b u e).stay (fun c v _ q=>k c v q) (fun c q=>by rw[aJ (bP q hn)];exact q) fun c xs _ q=>by rw[aJ (bP q hn)];exact q
end
def Rd(H:Hp)(a:Addr)(u:HO):Prop:=H a=some u\/∃o,H a=some (.frz o u)
def Rd.ok{P:Program}{w:World}{H:Hp}{h:Heap}{a:Addr}{u:HO}(r:Rd H a u)(x:HOk P w H h):cU P w H h a u:=by
 rcases r with r |⟨o,r⟩
 ·exact x a u r
 ·obtain⟨_,q⟩:=x a _ r;exact q
def Mut:Option HO->Prop
 |some (.lst _)|some (.dK _)|some (.dT _)|some (.set _ _)|some (.ins _ _ _)|some (.ext _)=>True
 |_=>False
section
variable{P:Program}{w:World}{H:Hp}{h h':Heap}{x e:Addr}{o':HO}
def HOk.write(ok:HOk P w H h)(mu:Mut (H x))(he:e=x\/H e=some (.own x))(k:∀b u,b≠e->h.get? b=some u->h'.get? b=some u)(heo:∃u,h'.get? e=some u)
  (new:cU P w (upd H x o') h' x o'):HOk P w (upd H x o') h':=fun b u q=>by
 have nown:∀c y,H c=some (.own y)->c≠x:=fun c y r z=>by subst z;rw[r]at mu;exact mu
 have ntup:∀c u,Kp u->H c=some u->c≠x:=fun c u h r z=>by subst z;rw[r]at mu;cases u<;>first|exact h|exact mu
 by_cases hb:b=x
 ·subst hb;rw[bz]at q;cases q;exact new
 ·rw[aJ hb]at q;by_cases hbe:b=e
  ·have q':H b=some (.own x):=by
    rcases he with z|z
    ·exact absurd (hbe.trans z) hb
    ·rw[hbe];exact z
   rw[q]at q';cases q';obtain⟨v,hv⟩:=heo;exact⟨v,by rw[hbe];exact hv⟩
  ·refine(ok b u q).stay (fun c v hc r=>k c v ?_ r) (fun c r=>by rw[aJ (nown c b r)];exact r) fun c xs h r=>by rw[aJ (ntup c xs h r)];exact r
   rcases hc with rfl|hc
   ·exact hbe
   ·rintro rfl;rcases he with z|z
    ·exact nown c b hc z
    ·rw[hc]at z;cases z;exact hb rfl
end
structure Un(fs ex:JK)(H H':Hp)(h h':Heap):Prop where
 keep:∀b o,h.get? b=some o->H b=none->b∉fs->b∉ex->h'.get? b=some o
 slot:∀b o,h.get? b=some o->H b=none->b∈fs->b∉ex->∃sl,h'.get? b=some {o with slots:=sl}
 free:∀b o,h.get? b=some o->H b=none->b∉ex->H' b=none
 there:∀b o,h.get? b=some o->b∉ex->∃o',h'.get? b=some o'
 tups:∀b xs,H b=some (.tup xs)->H' b=some (.tup xs)
 frzs:∀b o u,H b=some (.frz o u)->H' b=some (.frz o u)
 tbls:∀b ps,H b=some (.tbl ps)->∃more,H' b=some (.tbl (ps++more))
section
variable{fs fs' ex ex':JK}{H H1 H2:Hp}{h h1 h2 h':Heap}{a x e:Addr}{o:HO}
def Un.any(u:Un fs ex H H1 h h1){b:Addr}{ob:Obj}(q:h.get? b=some ob)(n:H b=none)(hx:b∉ex):∃sl,h1.get? b=some {ob with slots:=sl}:=by
 by_cases hb:b∈fs
 ·exact u.slot b ob q n hb hx
 ·exact⟨ob.slots,u.keep b ob q n hb hx⟩
def Un.trans(a:Un fs ex H H1 h h1)(b:Un fs ex H1 H2 h1 h2):Un fs ex H H2 h h2 where
 keep:=fun c ob q n hc hx=>b.keep c ob (a.keep c ob q n hc hx) (a.free c ob q n hx) hc hx
 slot:=fun c ob q n hc hx=>by obtain⟨sl,e1⟩:=a.slot c ob q n hc hx;obtain⟨sl',e2⟩:=b.slot c _ e1 (a.free c ob q n hx) hc hx;exact⟨sl',e2⟩
 free:=fun c ob q n hx=>by obtain⟨o',e1⟩:=a.there c ob q hx;exact b.free c o' e1 (a.free c ob q n hx) hx
 there:=fun c ob q hx=>by obtain⟨o',e1⟩:=a.there c ob q hx;exact b.there c o' e1 hx
 tups:=fun c xs q=>b.tups c xs (a.tups c xs q)
 frzs:=fun c ob xs q=>b.frzs c ob xs (a.frzs c ob xs q)
 tbls:=fun c ps q=>by obtain⟨m1,e1⟩:=a.tbls c ps q;obtain⟨m2,e2⟩:=b.tbls c _ e1;exact⟨m1++m2,by rw[e2,Array.append_assoc]⟩
def Un.kept(k:∀b u,h.get? b=some u->h'.get? b=some u):Un fs ex H H h h':=
 ⟨fun b ob q _ _ _=>k b ob q,fun b ob q _ _ _=>⟨ob.slots,k b ob q⟩,fun _ _ _ n _=>n,fun b ob q _=>⟨ob,k b ob q⟩,fun _ _ q=>q,fun _ _ _ q=>q,fun _ ps q=>⟨#[],by rw[q];simp⟩⟩
def Un.refl:Un fs ex H H h h:=Un.kept fun _ _ q=>q
def Un.laid(k:∀b u,h.get? b=some u->h'.get? b=some u)(hp:h.objs.size<=a)(hn:H a=none):Un fs ex H (upd H a o) h h' where
 keep:=fun b u q _ _ _=>k b u q
 slot:=fun b u q _ _ _=>⟨u.slots,k b u q⟩
 free:=fun b u q n _=>by rw[aJ (Nat.ne_of_lt (Nat.lt_of_lt_of_le (lt_size q) hp))];exact n
 there:=fun b u q _=>⟨u,k b u q⟩
 tups:=fun b xs q=>by rw[aJ (bP q hn)];exact q
 frzs:=fun b u xs q=>by rw[aJ (bP q hn)];exact q
 tbls:=fun b ps q=>⟨#[],by rw[aJ (bP q hn),q];simp⟩
def Un.write(mu:Mut (H x))(he:e=x\/H e=some (.own x))(k:∀b u,b≠e->h.get? b=some u->h'.get? b=some u)(heo:∃u,h'.get? e=some u):Un fs ex H (upd H x o) h h':=by
 have hx:∀b,H b=none->b≠x:=fun b n z=>by subst z;rw[n]at mu;exact mu
 have hb:∀b,H b=none->b≠e:=fun b n z=>by
  subst z;rcases he with r|r
  ·exact hx b n r
  ·rw[n]at r;cases r
 have hm:∀b u,H b=some u->¬Mut (some u)->b≠x:=fun b u q nm z=>by subst z;rw[q]at mu;exact nm mu
 refine ⟨fun b u q n _ _=>k b u (hb b n) q,fun b u q n _ _=>⟨u.slots,k b u (hb b n) q⟩,fun b u q n _=>by rw [aJ (hx b n)];exact n,fun b u q _=>?_,
  fun b xs q=>by rw[aJ (hm b _ q fun z=>z)];exact q,fun b u xs q=>by rw[aJ (hm b _ q fun z=>z)];exact q,fun b ps q=>⟨#[],by rw[aJ (hm b _ q fun z=>z),q];simp⟩⟩
 by_cases hbe:b=e
 ·subst hbe;exact heo
 ·exact⟨u,k b u hbe q⟩
def Un.mono(u:Un fs ex H H1 h h1)(hs:∀b∈fs,b∈fs')(hx:∀b∈ex,b∈ex'):Un fs' ex' H H1 h h1:=
 ⟨fun b ob q n hb he=>u.keep b ob q n (fun z=>hb (hs b z)) fun z=>he (hx b z),fun _ _ q n _ he=>u.any q n fun z=>he (hx _ z),fun b ob q n he=>u.free b ob q n fun z=>he (hx b z),fun b ob q he=>u.there b ob q fun z=>he (hx b z),u.tups,u.frzs,u.tbls⟩
end
def trk(h:Heap)(H:Hp):JK:=(range h.objs.size).filter fun a=>(H a).isSome
def l_(h:Heap)(H:Hp):Heap:=hideAll h (trk h H)
def vp(h:Heap)(H:Hp):(l_ h H).objs.size=h.objs.size:=PySem.W.hideAll_size _ _
def xQ{h:Heap}{H:Hp}{b:Addr}{o:Obj}(e:h.get? b=some o)(n:H b=none):(l_ h H).get? b=some o:=
 hideAll_get _ e fun hm=>by have q:(H b).isSome=true:=(mem_filter.mp hm).2;rw[n]at q;simp at q
def AZ{h:Heap}{H:Hp}{b:Addr}{o:Obj}(e:(l_ h H).get? b=some o):h.get? b=some o/\H b=none:=by
 have e':h.get? b=some o:=PySem.W.of_hideAll (trk h H) e;refine⟨e',?_⟩;cases q:H b with
 |none=>rfl
 |some x=>have hm:b∈trk h H:=mem_filter.mpr ⟨mem_range.mpr (lt_size e'),by simp[q]⟩;have z:(l_ h H).get? b=none:=PySem.W.hideAll_none (trk h H) hm;rw[z]at e;cases e
def BV(g h:Heap)(L:Addr):JG:=(range h.objs.size).filterMap fun a=>if a=L \/(g.get? a).isSome=true then none else(h.get? a).map fun o=>(a,o)
def bU(g h:Heap)(L d:Addr):JG:=(BV g h L).filter fun p=>decide (p.1≠d)
end L2
namespace L2
open PySem PySem.Spec PyProof.Rows
structure Mod(K:PySem.W.Frag)(mg:JE)(base:Heap):Prop where
 kin:K.In base
 glob:base.Ns mainGlobals mg
 blt:∃mb,base.Ns builtinsNs mb/\∀x:Str,x≠"__name__" -> mb x=bootBuiltins x
 nolimit:base.NoLimit
structure Cx where
 prog:Program
 w:World
 K:PySem.W.Frag
 mg:JE
 base:Heap
 A:Around
 N:JL
 s₀:Shared
 H₀:Hp
 env:Env
 outer:List Env
 stack:List Env
 ex:JK
 fn:Str->Bool
 calm:Bool
 pn:JG
 xe:JD
def frs(l:List Env):JK:=l.filterMap (·.frame)
abbrev Cx.fs(X:Cx):JK:=frs X.outer
def Vis(sc:Scope)(x:Str):Prop:=sc.names.lookup x=some .local\/sc.names.lookup x=some .cell\/sc.names.lookup x=some .free
def Loc(sc:Scope)(x:Str):Prop:=sc.names.lookup x=some .local\/sc.names.lookup x=some .cell
def Jt(env:Env)(h:Heap)(m:JE)(x:Str)(u:Value):Prop:=
 (env.kindOf x=some .local/\m x=some u)\/((env.kindOf x=some .cell\/env.kindOf x=some .free)/\∃c,env.cells.lookup x=some c/\h.IsCell c (some u))
structure Cx.Ok(X:Cx):Prop where
 mod:Mod X.K X.mg X.base
 kind:X.env.scope.kind=.function
 glob:X.env.globals=mainGlobals
 blt:X.env.builtins=builtinsNs
 above:X.s₀.heap.objs.size<=X.env.locals
 inj:∀x y c,X.env.cells.lookup x=some c->X.env.cells.lookup y=some c->x=y
 has:∀x,(X.env.kindOf x=some .cell\/X.env.kindOf x=some .free)->∃c,X.env.cells.lookup x=some c
 cab:∀x c,X.fn x=true->X.env.cells.lookup x=some c->X.s₀.heap.objs.size<=c
 hd:X.calm=true->X.A.handled=none
 frames:X.A.frames=some X.stack
 stk:X.stack=X.outer \/(X.stack=X.env::X.outer/\X.env.frame=some X.env.locals)
 exf:∀b∈X.ex,b≠X.env.locals/\∀x c,X.env.cells.lookup x=some c->c≠b
 bs:∀b o,X.base.get? b=some o->X.s₀.heap.get? b=some o/\X.H₀ b=none
 bsz:X.base.objs.size<=X.s₀.heap.objs.size
 noex:∀b o,X.base.get? b=some o->b∉X.ex
 exfs:∀b∈X.ex,b∉X.fs
 funs:X.s₀.heap.FunFrames X.base X.outer
 frf:∀b∈X.fs,X.H₀ b=none
structure Inv(X:Cx)(js:JG)(Y:List (Option V))(H:Hp)(s:Shared):Prop where
 ok:X.Ok
 os:s.os=X.s₀.os
 bare:AllBare s.gens
 base:Un X.fs X.ex X.H₀ H X.s₀.heap s.heap
 loc:∃m,s.heap.Ns X.env.locals m/\∀(i:Nat) (x:Str) (v:V),X.N[i]?=some x->Y[i]?=some (some v)->Vis X.env.scope x->∃u,bX v u/\Jt X.env s.heap m x u
 cell:∀x c,X.env.cells.lookup x=some c->∃v,s.heap.IsCell c v
 free:H X.env.locals=none
 freeC:∀x c,X.env.cells.lookup x=some c->H c=none\/X.fn x=false/\∃o u,H c=some (.frz o u)
 pin:∀p∈X.pn++js,s.heap.get? p.1=some p.2/\H p.1=none/\p.1≠X.env.locals/\p.1∉X.fs/\∀v,p.2.data≠.cell v
 hok:HOk X.prog X.w H s.heap
 len:Y.length=X.N.length
section
variable{X:Cx}{js:JG}{Y:List (Option V)}{H H':Hp}{s:Shared}{h':Heap}
def Cx.Ok.nofr(ok:X.Ok){b:Addr}{o:Obj}(e:X.base.get? b=some o):b∉X.fs:=fun hb=>by have:=(ok.funs.mem hb).1;rw[e]at this;cases this
def Inv.bs(I:Inv X js Y H s):∀b o,X.base.get? b=some o->s.heap.get? b=some o/\H b=none:=fun b o e=>
 ⟨I.base.keep b o (I.ok.bs b o e).1 (I.ok.bs b o e).2 (I.ok.nofr e) (I.ok.noex b o e),I.base.free b o (I.ok.bs b o e).1 (I.ok.bs b o e).2 (I.ok.noex b o e)⟩
def Inv.bk(I:Inv X js Y H s):∀b o,X.base.get? b=some o->s.heap.get? b=some o:=fun b o e=>(I.bs b o e).1
def Inv.mod(I:Inv X js Y H s):Mod X.K X.mg X.base:=I.ok.mod
def Inv.kIn(I:Inv X js Y H s):X.K.In s.heap:=I.ok.mod.kin.keeps I.bk
def Inv.lt(I:Inv X js Y H s):X.env.locals<s.heap.objs.size:=let⟨_,hn,_⟩:=I.loc;hn.lt
def Inv.sz(I:Inv X js Y H s):X.s₀.heap.objs.size<=s.heap.objs.size:=Nat.le_trans I.ok.above (Nat.le_of_lt I.lt)
def Inv.nofs(I:Inv X js Y H s){a:Addr}(h:s.heap.objs.size<=a):a∉X.fs:=fun hb=>by obtain⟨_,o,ho,_⟩:=I.ok.funs.mem hb;exact absurd (Nat.lt_of_lt_of_le (lt_size ho) (Nat.le_trans I.sz h)) (Nat.lt_irrefl _)
def Inv.cne(I:Inv X js Y H s):∀x c,X.env.cells.lookup x=some c->c≠X.env.locals:=fun x c e z=>by obtain⟨v,o,ho,hd⟩:=I.cell x c e;obtain⟨m,⟨o',es,ep,ho',hd',_⟩,_⟩:=I.loc;rw[z,ho']at ho;cases ho;rw[hd']at hd;cases hd
def Inv.funs(I:Inv X js Y H s):s.heap.FunFrames X.base X.outer:=by
 have all:∀(l:List Env),(∀b∈frs l,b∈X.fs)->X.s₀.heap.FunFrames X.base l->s.heap.FunFrames X.base l:=by
  intro l
  induction l with
  |nil=>intro _ _;trivial
  |cons env r ih=>intro hs hl;obtain⟨hk,⟨L,o,hf,hn,ho,hd⟩,hr⟩:=hl;have hL:L∈X.fs:=hs L (by unfold frs;rw[List.filterMap_cons,hf];exact mem_cons_self);obtain⟨sl,e⟩:=I.base.slot L o ho (I.ok.frf L hL) hL fun z=>I.ok.exfs L z hL;exact⟨hk,⟨L,_,hf,hn,e,hd⟩,ih (fun b hb=>hs b (by unfold frs;rw[List.filterMap_cons,hf];exact mem_cons_of_mem _ hb)) hr⟩
 exact all X.outer (fun _ hb=>hb) I.ok.funs
def Inv.stack(I:Inv X js Y H s):s.heap.FunFrames X.base X.stack:=by
 rcases I.ok.stk with e |⟨e,hf⟩
 ·rw[e];exact I.funs
 ·rw[e];obtain⟨m,hn,_⟩:=I.loc;refine .cons (by rw[I.ok.kind];decide) hf hn ?_ I.funs;exact Heap.get?_none_of_le (Nat.le_trans I.ok.bsz I.ok.above)
def Inv.stkSub(I:Inv X js Y H s):∀b∈frs X.stack,b∈X.env.locals::X.fs:=fun b hb=>by
 rcases I.ok.stk with e |⟨e,hf⟩
 ·rw[e]at hb;exact mem_cons_of_mem _ hb
 ·rw[e]at hb;unfold frs at hb;rw[List.filterMap_cons,hf]at hb;exact hb
def Inv.stkFree(I:Inv X js Y H s):∀b∈frs X.stack,H b=none:=fun b hb=>by
 rcases mem_cons.mp (I.stkSub b hb)with e|hb
 ·rw[e];exact I.free
 ·obtain⟨_,o,ho,_⟩:=I.ok.funs.mem hb;exact I.base.free b o ho (I.ok.frf b hb) fun z=>I.ok.exfs b z hb
def Inv.step{g':Array GenState}{t':Nat}{d':Drawn}{ch:JK}(I:Inv X js Y H s)
  (hch:∀b∈ch,(b∈X.ex\/X.s₀.heap.objs.size<=b)/\b≠X.env.locals/\(∀x c,X.env.cells.lookup x=some c->c≠b)/\∀p∈X.pn++js,p.1≠b)
  (keep:∀b o,b≠X.env.locals->b∉X.fs->b∉ch->s.heap.get? b=some o->H b=none->h'.get? b=some o)
  (slot:∀b o,b≠X.env.locals->b∈X.fs->b∉ch->s.heap.get? b=some o->H b=none->∃sl,h'.get? b=some {o with slots:=sl}) (free:∀b o,b∉ch->s.heap.get? b=some o->H b=none->H' b=none)
  (there:∀b o,b∉ch->s.heap.get? b=some o->∃o',h'.get? b=some o')
  (tups:∀b xs,H b=some (.tup xs)->H' b=some (.tup xs)) (frzs:∀b o u,H b=some (.frz o u)->H' b=some (.frz o u)) (tbls:∀b ps,H b=some (.tbl ps)->∃more,H' b=some (.tbl (ps++more)))
  (ns:∀m,s.heap.Ns X.env.locals m->h'.Ns X.env.locals m) (hok:HOk X.prog X.w H' h') (hg:AllBare g') :
  Inv X js Y H' {s with heap:=h',gens:=g',drawn:=d',toks:=t'}:=by
 have neL:∀b o,X.s₀.heap.get? b=some o->b≠X.env.locals:=fun b o e=>Nat.ne_of_lt (Nat.lt_of_lt_of_le (lt_size e) I.ok.above);have neC:∀b o,X.s₀.heap.get? b=some o->b∉X.ex->b∉ch:=fun b o e hx hb=>by
  rcases(hch b hb).1 with z|z
  ·exact hx z
  ·exact absurd (Nat.lt_of_lt_of_le (lt_size e) z) (Nat.lt_irrefl _)
 have cellK:∀x c,X.env.cells.lookup x=some c->∀v,s.heap.IsCell c v->h'.IsCell c v:=fun x c e v hz1=>by
  obtain⟨o,ho,hd⟩:=hz1;have nch:c∉ch:=fun z=>(hch c z).2.2.1 x c e rfl;rcases I.freeC x c e with n |⟨_,o',u,q⟩
  ·by_cases hc:c∈X.fs
   ·obtain⟨sl,q⟩:=slot c o (I.cne x c e) hc nch ho n;exact⟨_,q,hd⟩
   ·exact⟨o,keep c o (I.cne x c e) hc nch ho n,hd⟩
  ·obtain⟨q1,_⟩:=I.hok c _ q;obtain⟨q2,_⟩:=hok c _ (frzs c o' u q);rw[ho]at q1;cases q1;exact⟨o,q2,hd⟩
 refine⟨I.ok,I.os,hg,⟨fun b o e n hb hx=>?_,fun b o e n hb hx=>?_,fun b o e n hx=>?_,fun b o e hx=>?_,fun b xs e=>tups b xs (I.base.tups b xs e),fun b o xs e=>frzs b o xs (I.base.frzs b o xs e),fun b ps e=>?_⟩,?_,fun x c e=>?_,?_,fun x c e=>?_,fun p hp=>?_,hok,I.len⟩
 ·exact keep b o (neL b o e) hb (neC b o e hx) (I.base.keep b o e n hb hx) (I.base.free b o e n hx)
 ·obtain⟨sl,e1⟩:=I.base.slot b o e n hb hx;obtain⟨sl',e2⟩:=slot b _ (neL b o e) hb (neC b o e hx) e1 (I.base.free b o e n hx);exact⟨sl',e2⟩
 ·obtain⟨o',e1⟩:=I.base.there b o e hx;exact free b o' (neC b o e hx) e1 (I.base.free b o e n hx)
 ·obtain⟨o',e1⟩:=I.base.there b o e hx;exact there b o' (neC b o e hx) e1
 ·obtain⟨m1,e1⟩:=I.base.tbls b ps e;obtain⟨m2,e2⟩:=tbls b _ e1;exact⟨m1++m2,by rw[e2,Array.append_assoc]⟩
 ·obtain⟨m,hn,hl⟩:=I.loc;refine⟨m,ns m hn,fun i x v e1 e2 e3=>?_⟩;obtain⟨u,r,l⟩:=hl i x v e1 e2 e3;refine⟨u,r,?_⟩;rcases l with l |⟨k,c,e,z⟩
  ·exact .inl l
  ·exact .inr ⟨k,c,e,cellK x c e _ z⟩
 ·obtain⟨v,z⟩:=I.cell x c e;exact⟨v,cellK x c e v z⟩
 ·obtain⟨m,⟨o,_,_,ho,_⟩,_⟩:=I.loc;exact free _ o (fun z=>(hch _ z).2.1 rfl) ho I.free
 ·obtain⟨v,o,ho,hd⟩:=I.cell x c e;rcases I.freeC x c e with n |⟨n,o',u,q⟩
  ·exact .inl (free c o (fun z=>(hch c z).2.2.1 x c e rfl) ho n)
  ·exact .inr ⟨n,o',u,frzs c o' u q⟩
 ·obtain⟨e,n,ne,nf,d⟩:=I.pin p hp;have nch:p.1∉ch:=fun z=>(hch p.1 z).2.2.2 p hp rfl;exact⟨keep p.1 p.2 ne nf nch e n,free p.1 p.2 nch e n,ne,nf,d⟩
def Inv.un{t':Nat}(I:Inv X js Y H s)(u:Un X.fs [] H H' s.heap h')(hok:HOk X.prog X.w H' h'):Inv X js Y H' {s with heap:=h',toks:=t'}:=by
 obtain⟨m,⟨o,es,ep,ho,r⟩,_⟩:=id I.loc;obtain⟨sl,hL⟩:=u.any ho I.free (by simp);exact I.step (g':=s.gens) (d':=s.drawn) (ch:=[]) (fun _ z=>nomatch z) (fun b o _ hb _ e n=>u.keep b o e n hb (by simp)) (fun b o _ hb _ e n=>u.slot b o e n hb (by simp)) (fun b o _ e n=>u.free b o e n (by simp)) (fun b o _ e=>u.there b o e (by simp)) u.tups u.frzs u.tbls (fun m' hm=>by
  obtain⟨o',es',ep',ho',r'⟩:=hm;rw[ho]at ho';cases ho';exact⟨_,es',ep',hL,r'⟩) hok I.bare
def Inv.call{g':Array GenState}{t':Nat}{d':Drawn}{ch:JK}(I:Inv X js Y H s)(u:Un (frs X.stack) ch H H' s.heap h')(hok:HOk X.prog X.w H' h')(hg:AllBare g')
  (hch:∀b∈ch,(b∈X.ex\/X.s₀.heap.objs.size<=b)/\b≠X.env.locals/\(∀x c,X.env.cells.lookup x=some c->c≠b)/\∀p∈X.pn++js,p.1≠b) :
  Inv X js Y H' {s with heap:=h',gens:=g',drawn:=d',toks:=t'}:=by
 obtain⟨m,⟨o,es,ep,ho,r⟩,_⟩:=id I.loc;obtain⟨sl,hL⟩:=u.any ho I.free fun z=>(hch _ z).2.1 rfl;exact I.step (ch:=ch) hch (fun b o hL hb hc e n=>u.keep b o e n (fun z=>(mem_cons.mp (I.stkSub b z)).elim hL hb) hc) (fun b o _ _ hc e n=>u.any e n hc) (fun b o hc e n=>u.free b o e n hc) (fun b o hc e=>u.there b o e hc) u.tups u.frzs u.tbls (fun m' hm=>by
  obtain⟨o',es',ep',ho',r'⟩:=hm;rw[ho]at ho';cases ho';exact⟨_,es',ep',hL,r'⟩) hok hg
def Inv.turned{t':Nat}{it:Addr}(I:Inv X js Y H s)(k:∀b o,b≠it->s.heap.get? b=some o->h'.get? b=some o)(hn:H it=none)(hL:it≠X.env.locals)
  (h1:it∈X.ex\/X.s₀.heap.objs.size<=it) (h2:∀x c,X.env.cells.lookup x=some c->c≠it) (h3:∀p∈X.pn++js,p.1≠it):Inv X js Y H {s with heap:=h',toks:=t'}:=by
 have nit:∀b u,H b=some u->b≠it:=fun b u e z=>by rw[z,hn]at e;cases e
 refine I.step (g':=s.gens) (d':=s.drawn) (ch:=[it]) (fun b hb=>?_) (fun b o _ _ hc e _=>k b o (fun z=>hc (by simp[z])) e) (fun b o _ _ hc e _=>⟨o.slots,k b o (fun z=>hc (by simp[z])) e⟩) (fun _ _ _ _ n=>n)
  (fun b o hc e=>⟨o,k b o (fun z=>hc (by simp[z])) e⟩) (fun _ _ e=>e) (fun _ _ _ e=>e) (fun b ps e=>⟨#[],by rw[e];simp⟩) (fun m hm=>?_) (fun b u e=>?_) I.bare
 ·have e:b=it:=by simpa using hb
  subst e;exact⟨h1,hL,h2,h3⟩
 ·obtain⟨o,es,ep,ho,r⟩:=hm;exact⟨o,es,ep,k _ o (Ne.symm hL) ho,r⟩
 ·refine(I.hok b u e).stay (fun c v hc q=>k c v ?_ q) (fun _ q=>q) fun _ _ _ q=>q;rcases hc with z|z
  ·rw[z];exact nit b u e
  ·exact nit c _ z
def Inv.tok(I:Inv X js Y H s)(t:Nat):Inv X js Y H {s with toks:=t}:=I.un (h':=s.heap) (t':=t) Un.refl I.hok
def Inv.kept{t':Nat}(I:Inv X js Y H s)(k:∀b u,s.heap.get? b=some u->h'.get? b=some u):Inv X js Y H {s with heap:=h',toks:=t'}:=I.un (Un.kept k) (I.hok.kept k)
def Inv.laid{a:Addr}{o:HO}{t':Nat}(I:Inv X js Y H s)(k:∀b u,s.heap.get? b=some u->h'.get? b=some u)(hp:s.heap.objs.size<=a)(new:cU X.prog X.w (upd H a o) h' a o) :
  Inv X js Y (upd H a o) {s with heap:=h',toks:=t'}:=I.un (Un.laid k hp (I.hok.fresh hp)) (I.hok.laid k hp new)
def Inv.write{x e:Addr}{o:HO}{t':Nat}(I:Inv X js Y H s)(mu:Mut (H x))(he:e=x\/H e=some (.own x))(k:∀b u,b≠e->s.heap.get? b=some u->h'.get? b=some u)(heo:∃u,h'.get? e=some u)
  (new:cU X.prog X.w (upd H x o) h' x o):Inv X js Y (upd H x o) {s with heap:=h',toks:=t'}:=I.un (Un.write mu he k heo) (I.hok.write mu he k heo new)
def Inv.pins_of{pins':JG}(I:Inv X js Y H s)(h:∀p∈pins',s.heap.get? p.1=some p.2/\H p.1=none/\p.1≠X.env.locals/\p.1∉X.fs/\∀v,p.2.data≠.cell v):Inv X pins' Y H s:=
 ⟨I.ok,I.os,I.bare,I.base,I.loc,I.cell,I.free,I.freeC,fun p hp=>(mem_append.mp hp).elim (fun z=>I.pin p (mem_append_left _ z)) (h p),I.hok,I.len⟩
def lO{N:JL}(hN:N.Nodup){i j:Nat}{x:Str}(a:N[i]?=some x)(b:N[j]?=some x):i=j:=by obtain⟨h1,e1⟩:=List.getElem?_eq_some_iff.mp a;obtain⟨h2,e2⟩:=List.getElem?_eq_some_iff.mp b;exact(getElem_inj hN).mp (e1.trans e2.symm)
def nA{M:Model}{A:Around}{E:JD}{i:Nat}{x:Str}{v:V}{u:Value}{Q:Unit->Shared->Prop}(I:Inv X js Y H s)(hN:X.N.Nodup)(hi:X.N[i]?=some x)(hx:Loc X.env.scope x)(r:bX v u)
  (h:∀s',Inv X js (Y.set i (some v)) H s'->(∃a,SameBut a s.heap s'.heap/\(a=X.env.locals\/X.env.cells.lookup x=some a))->Q () s') (hf:X.fn x=true\/X.env.scope.names.lookup x=some .local:=by first|exact .inl rfl|exact .inr rfl|assumption):wpAny M A (storeName X.env x u) Q E s:=by
 obtain⟨m,hn,hl⟩:=id I.loc;have hcls:(X.env.scope.kind==.class ||(X.env.scope.kind==.module&&X.env.locals != X.env.globals))=false:=by rw[I.ok.kind];rfl
 have hiσ:i<Y.length:=by rw[I.len];exact(List.getElem?_eq_some_iff.mp hi).1
 have cne:=I.cne;have tracked:∀{a:Addr}{h':Heap},(∃o,s.heap.get? a=some o/\H a=none)->SameBut a s.heap h'->HOk X.prog X.w H h':=fun {a h'} ha hs b ob e=>by
  obtain⟨_,_,hfree⟩:=ha;refine(I.hok b ob e).stay (fun c w' hc q=>(hs.2 c ?_).trans q) (fun _ q=>q) fun _ _ _ q=>q;rintro rfl;rcases hc with rfl|hc
  ·rw[hfree]at e;cases e
  ·rw[hfree]at hc;cases hc
 rcases hx with hk|hk
 ·refine wpAny_storeName_local hk hn (fun h' hn' hs=>?_) hcls;obtain⟨oL,_,_,hoL,_⟩:=id hn;refine h _ ⟨I.ok,I.os,I.bare,⟨fun b o e n hb hx=>?_,fun b o e n hb hx=>?_,I.base.free,fun b o e hx=>?_,I.base.tups,I.base.frzs,I.base.tbls⟩,⟨_,hn',fun j y v' e1 e2 e3=>?_⟩,fun y c e=>?_,I.free,I.freeC,fun p hp=>?_,tracked ⟨oL,hoL,I.free⟩ hs,by simpa using I.len⟩ ⟨_,hs,.inl rfl⟩
  ·exact(hs.2 b (Nat.ne_of_lt (Nat.lt_of_lt_of_le (lt_size e) I.ok.above))).trans (I.base.keep b o e n hb hx)
  ·obtain⟨sl,e1⟩:=I.base.slot b o e n hb hx;exact⟨sl,(hs.2 b (Nat.ne_of_lt (Nat.lt_of_lt_of_le (lt_size e) I.ok.above))).trans e1⟩
  ·obtain⟨o',e1⟩:=I.base.there b o e hx;exact⟨o',(hs.2 b (Nat.ne_of_lt (Nat.lt_of_lt_of_le (lt_size e) I.ok.above))).trans e1⟩
  ·by_cases hj:j=i
   ·subst hj;rw[hi]at e1;cases e1;rw[getElem?_set_self hiσ]at e2;cases e2;exact⟨u,r,.inl ⟨hk,by simp⟩⟩
   ·rw[getElem?_set_ne (Ne.symm hj)]at e2;obtain⟨u',r',q⟩:=hl j y v' e1 e2 e3;refine⟨u',r',?_⟩;rcases q with⟨k,e⟩ |⟨k,c,e,z⟩
    ·refine .inl ⟨k,?_⟩;have:y≠x:=fun e=>hj (lO hN e1 (e▸hi));simp[this,e]
    ·exact .inr ⟨k,c,e,z.sameBut hs (cne y c e)⟩
  ·obtain⟨w',z⟩:=I.cell y c e;exact⟨w',z.sameBut hs (cne y c e)⟩
  ·obtain⟨e,n,ne,nf,d⟩:=I.pin p hp;exact⟨(hs.2 p.1 ne).trans e,n,ne,nf,d⟩
 ·have hfn:X.fn x=true:=by
   rcases hf with z|z
   ·exact z
   ·rw[z]at hk;cases hk
  obtain⟨c,hc⟩:=I.ok.has x (.inl hk);obtain⟨w',z⟩:=I.cell x c hc;refine wpAny_storeName_cell I.ok.kind hk hc z (fun h' hc' hs=>?_);obtain⟨oc,hoc,hocd⟩:=id z;refine h {s with heap:=h'} ⟨I.ok,I.os,I.bare,⟨fun b o e n hb hx=>?_,fun b o e n hb hx=>?_,I.base.free,fun b o e hx=>?_,I.base.tups,I.base.frzs,I.base.tbls⟩,⟨m,hn.sameBut hs (Ne.symm (cne x c hc)),fun j y v' e1 e2 e3=>?_⟩,fun y c' e=>?_,I.free,I.freeC,fun p hp=>?_,tracked ⟨oc,hoc,(I.freeC x c hc).resolve_right fun q=>by rw[hfn]at q;cases q.1⟩ hs,by simpa using I.len⟩ ⟨c,hs,.inr hc⟩
  ·exact(hs.2 b (Nat.ne_of_lt (Nat.lt_of_lt_of_le (lt_size e) (I.ok.cab x c hfn hc)))).trans (I.base.keep b o e n hb hx)
  ·obtain⟨sl,e1⟩:=I.base.slot b o e n hb hx;exact⟨sl,(hs.2 b (Nat.ne_of_lt (Nat.lt_of_lt_of_le (lt_size e) (I.ok.cab x c hfn hc)))).trans e1⟩
  ·obtain⟨o',e1⟩:=I.base.there b o e hx;exact⟨o',(hs.2 b (Nat.ne_of_lt (Nat.lt_of_lt_of_le (lt_size e) (I.ok.cab x c hfn hc)))).trans e1⟩
  ·by_cases hj:j=i
   ·subst hj;rw[hi]at e1;cases e1;rw[getElem?_set_self hiσ]at e2;cases e2;exact⟨u,r,.inr ⟨.inl hk,c,hc,hc'⟩⟩
   ·rw[getElem?_set_ne (Ne.symm hj)]at e2;obtain⟨u',r',q⟩:=hl j y v' e1 e2 e3;refine⟨u',r',?_⟩;rcases q with q |⟨k,c',e,z'⟩
    ·exact .inl q
    ·refine .inr ⟨k,c',e,z'.sameBut hs ?_⟩;rintro rfl;exact hj (lO hN e1 (I.ok.inj _ _ _ e hc▸hi))
  ·by_cases hcc:c'=c
   ·subst hcc;exact⟨_,hc'⟩
   ·obtain⟨w2,z2⟩:=I.cell y c' e;exact⟨w2,z2.sameBut hs hcc⟩
  ·obtain⟨e,n,ne,nf,d⟩:=I.pin p hp;refine⟨(hs.2 p.1 ?_).trans e,n,ne,nf,d⟩;intro q;rw[q,hoc]at e;have q':oc=p.2:=Option.some.inj e;exact d w' (by rw[<- q'];exact hocd)
def jz{M:Model}{A:Around}{E:JD}{i:Nat}{x:Str}{v:V}{u:Value}{Q:Unit->Shared->Prop}(I:Inv X js Y H s)(hN:X.N.Nodup)(hi:X.N[i]?=some x)(hx:Loc X.env.scope x)(r:bX v u)
  (h:∀s',Inv X js (Y.set i (some v)) H s'->Q () s') (hf:X.fn x=true\/X.env.scope.names.lookup x=some .local:=by first|exact .inl rfl|exact .inr rfl|assumption):wpAny M A (storeName X.env x u) Q E s:=
 nA I hN hi hx r (fun s' I' _=>h s' I') hf
def Inv.call'{s':Shared}{ch:JK}(I:Inv X js Y H s)(ho:s'.os=s.os)(u:Un (frs X.stack) ch H H' s.heap s'.heap)(hok:HOk X.prog X.w H' s'.heap)(hg:AllBare s'.gens)
  (hch:∀b∈ch,(b∈X.ex\/X.s₀.heap.objs.size<=b)/\b≠X.env.locals/\(∀x c,X.env.cells.lookup x=some c->c≠b)/\∀p∈X.pn++js,p.1≠b):Inv X js Y H' s':=by
 obtain⟨h',g',d',t',o'⟩:=s';have e:o'=s.os:=ho;subst e;exact I.call (g':=g') (t':=t') (d':=d') u hok hg hch
end
abbrev XK:=Value->Option Addr->JP
abbrev St:=List (Option V)
abbrev VK:=V->JP
abbrev TE:=St->Hp->VK->Prop
abbrev TT:=St->Hp->(Bool->JP)->Prop
abbrev TA:=St->Hp->(JO->JP)->Prop
structure Ends where
 nx:St->JP
 rt:VK
 bk:St->JP:=fun _ _=>False
 ct:St->JP:=fun _ _=>False
abbrev TS:=Ends->St->JP
def EP(X:Cx)(js:JG)(Y:St)(Q:VK)(u:Value)(s':Shared):Prop:=∃v H',Inv X js Y H' s'/\bX v u/\Q v H'
def TP(X:Cx)(js:JG)(Y:St)(Q:Bool->JP)(b:Bool)(s':Shared):Prop:=∃H',Inv X js Y H' s'/\Q b H'
def AP(X:Cx)(js:JG)(Y:St)(Q:JO->JP)(us:JJ)(s':Shared):Prop:=∃vs H',Inv X js Y H' s'/\aW vs us/\Q vs H'
def SP(X:Cx)(js:JG)(D:Ends)(f:Flow)(s':Shared):Prop:=
 match f with
 |.next=>∃σ' H',Inv X js σ' H' s'/\D.nx σ' H'
 |.brk=>∃σ' H',Inv X js σ' H' s'/\D.bk σ' H'
 |.cont=>∃σ' H',Inv X js σ' H' s'/\D.ct σ' H'
 |.ret u=>∃v σ' H',Inv X js σ' H' s'/\bX v u/\D.rt v H'
def PE(X:Cx)(e:Expr)(t:TE):Prop:=
 ∀(js:JG) (s:Shared) (Y:St) (H:Hp) (Q:VK),Inv X js Y H s->t Y H Q->wpAny (model X.prog X.w) X.A (eval e X.env) (EP X js Y Q) X.xe s
def PT(X:Cx)(e:Expr)(t:TT):Prop:=
 ∀(js:JG) (s:Shared) (Y:St) (H:Hp) (Q:Bool->JP),Inv X js Y H s->t Y H Q->wpAny (model X.prog X.w) X.A (isTrue e X.env (eval e X.env)) (TP X js Y Q) X.xe s
def PW(X:Cx)(e:Expr)(t:TT):Prop:=
 ∀(whole:Sem Value) (js:JG) (s:Shared) (Y:St) (H:Hp) (Q:Bool->JP),Inv X js Y H s->t Y H Q->wpAny (model X.prog X.w) X.A (isTrue e X.env whole) (TP X js Y Q) X.xe s
def PW.pt{X:Cx}{e:Expr}{t:TT}(h:PW X e t):PT X e t:=h _
def PA(X:Cx)(es:List Expr)(t:TA):Prop:=
 ∀(pos:Pos) (js:JG) (s:Shared) (Y:St) (H:Hp) (Q:JO->JP),Inv X js Y H s->t Y H Q->wpAny (model X.prog X.w) X.A (spliced (backTo pos (starEach es X.env))) (AP X js Y Q) X.xe s
def PS(X:Cx)(st:Stmt)(t:TS):Prop:=
 ∀(js:JG) (s:Shared) (Y:St) (H:Hp) (D:Ends),Inv X js Y H s->t D Y H->wpAny (model X.prog X.w) X.A (exec st X.env) (SP X js D) X.xe s
def PSs(X:Cx)(st:List Stmt)(t:TS):Prop:=
 ∀(js:JG) (s:Shared) (Y:St) (H:Hp) (D:Ends),Inv X js Y H s->t D Y H->wpAny (model X.prog X.w) X.A (execs st X.env) (SP X js D) X.xe s
def thn{α:Type}{t:Sem α}{Q Q':α->Shared->Prop}{M:Model}{A:Around}{E:JD}{s:Shared}(h:wpAny M A t Q E s)(hQ:∀a s,Q a s->Q' a s):wpAny M A t Q' E s:=wpAny_mono h hQ fun _ _ x=>x
end L2
namespace L2
open PySem PySem.Spec PyProof.Rows
section
variable{X:Cx}
def Cr(i:Nat):TE:=fun Y H Q=>∃v,Y[i]?=some (some v)/\Q v H
def tC(v:V):TE:=fun _ H Q=>Q v H
def hZ{i:Nat}{x:Str}{pos:Pos}(hN:X.N[i]?=some x)(hv:Vis X.env.scope x)(hd:(x ==("__debug__":Str))=false:=by decide)(hcd:(x ==("__classdict__":Str))=false:=by decide):PE X (.Name x pos) (Cr i):=by
 intro js s Y H Q I h;obtain⟨v,e,h⟩:=h;obtain⟨m,hn,hl⟩:=I.loc;obtain⟨u,r,l⟩:=hl i x v hN e hv;have fin:EP X js Y Q u s:=⟨v,H,I,r,h⟩
 rcases l with⟨hk,hm⟩ |⟨hk,c,hc,hcell⟩
 ·exact wpAny_Name (wpAny_loadName_local I.ok.kind hk hn hm fin) hd
 ·rcases hk with hk|hk
  ·exact wpAny_Name (wpAny_loadName_cell I.ok.kind hk hc hcell fin) hd
  ·exact wpAny_Name (wpAny_loadName_free I.ok.kind hk hc hcell fin hcd) hd
def wJ{i j pos}:PE X (.Constant (.int i) j pos) (tC (.int i)):=fun _ _ _ H _ I h=>wpAny_Constant_int ⟨.int i,H,I.tok _,⟨_,rfl⟩,h⟩
def GL{b j pos}:PE X (.Constant (.bool b) j pos) (tC (.bl b)):=fun _ _ _ H _ I h=>Constant_bool ⟨.bl b,H,I,rfl,h⟩
def wI{j pos}:PE X (.Constant .none j pos) (tC .non):=fun _ _ _ H _ I h=>Constant_none ⟨.non,H,I,rfl,h⟩
def C6{x j pos}:PE X (.Constant (.str x) j pos) (tC (.str x)):=fun _ _ _ H _ I h=>Calls.Constant_str ⟨.str x,H,I.tok _,⟨_,rfl⟩,h⟩
def Gl(X:Cx)(x:Str):Prop:=X.env.kindOf x=some .globalImplicit
def iZ{E:JD}{js:JG}{s:Shared}{Y:St}{H:Hp}{x:Str}{u:Value}{pos:Pos}{Q:JD}(I:Inv X js Y H s)(hg:Gl X x)(hm:X.mg x=some u)(h:Q u s)
  (hd:(x ==("__debug__":Str))=false:=by decide):wpAny (model X.prog X.w) X.A (eval (.Name x pos) X.env) Q E s:=
 Calls.Name_function_global I.ok.kind hg (Calls.loadGlobal_global (by rw[I.ok.glob];exact I.mod.glob.keeps I.bk) hm h) hd
def gG{E:JD}{js:JG}{s:Shared}{Y:St}{H:Hp}{x:Str}{u:Value}{pos:Pos}{Q:JD}(I:Inv X js Y H s)(hg:Gl X x)(hm:X.mg x=none)(hv:bootBuiltins x=some u)(h:Q u s)
  (hn:x≠"__name__":=by decide) (hd:(x ==("__debug__":Str))=false:=by decide):wpAny (model X.prog X.w) X.A (eval (.Name x pos) X.env) Q E s:=by
 obtain⟨mb,h1,h2⟩:=I.mod.blt;exact Calls.Name_function_global I.ok.kind hg (Calls.loadGlobal_builtin (by rw[I.ok.glob];exact I.mod.glob.keeps I.bk) hm (by rw[I.ok.blt];exact h1.keeps I.bk) ((h2 x hn).trans hv) h) hd
def jJ{x:Str}{v:V}{u:Value}{pos:Pos}(hg:Gl X x)(hm:X.mg x=some u)(r:bX v u)(hd:(x ==("__debug__":Str))=false:=by decide):PE X (.Name x pos) (tC v):=
 fun _ _ _ H _ I h=>iZ I hg hm ⟨v,H,I,r,h⟩ hd
def tq{x:Str}{v:V}{u:Value}{pos:Pos}(hg:Gl X x)(hm:X.mg x=none)(hv:bootBuiltins x=some u)(r:bX v u)(hn:x≠"__name__":=by decide)(hd:(x ==("__debug__":Str))=false:=by decide):PE X (.Name x pos) (tC v):=
 fun _ _ _ H _ I h=>gG I hg hm hv ⟨v,H,I,r,h⟩ hn hd
variable{a b:Expr}{ta tb:TE}{pos:Pos}
variable{tA tB':TT}{bU:List Expr}
def IP(t u:TT):TT:=fun Y H Q=>t Y H fun c H1=>if c=true then u Y H1 Q else Q false H1
def tOr(t u:TT):TT:=fun Y H Q=>t Y H fun c H1=>if c=true then Q true H1 else u Y H1 Q
def IL(t:TT):TT:=fun Y H Q=>t Y H fun c H1=>Q (!c) H1
def AH(ha:PT X a tA):PW X (.BoolOp .And [a] pos) tA:=by
 intro wh js s Y H Q I h;refine isTrue_and (thn (ha js s Y H Q I h) fun c s1 e=>?_);cases c with
 |true=>exact isTrue_and_nil e
 |false=>exact e
def CU(ha:PT X a tA):PW X (.BoolOp .Or [a] pos) tA:=by
 intro wh js s Y H Q I h;refine isTrue_or (thn (ha js s Y H Q I h) fun c s1 e=>?_);cases c with
 |false=>exact isTrue_or_nil e
 |true=>exact e
def CV(ha:PT X a tA)(hb:PW X (.BoolOp .And (b::bU) pos) tB'):PW X (.BoolOp .And (a::b::bU) pos) (IP tA tB'):=by
 intro wh js s Y H Q I h;refine isTrue_and (thn (ha js s Y H _ I h) fun c s1 ⟨H1,I1,q1⟩=>?_);cases c with
 |true=>exact hb wh js s1 Y H1 Q I1 q1
 |false=>exact⟨H1,I1,q1⟩
def Gz(ha:PT X a tA)(hb:PW X (.BoolOp .Or (b::bU) pos) tB'):PW X (.BoolOp .Or (a::b::bU) pos) (tOr tA tB'):=by
 intro wh js s Y H Q I h;refine isTrue_or (thn (ha js s Y H _ I h) fun c s1 ⟨H1,I1,q1⟩=>?_);cases c with
 |true=>exact⟨H1,I1,q1⟩
 |false=>exact hb wh js s1 Y H1 Q I1 q1
def CW(ha:PT X a tA):PT X (.UnaryOp .Not a pos) (IL tA):=by intro js s Y H Q I h;exact isTrue_not (ha js s Y H (fun c H1=>Q (!c) H1) I h)
def Gk(ta tb:TE):TE:=fun Y H Q=>ta Y H fun x H1=>∃c,x=.bl c/\if c=true then tb Y H1 Q else Q (.bl false) H1
def IK(ta tb:TE):TE:=fun Y H Q=>ta Y H fun x H1=>∃c,x=.bl c/\if c=true then Q (.bl true) H1 else tb Y H1 Q
def Gf(ta:TE):TE:=fun Y H Q=>ta Y H fun x H1=>∃c,x=.bl c/\Q (.bl (!c)) H1
def C7{op}{t:TE}(h:PE X a t):PE X (.BoolOp op [a] pos) t:=fun js s Y H Q I hw=>BoolOp_one (h js s Y H Q I hw)
def Da(ha:PE X a ta)(hb:PE X (.BoolOp .And (b::bU) pos) tb):PE X (.BoolOp .And (a::b::bU) pos) (Gk ta tb):=by
 intro js s Y H Q I h;refine BoolOp_and (thn (ha js s Y H _ I h) fun v s1 zz=>?_);obtain⟨x,H1,I1,r1,q1⟩:=zz;obtain⟨c,rfl,q1⟩:=q1;cases r1;refine wpAny_truthy_bool ?_;cases c with
 |true=>exact hb js s1 Y H1 Q I1 q1
 |false=>exact⟨.bl false,H1,I1,rfl,q1⟩
def GH(ha:PE X a ta)(hb:PE X (.BoolOp .Or (b::bU) pos) tb):PE X (.BoolOp .Or (a::b::bU) pos) (IK ta tb):=by
 intro js s Y H Q I h;refine BoolOp_or (thn (ha js s Y H _ I h) fun v s1 zz=>?_);obtain⟨x,H1,I1,r1,q1⟩:=zz;obtain⟨c,rfl,q1⟩:=q1;cases r1;refine wpAny_truthy_bool ?_;cases c with
 |false=>exact hb js s1 Y H1 Q I1 q1
 |true=>exact⟨.bl true,H1,I1,rfl,q1⟩
def C8(ha:PE X a ta):PE X (.UnaryOp .Not a pos) (Gf ta):=by intro js s Y H Q I h;refine UnaryOp_ (thn (ha js s Y H _ I h) fun v s1 zz=>?_);obtain⟨x,H1,I1,r1,q1⟩:=zz;obtain⟨c,rfl,q1⟩:=q1;cases r1;exact not_of (wpAny_truthy_bool ⟨.bl (!c),H1,I1,rfl,q1⟩)
def tIf(t:TT)(ta tb:TE):TE:=fun Y H Q=>t Y H fun c H1=>if c=true then ta Y H1 Q else tb Y H1 Q
def wK{c:Expr}(hc:PT X c tA)(ha:PE X a ta)(hb:PE X b tb):PE X (.IfExp c a b pos) (tIf tA ta tb):=by
 intro js s Y H Q I h;refine wpAny_IfExp (thn (hc js s Y H _ I h) fun d s1 ⟨H1,I1,q1⟩=>?_);cases d with
 |true=>exact ha js s1 Y H1 Q I1 q1
 |false=>exact hb js s1 Y H1 Q I1 q1
end
end L2
namespace L2
open PySem PySem.Spec PyProof.Rows
def SqL(K:PySem.W.Frag)(H:Hp)(a:Addr)(xs:JO):Prop:=
 Rd H a (.lst xs)\/
  ∃(o:Obj) (its:JN) (n:Nat),K.lookup a=some o/\o.cls=.type "list" /\ o.dict=none/\o.data=.seq its n/\its.size<=sizeLine/\aW xs its.toList
def SqT(K:PySem.W.Frag)(H:Hp)(a:Addr)(xs:JO):Prop:=
 Rd H a (.tup xs)\/
  ∃(o:Obj) (its:JN) (n:Nat),K.lookup a=some o/\o.cls=.type "tuple" /\ o.data=.seq its n/\its.size<=sizeLine/\aW xs its.toList
def Jp:Value->Option V
 |.none=>some .non
 |.bool b=>some (.bl b)
 |.int i _=>some (.int i)
 |.str x _=>some (.str x)
 |.bytes b _=>some (.byt b)
 |.float b _=>some (.flt b)
 |.ref a=>some (.ref a)
 |.type n=>some (.ty n)
 |_=>none
def bX.abs{x:V}{u:Value}(r:bX x u):Jp u=some x:=by
 cases x with
 |non|bl _=>cases r;rfl
 |int _|str _|byt _|flt _=>obtain⟨t,rfl⟩:=r;rfl
 |ref _|ty _=>cases r;rfl
def bX.inj{x y:V}{u:Value}(r:bX x u)(q:bX y u):x=y:=Option.some.inj (r.abs.symm.trans q.abs)
def aW.inj:∀{xs ys:JO}{us:JJ},aW xs us->aW ys us->xs=ys
 |_,_,_,.nil,.nil=>rfl
 |_,_,_,.cons r t,.cons r' t'=>by rw[r.inj r',aW.inj t t']
section
variable{X:Cx}{js:JG}{Y:St}{H:Hp}{s:Shared}{a:Addr}{xs ys:JO}
def SqL.of{K:PySem.W.Frag}(h:H a=some (.lst xs)):SqL K H a xs:=.inl (.inl h)
def SqT.of{K:PySem.W.Frag}(h:H a=some (.tup xs)):SqT K H a xs:=.inl (.inl h)
def Inv.list(I:Inv X js Y H s)(h:SqL X.K H a xs):∃its:JJ,aW xs its/\PlainL s.heap a its.toArray/\xs.length<=sizeLine:=by
 rcases h with h |⟨o,its,n,hk,hc,hd,hs,hz,r⟩
 ·obtain⟨z,its,n,r,e⟩:=h.ok I.hok;exact⟨its,r,⟨_,n,e,rfl,rfl,rfl⟩,z⟩
 ·refine⟨its.toList,r,⟨o,n,I.kIn a o hk,hc,hd,by simpa using hs⟩,?_⟩;have e:=r.length;simp only[Array.length_toList]at e;omega
def Inv.tuple(I:Inv X js Y H s)(h:SqT X.K H a xs):∃its:JJ,aW xs its/\IsTup s.heap a its.toArray/\xs.length<=sizeLine:=by
 rcases h with h |⟨o,its,n,hk,hc,hs,hz,r⟩
 ·obtain⟨z,its,r,p⟩:=h.ok I.hok;exact⟨its,r,p,z⟩
 ·refine⟨its.toList,r,⟨o,I.kIn a o hk,hc,n,by simpa using hs⟩,?_⟩;have e:=r.length;simp only[Array.length_toList]at e;omega
def Inv.list_inj(I:Inv X js Y H s)(h:SqL X.K H a xs)(h':SqL X.K H a ys):xs=ys:=by
 obtain⟨its,r,⟨o,n,e,_,_,d⟩,_⟩:=I.list h;obtain⟨its',r',⟨o',n',e',_,_,d'⟩,_⟩:=I.list h';rw[e]at e';cases e';rw[d]at d';injection d' with d1 _;have:its=its':=by simpa using congrArg Array.toList d1
 subst this;exact r.inj r'
def Inv.tuple_inj(I:Inv X js Y H s)(h:SqT X.K H a xs)(h':SqT X.K H a ys):xs=ys:=by
 obtain⟨its,r,⟨o,e,_,n,d⟩,_⟩:=I.tuple h;obtain⟨its',r',⟨o',e',_,n',d'⟩,_⟩:=I.tuple h';rw[e]at e';cases e';rw[d]at d';injection d' with d1 _;have:its=its':=by simpa using congrArg Array.toList d1
 subst this;exact r.inj r'
end
section
variable{X:Cx}{st:Stmt}{bU:List Stmt}{t u:TS}{e:Expr}{te:TE}{pos:Pos}
def Gg:TS:=fun D Y H=>D.nx Y H
def II(t u:TS):TS:=fun D Y H=>t {D with nx:=u D} Y H
def AJ:PSs X [] Gg:=fun _ _ Y H _ I h=>wpAny_execs_nil ⟨Y,H,I,h⟩
def wx(h1:PS X st t)(h2:PSs X bU u):PSs X (st::bU) (II t u):=by
 intro js s Y H D I h;refine wpAny_execs_cons (thn (h1 js s Y H {D with nx:=u D} I h) fun f s1 q=>?_);cases f with
 |next=>obtain⟨σ',H',I',q⟩:=q;exact h2 js s1 σ' H' D I' q
 |ret v|brk|cont=>exact q
def AI(h1:PS X st t):PSs X [st] t:=by
 intro js s Y H D I h;refine wpAny_execs_cons (thn (h1 js s Y H D I h) fun f s1 q=>?_);cases f with
 |next=>exact wpAny_execs_nil q
 |ret v|brk|cont=>exact q
def Inv.quiet{js:JG}{Y:St}{H:Hp}{s:Shared}(I:Inv X js Y H s):interactive X.env=false:=by simp[interactive,I.ok.kind]
def Gi(te:TE):TS:=fun D Y H=>te Y H fun _ H1=>D.nx Y H1
def oJ(he:PE X e te)(hs:swapsWith e none pos.line X.env=pure false:=by rfl):PS X (.Expr e pos) (Gi te):=by intro js s Y H D I h;exact wpAny_Expr_any (thn (he js s Y H _ I h) fun v s1 ⟨x,H1,I1,r1,q1⟩=>⟨Y,H1,I1,q1⟩) I.quiet hs
def IJ(te:TE):TS:=fun D Y H=>te Y H D.rt
def rL(he:PE X e te):PS X (.Return (some e) pos) (IJ te):=by intro js s Y H D I h;exact wpAny_Return_some (thn (he js s Y H _ I h) fun v s1 ⟨x,H1,I1,r1,q1⟩=>⟨x,Y,H1,I1,r1,q1⟩)
def IN(c:TT)(t u:TS):TS:=fun D Y H=>c Y H fun b H1=>if b=true then t D Y H1 else u D Y H1
def GB{c:Expr}{a b:List Stmt}{tc:TT}(hc:PT X c tc)(ha:PSs X a t)(hb:PSs X b u):PS X (.If c a b pos) (IN tc t u):=by
 intro js s Y H D I h;refine wpAny_If (thn (hc js s Y H _ I h) fun d s1 ⟨H1,I1,q1⟩=>?_);cases d with
 |true=>exact ha js s1 Y H1 D I1 q1
 |false=>exact hb js s1 Y H1 D I1 q1
end
abbrev TG:=V->St->Hp->(St->JP)->Prop
abbrev TGs:=JO->St->Hp->(St->JP)->Prop
def PG(X:Cx)(target:Expr)(t:TG):Prop:=
 ∀(js:JG) (s:Shared) (Y:St) (H:Hp) (v:V) (u:Value) (Q:St->JP),Inv X js Y H s->bX v u->t v Y H Q ->
  wpAny (model X.prog X.w) X.A (assign target X.env u) (fun _ s'=>∃σ' H',Inv X js σ' H' s'/\Q σ' H') X.xe s
def PGs(X:Cx)(ts:List Expr)(t:TGs):Prop:=
 ∀(js:JG) (s:Shared) (Y:St) (H:Hp) (vs:JO) (us:JJ) (Q:St->JP),Inv X js Y H s->aW vs us->t vs Y H Q ->
  wpAny (model X.prog X.w) X.A (assignInOrder ((assignEach ts X.env).map (·.2)) us) (fun _ s'=>∃σ' H',Inv X js σ' H' s'/\Q σ' H') X.xe s
abbrev Fx:=V->V->V->Hp->(JP)->Prop
def HV(X:Cx)(t:Fx):Prop:=
 ∀(js:JG) (s:Shared) (Y:St) (H:Hp) (o i v:V) (ov iv u:Value) (Q:JP),Inv X js Y H s->bX o ov->bX i iv->bX v u->t o i v H Q ->
  wpAny (model X.prog X.w) X.A (setItem ov iv u) (fun _ s'=>∃H',Inv X js Y H' s'/\Q H') X.xe s
section
variable{X:Cx}{pos:Pos}
def Cc(i:Nat):TG:=fun v Y H Q=>Q (Y.set i (some v)) H
def tm{i:Nat}{x:Str}(hN:X.N.Nodup)(hi:X.N[i]?=some x)(hx:Loc X.env.scope x)(hf:X.fn x=true\/X.env.scope.names.lookup x=some .local:=by first|exact .inl rfl|exact .inr rfl|assumption):PG X (.Name x pos) (Cc i):=by intro js s Y H v u Q I r h;exact wpAny_assign_Name (jz I hN hi hx r (fun s' I'=>⟨_,H,I',h⟩) hf)
def Ji:TGs:=fun vs Y H Q=>vs=[]/\Q Y H
def HH(t:TG)(u:TGs):TGs:=fun vs Y H Q=>∃v r,vs=v::r/\t v Y H fun σ' H'=>u r σ' H' Q
def AR:PGs X [] Ji:=by intro js s Y H vs us Q I r h;obtain⟨e,h⟩:=h;subst e;cases r;exact assignInOrder_nil ⟨Y,H,I,h⟩
def wF{e:Expr}{es:List Expr}{t:TG}{u:TGs}(h1:PG X e t)(h2:PGs X es u)
  (hs:(assignEach (e::es) X.env).map (·.2)=assign e X.env::(assignEach es X.env).map (·.2):=by rfl):PGs X (e::es) (HH t u):=by
 intro js s Y H vs us Q I r h;obtain⟨v,vr,e1,h⟩:=h;subst e1;cases r with
 |cons r rr=>rw[hs];refine assignInOrder_cons (thn (h1 js s Y H _ _ _ I r h) fun _ s1 ⟨σ1,H1,I1,q1⟩=>?_);exact h2 js s1 σ1 H1 _ _ Q I1 rr q1
def Jg(K:PySem.W.Frag)(n:Nat)(t:TGs):TG:=fun v Y H Q=>∃a xs,v=.ref a/\SqT K H a xs/\xs.length=n/\t xs Y H Q
def C4{es:List Expr}{k:Nat}{t:TGs}{n:Nat}(hc:X.calm=true)(h:PGs X es t)
  (hn:(assignEach es X.env).length=n:=by rfl) (hst:(assignEach es X.env).findIdx? (·.1)=none:=by rfl):PG X (.Tuple es k pos) (Jg X.K n t):=by
 intro js s Y H v u Q I r hw;obtain⟨a,xs,e1,hq,hl,hw⟩:=hw;subst e1;cases r;obtain⟨its,rv,ht,hz⟩:=I.tuple hq;refine assign_Tuple_tuple (I.ok.hd hc) ht (by simp[hn,<- hl,rv.length]) hst fun h' hx=>?_;have I1:Inv X js Y H {s with heap:=h'}:=I.kept (t':=s.toks) fun b o e=>hx b o (Nat.ne_of_lt (lt_size e)) e;exact h js _ Y H xs _ Q I1 (by simpa using rv) hw
def Jh(to ti:TE)(t:Fx):TG:=fun v Y H Q=>to Y H fun o H1=>ti Y H1 fun i H2=>t o i v H2 fun H3=>Q Y H3
def C5{o i:Expr}{to ti:TE}{t:Fx}(ho:PE X o to)(hi:PE X i ti)(hs:HV X t)
  (ha:∀ v,assign (.Subscript o i pos) X.env v=(do
   let ov <- holding [v] (eval o X.env)
   let iv <- holding [v,ov] (eval i X.env)
   standAt pos
   holding [v,ov,iv] (setItem ov iv v)
   release [v,ov,iv] []):=by intro _;rfl):PG X (.Subscript o i pos) (Jh to ti t):=by
 intro js s Y H v u Q I r h;rw[ha];refine wpAny_bind (wpAny_holding (thn (ho js s Y H _ I h) fun ov s1 zz=>?_));obtain⟨x,H1,I1,r1,q1⟩:=zz;refine wpAny_bind (wpAny_holding (thn (hi js s1 Y H1 _ I1 q1) fun iv s2 zz=>?_));obtain⟨y,H2,I2,r2,q2⟩:=zz;refine wpAny_bind (wpAny_standAt (wpAny_bind (wpAny_holding (thn (hs js s2 Y H2 x y v ov iv u _ I2 r1 r2 r q2) fun _ s3 ⟨H3,I3,q3⟩=>?_))));exact wpAny_release ⟨Y,H3,I3,q3⟩
def Gj(te:TE)(g:TG):TS:=fun D Y H=>te Y H fun x H1=>g x Y H1 D.nx
def C1{tg e:Expr}{te:TE}{g:TG}(he:PE X e te)(hg:PG X tg g)(hs:swapsWithSole [tg] e pos.line X.env=pure false:=by rfl)(hw:swappedStores [tg] e X.env=pure none:=by rfl)
  (h1:(assignEach [tg] X.env).map (·.2)=[assign tg X.env]:=by rfl):PS X (.Assign [tg] e pos) (Gj te g):=by
 intro js s Y H D I h;refine wpAny_Assign_stores (thn (he js s Y H _ I h) fun v s1 zz=>?_) hs hw;obtain⟨x,H1,I1,r1,q1⟩:=zz;rw[h1];exact thn (hg js s1 Y H1 x v _ I1 r1 q1) fun _ s2 q=>q
def CY{i:Nat}{x:Str}{e:Expr}{te:TE}{pos':Pos}(hN:X.N.Nodup)(hi:X.N[i]?=some x)(hx:Loc X.env.scope x)(he:PE X e te)(hs:swapsWith e (some (.Name x pos')) pos.line X.env=pure false:=by rfl)(hf:X.fn x=true\/X.env.scope.names.lookup x=some .local:=by first|exact .inl rfl|exact .inr rfl|assumption) :
  PS X (.Assign [.Name x pos'] e pos) (Gj te (Cc i)):=by
 intro js s Y H D I h;refine wpAny_Assign_Name (thn (he js s Y H _ I h) fun v s1 zz=>?_) hs;obtain⟨y,H1,I1,r1,q1⟩:=zz;exact jz I1 hN hi hx r1 (fun s2 I2=>⟨_,H1,I2,q1⟩) hf
def Cq(c:TT)(tb:TS):TS:=fun D Y H=>∃W:Nat->St->JP,(∃m,W m Y H)/\∀m Y H,W m Y H ->
 c Y H fun b H1=>if b=true then ∃N:St->JP,(∀σ' H',N σ' H'->∃m',m'<m/\W m' σ' H')/\tb {D with nx:=N,ct:=N,bk:=D.nx} Y H1 else D.nx Y H1
def wy{c:Expr}{body:List Stmt}{tc:TT}{tb:TS}(hp:PassesOwn (model X.prog X.w) X.A X.env X.xe)(hc:PT X c tc)(hb:PSs X body tb):PS X (.While c body [] pos) (Cq tc tb):=by
 intro js s Y H D I h;obtain⟨W,⟨m0,w0⟩,turn⟩:=h;refine wpAny_While (codeAny_whileLoop (fun n s'=>∃σ' H',Inv X js σ' H' s'/\W n σ' H') ?_ m0 ⟨Y,H,I,w0⟩);rintro n s1 ⟨σ1,H1,I1,w1⟩;refine wpAny_passesOwn hp (thn (hc js s1 σ1 H1 _ I1 (turn n σ1 H1 w1)) fun b s2 ⟨H2,I2,q2⟩=>?_);cases b with
 |true=>
  obtain⟨N,hN,q2⟩:=q2;rw[if_pos rfl];refine wpAny_passesOwn hp (thn (hb js s2 σ1 H2 _ I2 q2) fun f s3 q3=>?_);cases f with
  |next=>obtain⟨σ3,H3,I3,n3⟩:=q3;obtain⟨m',hm,w3⟩:=hN σ3 H3 n3;exact⟨m',hm,σ3,H3,I3,w3⟩
  |cont=>obtain⟨σ3,H3,I3,n3⟩:=q3;obtain⟨m',hm,w3⟩:=hN σ3 H3 n3;exact⟨m',hm,σ3,H3,I3,w3⟩
  |brk|ret v=>exact q3
 |false=>rw[if_neg Bool.false_ne_true];exact wpAny_execs_nil ⟨σ1,H2,I2,q2⟩
end
structure It where
 go:Nat->JP
 yld:Nat->Hp->V->JP
 stop:Nat->JP
def mQ(X:Cx)(js:JG)(H:Hp)(b:Addr):Prop:=
 H b=none/\b≠X.env.locals/\b∉X.fs/\(b∈X.ex\/X.s₀.heap.objs.size<=b)/\(∀x c,X.env.cells.lookup x=some c->c≠b)/\∀p∈X.pn++js,p.1≠b
def Inv.fpOk{X:Cx}{js:JG}{Y:St}{H H':Hp}{s:Shared}{b:Addr}(I:Inv X js Y H s)(hb:s.heap.objs.size<=b)(hn:H' b=none):mQ X js H' b:=by
 refine⟨hn,Nat.ne_of_gt (Nat.lt_of_lt_of_le I.lt hb),I.nofs hb,.inr (Nat.le_trans I.sz hb),fun x c e z=>?_,fun p hp z=>?_⟩
 ·obtain⟨v,q⟩:=I.cell x c e;exact absurd (Nat.lt_of_lt_of_le q.lt (by rw[z];exact hb)) (Nat.lt_irrefl _)
 ·exact absurd (Nat.lt_of_lt_of_le (lt_size (I.pin p hp).1) (by rw[z];exact hb)) (Nat.lt_irrefl _)
structure vN(P:Program)(w:World)(K:PySem.W.Frag)(tg:Expr)(J:It)(fp:JK)(it:Addr)(tn:Nat->Heap->Prop):Prop where
 mem:it∈fp
 obj:∀i h,tn i h->∀b∈fp,∃o,h.get? b=some o/\∀v,o.data≠.cell v
 keep:∀i h h',tn i h->(∀b∈fp,∀o,h.get? b=some o->h'.get? b=some o)->tn i h'
 item:∀(X:Cx),X.prog=P->X.w=w->X.K=K->X.calm=true->∀(i:Nat) (js:JG) (s:Shared) (Y:St) (H:Hp) (E:JD),Inv X js Y H s->(∀b∈fp,mQ X js H b)->tn i s.heap->J.go i H ->
  wpAny (model P w) X.A (pyNext (.ref it)) (fun r s1=>∃ u,r=some u /\
   wpAny (model P w) X.A (letOwnedTupleGo tg (.ref it) u) (fun _ s2=>∃x H',Inv X js Y H' s2/\bX x u/\J.yld i H x H'/\tn (i+1) s2.heap/\∀b∈fp,H' b=none) E s1) E s
 done:∀(X:Cx),X.prog=P->X.w=w->X.K=K->X.calm=true->∀(i:Nat) (js:JG) (s:Shared) (Y:St) (H:Hp) (E:JD),Inv X js Y H s->(∀b∈fp,mQ X js H b)->tn i s.heap->J.stop i H ->
  wpAny (model P w) X.A (pyNext (.ref it)) (fun r s1=>r=none/\Inv X js Y H s1) E s
 self:∀(A:Around) (i:Nat) (s:Shared) (Q:JD) (E:JD),tn i s.heap->Q (.ref it) s->wpAny (model P w) A (pyIter (.ref it)) Q E s
abbrev TI:=St->Hp->(It->JP)->Prop
def PIE(X:Cx)(js:JG)(Y:St)(tg:Expr)(R:It->JP)(itv:Value)(s2:Shared):Prop:=
 ∃(it:Addr) (fp:JK) (tn:Nat->Heap->Prop) (J:It) (H':Hp),itv=.ref it/\Inv X js Y H' s2/\vN X.prog X.w X.K tg J fp it tn/\tn 0 s2.heap/\(∀b∈fp,mQ X js H' b)/\R J H'
def PI(X:Cx)(tg iter:Expr)(wi:TI):Prop:=
 ∀(js:JG) (s:Shared) (Y:St) (H:Hp) (R:It->JP),Inv X js Y H s->wi Y H R ->
  wpAny (model X.prog X.w) X.A (eval iter X.env) (fun v s1=>wpAny (model X.prog X.w) X.A (pyIter v) (PIE X js Y tg R) X.xe s1) X.xe s
def xS{M:Model}{A:Around}{E:JD}{s:Shared}{tg:Expr}{it:Addr}{u:Value}{o:Obj}{n:String}{vs:JN}{Q:Unit->Shared->Prop}(ho:s.heap.get? it=some o)(hc:o.cls=.type n)(hd:o.data=.fields vs)
    (hn:["enumerate","zip","dict_itemiterator","dict_reverseitemiterator","odict_iterator","itertools.zip_longest","itertools.pairwise"].contains n=false) (hQ:Q () s):wpAny M A (letOwnedTupleGo tg (.ref it) u) Q E s:=by
  unfold letOwnedTupleGo;cases tg<;>first
    |exact wpAny_pure hQ
    | (cases u <;> first
        |exact wpAny_pure hQ
        | (refine wpAny_bind (wpAny_load ho ?_)
           rw[hc,hd];show wpAny M A (if(["enumerate","zip","dict_itemiterator","dict_reverseitemiterator","odict_iterator","itertools.zip_longest","itertools.pairwise"].contains n&&vs[0]?==some (rawInt _))=true then _ else _) Q E s;rw[if_neg (by intro h;rw[hn,Bool.false_and]at h;cases h)];exact wpAny_pure hQ))
def Itl(K:PySem.W.Frag)(a:Addr):It:=
 ⟨fun i H=>∃xs x,SqL K H a xs/\xs[i]?=some x,fun i H x H'=>H'=H/\∀xs,SqL K H a xs->xs[i]?=some x,fun i H=>∃xs,SqL K H a xs/\xs.length<=i⟩
def Itt(K:PySem.W.Frag)(a:Addr):It:=
 ⟨fun i H=>∃xs x,SqT K H a xs/\xs[i]?=some x,fun i H x H'=>H'=H/\∀xs,SqT K H a xs->xs[i]?=some x,fun i H=>∃xs,SqT K H a xs/\xs.length<=i⟩
def Itr(lo:Int)(n:Nat):It:=⟨fun i _=>i<n,fun i H x H'=>H'=H/\x=.int (lo+i),fun i _=>n<=i⟩
def ul{P:Program}{w:World}{K:PySem.W.Frag}{tg:Expr}(a it:Addr):vN P w K tg (Itl K a) [it] it (fun i h=>h.IsListIter it a i) where
 mem:=by simp
 obj:=fun i h st b hb=>by
  have e:b=it:=by simpa using hb
  subst e;obtain⟨o,e,c,d⟩:=st;exact⟨o,e,fun v z=>by rw[d]at z;cases z⟩
 keep:=fun i h h' st k=>st.at fun o e=>k it (by simp) o e
 item:=by intro X hP hw hK hc i js s Y H E I hf st hg;subst hP hw hK;obtain⟨xs,x,hq,hx⟩:=hg;obtain⟨its,rv,p,hz⟩:=I.list hq;obtain⟨u,hu,ru⟩:=rv.get hx;obtain⟨f0,f1,f2,f3,f4,f5⟩:=hf it (by simp);refine wpAny_pyNext_list_item st p.isList (x:=u) (by simpa using hu) fun h' st' sb=>?_;have I1:Inv X js Y H {s with heap:=h'}:=I.turned (t':=s.toks) (fun b o hb e=>(sb.2 b hb).trans e) f0 f1 f3 f4 f5;obtain⟨o,e,c,d⟩:=id st';exact⟨u,rfl,xS (s:={s with heap:=h'}) e c d (by decide) ⟨x,H,I1,ru,⟨rfl,fun ys hy=>by rw[I.list_inj hy hq];exact hx⟩,st',fun b hb=>(hf b hb).1⟩⟩
 done:=by intro X hP hw hK hc i js s Y H E I hf st hg;subst hP hw hK;obtain⟨xs,hq,hx⟩:=hg;obtain⟨its,rv,p,hz⟩:=I.list hq;obtain⟨f0,f1,f2,f3,f4,f5⟩:=hf it (by simp);have hl:=rv.length;exact wpAny_pyNext_list_end (I.ok.hd hc) st p.isList (by simp;omega) fun h' eb=>⟨rfl,I.turned (t':=s.toks) (fun b o hb e=>eb b o hb e) f0 f1 f3 f4 f5⟩
 self:=fun _ _ _ _ _ st h=>wpAny_pyIter_listiter st h
def qV{P:Program}{w:World}{K:PySem.W.Frag}{tg:Expr}(a it:Addr):vN P w K tg (Itt K a) [it] it (fun i h=>h.IsTupleIter it a i) where
 mem:=by simp
 obj:=fun i h st b hb=>by
  have e:b=it:=by simpa using hb
  subst e;obtain⟨o,e,c,d⟩:=st;exact⟨o,e,fun v z=>by rw[d]at z;cases z⟩
 keep:=fun i h h' st k=>st.at fun o e=>k it (by simp) o e
 item:=by intro X hP hw hK hc i js s Y H E I hf st hg;subst hP hw hK;obtain⟨xs,x,hq,hx⟩:=hg;obtain⟨its,rv,p,hz⟩:=I.tuple hq;obtain⟨u,hu,ru⟩:=rv.get hx;obtain⟨f0,f1,f2,f3,f4,f5⟩:=hf it (by simp);refine wpAny_pyNext_tuple_item st (show s.heap.IsTuple a its.toArray from p) (x:=u) (by simpa using hu) fun h' st' sb=>?_;have I1:Inv X js Y H {s with heap:=h'}:=I.turned (t':=s.toks) (fun b o hb e=>(sb.2 b hb).trans e) f0 f1 f3 f4 f5;obtain⟨o,e,c,d⟩:=id st';exact⟨u,rfl,xS (s:={s with heap:=h'}) e c d (by decide) ⟨x,H,I1,ru,⟨rfl,fun ys hy=>by rw[I.tuple_inj hy hq];exact hx⟩,st',fun b hb=>(hf b hb).1⟩⟩
 done:=by intro X hP hw hK hc i js s Y H E I hf st hg;subst hP hw hK;obtain⟨xs,hq,hx⟩:=hg;obtain⟨its,rv,p,hz⟩:=I.tuple hq;obtain⟨f0,f1,f2,f3,f4,f5⟩:=hf it (by simp);have hl:=rv.length;exact wpAny_pyNext_tuple_end (I.ok.hd hc) st (show s.heap.IsTuple a its.toArray from p) (by simp;omega) fun h' eb=>⟨rfl,I.turned (t':=s.toks) (fun b o hb e=>eb b o hb e) f0 f1 f3 f4 f5⟩
 self:=fun _ _ _ _ _ st h=>wpAny_pyIter_tupleiter st h
def qW{P:Program}{w:World}{K:PySem.W.Frag}{tg:Expr}(it:Addr)(lo:Int)(n:Nat):vN P w K tg (Itr lo n) [it] it (fun i h=>IsRangeIter h it (lo+(i:Nat)*1) ((n:Int)-(i:Nat)) 1) where
 mem:=by simp
 obj:=fun i h st b hb=>by
  have e:b=it:=by simpa using hb
  subst e;exact ⟨_,st,fun v z=>by
   have z':Data.fields _=Data.cell v:=z;cases z'⟩
 keep:=fun i h h' st k=>k it (by simp) _ st
 item:=by intro X hP hw hK hc i js s Y H E I hf st hg;subst hP hw hK;obtain⟨f0,f1,f2,f3,f4,f5⟩:=hf it (by simp);have W:=Walks.range (prog:=X.prog) (w:=X.w) (I.ok.hd hc) it lo 1 n;refine W.item i s _ _ hg st fun v h' tk hv st' kk=>?_;obtain⟨t,rfl⟩:=hv;have I1:Inv X js Y H {s with heap:=h',toks:=tk}:=I.turned (fun b o hb e=>kk b o (by simpa using hb) e) f0 f1 f3 f4 f5;refine⟨_,rfl,xS (s:={s with heap:=h',toks:=tk}) (n:="range_iterator") st' rfl rfl (by decide) ⟨.int (lo+i),H,I1,⟨t,?_⟩,⟨rfl,rfl⟩,st',fun b hb=>(hf b hb).1⟩⟩;rw[Int.mul_one]
 done:=by intro X hP hw hK hc i js s Y H E I hf st hg;subst hP hw hK;obtain⟨f0,f1,f2,f3,f4,f5⟩:=hf it (by simp);exact wpAny_pyNext_range_end (I.ok.hd hc) st (by have:n<=i:=hg;omega) fun h' eb=>⟨rfl,I.turned (t':=s.toks) (fun b o hb e=>eb b o hb e) f0 f1 f3 f4 f5⟩
 self:=fun _ _ _ _ _ st h=>wpAny_pyIter_rangeiter st h
end L2
namespace L2
open PySem PySem.Spec PyProof.Rows
section
variable{X:Cx}{tg:Expr}
def wt{js:JG}{Y:St}{H:Hp}{s:Shared}{R:It->JP}{E:JD}{lo hi:Int}{t u v:Tok}{tk:Nat}(I:Inv X js Y H s)(h1:-(2 ^ 62)<= lo)(h2:lo<2 ^ 62)(h3:-(2 ^ 62)<= hi)(h4:hi<2 ^ 62)
  (q:R (Itr lo (hi-lo).toNat) H):wpAny (model X.prog X.w) X.A (pyIter (.ref s.heap.objs.size)) (PIE X js Y tg R) E {s with heap:=s.heap.push {cls:=.type "range",data:=.fields #[.int lo t,.int hi u,.int 1 v]},toks:=tk}:=by
 refine wpAny_pyIter_range (IsRange.new ..) (small_one h1 h2 h3 h4) ?_;have I1:Inv X js Y H {s with heap:=s.heap.push {cls:=.type "range",data:=.fields #[.int lo t,.int hi u,.int 1 v]},toks:=tk}:=I.kept fun b o e=>get?_push_of_some _ e;refine ⟨(s.heap.push { cls:=.type "range", data:=.fields #[.int lo t,.int hi u,.int 1 v] }).objs.size,[(s.heap.push { cls:=.type "range", data:=.fields #[.int lo t,.int hi u,.int 1 v] }).objs.size],_,_,H,rfl,
  I1.kept (t':=tk) fun b o e=>get?_push_of_some _ e,qW _ lo (hi-lo).toNat,?_,fun b hb=>?_,q⟩
 ·have e1:lo+((0:Nat):Int)*1=lo:=by simp
  have e2:(((hi-lo).toNat:Nat):Int)-((0:Nat):Int)=Builtin.Range.rangeSize lo hi 1:=by rw[rangeSize_one];split<;>omega
  show IsRangeIter _ _ (lo+((0:Nat):Int)*1) ((((hi-lo).toNat:Nat):Int)-((0:Nat):Int)) 1;rw[e1,e2];exact get?_push_size _ rfl
 ·have e:b=(s.heap.push {cls:=.type "range",data:=.fields #[.int lo t,.int hi u,.int 1 v]}).objs.size:=by simpa using hb
  subst e;exact I1.fpOk (Nat.le_refl _) (I1.hok.fresh (Nat.le_refl _))
def HC(ta:TA):TI:=fun Y H R=>ta Y H fun vs H1=>∃j:Int,vs=[.int j]/\-(2 ^ 62)<= j/\j<2 ^ 62/\R (Itr 0 j.toNat) H1
def nN{a:Expr}{ta:TA}{p pos:Pos}(hg:Gl X "range")(hm:X.mg "range"=none)(ha:PA X [a] ta)(hs:starEach [a] X.env=[(false,eval a X.env)]:=by rfl):PI X tg (.Call (.Name "range" p) [a] [] pos) (HC ta):=by
 intro js s Y H R I h;refine Call_ (gG I hg hm boot_range (PyProof.Rows.callWith_type1 (thn (ha pos js s Y H _ I h) fun us s1 zz=>?_) hs rfl));obtain⟨vs,H1,I1,r1,q1⟩:=zz;obtain⟨j,e,q1,q2,q⟩:=q1;subst e;cases r1 with
 |cons r rr=>cases rr;obtain⟨t,rfl⟩:=r;exact call_range_1 (wt I1 (by omega) (by omega) q1 q2 (by simpa using q))
def IO(wi:TI)(g:TG)(tb:TS):TS:=fun D Y H=>wi Y H fun J H1=>∃W:Nat->Nat->St->JP,(∃m,W 0 m Y H1)/\∀i m Y H,W i m Y H ->
 (J.stop i H/\D.nx Y H)\/(J.go i H/\∃N:St->JP,(∀σ' H',N σ' H'->∃m',m'<m/\W (i+1) m' σ' H')/\∀x H',J.yld i H x H'->g x Y H' fun σ2 H2=>tb {D with nx:=N,ct:=N,bk:=D.nx} σ2 H2)
def lG(fp:JK)(h:Heap):JG:=fp.filterMap fun b=>(h.get? b).map fun o=>(b,o)
def ii{fp:JK}{h:Heap}{b:Addr}{o:Obj}(hb:b∈fp)(e:h.get? b=some o):(b,o)∈ lG fp h:=List.mem_filterMap.mpr ⟨b,hb,by rw[e];rfl⟩
def uU{fp:JK}{h:Heap}{p:Addr×Obj}(hp:p∈lG fp h):p.1∈fp/\h.get? p.1=some p.2:=by
 obtain⟨b,hb,e⟩:=List.mem_filterMap.mp hp;cases q:h.get? b with
 |none=>rw[q]at e;cases e
 |some o=>rw[q]at e;have e':(b,o)=p:=Option.some.inj e;subst e';exact⟨hb,q⟩
def Inv.pinned{js:JG}{Y:St}{H:Hp}{s:Shared}{fp:JK}(I:Inv X js Y H s)(hf:∀b∈fp,mQ X js H b)(ho:∀b∈fp,∃o,s.heap.get? b=some o/\∀v,o.data≠.cell v):Inv X (js++lG fp s.heap) Y H s:=
 I.pins_of fun p hp=>(mem_append.mp hp).elim (fun z=>I.pin p (mem_append_right _ z)) fun z=>by obtain⟨hb,e⟩:=uU z;obtain⟨f0,f1,f2,_⟩:=hf p.1 hb;obtain⟨o,e',d⟩:=ho p.1 hb;rw[e]at e';cases e';exact⟨e,f0,f1,f2,d⟩
def Inv.unpinned{js pl:JG}{Y:St}{H:Hp}{s:Shared}(I:Inv X (js++pl) Y H s):Inv X js Y H s:=I.pins_of fun p hp=>I.pin p (mem_append_right _ (mem_append_left _ hp))
def CZ{iter:Expr}{body:List Stmt}{wi:TI}{g:TG}{tb:TS}{pos:Pos}(hp:PassesOwn (model X.prog X.w) X.A X.env X.xe)(hc:X.calm=true)(hi:PI X tg iter wi)(hg:PG X tg g)(hb:PSs X body tb)
  (hs:∀x,foldedSetIterable iter X.env x=pure x:=by intro _;rfl):PS X (.For tg iter body [] pos) (IO wi g tb):=by
 intro js s Y H D I h;refine wpAny_For (thn (hi js s Y H _ I h) fun v s1 h1=>thn h1 fun itv s2 h2=>?_) hs;obtain⟨it,fp,tn,J,H2,e,I2,T,st2,f2,W,⟨m0,w0⟩,turn⟩:=h2;subst e;have stat:∀{H':Hp},(∀b∈fp,H' b=none)->∀b∈fp,mQ X js H' b:=fun hn b hb=>⟨hn b hb,(f2 b hb).2⟩
 refine codeAny_forLoop_any (fun n s'=>∃i σ' H',Inv X js σ' H' s'/\tn i s'.heap/\(∀b∈fp,H' b=none)/\W i n σ' H') ?_ m0 ⟨0,Y,H2,I2,st2,fun b hb=>(f2 b hb).1,w0⟩;rintro n s3 ⟨i,σ3,H3,I3,st3,fr3,w3⟩;rcases turn i n σ3 H3 w3 with⟨stop,qn⟩ |⟨go,N,hN,step⟩
 ·refine wpAny_passesOwn hp (thn (T.done X rfl rfl rfl hc i js s3 σ3 H3 X.xe I3 (stat fr3) st3 stop) fun r s4 ⟨hr,I4⟩=>?_);subst hr;exact wpAny_execs_nil ⟨σ3,H3,I4,qn⟩
 ·refine wpAny_passesOwn hp (thn (T.item X rfl rfl rfl hc i js s3 σ3 H3 X.xe I3 (stat fr3) st3 go) fun r s4 ⟨u,hr,h4⟩=>?_);subst hr;refine wpAny_passesOwn hp (thn h4 fun _ s5 zz=>?_);obtain⟨x,H5,I5,r5,y5,st5,fr5⟩:=zz;have I5':=I5.pinned (stat fr5) (T.obj _ _ st5);refine wpAny_passesOwn hp (thn (hg _ s5 σ3 H5 x u _ I5' r5 (step x H5 y5)) fun _ s6 ⟨σ6,H6,I6,q6⟩=>?_);refine wpAny_passesOwn hp (thn (hb _ s6 σ6 H6 _ I6 q6) fun f s7 q7=>?_);have again:∀{σ7:St}{H7:Hp},Inv X (js++lG fp s5.heap) σ7 H7 s7->N σ7 H7->∃m,m<n/\∃i σ' H',Inv X js σ' H' s7/\tn i s7.heap/\(∀b∈fp,H' b=none)/\W i m σ' H':=fun {σ7 H7} I7 n7=>by obtain⟨m',hm,w7⟩:=hN σ7 H7 n7;refine⟨m',hm,i+1,σ7,H7,I7.unpinned,T.keep _ _ _ st5 fun b hb o e=>(I7.pin (b,o) (mem_append_right _ (mem_append_right _ (ii hb e)))).1,fun b hb=>?_,w7⟩;obtain⟨o,e,d⟩:=T.obj _ _ st5 b hb;exact(I7.pin (b,o) (mem_append_right _ (mem_append_right _ (ii hb e)))).2.1
  cases f with
  |next|cont=>obtain⟨σ7,H7,I7,n7⟩:=q7;exact again I7 n7
  |brk=>obtain⟨σ7,H7,I7,q7⟩:=q7;exact⟨σ7,H7,I7.unpinned,q7⟩
  |ret v=>obtain⟨x7,σ7,H7,I7,r7,q7⟩:=q7;exact⟨x7,σ7,H7,I7.unpinned,r7,q7⟩
end
end L2
namespace L2
open PySem PySem.Spec PyProof.Rows
abbrev R2:=V->V->Hp->VK->Prop
def OpR(X:Cx)(f:Value->Value->Sem Value)(r:R2):Prop:=
 ∀(js:JG) (s:Shared) (Y:St) (H:Hp) (x y:V) (v u:Value) (Q:VK),Inv X js Y H s->bX x v->bX y u->r x y H Q ->
  wpAny (model X.prog X.w) X.A (f v u) (EP X js Y Q) X.xe s
def UnR(X:Cx)(f:Value->Sem Value)(r:V->Hp->VK->Prop):Prop:=
 ∀(js:JG) (s:Shared) (Y:St) (H:Hp) (x:V) (v:Value) (Q:VK),Inv X js Y H s->bX x v->r x H Q ->
  wpAny (model X.prog X.w) X.A (f v) (EP X js Y Q) X.xe s
def dR(X:Cx)(f:Value)(r:JO->Hp->VK->Prop):Prop:=
 ∀(js:JG) (s:Shared) (Y:St) (H:Hp) (xs:JO) (us:JJ) (Q:VK),Inv X js Y H s->aW xs us->r xs H Q ->
  wpAny (model X.prog X.w) X.A (call f us) (EP X js Y Q) X.xe s
def Jr(X:Cx)(r:V->Hp->(Bool->JP)->Prop):Prop:=
 ∀(js:JG) (s:Shared) (Y:St) (H:Hp) (x:V) (v:Value) (Q:Bool->JP),Inv X js Y H s->bX x v->r x H Q ->
  wpAny (model X.prog X.w) X.A (truthy v) (TP X js Y Q) X.xe s
def tOp(r:R2)(ta tb:TE):TE:=fun Y H Q=>ta Y H fun x H1=>tb Y H1 fun y H2=>r x y H2 Q
def tUn(r:V->Hp->VK->Prop)(ta:TE):TE:=fun Y H Q=>ta Y H fun x H1=>r x H1 Q
def rI(C:Int->Int->Prop)(g:Int->Int->V):R2:=fun x y H Q=>∃i j,x=.int i/\y=.int j/\C i j/\Q (g i j) H
def rI0(g:Int->Int->V):R2:=fun x y H Q=>∃i j,x=.int i/\y=.int j/\Q (g i j) H
def rU(g:Int->V):V->Hp->VK->Prop:=fun x H Q=>∃i,x=.int i/\Q (g i) H
section
variable{X:Cx}{a b c:Expr}{ta tb tc:TE}{pos:Pos}
def EZ(ha:PE X a ta)(hb:PE X b tb){js:JG}{s:Shared}{Y:St}{H:Hp}{R:V->V->JP}(I:Inv X js Y H s)
  (h:ta Y H fun x H1=>tb Y H1 fun y H2=>R x y H2) {Q:JD}{f:Value->Value->Sem Value}
  (hf:∀v u s2 x y H2,Inv X js Y H2 s2->bX x v->bX y u->R x y H2->wpAny (model X.prog X.w) X.A (f v u) Q X.xe s2) :
  wpAny (model X.prog X.w) X.A (eval a X.env) (fun v s₁=>wpAny (model X.prog X.w) X.A (eval b X.env) (fun u s₂=>wpAny (model X.prog X.w) X.A (f v u) Q X.xe s₂) X.xe s₁) X.xe s:=by
 refine thn (ha js s Y H _ I h) fun v s1 hz1=>?_;obtain⟨x,H1,I1,r1,q1⟩:=hz1;refine thn (hb js s1 Y H1 _ I1 q1) fun u s2 hz1=>?_;obtain⟨y,H2,I2,r2,q2⟩:=hz1;exact hf v u s2 x y H2 I2 r1 r2 q2
def GJ{op:Operator}{r:R2}(ho:OpR X (binaryOp op) r)(ha:PE X a ta)(hb:PE X b tb):PE X (.BinOp a op b pos) (tOp r ta tb):=by intro js s Y H Q I h;exact wpAny_BinOp (EZ ha hb I h fun v u s2 x y H2 I2 rx ry q=>ho js s2 Y H2 x y v u Q I2 rx ry q)
def GD{op:UnaryOp}{r:V->Hp->VK->Prop}(ho:UnR X (unaryOp op) r)(ha:PE X a ta):PE X (.UnaryOp op a pos) (tUn r ta):=by intro js s Y H Q I h;exact UnaryOp_ (thn (ha js s Y H _ I h) fun v s1 ⟨x,H1,I1,r1,q1⟩=>ho js s1 Y H1 x v Q I1 r1 q1)
def opI{f:Value->Value->Sem Value}{C:Int->Int->Prop}{g:Int->Int->Int}
  (rule:∀(i j:Int) (t u:Tok) (s:Shared) (Q:JD) (E:JD),C i j->Q (.int (g i j) s.toks) {s with toks:=s.toks+1}->wpAny (model X.prog X.w) X.A (f (.int i t) (.int j u)) Q E s) :
  OpR X f (rI C fun i j=>.int (g i j)):=by
 intro js s Y H x y v u Q I rx ry h;obtain⟨i,j,rfl,rfl,hc,q⟩:=h;obtain⟨t,rfl⟩:=rx;obtain⟨t',rfl⟩:=ry;exact rule i j t t' s _ _ hc ⟨.int (g i j),H,I.tok _,⟨_,rfl⟩,q⟩
def Dn{f:Value->Value->Sem Value}{g:Int->Int->Int}
  (rule:∀(i j:Int) (t u:Tok) (s:Shared) (Q:JD) (E:JD),Q (.int (g i j) s.toks) {s with toks:=s.toks+1}->wpAny (model X.prog X.w) X.A (f (.int i t) (.int j u)) Q E s) :
  OpR X f (rI0 fun i j=>.int (g i j)):=by
 intro js s Y H x y v u Q I rx ry h;obtain⟨i,j,rfl,rfl,q⟩:=h;obtain⟨t,rfl⟩:=rx;obtain⟨t',rfl⟩:=ry;exact rule i j t t' s _ _ ⟨.int (g i j),H,I.tok _,⟨_,rfl⟩,q⟩
def Do{f:Value->Value->Sem Value}{g:Int->Int->Bool}
  (rule:∀(i j:Int) (t u:Tok) (s:Shared) (Q:JD) (E:JD),Q (.bool (g i j)) s->wpAny (model X.prog X.w) X.A (f (.int i t) (.int j u)) Q E s) :
  OpR X f (rI0 fun i j=>.bl (g i j)):=by
 intro js s Y H x y v u Q I rx ry h;obtain⟨i,j,rfl,rfl,q⟩:=h;obtain⟨t,rfl⟩:=rx;obtain⟨t',rfl⟩:=ry;exact rule i j t t' s _ _ ⟨.bl (g i j),H,I,rfl,q⟩
def Jv(i j:Int):Prop:=0<j/\j<1073741824
def HX(i j:Int):Prop:=0<=j/\j<=1000000/\i.natAbs<2 ^ 64
def FC(i j:Int):Prop:=(-(2 ^ 64)<i/\i<2 ^ 64)\/(-(2 ^ 64)<j/\j<2 ^ 64)
def FC.ok{i j:Int}(h:FC i j):IntMulOk i j:=by
 rcases h with⟨h1,h2⟩ |⟨h1,h2⟩
 ·exact .of_left (intBits_le_64 h1 h2)
 ·exact .of_right (intBits_le_64 h1 h2)
def qU(k:Nat):(0:Int)<= 2 ^ k:=by rw[two_pow_cast];exact Int.natCast_nonneg _
def Dm:OpR X (binaryOp .Add) (rI0 fun i j=>.int (i+j)):=Dn fun _ _ _ _ _ _ _ q=>add_int q
def Db:OpR X (binaryOp .Sub) (rI0 fun i j=>.int (i-j)):=Dn fun _ _ _ _ _ _ _ q=>sub_int q
def Di:OpR X (binaryOp .Mult) (rI FC fun i j=>.int (i*j)):=opI fun _ _ _ _ _ _ _ hc q=>mul_int q hc.ok
def AX:OpR X (binaryOp .FloorDiv) (rI Jv fun i j=>.int (i / j)):=opI fun i j _ _ _ _ _ hc q=>by have h1:(0:Int)<j:=hc.1;have h2:j<1073741824:=hc.2;exact floordiv_int (by omega) (by rw[Int.fdiv_eq_ediv_of_nonneg i (by omega)];exact q) (.inl (PyProof.noPylong_small (by omega)))
def Dj:OpR X (binaryOp .Mod) (rI (fun _ j=>0<j) fun i j=>.int (i%j)):=opI fun i j _ _ _ _ _ hc q=>by have h1:(0:Int)<j:=hc;exact mod_int' (by omega) (by rw[Int.fmod_eq_emod_of_nonneg i (by omega)];exact q)
def Dg:OpR X (binaryOp .Pow) (rI HX fun i j=>.int (i ^ j.toNat)):=opI fun _ _ _ _ _ _ _ hc q=>pow_int_small hc.1 hc.2.1 hc.2.2 q
def De:OpR X (binaryOp .LShift) (rI HX fun i j=>.int (i*2 ^ j.toNat)):=opI fun _ _ _ _ _ _ _ hc q=>lshift_int_small hc.1 hc.2.1 hc.2.2 q
def Dc:OpR X (binaryOp .RShift) (rI (fun _ j=>0<=j) fun i j=>.int (i / 2 ^ j.toNat)):=opI fun i j _ _ _ _ _ hc q=>
 rshift_int hc (by rw[Int.fdiv_eq_ediv_of_nonneg i (qU _)];exact q)
def Dl:OpR X (binaryOp .BitAnd) (rI0 fun i j=>.int (Builtin.bitAnd i j)):=Dn fun _ _ _ _ _ _ _ q=>and_int q
def unI{f:Value->Sem Value}{g:Int->Int}
  (rule:∀(i:Int) (t:Tok) (s:Shared) (Q:JD) (E:JD),Q (.int (g i) s.toks) {s with toks:=s.toks+1}->wpAny (model X.prog X.w) X.A (f (.int i t)) Q E s) :
  UnR X f (rU fun i=>.int (g i)):=by
 intro js s Y H x v Q I rx h;obtain⟨i,rfl,q⟩:=h;obtain⟨t,rfl⟩:=rx;exact rule i t s _ _ ⟨.int (g i),H,I.tok _,⟨_,rfl⟩,q⟩
def Cm:UnR X (unaryOp .USub) (rU fun i=>.int (-i)):=unI fun _ _ _ _ _ q=>neg_int q
def Et{js:JG}{Y:St}{H:Hp}{s:Shared}{Q:VK}{k k':Bool}(I:Inv X js Y H s)(q:Q (.bl k) H)(e:k=k'):EP X js Y Q (.bool k') s:=by subst e;exact⟨.bl k,H,I,rfl,q⟩
def GQ:OpR X (compareOp .Lt) (rI0 fun i j=>.bl (decide (i<j))):=Do fun _ _ _ _ _ _ _ q=>lt_int q
def GR:OpR X (compareOp .Gt) (rI0 fun i j=>.bl (decide (j<i))):=Do fun _ _ _ _ _ _ _ q=>gt_int q
def GU:OpR X (compareOp .GtE) (rI0 fun i j=>.bl (decide (j<=i))):=Do fun _ _ _ _ _ _ _ q=>ge_int q
def AW:OpR X (compareOp .IsNot) (fun x y H Q=>y=.non/\Q (.bl (!decide (x=.non))) H):=by
 intro js s Y H x y v u Q I rx ry h;obtain⟨rfl,q⟩:=h;cases ry;refine isnot_none_gen (Et I q ?_);cases x<;>first
  |(cases rx;rfl)
  |(obtain⟨t,rfl⟩:=rx;rfl)
def OpR.or{f:Value->Value->Sem Value}{r r':R2}(h:OpR X f r)(h':OpR X f r'):OpR X f (fun x y H Q=>r x y H Q\/r' x y H Q):=by
 intro js s Y H x y v u Q I rx ry q;rcases q with q|q
 ·exact h js s Y H x y v u Q I rx ry q
 ·exact h' js s Y H x y v u Q I rx ry q
def ig(b:Expr){op:CmpOp}(h:op≠.In:=by decide)(h2:op≠.NotIn:=by decide):behindInMarks op b=false:=by
 have e1:(op==CmpOp.In)=false:=by cases op<;>first|rfl|exact absurd rfl h
 have e2:(op==CmpOp.NotIn)=false:=by cases op<;>first|rfl|exact absurd rfl h2
 cases b<;>simp[behindInMarks,e1,e2]
def AT{op:CmpOp}{r:R2}(ho:OpR X (compareOp op) r)(ha:PE X a ta)(hb:PE X b tb)(hm:behindInMarks op b=false):PE X (.Compare a [op] [b] pos) (tOp r ta tb):=by intro js s Y H Q I h;exact wpAny_Compare1 (EZ ha hb I h fun v u s2 x y H2 I2 rx ry q=>ho js s2 Y H2 x y v u Q I2 rx ry q) hm
def Gd(t:TE):TT:=fun Y H Q=>t Y H fun x H'=>∃k,x=.bl k/\Q k H'
def sX{op:CmpOp}{r:R2}(ho:OpR X (compareOp op) r)(ha:PE X a ta)(hb:PE X b tb)(hm:behindInMarks op b=false):PT X (.Compare a [op] [b] pos) (Gd (tOp r ta tb)):=by
 intro js s Y H Q I h;refine wpAny_isTrue_Compare1 (thn (ha js s Y H _ I h) fun v s1 ⟨x,H1,I1,r1,q1⟩=>thn (hb js s1 Y H1 _ I1 q1) fun u s2 ⟨y,H2,I2,r2,q2⟩=>
  thn (ho js s2 Y H2 x y v u _ I2 r1 r2 q2) fun c s3 ⟨z,H3,I3,r3,k,e,q3⟩=>?_) hm
 subst e;cases r3;exact wpAny_truthy_bool ⟨H3,I3,q3⟩
def HS(K:PySem.W.Frag)(x:V)(H:Hp)(k:Bool):Prop:=
 match x with
 |.non=>k=false
 |.bl b=>k=b
 |.int i=>k=(i != 0)
 |.str y=>y.length<=sizeLine/\k=((y.length:Int) != 0)
 |.byt y=>y.size<=sizeLine/\k=((y.size:Int) != 0)
 |.ref p=>(∃xs,SqL K H p xs/\k=!xs.isEmpty)\/(∃xs,SqT K H p xs/\k=!xs.isEmpty)\/ ∃kvs,H p=some (.dK kvs)/\k=!kvs.isEmpty
 |_=>False
def sf{κ:Type}{kvs:List (κ×V)}{vs:List (κ×Value)}(r:KV kvs vs):(!vs.isEmpty)=!kvs.isEmpty:=by cases r<;>rfl
def l8{xs:JO}{its:JJ}(r:aW xs its):(!its.toArray.isEmpty)=!xs.isEmpty:=by cases r<;>simp
def kg:(sizeLine:Nat)<2 ^ 63:=by rw[sizeLine_eq];decide
def Cp:Jr X (fun x H Q=>∃k,HS X.K x H k/\Q k H):=by
 intro js s Y H x v Q I rx h;obtain⟨k,e,q⟩:=h;have hl:=kg;have hs:sizeLine=16777216:=sizeLine_eq;cases x with
 |non=>cases rx;have e':k=false:=e;subst e';exact truthy_none ⟨H,I,q⟩
 |bl b=>cases rx;have e':k=b:=e;subst e';exact wpAny_truthy_bool ⟨H,I,q⟩
 |int i=>obtain⟨t,rfl⟩:=rx;have e':k=(i != 0):=e;subst e';exact PySem.P.truthy_int ⟨H,I,q⟩
 |str y=>obtain⟨t,rfl⟩:=rx;obtain⟨hy,e'⟩:y.length<=sizeLine/\k=((y.length:Int) != 0):=e;subst e';exact PySem.P.truthy_str (by omega) ⟨H,I.tok _,q⟩
 |byt y=>obtain⟨t,rfl⟩:=rx;obtain⟨hy,e'⟩:y.size<=sizeLine/\k=((y.size:Int) != 0):=e;subst e';exact PySem.W.truthy_bytes (by omega) ⟨H,I.tok _,q⟩
 |ref p=>
  cases rx;have e':(∃xs,SqL X.K H p xs/\k=!xs.isEmpty)\/(∃xs,SqT X.K H p xs/\k=!xs.isEmpty)\/ ∃kvs,H p=some (.dK kvs)/\k=!kvs.isEmpty:=e;rcases e' with⟨xs,hx,e'⟩ |⟨xs,hx,e'⟩ |⟨kvs,hx,e'⟩
  ·subst e';obtain⟨its,r,pl,hz⟩:=I.list hx;have hlen:=r.length;exact wpAny_truthy_list pl.isList (by simp only[size_toArray];omega) ⟨H,I.tok _,by rw[l8 r];exact q⟩
  ·subst e';obtain⟨its,r,pl,hz⟩:=I.tuple hx;have hlen:=r.length;exact truthy_tuple pl (by simp only[size_toArray];omega) ⟨H,I.tok _,by rw[l8 r];exact q⟩
  ·subst e';obtain⟨hz,hS,vs,r,m⟩:kvs.length<=sizeLine/\(p==sysModules)=false/\∃vs,KV kvs vs/\s.heap.DictOf (oW X.prog X.w) p vs:=I.hok p _ hx;have hlen:kvs.length=vs.length:=Paired.length r;exact wpAny_truthy_dict hS m (by omega) ⟨H,I.tok _,by rw[sf r];exact q⟩
 |_=>exact(show False from e).elim
def ww(ha:PE X a ta)(he:∀whole,isTrue a X.env whole=(do let v <- whole;standAt a.pos;holding [v] (truthy v))) :
  PT X a (fun Y H Q=>ta Y H fun x H'=>∃k,HS X.K x H' k/\Q k H'):=by
 intro js s Y H Q I h;exact isTrue_plain (thn (ha js s Y H _ I h) fun v s1 ⟨x,H1,I1,r1,q1⟩=>Cp js s1 Y H1 x v Q I1 r1 q1) (he _)
def d4{x:V}{us:JJ}(r:aW [x] us):∃u,us=[u]/\bX x u:=by
 cases r with
 |cons r1 r2=>cases r2;exact⟨_,rfl,r1⟩
def Ga{x y:V}{us:JJ}(r:aW [x,y] us):∃u w',us=[u,w']/\bX x u/\bX y w':=by
 cases r with
 |cons r1 r2=>
  cases r2 with
  |cons r3 r4=>cases r4;exact⟨_,_,rfl,r1,r3⟩
def vI(hc:X.calm=true):dR X (.builtin "min") (fun xs H Q=>∃i j,xs=[.int i,.int j]/\Q (.int (if j<i then j else i)) H):=by
 intro js s Y H xs us Q I r h;obtain⟨i,j,rfl,q⟩:=h;obtain⟨u,w',rfl,⟨t,rfl⟩,⟨t',rfl⟩⟩:=Ga r;refine min_two_ints (I.ok.hd hc) fun h' tk k=>⟨_,H,I.kept k,?_,q⟩
 by_cases hj:j<i
 ·rw[if_pos hj,if_pos hj];exact⟨_,rfl⟩
 ·rw[if_neg hj,if_neg hj];exact⟨_,rfl⟩
end
end L2
namespace L2
open PySem PySem.Spec PyProof.Rows
structure sJ(h:Heap)(x dx C:Addr)(mA:JE):Prop where
 obj:h.get? x=some (instObj C dx)
 ns:h.Ns1 dx mA
 ne:dx≠x
def vb{h:Heap}{dx:Addr}{mA:JE}(n:h.Ns1 dx mA):∃od,h.get? dx=some od/\∀name,lookIn name od=some (mA name):=by
 obtain⟨o,es,ep,ho,hd,hk,_,hm⟩:=n;refine⟨o,ho,fun name=>?_⟩;have e:=hm name;unfold nsFind findBy at e;rw[<- Array.find?_toList]at e;unfold lookIn;rw[hd];dsimp only;split
 ·rename_i y q
  rw[q]at e;exact congrArg some e
 ·rename_i q
  rw[q]at e;have a:es.toList.any (·.refKey)=false:=by rw[List.any_eq_false];intro y hy;obtain⟨z,t,hkey⟩:=hk y (Array.mem_toList_iff.mp hy);simp[DictEntry.refKey,hkey]
  have a':¬es.toList.any (·.refKey)=true:=by rw[a];exact Bool.false_ne_true
  rw[if_neg a'];exact congrArg some e
def sJ.look{h:Heap}{x dx C:Addr}{mA:JE}(I:sJ h x dx C mA):∃od,PySem.W.InstAt h x (instObj C dx) C (some od)/\∀name,lookIn name od=some (mA name):=
 let⟨od,ho,hl⟩:=vb I.ns
 ⟨od,⟨I.obj,rfl,rfl,ho⟩,hl⟩
section
variable{prog:Program}{w:World}{A:Around}{E:JD}{s:Shared}{K:PySem.W.Frag}{x dx C f:Addr}{mA:JE}{name:Str}{v:Value}
def Bx{expr:Bool}{Q:JD}(X:K.In s.heap)(I:sJ s.heap x dx C mA)(hg:plainGet K C name=true)(hh:hasDictIn K C=true)
  (ha:PySem.W.findIn K (.ref C) name=some none) (hv:mA name=some v) (hv':handedIn v=true) (h:Q v {s with toks:=s.toks+1}) :
  wpAny (model prog w) A (getAttr (.ref x) name expr) Q E s:=by
 obtain⟨od,J,hl⟩:=I.look;exact PySem.W.get_value X J (plainGet_of hg).1 (PySem.W.findObj_own hh ha rfl (by rw[hl,hv])) hv' h
def xV{pl:Sem Bool}{Q:Value×JJ->Shared->Prop}(X:K.In s.heap)(I:sJ s.heap x dx C mA)(hg:plainGet K C name=true)
  (hf:PySem.W.findIn K (.ref C) name=some (some (.ref f))) (ht:PySem.W.isFn K (.ref f)=true) (hv:mA name=none) (h:Q (.ref f,[.ref x]) s) :
  wpAny (model prog w) A (getMethod (.ref x) name pl) Q E s:=by
 obtain⟨od,J,hl⟩:=I.look;exact PySem.W.method_fn X J (plainGet_of hg).1 (plainGet_of hg).2 hf (beq_iff_eq.mp ht) (by show(lookIn name od).map (·.isSome)=some false;rw[hl,hv];rfl) h
def Ah{ns:JL}{Q:Unit->Shared->Prop}(X:K.In s.heap)(I:sJ s.heap x dx C mA)
  (hs:PySem.W.findIn K (.ref C) "__setattr__"=some (some (.builtin "object.__setattr__"))) (hp:plainOver K C=true) (ht:takerIn K C name=some none) (hh:hasDictIn K C=true)
  (hw:PySem.Within mA ns) (hsz:ns.length<=sizeLine)
  (h:∀h',sJ h' x dx C (fun y=>if y=name then some v else mA y)->SameBut dx s.heap h'->Q () {s with heap:=h',toks:=s.toks+2}) :
  wpAny (model prog w) A (setAttr (.ref x) name v) Q E s:=by
 obtain⟨od,J,hl⟩:=I.look;refine PySem.W.set_plain X J hs (PySem.W.osa_open (s:={s with toks:=s.toks+1}) (r:=none) X J hp ht fun b=>?_);obtain⟨cd,hc,hd'⟩:=PySem.W.any_some hh;have hx:s.heap.get? x=some ⟨.ref C,some dx,.plain,#[]⟩:=I.obj;refine wpAny_bind (wpAny_pure (wpAny_bind (wpAny_bind (wpAny_loadPart hx (wpAny_bind (PySem.W.Looks.here (s:={s with toks:=s.toks+1}) (PySem.W.looks_clsIn X hc) ?_))))));rw[hd'];refine wpAny_pure (a:=some dx) (wpAny_bind (wpAny_pure (wpAny_bind ?_)));refine wpAny_nsSet1 (s:={s with toks:=s.toks+1}) I.ns fun h' hn2 hs2=>?_;obtain⟨oD,esD,epD,hoD,hdD,hcD⟩:=hn2.count (PySem.Within.cons name v hw);refine wpAny_bind (wpAny_lookBehind hoD (by rw[hdD];exact pastItsLine_dict (Nat.le_trans hcD (by rw[length_cons];omega))) ?_);exact wpAny_pure (h _ ⟨(hs2.2 _ (Ne.symm I.ne)).trans I.obj,hn2,I.ne⟩ hs2)
def xA{R:Result->Shared->Prop}{vs:JJ}{kw:List (Str×Value)}(X:K.In s.heap)(hm:makesIn K C=true)
  (hi:PySem.W.findIn K (.ref C) "__init__"=some (some (.ref f))) (hf:PySem.W.typeIn K (.ref f)=some (.type "function"))
  (h:codeAny (model prog w) (A.under (.builtin "type.__call__" ⟨.ref C::vs,kw⟩)) (.call (.ref f) ⟨.ref (s.heap.objs.size+1)::vs,kw⟩) (PySem.W.InitBack (s.heap.objs.size+1) R)
   {s with heap:=(s.heap.push emptyDict).push (instObj C s.heap.objs.size)}) :
  codeAny (model prog w) A (.call (.ref C) ⟨vs,kw⟩) R s:=by
 obtain⟨hh,g,d,t,os⟩:=s;exact PySem.W.make_core (PySem.W.makes_of X hm) (looks_findIn X hi) (fun self=>PySem.W.bind_fn X self hf) (.inl rfl) h
end
def hV(f:Str)(v:V):List (Str×V)->List (Str×V)
 | []=>[(f,v)]
 |(g,x)::r=>if g=f then(g,v)::r else(g,x)::hV f v r
def kE(f g:Str)(v:V):∀fs:List (Str×V),(hV f v fs).lookup g=if g=f then some v else fs.lookup g
 | []=>by
  show List.lookup g [(f,v)]=_;by_cases h:g=f
  ·have hb:(g==f)=true:=beq_iff_eq.mpr h;simp only[List.lookup,hb,if_pos h]
  ·have hb:(g==f)=false:=beq_eq_false_iff_ne.mpr h;simp only[List.lookup,hb,if_neg h]
 |(k,x)::r=>by
  have ih:=kE f g v r;rw[show hV f v ((k,x)::r)=(if k=f then(k,v)::r else(k,x)::hV f v r)from rfl];by_cases hk:k=f
  ·rw[if_pos hk];by_cases h:g=k
   ·have hb:(g==k)=true:=beq_iff_eq.mpr h;simp only[List.lookup,hb,if_pos (h.trans hk)]
   ·have hb:(g==k)=false:=beq_eq_false_iff_ne.mpr h;simp only[List.lookup,hb,if_neg (fun e:g=f=>h (e.trans hk.symm))]
  ·rw[if_neg hk];by_cases h:g=k
   ·have hb:(g==k)=true:=beq_iff_eq.mpr h;simp only[List.lookup,hb,if_neg (fun e:g=f=>hk (h.symm.trans e))]
   ·have hb:(g==k)=false:=beq_eq_false_iff_ne.mpr h;simp only[List.lookup,hb];exact ih
def ki(f:Str)(v:V):∀fs:List (Str×V),f ∈(hV f v fs).map (·.1)/\∀g,g∈fs.map (·.1)->g ∈(hV f v fs).map (·.1)
 | []=>⟨by simp[hV],fun g h=>by simp at h⟩
 |(k,x)::r=>by
  obtain⟨i1,i2⟩:=ki f v r;rw[show hV f v ((k,x)::r)=(if k=f then(k,v)::r else(k,x)::hV f v r)from rfl];by_cases hk:k=f
  ·rw[if_pos hk];subst hk;exact⟨by simp,fun g h=>by simpa using h⟩
  ·rw[if_neg hk];refine⟨?_,fun g h=>?_⟩
   ·rw[map_cons];exact mem_cons_of_mem _ i1
   ·rw[map_cons]at h ⊢;rcases mem_cons.mp h with e|e
    ·exact mem_cons.mpr (.inl e)
    ·exact mem_cons_of_mem _ (i2 g e)
def kG(f:Str)(v:V):∀fs:List (Str×V),(hV f v fs).length<=fs.length+1
 | []=>by simp[hV]
 |(k,x)::r=>by
  have ih:=kG f v r;rw[show hV f v ((k,x)::r)=(if k=f then(k,v)::r else(k,x)::hV f v r)from rfl];by_cases hk:k=f
  ·rw[if_pos hk,length_cons,length_cons];omega
  ·rw[if_neg hk,length_cons,length_cons];omega
def nq.some_of{v:V}{o:Option Value}(r:nq (some v) o):∃u,o=some u/\bX v u:=by
 cases o with
 |none=>exact(show False from r).elim
 |some u=>exact⟨u,rfl,r⟩
def nq.none_of{o:Option Value}(r:nq none o):o=none:=by
 cases o with
 |none=>rfl
 |some u=>exact(show False from r).elim
def vq{v:V}{u:Value}(r:bX v u):handedIn u=true:=by
 cases v with
 |non=>cases(show u=Value.none from r);rfl
 |bl b=>cases(show u=Value.bool b from r);rfl
 |int i=>obtain⟨t,e⟩:=(show ∃t,u=Value.int i t from r);cases e;rfl
 |str x=>obtain⟨t,e⟩:=(show ∃t,u=Value.str x t from r);cases e;rfl
 |byt b=>obtain⟨t,e⟩:=(show ∃t,u=Value.bytes b t from r);cases e;rfl
 |flt b=>obtain⟨t,e⟩:=(show ∃t,u=Value.float b t from r);cases e;rfl
 |ref a=>cases(show u=Value.ref a from r);rfl
 |ty n=>cases(show u=Value.type n from r);rfl
section
variable{P:Program}{w:World}{H H':Hp}{h h':Heap}{a C dx:Addr}{fs fs':List (Str×V)}
def k6(hok:HOk P w H h)(e:H a=some (.ins C dx fs)):∃mA,sJ h a dx C mA/\(∀f,nq (fs.lookup f) (mA f))/\PySem.Within mA (fs.map (·.1))/\fs.length<=1000/\H dx=some (.own a):=by
 obtain⟨d,z,ne,ob,mA,n,r,q⟩:=(show cU P w H h a (.ins C dx fs)from hok a _ e)
 exact⟨mA,⟨ob,n,ne⟩,r,q,z,d⟩
end
structure Cls(K:PySem.W.Frag)(C:Addr):Prop where
 pg:plainGet K C Str.empty=true
 hd:hasDictIn K C=true
 po:plainOver K C=true
 sa:PySem.W.findIn K (.ref C) "__setattr__"=some (some (.builtin "object.__setattr__"))
def Cls.get{K:PySem.W.Frag}{C:Addr}(c:Cls K C)(f:Str):plainGet K C f=true:=c.pg
def fG(K:PySem.W.Frag)(C:Addr)(f:Str):Prop:=PySem.W.findIn K (.ref C) f=some none
def fG.taker{K:PySem.W.Frag}{C:Addr}{f:Str}(n:fG K C f):takerIn K C f=some none:=by unfold takerIn;rw[show PySem.W.findIn K (.ref C) f=some none from n];rfl
structure BX(K:PySem.W.Frag)(C:Addr)(m:Str)(f:Addr):Prop where
 at_:PySem.W.findIn K (.ref C) m=some (some (.ref f))
 fn:PySem.W.isFn K (.ref f)=true
 kp:PySem.W.keepIn K (.ref f)=true
section
variable{X:Cx}{js:JG}{Y:St}{H:Hp}{s:Shared}{a C dx:Addr}{fs:List (Str×V)}{f:Str}{v:V}{A:Around}{E:JD}
def sr{b:Bool}{Q:JD}(I:Inv X js Y H s)(e:H a=some (.ins C dx fs))(c:Cls X.K C)(n:fG X.K C f)(l:fs.lookup f=some v)
  (h:∀u s',Inv X js Y H s'->bX v u->Q u s'):wpAny (model X.prog X.w) A (getAttr (.ref a) f b) Q E s:=by
 obtain⟨mA,O,r,_,_,_⟩:=k6 I.hok e;obtain⟨u,hu,ru⟩:=nq.some_of (v:=v) (o:=mA f) (by rw[<- l];exact r f);exact Bx I.kIn O (c.get f) c.hd n hu (vq ru) (h u _ (I.tok _) ru)
def sk{m:Str}{g:Addr}{pl:Sem Bool}{Q:Value×JJ->Shared->Prop}(I:Inv X js Y H s)(e:H a=some (.ins C dx fs))(c:Cls X.K C)(k:BX X.K C m g)(l:fs.lookup m=none)
  (h:Q (.ref g,[.ref a]) s):wpAny (model X.prog X.w) A (getMethod (.ref a) m pl) Q E s:=by
 obtain⟨mA,O,r,_,_,_⟩:=k6 I.hok e;have hn:mA m=none:=nq.none_of (by rw[<- l];exact r m);exact xV I.kIn O (c.get m) k.at_ k.fn hn h
def rA{y:V}{u:Value}{Q:Unit->Shared->Prop}(I:Inv X js Y H s)(e:H a=some (.ins C dx fs))(c:Cls X.K C)(n:fG X.K C f)(hl:fs.length<1000)(ry:bX y u)
  (h:∀s',Inv X js Y (upd H a (.ins C dx (hV f y fs))) s'->Q () s'):wpAny (model X.prog X.w) A (setAttr (.ref a) f u) Q E s:=by
 obtain⟨mA,O,r,wi,_,ho⟩:=k6 I.hok e;have hz:(fs.map (·.1)).length<=sizeLine:=by rw[length_map,sizeLine_eq];omega
 refine Ah I.kIn O c.sa c.po n.taker c.hd wi hz fun h' O' sb=>h _ ?_;have hd:∃o,h'.get? dx=some o:=let⟨o,_,_,e',_⟩:=O'.ns;⟨o,e'⟩
 refine I.write (x:=a) (e:=dx) (by rw[e];exact True.intro) (.inr ho) (fun b q hb z=>(sb.2 b hb).trans z) hd ?_;refine⟨by rw[aJ O.ne];exact ho,?_,O.ne,O'.obj,_,O'.ns,fun g=>?_,fun g hg=>?_⟩
 ·have:=kG f y fs;omega
 ·show nq ((hV f y fs).lookup g) (if g=f then some u else mA g);rw[kE];by_cases q:g=f
  ·rw[if_pos q,if_pos q];exact ry
  ·rw[if_neg q,if_neg q];exact r g
 ·by_cases q:g=f
  ·rw[q];exact(ki f y fs).1
  ·refine(ki f y fs).2 g (wi g fun z=>hg ?_);show(if g=f then some u else mA g)=none;rw[if_neg q];exact z
def Inv.made(I:Inv X js Y H s):Inv X js Y (upd (upd H s.heap.objs.size (.own (s.heap.objs.size+1))) (s.heap.objs.size+1) (.ins C s.heap.objs.size []))
  {s with heap:=(s.heap.push emptyDict).push (instObj C s.heap.objs.size)}:=by
 have e1:(s.heap.push emptyDict).get? s.heap.objs.size=some emptyDict:=get?_push_size s.heap rfl;have e2:((s.heap.push emptyDict).push (instObj C s.heap.objs.size)).get? (s.heap.objs.size+1)=some (instObj C s.heap.objs.size):=by
  have:=get?_push_size (s.heap.push emptyDict) (o:=instObj C s.heap.objs.size) rfl
  rwa [size_push]at this
 have e3:(s.heap.push emptyDict).Ns s.heap.objs.size (fun _=>none):=⟨emptyDict,#[],_,e1,rfl,(fun e he=>absurd he (by simp)),fun _=>rfl⟩
 have I1:=I.laid (a:=s.heap.objs.size) (o:=.own (s.heap.objs.size+1)) (h':=s.heap.push emptyDict) (t':=s.toks) (fun b u q=>get?_push_of_some _ q) (Nat.le_refl _) ⟨_,e1⟩;refine I1.laid (a:=s.heap.objs.size+1) (o:=.ins C s.heap.objs.size []) (t':=s.toks) (fun b u q=>get?_push_of_some _ q) (Nat.le_of_eq (size_push _ _)) ?_;have ne:s.heap.objs.size≠s.heap.objs.size+1:=Nat.ne_of_lt (Nat.lt_succ_self _);refine⟨by rw[aJ ne,bz],zero_le _,ne,e2,fun _=>none,(Heap.Ns1.of_empty e3).at fun o q=>get?_push_of_some _ q,fun _=>True.intro,fun y hy=>absurd rfl hy⟩
def BT{prog:Program}{w:World}{env:Env}{e:Expr}{f:Str}{pos:Pos}{s:Shared}{Q:JD}(hb:attributeBase e f env (eval e env)=eval e env)
  (h:wpAny (model prog w) A (eval e env) (fun o s₁=>wpAny (model prog w) A (getAttr o f true) Q E s₁) E s):wpAny (model prog w) A (eval (.Attribute e f pos) env) Q E s:=
 Attribute_any_ h (by rw[arm_eval_Attribute,hb])
end
def Gh(K:PySem.W.Frag)(ta:TE)(f:Str):TE:=fun Y H Q=>ta Y H fun x H1=>∃a C dx fs v,x=.ref a/\H1 a=some (.ins C dx fs)/\Cls K C/\fG K C f/\fs.lookup f=some v/\Q v H1
def sFld(K:PySem.W.Frag)(ta tv:TE)(f:Str):TS:=fun D Y H=>tv Y H fun y H1=>ta Y H1 fun x H2=>∃a C dx fs,x=.ref a/\H2 a=some (.ins C dx fs)/\Cls K C/\fG K C f/\fs.length<1000 /\
 D.nx Y (upd H2 a (.ins C dx (hV f y fs)))
section
variable{X:Cx}{o e value:Expr}{f:Str}{pos pos' tpos:Pos}{ta tv:TE}
def C_(he:PE X e ta)(hb:attributeBase e f X.env (eval e X.env)=eval e X.env):PE X (.Attribute e f pos) (Gh X.K ta f):=by intro js s Y H Q I h;refine BT hb (thn (he js s Y H _ I h) fun u s1 zz=>?_);obtain⟨x,H1,I1,rx,a,C,dx,fs,v,ex,ea,c,n,l,q⟩:=zz;subst ex;obtain rfl:u=Value.ref a:=rx;exact sr I1 ea c n l fun u' s2 I2 ru=>⟨v,H1,I2,ru,q⟩
def C0(ha:PE X o ta)(hv:PE X value tv)(hs:swapsWith value (some (.Attribute o f pos')) pos.line X.env=pure false):PS X (.Assign [.Attribute o f pos'] value pos) (sFld X.K ta tv f):=by intro js s Y H D I h;refine plainObj_wpAny_Assign_Attribute (thn (hv js s Y H _ I h) fun u s1 ⟨y,H1,I1,ry,q⟩=>thn (ha js s1 Y H1 _ I1 q) fun ov s2 zz=>?_) hs;obtain⟨x,H2,I2,rx,a,C,dx,fs,ex,ea,c,n,l,q2⟩:=zz;subst ex;obtain rfl:ov=Value.ref a:=rx;exact rA I2 ea c n l ry fun s3 I3=>⟨Y,_,I3,q2⟩
end
section
variable{X:Cx}{js:JG}{Y:St}{H:Hp}{s:Shared}{A:Around}{E:JD}{Q:JD}{c:Value}{b:Bool}
inductive kP(K:PySem.W.Frag)(H:Hp):V->Value->Prop where
 |non:kP K H .non (.type "NoneType")
 |bl (x:Bool):kP K H (.bl x) (.type "bool")
 |int (i:Int):kP K H (.int i) (.type "int")
 |str (x:Str):kP K H (.str x) (.type "str")
 |flt (x:UInt64):kP K H (.flt x) (.type "float")
 |lst {a:Addr}{xs:JO} (e:H a=some (.lst xs)):kP K H (.ref a) (.type "list")
 |frz {a:Addr}{o:Obj}{xs:JO} (e:H a=some (.frz o (.lst xs))):kP K H (.ref a) (.type "list")
 |tup {a:Addr}{xs:JO} (e:H a=some (.tup xs)):kP K H (.ref a) (.type "tuple")
 |dK {a:Addr}{kvs:List (Key×V)} (e:H a=some (.dK kvs)):kP K H (.ref a) (.type "dict")
 |dT {a:Addr}{kvs:List (List Key×V)} (e:H a=some (.dT kvs)):kP K H (.ref a) (.type "dict")
 |ins {a C dx:Addr}{fs:List (Str×V)} (e:H a=some (.ins C dx fs)) (cl:Cls K C) (ha:PySem.W.findIn K (.ref C) "__class__"=some (some (.builtin "object.__class__")))
   (hn:specialIn K (.builtin "object.__class__") "__get__"=some (some (.builtin "getset_descriptor.__get__"))) (htk:takesIn K (.builtin "object.__class__")=some true)
   (hm:mroIn K C (.type "object")=some true):kP K H (.ref a) (.ref C)
def vj{x:V}{u t:Value}(I:Inv X js Y H s)(rx:bX x u)(ty:kP X.K H x t)(e:kitOne X.K t c=some b)(h:∀tk,Q (.bool b) {s with toks:=tk}) :
  wpAny (model X.prog X.w) A (call (.builtin "isinstance") [u,c]) Q E s:=by
 cases ty with
 |non=>cases(show u=Value.none from rx);exact kia_one kitx_none I.kIn True.intro e (fun z=>nomatch z) h
 |bl y=>cases(show u=Value.bool y from rx);exact kia_one kitx_bool I.kIn True.intro e (fun z=>nomatch z) h
 |int i=>obtain⟨t,q⟩:=(show ∃t,u=Value.int i t from rx);cases q;exact kia_one kitx_int I.kIn True.intro e (fun z=>nomatch z) h
 |str y=>obtain⟨t,q⟩:=(show ∃t,u=Value.str y t from rx);cases q;exact kia_one kitx_str I.kIn True.intro e (fun z=>nomatch z) h
 |flt y=>obtain⟨t,q⟩:=(show ∃t,u=Value.float y t from rx);cases q;exact kia_one PySem.W.kitx_float I.kIn True.intro e (fun z=>nomatch z) h
 | @lst a xs ea=>
  cases(show u=Value.ref a from rx);obtain⟨_,_,n,_,h1⟩:=(show cU X.prog X.w H s.heap a (.lst xs)from I.hok a _ ea)
  exact kia_one kitx_list I.kIn ⟨_,h1,rfl⟩ e (fun z=>nomatch z) h
 | @frz a ob xs ea=>
  cases(show u=Value.ref a from rx);obtain⟨_,_,_,n,_,h1⟩:=(show cU X.prog X.w H s.heap a (.frz ob (.lst xs))from I.hok a _ ea)
  exact kia_one kitx_list I.kIn ⟨_,h1,rfl⟩ e (fun z=>nomatch z) h
 | @tup a xs ea=>
  cases(show u=Value.ref a from rx);obtain⟨_,_,_,p⟩:=(show cU X.prog X.w H s.heap a (.tup xs)from I.hok a _ ea)
  obtain⟨o,h1,h2,_⟩:=p;exact kia_one PySem.W.kitx_tuple I.kIn ⟨o,h1,h2⟩ e (fun z=>nomatch z) h
 | @dK a kvs ea=>
  cases(show u=Value.ref a from rx);obtain⟨_,_,vs,_,p⟩:=(show cU X.prog X.w H s.heap a (.dK kvs)from I.hok a _ ea)
  obtain⟨o,es,ep,h1,h2,_⟩:=p;exact kia_one kitx_dict I.kIn ⟨o,h1,h2.1⟩ e (fun z=>nomatch z) h
 | @dT a kvs ea=>
  cases(show u=Value.ref a from rx);obtain⟨_,_,xs,_,o,es,ep,h1,h2,_⟩:=(show cU X.prog X.w H s.heap a (.dT kvs)from I.hok a _ ea)
  exact kia_one kitx_dict I.kIn ⟨o,h1,h2.1⟩ e (fun z=>nomatch z) h
 | @ins a C dx fs ea cl ha hn htk hm=>cases(show u=Value.ref a from rx);obtain⟨mA,O,_⟩:=k6 I.hok ea;obtain⟨od,J,_⟩:=O.look;exact kia_one (PySem.W.kitx_own (cl.get _) cl.hd ha hn htk hm) I.kIn J e (fun z=>nomatch z) h
end
end L2
namespace L2
open PySem PySem.Spec PyProof.Rows
structure d0(k:Nat)(A:Around):Prop where
 hd:A.handled=none
 dp:A.depth+3*k+5<recursionLimit
 un:A.units+16*k+200<cLine
def d0.mono{j k:Nat}{A:Around}(r:d0 k A)(h:j<=k):d0 j A:=⟨r.hd,by have:=r.dp;omega,by have:=r.un;omega⟩
def d0.deeper{k:Nat}{A:Around}(r:d0 (k+1) A)(env:Env):d0 k (A.deeper env):=
 ⟨r.hd,by have:=r.dp;show A.depth+1+3*k+5<_;omega,by have:=r.un;show A.units+3+16*k+200<_;omega⟩
def rY{A:Around}{C:Addr}{us:JJ}{kw:List (Str×Value)}:(A.under (.builtin "type.__call__" ⟨.ref C::us,kw⟩)).depth=A.depth+1:=by
 first|rfl|simp[Around.under,Code.weight,Code.isCreation,Code.isGuard,Code.isCaller,Code.frames,Code.isFrame,guardIds]
def rX{A:Around}{C:Addr}{us:JJ}{kw:List (Str×Value)}:(A.under (.builtin "type.__call__" ⟨.ref C::us,kw⟩)).units=A.units+1:=by
 first|rfl|simp[Around.under,Code.cUnits,Code.frames,Code.isFrame]
def d0.make{k:Nat}{A:Around}(r:d0 (k+1) A)(C:Addr)(us:JJ)(kw:List (Str×Value)):d0 k (A.under (.builtin "type.__call__" ⟨.ref C::us,kw⟩)):=
 ⟨r.hd,by have:=r.dp;rw[rY];omega,by have:=r.un;rw[rX];omega⟩
def d0.depth{k:Nat}{A:Around}(r:d0 k A):A.depth<recursionLimit:=by have:=r.dp;omega
def d0.units{k:Nat}{A:Around}(r:d0 k A):A.units+64<cLine:=by have:=r.un;omega
def vZ:TA:=fun _ H Q=>Q [] H
def kz(ta:TE)(tr:TA):TA:=fun Y H Q=>ta Y H fun x H1=>tr Y H1 fun xs H2=>Q (x::xs) H2
section
variable{X:Cx}{e:Expr}{es:List Expr}{te:TE}{t:TA}{pos:Pos}
def fT:PA X [] vZ:=fun _ _ _ _ H Q I h=>Calls.spliced_nil ⟨[],H,I,.nil,h⟩
def cR(ha:PE X e te)(hr:PA X es t)(hs:starEach (e::es) X.env=(false,eval e X.env)::starEach es X.env:=by rfl):PA X (e::es) (kz te t):=by intro pos js s Y H Q I h;rw[hs];show wpAny _ _ (spliced ((false,eval e X.env)::backTo pos (starEach es X.env))) _ _ s;refine Calls.spliced_cons (thn (ha js s Y H _ I h) fun u s1 zz=>?_);obtain⟨x,H1,I1,r1,q1⟩:=zz;exact thn (hr pos js s1 Y H1 _ I1 q1) fun us s2 ⟨xs,H2,I2,r2,q2⟩=>⟨x::xs,H2,I2,.cons r1 r2,q2⟩
def IH(t:TA):TE:=fun Y H Q=>t Y H fun xs H1=>xs.length<=sizeLine/\∀p,H1 p=none->Q (.ref p) (upd H1 p (.tup xs))
def IM(t:TA):TE:=fun Y H Q=>t Y H fun xs H1=>xs.length<=sizeLine/\∀p,H1 p=none->Q (.ref p) (upd H1 p (.lst xs))
def wG{x1}(h:PA X es t):PE X (.Tuple es x1 pos) (IH t):=by intro js s Y H Q I hq;refine wpAny_Tuple_spliced (thn (h pos js s Y H _ I hq) fun us s1 ⟨xs,H1,I1,r,z,q⟩=>⟨by rw[<- r.length];exact z,?_⟩);have hf:H1 s1.heap.objs.size=none:=I1.hok.fresh (Nat.le_refl _);refine⟨.ref s1.heap.objs.size,upd H1 s1.heap.objs.size (.tup xs),I1.laid (t':=s1.toks) (fun b u e=>get?_push_of_some _ e) (Nat.le_refl _) ?_,rfl,q _ hf⟩;exact⟨z,us,r,⟨_,get?_push_size _ rfl,rfl,_,rfl⟩⟩
def C9(h:PA X es t):PE X (.List es pos) (IM t):=by intro js s Y H Q I hq;refine wpAny_List_spliced (thn (h pos js s Y H _ I hq) fun us s1 ⟨xs,H1,I1,r,z,q⟩=>⟨by rw[<- r.length];exact z,?_⟩);have hf:H1 s1.heap.objs.size=none:=I1.hok.fresh (Nat.le_refl _);refine⟨.ref s1.heap.objs.size,upd H1 s1.heap.objs.size (.lst xs),I1.laid (t':=s1.toks) (fun b u e=>get?_push_of_some _ e) (Nat.le_refl _) ?_,rfl,q _ hf⟩;exact⟨z,us,0,r,get?_push_size _ rfl⟩
end
abbrev Sp:=JO->Hp->VK->XK->Prop
abbrev CXT:=List Env->Hp->Shared->XK->JD
structure pI(P:Program)(w:World)(K:PySem.W.Frag)(mg:JE)(base:Heap)(A:Around)(outer:List Env)(s:Shared)(H:Hp):Prop where
 frames:A.frames=some outer
 mod:Mod K mg base
 bs:∀b o,base.get? b=some o->s.heap.get? b=some o/\H b=none
 bsz:base.objs.size<=s.heap.objs.size
 funs:s.heap.FunFrames base outer
 frf:∀b∈frs outer,H b=none
 hok:HOk P w H s.heap
 bare:AllBare s.gens
def CE(outer:List Env)(P:Program)(w:World)(H:Hp)(s:Shared)(Q:VK)(u:Value)(s':Shared):Prop:=
 ∃v H',s'.os=s.os/\AllBare s'.gens/\Un (frs outer) [] H H' s.heap s'.heap/\HOk P w H' s'.heap/\bX v u/\Q v H'
def CR(CX:CXT)(outer:List Env)(P:Program)(w:World)(H:Hp)(s:Shared)(Q:VK)(E:XK)(r:Result)(s':Shared):Prop:=
 match r with
 |.ok (.ret u)=>CE outer P w H s Q u s'
 |.ok _=>False
 |.error e=>CX outer H s E e s'
structure dG(P:Program)(w:World)(K:PySem.W.Frag)(mg:JE)(base:Heap)(CX:CXT)(k:Nat)(f:Addr)(fd:FuncData)(ps:JL)(sp:Sp):Prop where
 len:∀vs H Q E,sp vs H Q E->vs.length=ps.length
 run:∀(A:Around) (outer:List Env) (s:Shared) (H:Hp) (args:Args) (us:JJ) (vs:JO) (Q:VK) (E:XK),d0 k A->pI P w K mg base A outer s H->BindsTo s fd args (ps.zip us)->aW vs us->sp vs H Q E ->
  codeAny (model P w) A (.call (.ref f) args) (CR CX outer P w H s Q E) s
def dG.mono{P:Program}{w:World}{K:PySem.W.Frag}{mg:JE}{base:Heap}{CX:CXT}{j k:Nat}{f:Addr}{fd:FuncData}{ps:JL}{sp:Sp}(F:dG P w K mg base CX j f fd ps sp)(h:j<=k) :
  dG P w K mg base CX k f fd ps sp:=⟨F.len,fun A outer s H args us vs Q E hr=>F.run A outer s H args us vs Q E (hr.mono h)⟩
def dG.imp{P:Program}{w:World}{K:PySem.W.Frag}{mg:JE}{base:Heap}{CX:CXT}{k:Nat}{f:Addr}{fd:FuncData}{ps:JL}{sp sp':Sp}(F:dG P w K mg base CX k f fd ps sp)
  (h:∀vs H Q E,sp' vs H Q E->sp vs H Q E):dG P w K mg base CX k f fd ps sp':=
 ⟨fun vs H Q E q=>F.len vs H Q E (h _ _ _ _ q),fun A outer s H args us vs Q E hr he hb hv hs=>F.run A outer s H args us vs Q E hr he hb hv (h _ _ _ _ hs)⟩
def pI.make{P:Program}{w:World}{K:PySem.W.Frag}{mg:JE}{base:Heap}{A:Around}{outer:List Env}{s:Shared}{H:Hp}(e:pI P w K mg base A outer s H)(C:Addr)(us:JJ)(kw:List (Str×Value)) :
  pI P w K mg base (A.under (.builtin "type.__call__" ⟨.ref C::us,kw⟩)) outer s H:=⟨by first|exact e.frames |(simpa[Around.under,Code.envs,Code.isFrame,pushEnvs]using e.frames),e.mod,e.bs,e.bsz,e.funs,e.frf,e.hok,e.bare⟩
section
variable{X:Cx}{js:JG}{Y:St}{H:Hp}{s s':Shared}
def Inv.env0(I:Inv X js Y H s):pI X.prog X.w X.K X.mg X.base X.A X.stack s H:=
 ⟨I.ok.frames,I.ok.mod,I.bs,Nat.le_trans I.ok.bsz I.sz,I.stack,I.stkFree,I.hok,I.bare⟩
def Inv.after{Q:VK}{u:Value}(I:Inv X js Y H s)(h:CE X.stack X.prog X.w H s Q u s'):EP X js Y Q u s':=by obtain⟨v,H',os,bare,un,hok,r,q⟩:=h;obtain⟨hh,g,d,t,os'⟩:=s';obtain rfl:os'=s.os:=os;exact⟨v,H',I.call (h':=hh) (g':=g) (d':=d) (t':=t) (ch:=[]) un hok bare (fun b z=>absurd z (by simp)),r,q⟩
end
def fA(K:PySem.W.Frag)(fd:FuncData)(ps:JL)(ds:JJ):Prop:=
 ∀(s:Shared) (us:JJ),K.In s.heap->(us++ds).length=ps.length->BindsTo s fd ⟨us,[]⟩ (ps.zip (us++ds))
def fA.all{K:PySem.W.Frag}{fd:FuncData}{ps:JL}(h:∀us:JJ,us.length=ps.length->bindArgs fd ⟨us,[]⟩=pure (ps.zip us)):fA K fd ps []:=fun s us _ hl=>by rw[append_nil]at hl ⊢;exact .of_eq (h us hl)
section
variable{X:Cx}{CX:CXT}{k:Nat}{f C:Addr}{fd:FuncData}{ps:JL}{sp:Sp}{dvs:JO}{ds:JJ}{E:XK}{x m:Str}{p pos apos:Pos}{e o:Expr}{es:List Expr}{ta:TE}{t:TA}
structure Mk(K:PySem.W.Frag)(C f:Addr):Prop where
 makes:makesIn K C=true
 init:PySem.W.findIn K (.ref C) "__init__"=some (some (.ref f))
 fn:PySem.W.isFn K (.ref f)=true
 kp:PySem.W.keepIn K (.ref C)=true
end
def PK(X:Cx)(kws:List Keyword)(t:TA):Prop:=
 ∀(pos:Pos) (js:JG) (s:Shared) (Y:St) (H:Hp) (Q:JO->JP),Inv X js Y H s->t Y H Q->wpAny (model X.prog X.w) X.A (evalAll ((backToKw pos (keywordEach kws X.env)).map (·.2))) (AP X js Y Q) X.xe s
section
variable{X:Cx}{CX:CXT}{k:Nat}{f C:Addr}{fd:FuncData}{ps ks:JL}{sp:Sp}{E:XK}{x m:Str}{p pos apos kpos:Pos}{e o:Expr}{es:List Expr}{kws:List Keyword}{te ta:TE}{t tk:TA}{nm:Option Str}
def wB:PK X [] vZ:=fun _ _ _ _ H Q I h=>wpAny_evalAll_nil ⟨[],H,I,.nil,h⟩
def s_(ha:PE X e te)(hr:PK X kws t):PK X (⟨nm,e,kpos⟩::kws) (kz te t):=by intro pos js s Y H Q I h;show wpAny _ _ (evalAll ((do let v <- eval e X.env;standAt pos;pure v)::(backToKw pos (keywordEach kws X.env)).map (·.2))) _ _ s;refine wpAny_evalAll_cons (wpAny_bind (thn (ha js s Y H _ I h) fun u s1 ⟨x,H1,I1,r1,q1⟩=>wpAny_bind (wpAny_standAt (wpAny_pure ?_))));exact thn (hr pos js s1 Y H1 _ I1 q1) fun us s2 ⟨xs,H2,I2,r2,q2⟩=>⟨x::xs,H2,I2,.cons r1 r2,q2⟩
variable{g:JJ->JJ->JJ}{gV:JO->JO->JO}
end
structure dF(N P:JL)(sc:Scope):Prop where
 kind:sc.kind=.function
 co:sc.isCoroutine=false
 gen:sc.isGenerator=false
 nd:N.Nodup
 pre:N.take P.length=P
 par:∀x∈P,sc.names.lookup x=some .local\/sc.names.lookup x=some .cell
 nofree:∀y∈sc.names,y.2≠.free
def oq{kindOf:Str->Option NameKind}{x:Str}:∀{binds:List (Str×Value)}{m:JE},(∀v,(x,v)∉ binds)->bindL kindOf binds m x=m x
 | [],_,_=>rfl
 |(n,v)::r,m,h=>by
  unfold bindL;rw[oq fun w hw=>h w (mem_cons_of_mem _ hw)];split
  ·have:x≠n:=by rintro rfl;exact h v mem_cons_self
   simp[this]
  ·rfl
def ow{kindOf:Str->Option NameKind}{x:Str}:∀{binds:List (Str×Value)}{m:JE},(∀v,(x,v)∉ binds)->bindC kindOf binds m x=m x
 | [],_,_=>rfl
 |(n,v)::r,m,h=>by
  unfold bindC;rw[ow fun w hw=>h w (mem_cons_of_mem _ hw)];split
  ·rfl
  ·have:x≠n:=by rintro rfl;exact h v mem_cons_self
   simp[this]
def ou{kindOf:Str->Option NameKind}{x:Str}{v:Value}:∀{P:JL}{vs:JJ}{i:Nat}{m:JE},P.Nodup->P[i]?=some x->vs[i]?=some v->kindOf x=some .local ->
  bindL kindOf (P.zip vs) m x=some v
 | [],_,_,_,_,h,_,_|_::_,[],_,_,_,_,h,_=>by simp at h
 |p::P,w::vs,0,m,nd,h1,h2,hk=>by simp at h1 h2;subst h1;subst h2;show bindL kindOf ((p,w)::P.zip vs) m p=_;unfold bindL;rw[oq fun v hv=>(nodup_cons.mp nd).1 (of_mem_zip hv).1,if_pos hk];simp
 |p::P,w::vs,i+1,m,nd,h1,h2,hk=>by show bindL kindOf ((p,w)::P.zip vs) m x=_;unfold bindL;exact ou (i:=i) (nodup_cons.mp nd).2 (by simpa using h1) (by simpa using h2) hk
def ox{kindOf:Str->Option NameKind}{x:Str}{v:Value}:∀{P:JL}{vs:JJ}{i:Nat}{m:JE},P.Nodup->P[i]?=some x->vs[i]?=some v->kindOf x≠some .local ->
  bindC kindOf (P.zip vs) m x=some v
 | [],_,_,_,_,h,_,_|_::_,[],_,_,_,_,h,_=>by simp at h
 |p::P,w::vs,0,m,nd,h1,h2,hk=>by simp at h1 h2;subst h1;subst h2;show bindC kindOf ((p,w)::P.zip vs) m p=_;unfold bindC;rw[ow fun v hv=>(nodup_cons.mp nd).1 (of_mem_zip hv).1,if_neg hk];simp
 |p::P,w::vs,i+1,m,nd,h1,h2,hk=>by show bindC kindOf ((p,w)::P.zip vs) m x=_;unfold bindC;exact ox (i:=i) (nodup_cons.mp nd).2 (by simpa using h1) (by simpa using h2) hk
def start(N:JL)(vs:JO):St:=vs.map some++replicate (N.length-vs.length) none
def dQ(CX:CXT)(P:Program)(w:World)(K:PySem.W.Frag)(mg:JE)(base:Heap)(N:JL)(qual:Str)(scope:Scope)(f:Addr)(cd:Value)(A:Around)(outer:List Env)(s:Shared)(H:Hp)(E:XK):Cx where
 prog:=P
 w:=w
 K:=K
 mg:=mg
 base:=base
 A:=A.deeper (envOfC qual scope s.heap.objs.size f cd)
 N:=N
 s₀:=s
 H₀:=H
 env:=envOfC qual scope s.heap.objs.size f cd
 outer:=outer
 stack:=envOfC qual scope s.heap.objs.size f cd::outer
 ex:=[]
 calm:=true
 fn:=fun _=>true
 pn:=[]
 xe:=fun e s'=>wpAny (model P w) (A.deeper (envOfC qual scope s.heap.objs.size f cd)) (leaving (envOfC qual scope s.heap.objs.size f cd) e) (fun _ s''=>CX outer H s E e s'') (fun e' s''=>CX outer H s E e' s'') s'
def mH{sc:Scope}{n:Nat}{x:Str}(h:sc.names.lookup x=some .cell):∃c,(cellsFrom n sc.names []).lookup x=some c:=by have q:=PySem.W.cellsFrom_some sc.names n [] (.inl h);exact isSome_iff_exists.mp q
def vm{CX:CXT}{P:Program}{w:World}{K:PySem.W.Frag}{mg:JE}{base:Heap}{N ps:JL}{qual:Str}{scope:Scope}{f:Addr}{cd:Value}{A:Around}{outer:List Env}{s s1:Shared}{H:Hp}{E:XK}{us:JJ}{vs:JO}
  (S:dF N ps scope) (hd:A.handled=none) (e0:pI P w K mg base A outer s H) (hl:vs.length=ps.length) (r:aW vs us)
  (x:InCallC s s.heap.objs.size (bindL (envOfC qual scope s.heap.objs.size f cd).kindOf (ps.zip us) fun _=>none) (cellsFrom (s.heap.objs.size+1) scope.names []) (bindC (envOfC qual scope s.heap.objs.size f cd).kindOf (ps.zip us) fun _=>none) s1) :
  Inv (dQ CX P w K mg base N qual scope f cd A outer s H E) [] (start N vs) H s1:=by
 have hpl:ps.length<=N.length:=by have:=congrArg List.length S.pre;rw[length_take]at this;omega
 obtain⟨h1,tk,rfl,hk⟩:=x.done;have noA:∀b:Addr,b ∉(dQ CX P w K mg base N qual scope f cd A outer s H E).ex:=fun b z=>absurd (show b ∈([]:JK)from z) (by simp);refine ⟨⟨e0.mod,S.kind,rfl,rfl,Nat.le_refl _,fun y z c h1 h2=>?_,fun y hy=>?_,fun y c _ h=>?_,fun _=>hd,Around.frames_deeper e0.frames,.inr ⟨rfl,rfl⟩,fun b z=>absurd z (noA b),e0.bs,e0.bsz,fun b _ _=>noA b,fun b z=>absurd z (noA b),e0.funs,e0.frf⟩,
  rfl,e0.bare,Un.kept hk,⟨_,x.toInCall.ns,fun i y v h1 h2 h3=>?_⟩,fun y c h=>⟨_,x.cell y c h⟩,e0.hok.fresh (Nat.le_refl _),fun y c h=>?_,fun p hp=>absurd (show p ∈([]:JG)from hp) (by simp),e0.hok.kept hk,?_⟩
 ·exact name_of_addr x.apart (PySem.mem_of_lookup h1) (PySem.mem_of_lookup h2)
 ·have hy:scope.names.lookup y=some .cell\/scope.names.lookup y=some .free:=hy;rcases hy with hy|hy
  ·exact mH hy
  ·exact absurd rfl (S.nofree _ (PySem.mem_of_lookup hy))
 ·exact Nat.le_of_lt (x.above y c (PySem.mem_of_lookup h))
 ·have hi:i<vs.length:=by
   unfold start at h2;by_cases hi:i<vs.length
   ·exact hi
   ·rw[getElem?_append_right (by simpa using hi)]at h2;rw[getElem?_replicate]at h2;split at h2<;>cases h2
  have ha:vs[i]?=some v:=by
   unfold start at h2;rw[getElem?_append_left (by simpa using hi),getElem?_map]at h2;cases e:vs[i]? with
   |none=>rw[e]at h2;cases h2
   |some a=>rw[e]at h2;cases h2;rfl
  obtain⟨u,hu,rv⟩:=r.get ha;have hp:ps[i]?=some y:=by rw[<- S.pre,List.getElem?_take_of_lt (by omega)];exact h1
  have ndP:ps.Nodup:=by rw[<- S.pre];exact S.nd.sublist (List.take_sublist _ _)
  refine⟨u,rv,?_⟩;rcases S.par y (List.mem_of_getElem? hp)with k|k
  ·exact .inl ⟨k,ou ndP hp hu k⟩
  ·obtain⟨c,e⟩:=mH (n:=s.heap.objs.size+1) k;refine .inr ⟨.inl k,c,e,?_⟩;have q:=x.cell y c e;rw[ox ndP hp hu (by show scope.names.lookup y≠_;rw[k];decide)]at q;exact q
 ·exact .inl (e0.hok.fresh (Nat.le_of_lt (x.above y c (PySem.mem_of_lookup h))))
 ·unfold start;show _=N.length;rw[length_append,length_map,List.length_replicate];omega
def Cx.low(X:Cx)(g:Str->Bool):Cx:={X with fn:=g}
def Inv.low(I:Inv X js Y H s)(hf:∀x,X.fn x=true)(g:Str->Bool):Inv (X.low g) js Y H s:=
 ⟨⟨I.ok.mod,I.ok.kind,I.ok.glob,I.ok.blt,I.ok.above,I.ok.inj,I.ok.has,fun x c _ h=>I.ok.cab x c (hf x) h,I.ok.hd,I.ok.frames,I.ok.stk,I.ok.exf,I.ok.bs,I.ok.bsz,I.ok.noex,I.ok.exfs,I.ok.funs,I.ok.frf⟩,
  I.os,I.bare,I.base,I.loc,I.cell,I.free,fun x c h=>.inl ((I.freeC x c h).resolve_right fun q=>by rw[hf]at q;cases q.1),I.pin,I.hok,I.len⟩
def HU(g:Str->Bool)(X:Cx)(st:List Stmt)(t:TS):Prop:=
 ∀(js:JG) (s:Shared) (Y:St) (H:Hp) (D:Ends),Inv X js Y H s->t D Y H->wpAny (model X.prog X.w) X.A (execs st X.env) (SP (X.low g) js D) X.xe s
def xX(g:Str->Bool){CX:CXT}{P:Program}{w:World}{K:PySem.W.Frag}{mg:JE}{base:Heap}{k:Nat}{f:Addr}{name qual:Str}{params:Arguments}{body:List Stmt}{scope:Scope}{dV kV doc pm cdv ct oc:Value}{an od:Option Addr}
  {osl:Array (Option Value)}{N ps:JL}{sp:Sp} (lk:K.lookup f=some ⟨oc,od,.func (PySem.W.fnOf name qual params body scope dV kV doc pm an cdv ct),osl⟩) (hcd:PySem.W.codeIn K cdv qual=true) (S:dF N ps scope)
  (len:∀vs H Q E,sp vs H Q E->vs.length=ps.length)
  (hbody:∀ (A:Around) (outer:List Env) (s:Shared) (H:Hp) (vs:JO) (Q:VK) (E:XK),d0 k (A.deeper (envOfC qual scope s.heap.objs.size f cdv))->sp vs H Q E ->
   ∃t,HU g (dQ CX P w K mg base N qual scope f cdv A outer s H E) body t/\t {nx:=fun _ H'=>Q .non H',rt:=Q} (start N vs) H) :
  dG P w K mg base CX (k+1) f (PySem.W.fnOf name qual params body scope dV kV doc pm an cdv ct) ps sp:=by
 refine⟨len,fun A outer s H args us vs Q E hr e0 hb r hsp=>?_⟩;have hl:=len _ _ _ _ hsp;have KX:K.In s.heap:=e0.mod.kin.keeps fun b o e=>(e0.bs b o e).1;have lim:s.heap.NoLimit:=e0.mod.nolimit.keeps fun b o e=>(e0.bs b o e).1;have hkind:∀y∈ps.zip us,scope.names.lookup y.1=some .local \/(scope.names.lookup y.1=some .cell/\((cellsFrom (s.heap.objs.size+1) scope.names []).lookup y.1).isSome=true):=fun hz1 hy=>by
  obtain⟨n,v⟩:=hz1;rcases S.par n (of_mem_zip hy).1 with q|q
  ·exact .inl q
  ·exact .inr ⟨q,PySem.W.cellsFrom_some _ _ _ (.inl q)⟩
 refine codeAny_call_function hr.depth (KX _ _ lk) rfl S.co S.gen rfl (PySem.W.codeRec_of KX hcd) (hb _ _ _ _ ?_);refine wpAny_newFunctionEnv_cells S.kind hkind fun env he s1 x=>?_;subst he;refine⟨lim.keeps x.toInCall.keep,codeAny_func ?_⟩;obtain⟨t,ht,hq⟩:=hbody A outer s H vs Q E (hr.deeper _) hsp;have I:Inv (dQ CX P w K mg base N qual scope f cdv A outer s H E) [] (start N vs) H s1:=vm S hr.hd e0 hl r x;refine wpAny_mono (ht [] s1 (start N vs) H _ I hq) (fun fl s' hs=>?_) fun e s' hs=>hs;have fin:∀{σ':St}{H':Hp}{v:V}{u:Value},Inv ((dQ CX P w K mg base N qual scope f cdv A outer s H E).low g) [] σ' H' s'->bX v u->Q v H'->CE outer P w H s Q u s':=
  fun {σ' H' v u} J rv q=>⟨v,H',J.os,J.bare,J.base,J.hok,rv,q⟩
 cases fl with
 |ret u=>obtain⟨v,σ',H',J,rv,q⟩:=hs;exact fin J rv q
 |next=>obtain⟨σ',H',J,q⟩:=hs;exact fin (v:=V.non) (u:=Value.none) J rfl q
 |brk=>obtain⟨_,_,_,q⟩:=hs;exact False.elim q
 |cont=>obtain⟨_,_,_,q⟩:=hs;exact False.elim q
def Cd{CX:CXT}{P:Program}{w:World}{K:PySem.W.Frag}{mg:JE}{base:Heap}{k:Nat}{f:Addr}{name qual:Str}{params:Arguments}{body:List Stmt}{scope:Scope}{dV kV doc pm cdv ct oc:Value}{an od:Option Addr}
  {osl:Array (Option Value)}{N ps:JL}{sp:Sp} (lk:K.lookup f=some ⟨oc,od,.func (PySem.W.fnOf name qual params body scope dV kV doc pm an cdv ct),osl⟩) (hcd:PySem.W.codeIn K cdv qual=true) (S:dF N ps scope)
  (len:∀vs H Q E,sp vs H Q E->vs.length=ps.length)
  (hbody:∀ (A:Around) (outer:List Env) (s:Shared) (H:Hp) (vs:JO) (Q:VK) (E:XK),d0 k (A.deeper (envOfC qual scope s.heap.objs.size f cdv))->sp vs H Q E ->
   ∃t,PSs (dQ CX P w K mg base N qual scope f cdv A outer s H E) body t/\t {nx:=fun _ H'=>Q .non H',rt:=Q} (start N vs) H) :
  dG P w K mg base CX (k+1) f (PySem.W.fnOf name qual params body scope dV kV doc pm an cdv ct) ps sp:=xX (fun _=>true) lk hcd S len hbody
end L2
namespace L2
open PySem PySem.Spec PyProof.Rows
section
variable{X:Cx}{x:Str}{p pos:Pos}{e:Expr}{es:List Expr}{t:TA}{id T:String}{r:JO->Hp->VK->Prop}
def tCB(r:JO->Hp->VK->Prop)(t:TA):TE:=fun Y H Q=>t Y H fun vs H1=>r vs H1 Q
def iK(hc:dR X (.builtin id) r)(hg:Gl X x)(hm:X.mg x=none)(hv:bootBuiltins x=some (.builtin id))(ha:PA X (e::es) t)(hn:x≠"__name__":=by decide)(hdb:(x ==("__debug__":Str))=false:=by decide)
  (he:starEach (e::es) X.env=(false,eval e X.env)::starEach es X.env:=by rfl) (hpl:(backTo pos (starEach es X.env)).any (·.1)=false:=by rfl):PE X (.Call (.Name x p) (e::es) [] pos) (tCB r t):=by
 intro js s Y H Q I h;refine wpAny_Call_Name_kw (gG I hg hm hv ?_ hn hdb);exact PyProof.Rows.callWith_builtin1 (thn (ha pos js s Y H _ I h) fun us s1 ⟨vs,H1,I1,r1,q1⟩=>hc js s1 Y H1 vs us Q I1 r1 q1) he hpl
def j7(hc:dR X (.type T) r)(hg:Gl X x)(hm:X.mg x=none)(hv:bootBuiltins x=some (.type T))(ha:PA X (e::es) t)(hn:x≠"__name__":=by decide)(hdb:(x ==("__debug__":Str))=false:=by decide)
  (he:starEach (e::es) X.env=(false,eval e X.env)::starEach es X.env:=by rfl) (hpl:(backTo pos (starEach es X.env)).any (·.1)=false:=by rfl):PE X (.Call (.Name x p) (e::es) [] pos) (tCB r t):=by
 intro js s Y H Q I h;refine wpAny_Call_Name_kw (gG I hg hm hv ?_ hn hdb);exact PyProof.Rows.callWith_type1 (thn (ha pos js s Y H _ I h) fun us s1 ⟨vs,H1,I1,r1,q1⟩=>hc js s1 Y H1 vs us Q I1 r1 q1) he hpl
end
end L2
namespace HT
open PySem PyProof.Rows
def lexLt:JI->JI->Bool
 | [],[]=>false
 | [],_::_=>true
 |_::_,[]=>false
 |x::xs,y::ys=>if x=y then lexLt xs ys else decide (x<y)
def r_(x y:Int)(xs ys:JI):lexLt (x::xs) (y::ys)=if x=y then lexLt xs ys else decide (x<y):=rfl
def mX:lexLt [] []=false:=rfl
def lV(y:Int)(ys:JI):lexLt [] (y::ys)=true:=rfl
def lW(x:Int)(xs:JI):lexLt (x::xs) []=false:=rfl
def yF(A:Around)(s:Shared)(a:Int)(t:Tok)(c:Int)(u:Tok):∃e,SeqAt.EqAt A s (.int a t) (.int c u) e/\(e=true↔a=c):=
 ⟨(a==c),SeqAt.EqAt.int_int a t c u,by simp⟩
def wr(A:Around)(s:Shared)(a:Int)(t:Tok)(c:Int)(u:Tok)(prog:Program)(w:World)(E:JD)(Q:JD)(h:Q (.bool (decide (a<c))) s) :
  wpAny (model prog w) A (richCompare .Lt (.int a t) (.int c u)) Q E s:=
 (PyProof.Rows.lt_int h:wpAny (model prog w) A (compareOp .Lt (.int a t) (.int c u)) Q E s)
section
open PySem.SeqAt
open PySem.AutoSeq1 (wpAny_loadPart')
open PySem.MeetsSeq PySem.MeetsSeq2 PySem.MeetsSeq3
def mR(l b:Addr)(items items2:JN)(n n2:Nat)(dd dd2:Option Addr)(sl sl2:Array (Option Value))(ns ms:JI)(hi:IntsAre items.toList ns)(hj:IntsAre items2.toList ms) :
  Meets (Builtin.«tuple.__lt__» ⟨[.ref l,.ref b],[]⟩)
   (fun _ R s=>s.heap.get? l=some { cls:=.type "tuple", dict:=dd,data:=.seq items n,slots:=sl }/\s.heap.get? b=some { cls:=.type "tuple", dict:=dd2,data:=.seq items2 n2,slots:=sl2 } /\
    R (.ok (.ret (.bool (lexLt ns ms)))) s):=
 .of_wp fun prog w A R s h=>by
  obtain⟨hp,g,d,tk,os⟩:=s;obtain⟨hl,hb,h⟩:=h;have f2:=AutoSeq1.sub_tuple_tuple;have z1:items.size=ns.length:=by rw[<- hi.length];simp
  have z2:items2.size=ms.length:=by rw[<- hj.length];simp
  wp_walk using wpAny_loadPart' hl,wpAny_loadPart' hb,wpAny_forIn_list _ (fun bU b s'=>b.1=none/\s'=⟨hp,g,d,tk,os⟩/\∃ (vs ws:JJ) (ns' ms':JI),bU=vs.zip ws /\
   IntsAre vs ns'/\IntsAre ws ms'/\ns'.length+items2.size=ms'.length+items.size/\R (.ok (.ret (.bool (lexLt ns' ms')))) ⟨hp,g,d,tk,os⟩) _
  case turn=>
   rintro⟨y,x⟩ bU b s' ⟨hb',rfl,vs,ws,ns',ms',hz,hvi,hwi,hlen,hR⟩;cases hvi with
   |nil=>rw[List.zip_nil_left]at hz;cases hz
   |cons a t hvi'=>
    cases hwi with
    |nil=>rw[List.zip_nil_right]at hz;cases hz
    |cons c u hwi'=>
     rw[zip_cons_cons]at hz;injection hz with hyx hrest;injection hyx with hy hx;subst hy hx;rw[r_]at hR;simp only[length_cons]at hlen;obtain⟨e,he,hiff⟩:=yF A.in1 ⟨hp,g,d,tk,os⟩ a t c u;refine wpAny_bind (he prog w _ _ ?_);cases e with
     |true=>
      rw[if_pos (hiff.mp rfl)]at hR
      wp_walk
      exact⟨rfl,rfl,_,_,_,_,hrest,hvi',hwi',by omega,hR⟩
     |false=>
      rw[if_neg (fun q=>absurd (hiff.mpr q) Bool.false_ne_true)]at hR;have hri:=wr A.in1 ⟨hp,g,d,tk,os⟩ a t c u prog w
      wp_walk using hri
      exact⟨_,rfl,by simpa using hR⟩
  case fin=>
   rintro⟨b1,b2⟩ s' ⟨hb',rfl,vs,ws,ns',ms',hz,hvi,hwi,hlen,hR⟩;simp only at hb';subst hb';have hv:lexLt ns' ms'=decide (items.size<items2.size):=by
    cases hvi with
    |nil=>
     cases hwi with
     |nil=>simp only[length_nil]at hlen;rw[mX];exact(decide_eq_false (by omega)).symm
     |cons c u hw=>simp only[length_nil,length_cons]at hlen;rw[lV];exact(decide_eq_true (by omega)).symm
    |cons a t hv=>
     cases hwi with
     |nil=>simp only[length_nil,length_cons]at hlen;rw[lW];exact(decide_eq_false (by omega)).symm
     |cons c u hw=>rw[zip_cons_cons]at hz;cases hz
   rw[hv]at hR
   wp_walk
   exact⟨_,rfl,by simpa[Builtin.Tuple.tupleCompareSizes]using hR⟩
  case h=>
   exact⟨rfl,rfl,items.toList,items2.toList,ns,ms,rfl,hi,hj,by omega,h⟩
end
section
variable{prog:Program}{w:World}{A:Around}{E:JD}{s:Shared}
def lt_tupInts{l b:Addr}{items items2:JN}{ns ms:JI}{Q:JD}(hl:IsTup s.heap l items)(hb:IsTup s.heap b items2)(hi:IntsAre items.toList ns)(hj:IntsAre items2.toList ms)
  (hu:A.units<cLine) (h:Q (.bool (lexLt ns ms)) s):wpAny (model prog w) A (compareOp .Lt (.ref l) (.ref b)) Q E s:=by
 obtain⟨⟨cls,dd,data,sl⟩,ho,hc,n,hd⟩:=id hl;obtain⟨⟨cls2,dd2,data2,sl2⟩,ho2,hc2,n2,hd2⟩:=id hb;simp only at hc hd hc2 hd2;subst hc hd hc2 hd2;exact richCompare_meets_room (op:=.Lt) ⟨_,ho,rfl⟩ ⟨_,ho2,rfl⟩ PySem.F.slot_tuple_lt PySem.F.entry_tuple_lt (PySem.F.args_tuple_lt_2 _ _) (mR l b items items2 n n2 dd dd2 sl sl2 ns ms hi hj)
  ⟨ho,ho2,show Value.bool (lexLt ns ms)≠ Value.notImplemented/\Q (.bool (lexLt ns ms)) s from⟨(fun x=>nomatch x),h⟩⟩ hu
def sIx(n d:Nat):JM->Nat
 |none=>d
 |some v=>if v<0 then(v+(n:Int)).toNat else min v.toNat n
def sIx_none(n d:Nat):sIx n d none=d:=rfl
def sIx_nat(n d k:Nat):sIx n d (some (k:Int))=min k n:=by show(if(k:Int)<0 then((k:Int)+(n:Int)).toNat else min (k:Int).toNat n)=min k n;rw[if_neg (by omega),toNat_natCast]
end
end HT
namespace L2
open PySem PySem.Spec PyProof.Rows
abbrev TO:=St->Hp->(JM->JP)->Prop
def PO(X:Cx)(e:Option Expr)(t:TO):Prop:=
 ∀(js:JG) (s:Shared) (Y:St) (H:Hp) (Q:JM->JP),Inv X js Y H s->t Y H Q ->
  wpAny (model X.prog X.w) X.A (evalPart e X.env) (fun u s'=>∃o H',Inv X js Y H' s'/\IsPart u o/\Q o H') X.xe s
def z_:TO:=fun _ H Q=>Q none H
def Ge(t:TE):TO:=fun Y H Q=>t Y H fun x H1=>∃i,x=.int i/\Q (some i) H1
def l9{ns:JI}:∀{us:JJ},aW (ns.map V.int) us->IntsAre us ns:=by
 induction ns with
 |nil=>intro us r;rw[List.map_nil]at r;cases r;exact .nil
 |cons n ns ih=>
  intro us r;rw[map_cons]at r;cases r with
  |cons r1 r2=>obtain⟨t,e⟩:=r1;subst e;exact .cons n t (ih r2)
section
variable{X:Cx}{e:Expr}{te:TE}{lo hi:Option Expr}{tl th:TO}{pos p2:Pos}
def AN:PO X none z_:=by intro js s Y H Q I h;rw[evalPart_none];exact wpAny_pure ⟨none,H,I,.none,h⟩
def AM(h:PE X e te):PO X (some e) (Ge te):=by intro js s Y H Q I hw;rw[evalPart_some];refine thn (h js s Y H _ I hw) fun u s1 hz1=>?_;obtain⟨x,H1,I1,r1,q1⟩:=hz1;obtain⟨i,rfl,q⟩:=q1;obtain⟨t,rfl⟩:=r1;exact⟨some i,H1,I1,.int i t,q⟩
def SlR(X:Cx)(r:V->JM->JM->Hp->VK->Prop):Prop:=
 ∀(js:JG) (s:Shared) (Y:St) (H:Hp) (x:V) (v vl vu:Value) (lo hi:JM) (sl:Addr) (Q:VK),Inv X js Y H s->bX x v->s.heap.IsSliceOf sl vl vu .none->IsPart vl lo->IsPart vu hi->r x lo hi H Q ->
  ∃T id,typeLookup (.type T) "__getitem__"=pure (some (.builtin id))/\s.TypeIs v T/\wpAny (model X.prog X.w) X.A (getItem v (.ref sl)) (EP X js Y Q) X.xe s
def tSl(r:V->JM->JM->Hp->VK->Prop)(te:TE)(tl th:TO):TE:=fun Y H Q=>te Y H fun x H1=>tl Y H1 fun l H2=>th Y H2 fun u H3=>r x l u H3 Q
def wH{r:V->JM->JM->Hp->VK->Prop}(hr:SlR X r)(he:PE X e te)(hl:PO X lo tl)(hu:PO X hi th):PE X (.Subscript e (.Slice lo hi none p2) pos) (tSl r te tl th):=by intro js s Y H Q I h;refine Subscript_ (thn (he js s Y H _ I h) fun v s1 zz=>?_);obtain⟨x,H1,I1,r1,q1⟩:=zz;refine wpAny_Slice (thn (hl js s1 Y H1 _ I1 q1) fun vl s2 ⟨l,H2,I2,pl,q2⟩=>thn (hu js s2 Y H2 _ I2 q2) fun vu s3 zz=>?_);obtain⟨u,H3,I3,pu,q3⟩:=zz;rw[evalPart_none];refine wpAny_pure ?_;have I4:Inv X js Y H3 {s3 with heap:=s3.heap.push {cls:=.type "slice",data:=.fields #[vl,vu,.none]}}:=I3.kept (t':=s3.toks) fun b ob q=>get?_push_of_some _ q;obtain⟨T,id,hT,ht,hg⟩:=hr js {s3 with heap:=s3.heap.push {cls:=.type "slice",data:=.fields #[vl,vu,.none]}} Y H3 x v vl vu l u s3.heap.objs.size Q I4 r1 (Heap.IsSliceOf.new ..) pl pu q3;show wpAny (model X.prog X.w) X.A (subscriptTail e (.Slice lo hi none p2) v (.ref s3.heap.objs.size)) (EP X js Y Q) X.xe {s3 with heap:=s3.heap.push {cls:=.type "slice",data:=.fields #[vl,vu,.none]}};exact tail_any (ops:=[.ref s3.heap.objs.size,v]) ht hT hg (by with_unfolding_all rfl)
def yQ(xs:JO)(lo hi:JM):JO:=(xs.drop (HT.sIx xs.length 0 lo)).take (HT.sIx xs.length xs.length hi-HT.sIx xs.length 0 lo)
def qz(xs:JO)(lo hi:JM):(yQ xs lo hi).length<=xs.length:=by unfold yQ;rw[length_take,length_drop];omega
def Gy(K:PySem.W.Frag):R2:=fun x y H Q=>∃a b ns ms,x=.ref a/\y=.ref b/\SqT K H a (ns.map V.int)/\SqT K H b (ms.map V.int)/\Q (.bl (HT.lexLt ns ms)) H
def Dk(hu:X.A.units<cLine):OpR X (compareOp .Lt) (Gy X.K):=by intro js s Y H x y v u Q I rx ry h;obtain⟨a,b,ns,ms,rfl,rfl,ha,hb,q⟩:=h;cases rx;cases ry;obtain⟨its,r1,p1,_⟩:=I.tuple ha;obtain⟨its2,r2,p2,_⟩:=I.tuple hb;have i1:IntsAre its.toArray.toList ns:=l9 r1;have i2:IntsAre its2.toArray.toList ms:=l9 r2;exact HT.lt_tupInts p1 p2 i1 i2 hu ⟨.bl (HT.lexLt ns ms),H,I,rfl,q⟩
end
end L2
namespace L2
open PySem PySem.Spec PyProof.Rows
def ixN(n:Nat)(i:Int):Option Nat:=if 0<=i then(if i<n then some i.toNat else none)else if -(n:Int)<= i then some (i+n).toNat else none
def atI{α:Type}(xs:List α)(i:Int):Option α:=(ixN xs.length i).bind fun j=>xs[j]?
def tR{n:Nat}{i:Int}{j:Nat}(h:ixN n i=some j):seqIndex? i n=some j/\j<n/\-(n:Int)<= i/\i<n:=by
 unfold ixN at h;by_cases h0:0<=i
 ·rw[if_pos h0]at h;by_cases h1:i<n
  ·rw[if_pos h1]at h;have e:i.toNat=j:=Option.some.inj h;exact⟨by rw[seqIndex_of h0 h1,e],by omega,by omega,h1⟩
  ·rw[if_neg h1]at h;cases h
 ·rw[if_neg h0]at h;by_cases h1:-(n:Int)<= i
  ·rw[if_pos h1]at h;have e:(i+n).toNat=j:=Option.some.inj h;exact⟨by rw[seqIndex_neg (by omega) h1,e],by omega,h1,by omega⟩
  ·rw[if_neg h1]at h;cases h
def pE{α:Type}{xs:List α}{i:Int}{v:α}(h:atI xs i=some v):∃j,seqIndex? i xs.length=some j/\xs[j]?=some v/\j<xs.length/\-(xs.length:Int)<= i/\i<xs.length:=by
 unfold atI at h;cases e:ixN xs.length i with
 |none=>rw[e]at h;cases h
 |some j=>rw[e]at h;obtain⟨h1,h2,h3,h4⟩:=tR e;exact⟨j,h1,h,h2,h3,h4⟩
def i6(b:Expr):Prop:=∀o i,subscripted b false o i=operate [o,i] (getItem o i)
def IxR(X:Cx)(r:R2):Prop:=
 ∀(value slice:Expr) (js:JG) (s:Shared) (Y:St) (H:Hp) (x y:V) (v u:Value) (Q:VK),Inv X js Y H s->bX x v->bX y u->r x y H Q ->
  subscripted slice false v u=operate [v,u] (getItem v u)->wpAny (model X.prog X.w) X.A (subscriptTail value slice v u) (EP X js Y Q) X.xe s
def MtR(X:Cx)(id:String)(r:V->JO->Hp->VK->Prop):Prop:=
 ∀(js:JG) (s:Shared) (Y:St) (H:Hp) (x:V) (xs:JO) (v:Value) (us:JJ) (Q:VK),Inv X js Y H s->bX x v->aW xs us->r x xs H Q ->
  wpAny (model X.prog X.w) X.A (call (.builtin id) (v::us)) (EP X js Y Q) X.xe s
section
variable{X:Cx}{a b:Expr}{ta tb:TE}{pos:Pos}
def IxR.or{r r':R2}(h:IxR X r)(h':IxR X r'):IxR X (fun x y H Q=>r x y H Q\/r' x y H Q):=by
 intro value slice js s Y H x y v u Q I rx ry q hs;rcases q with q|q
 ·exact h value slice js s Y H x y v u Q I rx ry q hs
 ·exact h' value slice js s Y H x y v u Q I rx ry q hs
def B8{r:R2}(hr:IxR X r)(ha:PE X a ta)(hb:PE X b tb)(hs:i6 b):PE X (.Subscript a b pos) (tOp r ta tb):=by intro js s Y H Q I h;exact Subscript_ (EZ ha hb I h fun v u s2 x y H2 I2 rx ry q=>hr a b js s2 Y H2 x y v u Q I2 rx ry q (hs _ _))
def AF(K:PySem.W.Frag):R2:=fun x y H Q=>∃p xs i v,x=.ref p/\y=.int i/\SqL K H p xs/\atI xs i=some v/\Q v H
def AD(K:PySem.W.Frag):R2:=fun x y H Q=>∃p xs i v,x=.ref p/\y=.int i/\SqT K H p xs/\atI xs i=some v/\Q v H
def AE:R2:=fun x y H Q=>∃z i c,x=.str z/\y=.int i/\z.length<=sizeLine/\atI z.cps.toList i=some c/\Q (.str ⟨#[c]⟩) H
def Bo:IxR X (AF X.K):=by
 intro value slice js s Y H x y v u Q I rx ry h hs;obtain⟨p,xs,i,z,rfl,rfl,hq,he,q⟩:=h;cases rx;obtain⟨t,rfl⟩:=ry;obtain⟨its,r,pl,hz⟩:=I.list hq;obtain⟨j,h1,h2,h3,h4,h5⟩:=pE he;obtain⟨w,ew,rw'⟩:=r.get h2;have hl:=r.length;have hn:=kg;have fin:EP X js Y Q w s:=⟨z,H,I,rw',q⟩
 by_cases h0:0<=i
 ·have hj:i.toNat=j:=by rw[seqIndex_of h0 h5]at h1;exact Option.some.inj h1
  exact item_listR pl.isList h0 (by omega) (by rw[hj];simpa using ew) fin hs
 ·have hj:(i+(its.toArray.size:Int)).toNat=j:=by rw[seqIndex_neg (by omega) h4]at h1;rw[size_toArray,<- hl];exact Option.some.inj h1
  exact subscriptTail_builtinR (x:=w) pl.isList.typeIs slot_list_getitem.lookup
   (wpAny_getItem_list_neg (Q:=fun r s'=>r=w/\EP X js Y Q r s') pl.isList (by omega) (by rw[size_toArray]<;>omega) (by omega) (by rw[hj];simpa using ew) ⟨rfl,fin⟩) hs
def Eg:IxR X (AD X.K):=by
 intro value slice js s Y H x y v u Q I rx ry h hs;obtain⟨p,xs,i,z,rfl,rfl,hq,he,q⟩:=h;cases rx;obtain⟨t,rfl⟩:=ry;obtain⟨its,r,pl,hz⟩:=I.tuple hq;obtain⟨j,h1,h2,h3,h4,h5⟩:=pE he;obtain⟨w,ew,rw'⟩:=r.get h2;have hl:=r.length;have hn:=kg;have fin:EP X js Y Q w s:=⟨z,H,I,rw',q⟩
 exact subscriptTail_builtinR (x:=w) pl.typeIs slot_tuple_getitem.lookup
  (getItem_tuple (j:=j) (Q:=fun r s'=>r=w/\EP X js Y Q r s') pl (by omega) (by omega) (by rw[size_toArray,<- hl];exact h1) (by simpa using ew) ⟨rfl,fin⟩) hs
def Eh:IxR X AE:=by
 intro value slice js s Y H x y v u Q I rx ry h hs;obtain⟨z,i,c,rfl,rfl,hz,he,q⟩:=h;obtain⟨t,rfl⟩:=rx;obtain⟨t',rfl⟩:=ry;obtain⟨j,h1,h2,h3,h4,h5⟩:=pE he;have hl:z.cps.toList.length=z.length:=by simp[Str.length]
 rw[hl]at h1 h4 h5;have hn:=kg;exact tail_any (typeIs_str s z t) slot_str_getitem.lookup (getItem_str (c:=c) (by
  have e1:decide (i < -(2 ^ 63:Int))=false:=decide_eq_false (by omega);have e2:decide (i >= 2 ^ 63)=false:=decide_eq_false (by omega);rw[e1,e2,Bool.or_false]) (by rw[h1];simpa using h2) ⟨.str ⟨#[c]⟩,H,I.tok _,⟨_,rfl⟩,q⟩) hs
def rIx(K:PySem.W.Frag):R2:=fun x y H Q=>AF K x y H Q\/AD K x y H Q\/AE x y H Q
def xL:IxR X (rIx X.K):=Bo.or (Eg.or Eh)
def rW(its:JJ)(n j:Nat)(u:Value):Obj.mapSeq (·.setIfInBounds j u) {cls:=.type "list",data:=.seq its.toArray n}={cls:=.type "list",data:=.seq (its.set j u).toArray n}:=by simp[Obj.mapSeq]
def Inv.lst{js:JG}{Y:St}{H:Hp}{s:Shared}{p:Addr}{xs:JO}(I:Inv X js Y H s)(h:H p=some (.lst xs)) :
  ∃(its:JJ) (n:Nat),aW xs its/\s.heap.get? p=some {cls:=.type "list",data:=.seq its.toArray n}/\xs.length<=sizeLine:=by
 obtain⟨z,its,n,r,e⟩:=I.hok p _ h;exact⟨its,n,r,e,z⟩
def Inv.lstUpd{js:JG}{Y:St}{H:Hp}{s:Shared}{p:Addr}{xs ys:JO}{its its':JJ}{n n':Nat}{f:Obj->Obj}(I:Inv X js Y H s)(h:H p=some (.lst xs))
  (ho:s.heap.get? p=some {cls:=.type "list",data:=.seq its.toArray n}) (hf:f {cls:=.type "list",data:=.seq its.toArray n}={cls:=.type "list",data:=.seq its'.toArray n'}) (r:aW ys its') (hz:ys.length<=sizeLine) (t:Nat) :
  Inv X js Y (upd H p (.lst ys)) {s with heap:=s.heap.update p f,toks:=t}:=by
 have e:(s.heap.update p f).get? p=some {cls:=.type "list",data:=.seq its'.toArray n'}:=by rw[get?_update_self f ho (by rw[hf]<;>rfl),hf]
 refine I.write (x:=p) (e:=p) (by rw[h];trivial) (.inl rfl) (fun b u hb q=>(get?_update_other _ _ (Ne.symm hb)).trans q) ⟨_,e⟩ ?_;exact⟨hz,its',n',r,e⟩
def Gw:V->V->V->Hp->(JP)->Prop:=fun o i v H Q=>∃p xs k j,o=.ref p/\i=.int k/\H p=some (.lst xs)/\ixN xs.length k=some j/\Q (upd H p (.lst (xs.set j v)))
def v9:HV X Gw:=by
 intro js s Y H o i v ov iv u Q I ro ri rv h;obtain⟨p,xs,k,j,rfl,rfl,hp,hj,q⟩:=h;cases ro;obtain⟨t,rfl⟩:=ri;obtain⟨its,n,r,ho,hz⟩:=I.lst hp;obtain⟨h1,h2,h3,h4⟩:=tR hj;have hl:=r.length;have hn:=kg;have I':Inv X js Y (upd H p (.lst (xs.set j v))) {s with heap:=s.heap.update p (Obj.mapSeq (·.setIfInBounds j u))}:=
  I.lstUpd hp ho (rW its n j u) (r.set rv j) (by rw[length_set];exact hz) s.toks
 by_cases h0:0<=k
 ·have hk:k.toNat=j:=by rw[seqIndex_of h0 h4]at h1;exact Option.some.inj h1
  exact PySem.W.ki_setAt ho h0 (by omega) (by rw[size_toArray,<- hl];exact h4) (by rw[hk];exact⟨_,I',q⟩)
 ·have hk:(k+(its.toArray.size:Int)).toNat=j:=by rw[seqIndex_neg (by omega) h3]at h1;rw[size_toArray,<- hl];exact Option.some.inj h1
  exact PySem.W.ki_setBack ho (by omega) (by rw[size_toArray,<- hl];exact h3) (by omega) (by rw[hk];exact⟨_,I',q⟩)
def oC(lo hi:JM)(n:Nat):(sliceBounds lo hi none n).1=((HT.sIx n 0 lo:Nat):Int)/\(sliceBounds lo hi none n).2.1=((HT.sIx n n hi:Nat):Int)/\(sliceBounds lo hi none n).2.2=1:=by
 refine⟨?_,?_,rfl⟩
 ·cases lo with
  |none=>simp[sliceBounds,HT.sIx]
  |some i=>
   simp only[sliceBounds,HT.sIx,Option.getD_none,show(1:Int)>0 by decide,if_true];by_cases h:i<0
   ·simp only[h,if_true]<;>omega
   ·simp only[h,if_false]<;>omega
 ·cases hi with
  |none=>simp[sliceBounds,HT.sIx]
  |some i=>
   simp only[sliceBounds,HT.sIx,Option.getD_none,show(1:Int)>0 by decide,if_true];by_cases h:i<0
   ·simp only[h,if_true]<;>omega
   ·simp only[h,if_false]<;>omega
def mS(its:JJ)(lo hi:JM):slicePick its.toArray lo hi none=((its.drop (HT.sIx its.length 0 lo)).take (HT.sIx its.length its.length hi-HT.sIx its.length 0 lo)).toArray:=by obtain⟨h1,h2,h3⟩:=oC lo hi its.toArray.size;unfold slicePick;rw[h1,h2,h3];simp only[sliceRange_one,pick_run,size_toArray]<;>rfl
def IR(K:PySem.W.Frag):V->JM->JM->Hp->VK->Prop:=fun x lo hi H Q=>∃a xs,x=.ref a/\SqL K H a xs/\∀p,H p=none->Q (.ref p) (upd H p (.lst (yQ xs lo hi)))
def Ae:SlR X (IR X.K):=by intro js s Y H x v vl vu lo hi sl Q I rx hs pl pu h;obtain⟨a,xs,rfl,hx,q⟩:=h;cases rx;obtain⟨its,r,ht,hz⟩:=I.list hx;have hlen:=r.length;refine⟨"list",_,slot_list_getitem.lookup,ht.isList.typeIs,?_⟩;refine wpAny_getItem_list_slice ht.isList hs pl pu .none (by simp) ?_ (by rw[size_toArray]<;>omega);rw[mS,<- hlen];refine⟨.ref s.heap.objs.size,_,I.laid (t':=s.toks) (o:=.lst (yQ xs lo hi)) (fun b ob q=>get?_push_of_some _ q) (Nat.le_refl _) ?_,rfl,q _ (I.hok.fresh (Nat.le_refl _))⟩;exact⟨Nat.le_trans (qz xs lo hi) hz,_,0,(r.drop (HT.sIx xs.length 0 lo)).take (HT.sIx xs.length xs.length hi-HT.sIx xs.length 0 lo),get?_push_size _ rfl⟩
def pA:dR X (.builtin "len") (fun xs H Q=>∃p ys,xs=[.ref p]/\(SqL X.K H p ys\/SqT X.K H p ys)/\Q (.int ys.length) H):=by
 intro js s Y H xs us Q I r h;obtain⟨p,ys,rfl,hq,q⟩:=h;obtain⟨u,rfl,rx⟩:=d4 r;cases rx;have hn:=kg;rcases hq with hq|hq
 ·obtain⟨its,r',pl,hz⟩:=I.list hq;have hlen:=r'.length;exact Calls.call_len_list pl.isList (by simp only[size_toArray]<;>omega) ⟨.int ys.length,H,I.tok _,⟨s.toks+1,by rw[size_toArray,hlen]⟩,q⟩
 ·obtain⟨its,r',pl,hz⟩:=I.tuple hq;have hlen:=r'.length;exact len_tuple pl (by simp only[size_toArray]<;>omega) ⟨.int ys.length,H,I.tok _,⟨s.toks+1,by rw[size_toArray,hlen]⟩,q⟩
def pz:dR X (.type "list") (fun xs H Q=>∃p ys,xs=[.ref p]/\(SqL X.K H p ys\/SqT X.K H p ys)/\∀l,H l=none->Q (.ref l) (upd H l (.lst ys))):=by
 intro js s Y H xs us Q I r h;obtain⟨p,ys,rfl,hq,q⟩:=h;obtain⟨u,rfl,rx⟩:=d4 r;cases rx;have fin:∀(its:JJ),aW ys its->ys.length<=sizeLine->∀(h':Heap) (c':Nat),(∀b o',s.heap.get? b=some o'->h'.get? b=some o')->
   h'.get? s.heap.objs.size=some {cls:=.type "list",dict:=none,data:=.seq its.toArray c',slots:=#[]}->EP X js Y Q (.ref s.heap.objs.size) {s with heap:=h'}:=fun its r' hz h' c' kp e=>
  ⟨.ref s.heap.objs.size,_,I.laid (t':=s.toks) kp (Nat.le_refl _) (show cU X.prog X.w _ h' _ (.lst ys)from⟨hz,its,c',r',e⟩),rfl,q _ (I.hok.fresh (Nat.le_refl _))⟩
 rcases hq with hq|hq
 ·obtain⟨its,r',pl,hz⟩:=I.list hq;have hlen:=r'.length;obtain⟨o,ho,hc,n,hd⟩:=pl.isList;exact call_list_seq p (.inl rfl) ho hc hd (fun h' c' kp e=>fin its r' hz h' c' kp e) (by simp only[size_toArray]<;>omega)
 ·obtain⟨its,r',pl,hz⟩:=I.tuple hq;have hlen:=r'.length;obtain⟨o,ho,hc,n,hd⟩:=pl;exact call_list_seq p (.inr rfl) ho hc hd (fun h' c' kp e=>fin its r' hz h' c' kp e) (by simp only[size_toArray]<;>omega)
def m_:dR X (.type "tuple") (fun xs H Q=>∃p ys,xs=[.ref p]/\((SqL X.K H p ys/\∀l,H l=none->Q (.ref l) (upd H l (.tup ys)))\/(SqT X.K H p ys/\Q (.ref p) H))):=by
 intro js s Y H xs us Q I r h;obtain⟨p,ys,rfl,h⟩:=h;obtain⟨u,rfl,rx⟩:=d4 r;cases rx;rcases h with⟨hq,q⟩ |⟨hq,q⟩
 ·obtain⟨its,r',pl,hz⟩:=I.list hq;have hlen:=r'.length;refine call_tuple_list pl.isList (fun h' kp=>?_) (by simp only[size_toArray]<;>omega);have I1:Inv X js Y H {s with heap:=h'}:=I.kept (t':=s.toks) kp;have I2:Inv X js Y (upd H h'.objs.size (.tup ys)) {s with heap:=h'.push {cls:=.type "tuple",data:=.seq its.toArray}}:=
   I1.laid (t':=s.toks) (fun b o e=>get?_push_of_some _ e) (Nat.le_refl _) (show cU X.prog X.w _ _ _ (.tup ys)from⟨hz,its,r',IsTup.new _ _⟩)
  exact⟨.ref h'.objs.size,_,I2,rfl,q _ (I1.hok.fresh (Nat.le_refl _))⟩
 ·obtain⟨its,r',pl,hz⟩:=I.tuple hq;exact call_tuple_same pl ⟨.ref p,H,I,rfl,q⟩
def tyV(K:PySem.W.Frag)(T:String)(x:V)(H:Hp):Prop:=match x with
 |.str _=>T="str"
 |.int _=>T="int"
 |.ref p=>(T="list" /\ ∃xs,SqL K H p xs)\/(T="tuple" /\ ∃o,K.lookup p=some o/\o.cls=.type "tuple" /\ o.dict=none)\/
   (T="dict" /\((∃kvs,H p=some (.dK kvs))\/ ∃kvs,H p=some (.dT kvs)))\/(T="set" /\ ∃S n,H p=some (.set S n))
 |_=>False
def Cn{js:JG}{Y:St}{H:Hp}{s:Shared}{T:String}{x:V}{v:Value}(I:Inv X js Y H s)(r:bX x v)(ty:tyV X.K T x H) :
  s.TypeIs v T/\∀a,v=.ref a->∃ob,s.heap.get? a=some ob/\ob.dict=none:=by
 cases x with
 |str z=>obtain⟨t,rfl⟩:=r;cases(show T="str" from ty);exact⟨typeIs_str s z t,fun _ e=>nomatch e⟩
 |int i=>obtain⟨t,rfl⟩:=r;cases(show T="int" from ty);exact⟨typeIs_int s i t,fun _ e=>nomatch e⟩
 |ref p=>
  cases r;rcases ty with⟨rfl,xs,hq⟩ |⟨rfl,o,hk,hc,hd⟩ |⟨rfl,hk⟩ |⟨rfl,S,n,hk⟩
  ·obtain⟨its,_,pl,_⟩:=I.list hq;refine⟨pl.isList.typeIs,fun a e=>?_⟩;cases e;obtain⟨o,n,e,c,hd,_⟩:=pl;exact⟨o,e,hd⟩
  ·refine⟨⟨o,I.kIn p o hk,hc⟩,fun a e=>?_⟩;cases e;exact⟨o,I.kIn _ o hk,hd⟩
  ·have z:∃o,s.heap.get? p=some o/\o.ExactDict:=by
    rcases hk with⟨kvs,hk⟩ |⟨kvs,hk⟩
    ·obtain⟨_,_,_,_,o,_,_,e,ex,_⟩:=I.hok p _ hk;exact⟨o,e,ex⟩
    ·obtain⟨_,_,_,_,o,_,_,e,ex,_⟩:=I.hok p _ hk;exact⟨o,e,ex⟩
   obtain⟨o,e,ex⟩:=z;refine⟨⟨o,e,ex.1⟩,fun a e2=>?_⟩;cases e2;exact⟨o,e,ex.2.1⟩
  ·obtain⟨o,_,_,_,e,ex,_⟩:=I.hok p _ hk;refine⟨⟨o,e,ex.1⟩,fun a e2=>?_⟩;cases e2;exact⟨o,e,ex.2.1⟩
 |_=>exact False.elim ty
def tBM(K:PySem.W.Frag)(T:String)(r:V->JO->Hp->VK->Prop)(to:TE)(t:TA):TE:=fun Y H Q=>to Y H fun x H1=>tyV K T x H1/\t Y H1 fun xs H2=>r x xs H2 Q
variable{o e:Expr}{es:List Expr}{to:TE}{t:TA}{name:Str}{apos cpos:Pos}{T id:String}{r:V->JO->Hp->VK->Prop}
def GK(pa:PlainAttrs T)(slot:Slot T name id)(hty:typeOf (.builtin id)=pure (.type "method_descriptor"))(hm:MtR X id r)(ho:PE X o to)(ha:PA X (e::es) t)
  (hbase:attributeBase o name X.env (eval o X.env)=eval o X.env:=by rfl)
  (hfew:((backTo cpos (starEach (e::es) X.env)).all (fun x=>!x.1) && (backToKw cpos (keywordEach [] X.env)).all (fun x=>x.1.isSome)
   && decide ((e::es).length+([]:List Keyword).length+(if([]:List Keyword).isEmpty then 0 else 1)<30))=true:=by rfl)
  (hline:(apos.endLine==cpos.line)=true:=by rfl) (hs:starEach (e::es) X.env=(false,eval e X.env)::starEach es X.env:=by rfl) (hplain:(backTo cpos (starEach es X.env)).any (·.1)=false:=by rfl) :
  PE X (.Call (.Attribute o name apos) (e::es) [] cpos) (tBM X.K T r to t):=by
 intro js s Y H Q I h;refine wpAny_Call_method_late hbase hfew hline rfl (thn (ho js s Y H _ I h) fun v s1 zz=>?_);obtain⟨x,H1,I1,r1,ty,q1⟩:=zz;obtain⟨h1,h2⟩:=Cn I1 r1 ty;refine⟨T,id,pa,slot,hty,h1,h2,?_⟩;have hA:=ha cpos js s1 Y H1 _ I1 q1;rw[hs]at hA ⊢;refine Calls.callWith_builtin (by show(false ||(backTo cpos (starEach es X.env)).any (·.1))=false;rw[hplain]<;>rfl) (Calls.evalArgs_plain ?_);exact thn hA fun us s2 ⟨vs,H2,I2,r2,q2⟩=>hm js s2 Y H2 x vs v us Q I2 r1 r2 q2
end
end L2
namespace L2
open PySem PySem.Spec PyProof.Rows
def MtM(X:Cx)(id:String)(r:V->JO->Hp->VK->Prop):Prop:=
 ∀(js:JG) (s:Shared) (Y:St) (H:Hp) (x:V) (xs:JO) (v:Value) (us:JJ) (Q:VK),Inv X js Y H s->bX x v->aW xs us->r x xs H Q ->
  wpAny (model X.prog X.w) X.A (call (.builtin id) (v::us)) (EP X js Y Q) X.xe s
def aW.one:∀{x:V}{us:JJ},aW [x] us->∃u,us=[u]/\bX x u
 |_,_,.cons r .nil=>⟨_,rfl,r⟩
def aW.rep{xs:JO}{us:JJ}(h:aW xs us):∀k:Nat,aW (replicate k xs).flatten (replicate k us).flatten
 |0=>.nil
 |k+1=>by rw[replicate_succ,replicate_succ,flatten_cons,flatten_cons];exact aW.append h (aW.rep h k)
def n0(its:JJ):∀(k:Nat) (acc:JJ),
  foldl (fun x1 x2=>x1++x2) acc.toArray (replicate k its.toArray)=(acc ++(replicate k its).flatten).toArray
 |0,acc=>by simp
 |k+1,acc=>by
  have e:acc.toArray++its.toArray=(acc++its).toArray:=by simp
  have e2:(acc++its)++(replicate k its).flatten=acc ++(replicate (k+1) its).flatten:=by rw[replicate_succ,flatten_cons,append_assoc]
  rw[<- e2,<- n0 its k (acc++its),<- e,replicate_succ,foldl_cons]
section
variable{X:Cx}{js:JG}{Y:St}{H:Hp}{s:Shared}{l b:Addr}{xs ys zs:JO}
def Inv.lset{its its':JJ}{n:Nat}{f:JN->JN}{t':Nat}(I:Inv X js Y H s)(hH:H l=some (.lst xs))
  (e:s.heap.get? l=some {cls:=.type "list",data:=.seq its.toArray n}) (hf:f its.toArray=its'.toArray) (hv:aW ys its') (hz:ys.length<=sizeLine) :
  Inv X js Y (upd H l (.lst ys)) {s with heap:=s.heap.update l (Obj.mapSeq f),toks:=t'}:=by
 have q:=PySem.IsL.update e f;rw[hf]at q;refine I.write (x:=l) (e:=l) (by rw[hH];exact trivial) (.inl rfl) (fun b' u hb hu=>(get?_update_other s.heap (Obj.mapSeq f) (Ne.symm hb)).trans hu) ⟨_,q⟩ ?_;exact⟨hz,its',_,hv,q⟩
def Inv.lnew{its:JJ}{t':Nat}(I:Inv X js Y H s)(hv:aW ys its)(hz:ys.length<=sizeLine) :
  Inv X js Y (upd H s.heap.objs.size (.lst ys)) {s with heap:=s.heap.push {cls:=.type "list",data:=.seq its.toArray},toks:=t'}:=
 I.laid (fun _ _ q=>get?_push_of_some _ q) (Nat.le_refl _) ⟨hz,its,0,hv,get?_push_size _ rfl⟩
def Inv.fresh(I:Inv X js Y H s):H s.heap.objs.size=none:=I.hok.fresh (Nat.le_refl _)
def Inv.lstM(I:Inv X js Y H s)(hH:H l=some (.lst xs)):xs.length<=sizeLine/\∃(its:JJ) (n:Nat),aW xs its/\xs.length=its.length/\s.heap.get? l=some {cls:=.type "list",data:=.seq its.toArray n}:=by obtain⟨z,its,n,r,e⟩:=I.hok l _ hH;exact⟨z,its,n,r,r.length,e⟩
def xb{n:Nat}(h:n<=sizeLine):Builtin.List.listTooLong n=false:=by unfold Builtin.List.listTooLong;exact decide_eq_false (by omega)
end
section
variable{X:Cx}
def AG:V->JO->Hp->VK->Prop:=fun x vs H Q=>∃l xs y,x=.ref l/\vs=[y]/\H l=some (.lst xs)/\xs.length<sizeLine/\Q .non (upd H l (.lst (xs++[y])))
def nS:MtM X "list.append" AG:=by intro js s Y H x vs v us Q I rx rv h;obtain⟨l,xs,y,rfl,rfl,hH,hz,q⟩:=h;cases rx;obtain⟨u,rfl,ru⟩:=rv.one;obtain⟨z,its,n,r,hl,e⟩:=I.lstM hH;refine call_meets F.slot_list_append ⟨_,e,rfl⟩ F.entry_list_append (F.args_list_append_2 _ _) (PySem.list_append l its.toArray n u (by rw[size_toArray];omega)) ⟨e,?_⟩;refine⟨.non,_,I.lset (its':=its++[u]) hH e (by simp) (r.append (.cons ru .nil)) ?_,rfl,q⟩;rw[length_append,List.length_singleton];omega
def Gx:R2:=fun x y H Q=>∃l k xs,x=.ref l/\y=.int k/\H l=some (.lst xs)/\-(2 ^ 63)<= k/\k<2 ^ 63/\xs.length*k.toNat<=sizeLine /\
 ∀p,H p=none->Q (.ref p) (upd H p (.lst (replicate k.toNat xs).flatten))
def Be{α:Type}(xs:List α)(k:Nat):(replicate k xs).flatten.length=k*xs.length:=by
 induction k with
 |zero=>simp
 |succ k ih=>rw[replicate_succ,flatten_cons,length_append,ih,Nat.succ_mul,Nat.add_comm]
def Df:OpR X (binaryOp .Mult) Gx:=by
 intro js s Y H x y v u Q I rx ry h;obtain⟨l,k,xs,rfl,rfl,hH,h1,h2,hz,q⟩:=h;cases rx;obtain⟨t,rfl⟩:=ry;obtain⟨z,its,n,r,hl,e⟩:=I.lstM hH;have hlen:its.toArray.size*k.toNat<=sizeLine:=by rw[size_toArray,<- hl];exact hz
 have hcap:¬its.toArray.size*k.toNat >(2 ^ 63-1) / 8:=by
  have:(sizeLine:Nat)<=(2 ^ 63-1) / 8:=by decide
  omega
 have hfit:¬(!Builtin.List.listFitsIndex k)=true:=by rw[fitsIndex_both h1 h2];exact Bool.false_ne_true
 have hlong:¬Builtin.List.listTooLong (its.toArray.size*k.toNat)=true:=by rw[xb hlen];exact Bool.false_ne_true
 have hnew:foldl (fun x1 x2=>x1++x2) #[] (replicate (if its.toArray.isEmpty=true then 0 else k.toNat) its.toArray)=(replicate k.toNat its).flatten.toArray:=by
  have f0:∀m:Nat,foldl (fun x1 x2=>x1++x2) #[] (replicate m its.toArray)=(replicate m its).flatten.toArray:=fun m=>by have:=n0 its m [];rw[List.nil_append]at this;exact this
  rw[f0];cases its with
  |nil=>simp
  |cons a r'=>rw[if_neg (by simp)]
 refine wpAny_binaryOp_repeat_ref (T:="list") (U:="int") (by decide) ⟨_,e,rfl⟩ (fun s'=>typeIs_int s' k t) noFill_list_mul F.fills_int_mul F.slot_int_rmul repeat_list F.slot_int_index.lookup
  (call_meets F.slot_int_rmul (typeIs_int s k t) F.entry_int_rmul (F.args_int_rmul_2 _ _) (int___rmul___int_list k t l its.toArray n)
   ⟨e,rfl,⟨_,e,rfl⟩,call_meets F.slot_list_mul ⟨_,e,rfl⟩ F.entry_list_mul (F.args_list_mul_2 _ _) (AutoListH.list___mul___list_int_3 l its.toArray n k t hfit hcap hlong) ⟨e,?_⟩⟩)
 rw[hnew];exact⟨.ref _,_,I.lnew (t':=s.toks) (r.rep k.toNat) (by rw[Be,Nat.mul_comm];exact hz),rfl,q _ I.fresh⟩
end
end L2
namespace Att
open PySem PySem.W PySem.Calls PyProof.Rows
def kM{P:Params}{h:Heap}:∀(ns:JI) (vs:JJ),WellAll P h vs (ns.map WData.int)->IntsAre vs ns:=by
 intro ns
 induction ns with
 |nil=>intro vs w;rw[List.map_nil]at w;cases w;exact .nil
 |cons n ns ih=>
  intro vs w;rw[map_cons]at w;cases w with
  |cons a b=>cases a;exact .cons _ _ (ih _ b)
def uw{l:OpenLaw}{n:Nat}(hn:l.most=some n){P:Params}{h:Heap}{args:List WData}{vals:JJ}
  (hpre:l.row.toRowW.claim.pre args=true) (hwl:WellAll P h vals args) :
  ∃a vs ns,vals=[Value.ref a]/\args=[WData.list (ns.map WData.int)]/\h.get? a=some {cls:=.type "list",data:=.seq vs.toArray}/\IntsAre vs ns/\ns.length<=n:=by
 have hsh:WShape.hasAll [] args [.list .int]=true:=(pre_splitW hpre).1;have hc:l.pre.holds [] {args:=args}=true:=(pre_splitW hpre).2;obtain⟨d,r,rfl,h1,h2⟩:=hasAllW_cons hsh;obtain rfl:=hasAllW_nil h2;obtain⟨xs,rfl,h3⟩:=hasW_list h1;obtain⟨ns,rfl⟩:=items_int h3;have hlen:ns.length<=n:=by
  unfold OpenLaw.pre at hc;have h4:(WTm.not (.lt (.lit (.int (n:Int))) (.len (.arg 0)))).holds [] {args:=[.list (ns.map .int)]}=true:=by have h4:=(holds_andW hc).1;rw[hn]at h4;exact h4
  have h5:=condW_of h4 (w_not (w_lt w_lit (w_len_list (w_arg rfl))));rw[length_map]at h5;refine Nat.le_of_not_lt fun q=>?_;have q':(n:Int) <((ns.length:Nat):Int):=by omega
  first
   |(rw[decide_eq_true q']at h5;exact absurd h5 (by decide))
   |(simp at h5;omega)
 cases hwl with
 |cons w1 w2=>
  cases w2;cases w1 with
  |list ho hall=>exact⟨_,_,ns,rfl,rfl,ho,kM ns _ hall,hlen⟩
def uI(l:OpenLaw)(args:List WData):l.row.toRowW.claim.post args (.bool true) args=true:=
 postW_of (r:=l.row.toRowW) (X:=(true==true))
  (show WShape.has [] (.bool true) .bool=true by first|rfl|decide|simp[WShape.has,WShape.arms,WShape.armsAll])
  (show(WTm.eq .res (.lit (.bool true))).value [] {args:=args,res:=some (.bool true),after:=args}=some (.bool (true==true))from w_eq_bool (w_res rfl) w_lit) rfl
def attach_call{l:OpenLaw}{n:Nat}{q:Program}{loose:JL}{XP:(JE)->Heap->Prop}{YP:World->Heap->Prop}{d:DefRec}
  (hn:l.most=some n) (hdf:d.params.defaults=[])
  (call:∀ (w:World) (s₀ s₁:Shared) (mg mb:JE) (fa:Addr) (o:Obj) (pm cd doc:Value) (a:Addr) (vs:JJ) (ns:JI),
   Ground q loose [] XP w s₀ mg mb s₁.heap->YP w s₁.heap ->
   s₁.heap.get? fa=some o->o.data=.func (docDef d.name d.params d.body d.scope pm cd doc)->s₁.heap.CodeRec cd d.name->mg d.name=some (.ref fa)->
   s₁.heap.get? a=some {cls:=.type "list",data:=.seq vs.toArray}->IntsAre vs ns->ns.length<=n->s₁.gens=#[]->
   codeAny (model l.prog w) callerA (.call (.ref fa) ⟨[.ref a],[]⟩) (fun r s'=>r=.ok (.ret (.bool true))/\OldK s₁.heap s'.heap/\s'.os=s₁.os/\AllBare s'.gens) s₁) :
  WalkO q loose XP YP l.row.toRowW d [] (fun f vs=>PySem.call f vs):=by
 intro w s₀ s₁ mg mb G td fa o pm cd doc dV kV ho hd hcd hD hmg hg args vals as hpre hlay hrd hwl hlo;obtain rfl:dV=.none:=Dflts.none hD hdf;obtain rfl:kV=.none:=Dflts.noKw hD;obtain⟨a,vs,ns,rfl,rfl,hobj,hints,hlen⟩:=uw hn hpre hwl;refine enter_call (codeAny_mono (call w s₀ s₁ mg mb fa o pm cd doc a vs ns G td ho (fd_plain hd) hcd hmg hobj hints hlen hg) fun r s' hq=>?_);obtain⟨rfl,h2,h3,h4⟩:=hq;exact⟨.inl ⟨.bool true,.bool true,[],rfl,fun _=>rfl,.bool true,uI l _,fun _=>⟨Pairwise.nil,fun _ hm=>(nomatch hm)⟩⟩,h2,h3,h4⟩
end Att
namespace L2
open PySem PySem.Spec PyProof.Rows
def nu:∀{vs:JJ}{ns:JI},IntsAre vs ns->aW (ns.map V.int) vs
 |_,_,.nil=>.nil
 |_,_,.cons n t h=>.cons ⟨t,rfl⟩ (nu h)
end L2
namespace L2
open PySem PySem.Spec PyProof.Rows
def Bu(s:Stmt)(j:Nat):Stmt:=match s with
 |.ClassDef _ _ _ body _ _ _ _ _ _ _=>body.getD j (.Pass ⟨0,0,0,0⟩)
 |_=>.Pass ⟨0,0,0,0⟩
def cZ(s:Stmt):Arguments:=match s with
 |.FunctionDef _ a _ _ _ _ _ _ _ _=>a
 |_=>{posonlyargs:=[],args:=[],vararg:=none,kwonlyargs:=[],kw_defaults:=[],kwarg:=none,defaults:=[]}
def bQ(s:Stmt):List Stmt:=match s with
 |.FunctionDef _ _ b _ _ _ _ _ _ _=>b
 |_=>[]
def aH(s:Stmt):Scope:=match s with
 |.FunctionDef _ _ _ _ _ _ sc _ _ _=>sc
 |_=>{kind:=.function,names:=[],isGenerator:=false,isCoroutine:=false}
structure Fun(K:PySem.W.Frag)(x qual:Str)(st:Stmt)(f:Addr)(fd:FuncData):Prop where
 ex:∃(oc:Value) (od:Option Addr) (kV doc pm:Value) (an:Option Addr) (cdv ct:Value) (osl:Array (Option Value)),
  fd=PySem.W.fnOf x qual (cZ st) (bQ st) (aH st) .none kV doc pm an cdv ct/\K.lookup f=some ⟨oc,od,.func fd,osl⟩/\PySem.W.codeIn K cdv qual=true
 kp:PySem.W.keepIn K (.ref f)=true
section
variable{P:Program}{w:World}{K:PySem.W.Frag}{mg:JE}{base:Heap}
def Fun.binds{x qual:Str}{st:Stmt}{f:Addr}{fd:FuncData}{ps:JL}(F:Fun K x qual st f fd)
  (h:∀(kV doc pm:Value) (an:Option Addr) (cdv ct:Value) (us:JJ),us.length=ps.length->bindArgs (PySem.W.fnOf x qual (cZ st) (bQ st) (aH st) .none kV doc pm an cdv ct) ⟨us,[]⟩=pure (ps.zip us)):fA K fd ps []:=by
 obtain⟨oc,od,kV,doc,pm,an,cdv,ct,osl,rfl,lk,hcd⟩:=F.ex;exact .all (h kV doc pm an cdv ct)
end
end L2
set_option maxHeartbeats 4000000
namespace PR
open PySem
inductive Fl where
 |own|frz|bor|lnt|mod
 deriving DecidableEq
inductive PV where
 |non
 |bl (b:Bool)
 |int (i:Int)
 |str (x:Str)
 |lst (f:Fl) (xs:List PV)
 |tup (xs:List PV)
 |obj (f:Fl) (c:Nat) (ks:List Nat) (vs:List PV)
 |exc (c:Nat)
 |box (k:Nat) (xs:List PV)
abbrev JQ:=List PV
mutual
def PV.J0(g:Fl->Fl):PV->PV
 |.non=>.non
 |.bl b=>.bl b
 |.int i=>.int i
 |.str x=>.str x
 |.lst f xs=>.lst (g f) (mapL g xs)
 |.tup xs=>.tup (mapL g xs)
 |.obj f c ks vs=>.obj (g f) c ks (mapL g vs)
 |.exc c=>.exc c
 |.box k xs=>.box k (mapL g xs)
def mapL(g:Fl->Fl):JQ->JQ
 | []=>[]
 |x::xs=>x.J0 g::mapL g xs
end
mutual
def PV.has(p:Fl->Bool):PV->Bool
 |.non|.bl _|.int _|.str _=>false
 |.lst f xs=>p f||hasL p xs
 |.tup xs=>hasL p xs
 |.obj f _ _ vs=>p f||hasL p vs
 |.exc _=>false
 |.box _ xs=>hasL p xs
def hasL(p:Fl->Bool):JQ->Bool
 | []=>false
 |x::xs=>x.has p||hasL p xs
end
def Fl.JX:Fl->Bool
 |.lnt=>true
 |_=>false
def Fl.JY:Fl->Bool
 |.bor=>true
 |_=>false
def Fl.JS:Fl->Fl
 |.own=>.lnt
 |f=>f
def Fl.JU:Fl->Fl
 |.own=>.frz
 |f=>f
def Fl.JT:Fl->Fl
 |.lnt=>.bor
 |f=>f
inductive Res(α:Type) where
 |ok (a:α)
 |exc (c:Nat)
 |stuck
abbrev JR:=Res PV
noncomputable def Res.bind{α β:Type}:Res α->(α->Res β)->Res β
 |.ok a,k=>k a
 |.exc c,_=>.exc c
 |.stuck,_=>.stuck
@[simp] def Res.J2{α β:Type}(a:α)(k:α->Res β):(Res.ok a).bind k=k a:=by simp only[Res.bind]
@[simp] def Res.exc_bind{α β:Type}(c:Nat)(k:α->Res β):(Res.exc c:Res α).bind k=.exc c:=rfl
@[simp] def Res.stuck_bind{α β:Type}(k:α->Res β):(Res.stuck:Res α).bind k=.stuck:=rfl
abbrev En:=List (Option PV)
abbrev ME:=En->JR
abbrev MT:=En->Res Bool
abbrev MA:=En->Res (JQ)
inductive Out where
 |next (e:En)
 |ret (v:PV)
 |brk (e:En)
 |cont (e:En)
 |exc (c:Nat) (e:En)
 |stuck
abbrev MS:=En->Out
def mC(v:PV):ME:=fun _=>.ok v
abbrev J3(i:Int):ME:=mC (.int i)
def ac(i:Nat):ME:=fun env=>match env[i]? with
 |some (some v)=>.ok (v.J0 Fl.JS)
 |_=>.stuck
def ak:MA:=fun _=>.ok []
def ad(a:ME)(r:MA):MA:=fun env=>(a env).bind fun x=>(r env).bind fun xs=>.ok (x::xs)
def mUn(f:PV->JR)(a:ME):ME:=fun env=>(a env).bind f
def mOp(f:PV->PV->JR)(a b:ME):ME:=fun env=>(a env).bind fun x=>(b env).bind fun y=>f x y
def jL(g:Int->Int->PV):PV->PV->JR
 |.int i,.int j=>.ok (g i j)
 |_,_=>.stuck
def eC(C:Int->Int->Bool)(g:Int->Int->PV):PV->PV->JR
 |.int i,.int j=>if C i j then .ok (g i j)else .stuck
 |_,_=>.stuck
def oM:PV->Res Bool
 |.non=>.ok false
 |.bl b=>.ok b
 |.int i=>.ok (i != 0)
 |.lst _ xs|.tup xs=>.ok (!xs.isEmpty)
 |_=>.stuck
def aw(a:ME):MT:=fun env=>(a env).bind fun
 |.bl b=>.ok b
 |_=>.stuck
def cF(a:ME):MT:=fun env=>(a env).bind oM
def fH(a:MT):MT:=fun env=>(a env).bind fun b=>.ok (!b)
def eP(a b:MT):MT:=fun env=>(a env).bind fun x=>if x then b env else .ok false
def gF(a b:MT):MT:=fun env=>(a env).bind fun x=>if x then .ok true else b env
def oX(c:MT)(a b:ME):ME:=fun env=>(c env).bind fun x=>if x then a env else b env
def aS:MS:=.next
def av(a b:MS):MS:=fun env=>match a env with
 |.next e=>b e
 |o=>o
def mBr(c:MT)(a b:MS):MS:=fun env=>match c env with
 |.ok true=>a env
 |.ok false=>b env
 |.exc k=>.exc k env
 |.stuck=>.stuck
def PV.JZ(v:PV):Bool:=!v.has Fl.JX
def dY(env:List (Option PV)):Bool:=match env[0]? with
 |some (some (PV.obj _ _ _ _))=>true
 |_=>false
def aT(i:Nat)(env:En):Bool:=if i=0 then !dY env else true
def aV(i:Nat)(e:ME):MS:=fun env=>match e env with
 |.ok v=>if v.JZ&&aT i env then .next (env.set i (some v))else .stuck
 |.exc k=>.exc k env
 |.stuck=>.stuck
def bp(e:ME):MS:=fun env=>match e env with
 |.ok v=>if v.JZ then .ret v else .stuck
 |.exc k=>.exc k env
 |.stuck=>.stuck
def fX(i:Nat):MS:=fun env=>match env[i]? with
 |some (some v)=>.ret v
 |_=>.stuck
def fI(e:ME):MS:=fun env=>match e env with
 |.ok _=>.next env
 |.exc k=>.exc k env
 |.stuck=>.stuck
def i_(i:Nat):MS:=fun env=>match env[i]? with
 |some (some v)=>.next (env.set i (some (v.J0 Fl.JU)))
 |_=>.stuck
def mZ(body:PV->MS):JQ->En->Out
 | [],env=>.next env
 |x::xs,env=>match body x env with
  |.next e|.cont e=>mZ body xs e
  |.brk e=>.next e
  |o=>o
end PR
namespace PR
open PySem PySem.Spec L2
structure Tb where
 K:PySem.W.Frag
 nc:Nat
 cls:Nat->Addr
 att:Nat->Str
 inj:∀i j,att i=att j->i=j
 xcl:Nat->Addr
 dk:Nat->JL:=fun _=>[]
 bx:Nat->Hp->Addr->JO->Prop:=fun k H a vs=>∃o,H a=some (.frz o (.dK (((dk k).map Sum.inr).zip vs)))/\(dk k).length=vs.length
 bxs:∀k (H H':Hp) a vs,(∀b o u,H b=some (.frz o u)->H' b=some (.frz o u))->bx k H a vs->bx k H' a vs:=by exact fun _ _ _ _ _ h ⟨o,q,l⟩=>⟨o,h _ _ _ q,l⟩
 tb:Addr->Option (JN):=fun _=>none
def zX(C a:Addr):HO:=.ext fun h=>∃o,h.get? a=some o/\o.cls=.ref C
def KL(K:PySem.W.Frag)(a:Addr)(xs:JO):Prop:=∃(o:Obj) (its:JN) (n:Nat),K.lookup a=some o/\o.cls=.type "list" /\ o.dict=none/\o.data=.seq its n/\its.size<=sizeLine/\aW xs its.toList
def qS:Fl->Addr->JK->JK->Prop
 |.own,a,fp',fp=>fp=a::fp'
 |_,_,fp',fp=>fp'=[]/\fp=[]
def Fz(F B L:JH):Fl->JH
 |.own,_=>True
 |.frz,a=>F a
 |.bor,a=>B a
 |.lnt,a=>L a
 |.mod,_=>False
def mO(T:Tb)(F B L:JH)(H:Hp):Fl->Addr->JO->Prop
 |.own,a,vs=>H a=some (.lst vs)
 |.lnt,a,vs=>L a/\H a=some (.lst vs)
 |.frz,a,vs=>F a/\Rd H a (.lst vs)
 |.bor,a,vs=>B a/\Rd H a (.lst vs)
 |.mod,a,vs=>KL T.K a vs
def mO.sq(h:mO T F B L H f a vs):SqL T.K H a vs:=by
 cases f with
 |own=>exact SqL.of h
 |lnt=>exact SqL.of h.2
 |frz|bor=>exact .inl h.2
 |mod=>exact .inr h
mutual
def Rel(T:Tb)(F B L:JH)(H:Hp):PV->V->JK->Prop
 |.non,v,fp=>v=.non/\fp=[]
 |.bl b,v,fp=>v=.bl b/\fp=[]
 |.int i,v,fp=>v=.int i/\fp=[]
 |.str x,v,fp=>v=.str x/\fp=[]
 |.lst f xs,v,fp=>∃a vs fp',v=.ref a/\mO T F B L H f a vs/\RelL T F B L H xs vs fp'/\qS f a fp' fp
 |.tup xs,v,fp=>∃a vs,v=.ref a/\SqT T.K H a vs/\RelL T F B L H xs vs fp
 |.obj f c ks xs,v,fp=>∃a dx vs fp',v=.ref a/\H a=some (.ins (T.cls c) dx ((ks.map T.att).zip vs))/\(ks.length=xs.length/\c<T.nc)/\RelL T F B L H xs vs fp'/\qS f a fp' fp/\Fz F B L f a
 |.exc c,v,fp=>∃a,v=.ref a/\H a=some (zX (T.xcl c) a)/\fp=[]
 |.box k xs,v,fp=>∃a vs,v=.ref a/\T.bx k H a vs/\RelL T F B L H xs vs fp
def RelL(T:Tb)(F B L:JH)(H:Hp):JQ->JO->JK->Prop
 | [],vs,fp=>vs=[]/\fp=[]
 |x::xs,vs,fp=>∃v ws f1 f2,vs=v::ws/\Rel T F B L H x v f1/\RelL T F B L H xs ws f2/\fp=f1++f2
end
def jh:HO->Prop
 |.tup _|.frz _ _|.ext _=>True
 |_=>False
section
variable{T:Tb}{F F' B B' L L':JH}{H H':Hp}
def Rd.tr(h:∀o,H a=some o->H' a=some o)(q:Rd H a u):Rd H' a u:=by
 rcases q with q |⟨o,q⟩
 ·exact .inl (h _ q)
 ·exact .inr ⟨o,h _ q⟩
def SqT.tr(h:∀o,H a=some o->jh o->H' a=some o)(q:SqT K H a vs):SqT K H' a vs:=by
 rcases q with(q |⟨o,q⟩)|q
 ·exact .inl (.inl (h _ q True.intro))
 ·exact .inl (.inr ⟨o,h _ q True.intro⟩)
 ·exact .inr q
def RelL.length:∀{xs:JQ}{vs:JO}{fp:JK},RelL T F B L H xs vs fp->xs.length=vs.length
 | [],_,_,h=>by unfold RelL at h;rw[h.1];rfl
 |x::xs,_,_,h=>by unfold RelL at h;obtain⟨v,ws,f1,f2,rfl,_,h2,_⟩:=h;simp[RelL.length h2]
def qS.all{P:JH}(h:qS f a fp' fp)(hp:∀b∈fp,P b):(f=.own->P a)/\∀b∈fp',P b:=by
 cases f with
 |own=>
  obtain rfl:fp=a::fp':=h
  grind
 |_=>exact⟨fun z=>(nomatch z),by rw[h.1];exact fun _ z=>nomatch z⟩
structure Mp(T:Tb)(g:Fl->Fl)(p:Fl->Bool)(E:JK->JK)(C F B L:JH)(H:Hp)(F' B' L':JH)(H':Hp):Prop where
 hl:∀f a vs,p f=false->(f=.own->C a)->mO T F B L H f a vs->mO T F' B' L' H' (g f) a vs
 hb:∀f a,p f=false->(f=.own->C a)->Fz F B L f a->Fz F' B' L' (g f) a/\∀o,H a=some o->H' a=some o
 hf:∀f a x y,qS f a x y->qS (g f) a (E x) (E y)
 he:E []=[]
 ha:∀x y,E (x++y)=E x++E y
 hx:∀a o,H a=some o->jh o->H' a=some o
mutual
def Mp.rel(M:Mp T g p E C F B L H F' B' L' H') :
  ∀{x:PV}{v:V}{fp:JK},x.has p=false->(∀a∈fp,C a)->Rel T F B L H x v fp->Rel T F' B' L' H' (x.J0 g) v (E fp)
 |.non,_,_,_,_,h|.bl _,_,_,_,_,h|.int _,_,_,_,_,h|.str _,_,_,_,_,h=>by unfold Rel at h;simp only[PV.J0];unfold Rel;exact⟨h.1,by rw[h.2,M.he]⟩
 |.lst f xs,_,fp,hp,hc,h=>by unfold Rel at h;obtain⟨a,vs,fp',e,h1,h2,h3⟩:=h;simp only[PV.has,or_eq_false_iff]at hp;obtain⟨c1,c2⟩:=h3.all hc;simp only[PV.J0];unfold Rel;exact⟨a,vs,E fp',e,M.hl f a vs hp.1 c1 h1,Mp.rels M hp.2 c2 h2,M.hf f a fp' fp h3⟩
 |.tup xs,_,fp,hp,hc,h=>by unfold Rel at h;obtain⟨a,vs,e,h1,h2⟩:=h;simp only[PV.J0];unfold Rel;exact⟨a,vs,e,SqT.tr (fun o q z=>M.hx a o q z) h1,Mp.rels M hp hc h2⟩
 |.obj f c ks xs,_,fp,hp,hc,h=>by unfold Rel at h;obtain⟨a,dx,vs,fp',e,h1,hk,h2,h3,h4⟩:=h;simp only[PV.has,or_eq_false_iff]at hp;obtain⟨c1,c2⟩:=h3.all hc;obtain⟨q1,q2⟩:=M.hb f a hp.1 c1 h4;simp only[PV.J0];unfold Rel;have r:=Mp.rels M hp.2 c2 h2;exact⟨a,dx,vs,E fp',e,q2 _ h1,⟨by rw[r.length,hk.1,h2.length],hk.2⟩,r,M.hf f a fp' fp h3,q1⟩
 |.exc c,_,fp,_,_,h=>by unfold Rel at h;obtain⟨a,e,h1,rfl⟩:=h;simp only[PV.J0];unfold Rel;exact⟨a,e,M.hx a _ h1 True.intro,M.he⟩
 |.box k xs,_,fp,hp,hc,h=>by unfold Rel at h;obtain⟨a,vs,e,h1,h2⟩:=h;simp only[PV.J0];unfold Rel;exact⟨a,vs,e,T.bxs k H H' a vs (fun b o u q=>M.hx b _ q True.intro) h1,Mp.rels M hp hc h2⟩
def Mp.rels(M:Mp T g p E C F B L H F' B' L' H') :
  ∀{xs:JQ}{vs:JO}{fp:JK},hasL p xs=false->(∀a∈fp,C a)->RelL T F B L H xs vs fp->RelL T F' B' L' H' (mapL g xs) vs (E fp)
 | [],_,_,_,_,h=>by unfold RelL at h;simp only[mapL];unfold RelL;exact⟨h.1,by rw[h.2,M.he]⟩
 |x::xs,_,fp,hp,hc,h=>by unfold RelL at h;obtain⟨v,ws,f1,f2,e,h1,h2,rfl⟩:=h;simp only[hasL,or_eq_false_iff]at hp;simp only[mapL];unfold RelL;exact⟨v,ws,E f1,E f2,e,Mp.rel M hp.1 (fun b hb=>hc b (mem_append_left _ hb)) h1,Mp.rels M hp.2 (fun b hb=>hc b (mem_append_right _ hb)) h2,M.ha f1 f2⟩
end
mutual
def kY:∀x:PV,x.J0 (fun f=>f)=x
 |.non|.bl _|.int _|.str _|.exc _=>rfl
 |.lst f xs|.tup xs|.obj f c ks xs|.box k xs=>by simp only[PV.J0,mapL_id xs]
def mapL_id:∀xs:JQ,mapL (fun f=>f) xs=xs
 | []=>rfl
 |x::xs=>by simp only[mapL,kY x,mapL_id xs]
end
mutual
def mf:∀x:PV,x.has (fun _=>false)=false
 |.non|.bl _|.int _|.str _|.exc _=>rfl
 |.lst f xs=>by simp only[PV.has,has_noL xs,Bool.or_false]
 |.tup xs=>by simp only[PV.has,has_noL xs]
 |.obj f c ks xs=>by simp only[PV.has,has_noL xs,Bool.or_false]
 |.box k xs=>by simp only[PV.has,has_noL xs]
def has_noL:∀xs:JQ,hasL (fun _=>false) xs=false
 | []=>rfl
 |x::xs=>by simp only[hasL,mf x,has_noL xs,Bool.or_false]
end
def B_(hF:∀a,F a->F' a)(hB:∀a,B a->B' a)(hL:∀a,L a->L' a)(hx:∀a o,H a=some o->(F a\/B a\/L a\/jh o)->H' a=some o):Mp T (fun f=>f) (fun _=>false) (fun x=>x) (fun a=>∀o,H a=some o->H' a=some o) F B L H F' B' L' H':=
 ⟨fun f a vs _ c h=>by
  cases f with
  |own=>exact c rfl _ h
  |frz=>exact⟨hF a h.1,Rd.tr (fun o q=>hx a o q (.inl h.1)) h.2⟩
  |bor=>exact⟨hB a h.1,Rd.tr (fun o q=>hx a o q (.inr (.inl h.1))) h.2⟩
  |lnt=>exact⟨hL a h.1,hx a _ h.2 (.inr (.inr (.inl h.1)))⟩
  |mod=>exact h,fun f a _ c h=>by
  cases f with
  |own=>exact⟨True.intro,c rfl⟩
  |frz=>exact⟨hF a h,fun o q=>hx a o q (.inl h)⟩
  |bor=>exact⟨hB a h,fun o q=>hx a o q (.inr (.inl h))⟩
  |lnt=>exact⟨hL a h,fun o q=>hx a o q (.inr (.inr (.inl h)))⟩
  |mod=>exact h.elim,fun _ _ _ _ h=>h,rfl,fun _ _=>rfl,fun a o q z=>hx a o q (.inr (.inr (.inr z)))⟩
def Rel.tr(hF:∀a,F a->F' a)(hB:∀a,B a->B' a)(hL:∀a,L a->L' a)(hx:∀a o,H a=some o->(F a\/B a\/L a\/jh o)->H' a=some o)(hp:∀a∈fp,∀o,H a=some o->H' a=some o)(h:Rel T F B L H x v fp):Rel T F' B' L' H' x v fp:=by
 have:=(B_ hF hB hL hx).rel (mf x) hp h
 rwa [kY]at this
def RelL.tr(hF:∀a,F a->F' a)(hB:∀a,B a->B' a)(hL:∀a,L a->L' a)(hx:∀a o,H a=some o->(F a\/B a\/L a\/jh o)->H' a=some o)(hp:∀a∈fp,∀o,H a=some o->H' a=some o)(h:RelL T F B L H x v fp):RelL T F' B' L' H' x v fp:=by
 have:=(B_ hF hB hL hx).rels (has_noL x) hp h
 rwa [mapL_id]at this
def Ext(H H':Hp):Prop:=∀a o,H a=some o->H' a=some o
def Ext.refl:Ext H H:=fun _ _ h=>h
def Ext.trans(a:Ext H H1)(b:Ext H1 H2):Ext H H2:=fun c o h=>b c o (a c o h)
def Ext.upd(h:H a=none):Ext H (L2.upd H a o):=fun b u e=>by rw[aJ (bP e h)];exact e
def Ext.free(x:Ext H H')(h:H' a=none):H a=none:=by
 cases e:H a with
 |none=>rfl
 |some o=>rw[x a o e]at h;cases h
def Rel.ext(e:Ext H H')(hF:∀a,F a->F' a)(h:Rel T F B L H x v fp):Rel T F' B L H' x v fp:=
 Rel.tr hF (fun _ h=>h) (fun _ h=>h) (fun a o q _=>e a o q) (fun a _ o q=>e a o q) h
def RelL.ext(e:Ext H H')(hF:∀a,F a->F' a)(h:RelL T F B L H xs vs fp):RelL T F' B L H' xs vs fp:=
 RelL.tr hF (fun _ h=>h) (fun _ h=>h) (fun a o q _=>e a o q) (fun a _ o q=>e a o q) h
def Chg:HO->Prop
 |.lst _|.ins _ _ _=>True
 |_=>False
mutual
def Rel.chg:∀{x:PV}{v:V}{fp:JK},Rel T F B L H x v fp->∀a∈fp,∃o,H a=some o/\Chg o
 |.non,_,_,h|.bl _,_,_,h|.int _,_,_,h|.str _,_,_,h=>by unfold Rel at h;rw[h.2];exact fun _ z=>nomatch z
 |.lst f xs,_,fp,h=>by
  unfold Rel at h;obtain⟨a,vs,fp',e,hl,hr,hf⟩:=h;cases f with
  |own=>
   obtain rfl:fp=a::fp':=hf;intro b hb;rcases mem_cons.mp hb with rfl|hb
   ·exact⟨_,hl,True.intro⟩
   ·exact RelL.chg hr b hb
  |frz|bor|lnt|mod=>obtain⟨rfl,rfl⟩:=hf;exact fun _ z=>nomatch z
 |.tup xs,_,fp,h=>by unfold Rel at h;obtain⟨a,vs,e,hl,hr⟩:=h;exact RelL.chg hr
 |.obj f c ks xs,_,fp,h=>by
  unfold Rel at h;obtain⟨a,dx,vs,fp',e,hl,hk,hr,hf,ha⟩:=h;cases f with
  |own=>
   obtain rfl:fp=a::fp':=hf;intro b hb;rcases mem_cons.mp hb with rfl|hb
   ·exact⟨_,hl,True.intro⟩
   ·exact RelL.chg hr b hb
  |frz|bor|lnt|mod=>obtain⟨rfl,rfl⟩:=hf;exact fun _ z=>nomatch z
 |.exc c,_,fp,h=>by unfold Rel at h;obtain⟨a,e,hl,rfl⟩:=h;exact fun _ z=>nomatch z
 |.box k xs,_,fp,h=>by unfold Rel at h;obtain⟨a,vs,e,hl,hr⟩:=h;exact RelL.chg hr
def RelL.chg:∀{xs:JQ}{vs:JO}{fp:JK},RelL T F B L H xs vs fp->∀a∈fp,∃o,H a=some o/\Chg o
 | [],_,_,h=>by unfold RelL at h;rw[h.2];exact fun _ z=>nomatch z
 |x::xs,_,_,h=>by
  unfold RelL at h;obtain⟨v,ws,f1,f2,_,h1,h2,rfl⟩:=h;intro b hb;rcases mem_append.mp hb with hb|hb
  ·exact Rel.chg h1 b hb
  ·exact RelL.chg h2 b hb
end
def Rel.there(h:Rel T F B L H x v fp)(a:Addr)(ha:a∈fp):∃o,H a=some o:=let⟨o,q,_⟩:=h.chg a ha;⟨o,q⟩
def RelL.there(h:RelL T F B L H xs vs fp)(a:Addr)(ha:a∈fp):∃o,H a=some o:=let⟨o,q,_⟩:=h.chg a ha;⟨o,q⟩
def A3:Mp T Fl.JS (fun _=>false) (fun _=>[]) L F B L H F B L H:=
 ⟨fun f a vs _ c h=>by
  cases f with
  |own=>exact⟨c rfl,h⟩
  | _=>exact h,fun f a _ c h=>⟨by
  cases f with
  |own=>exact c rfl
  |_=>exact h,fun _ q=>q⟩,fun f a x y h=>by cases f<;>exact⟨rfl,rfl⟩,rfl,fun _ _=>rfl,fun _ _ q _=>q⟩
def Rel.JS(hp:∀a∈fp,L a)(h:Rel T F B L H x v fp):Rel T F B L H (x.J0 Fl.JS) v []:=A3.rel (mf x) hp h
end
end PR
namespace L2
open PySem PySem.Spec
def PE.wk(h:PE X e t)(w:∀Y H Q,t' Y H Q->t Y H Q):PE X e t':=fun js s Y H Q I q=>h js s Y H Q I (w Y H Q q)
def PA.wk(h:PA X e t)(w:∀Y H Q,t' Y H Q->t Y H Q):PA X e t':=fun pos js s Y H Q I q=>h pos js s Y H Q I (w Y H Q q)
def PT.wk(h:PT X e t)(w:∀Y H Q,t' Y H Q->t Y H Q):PT X e t':=fun js s Y H Q I q=>h js s Y H Q I (w Y H Q q)
def PW.wk(h:PW X e t)(w:∀Y H Q,t' Y H Q->t Y H Q):PW X e t':=fun wh js s Y H Q I q=>h wh js s Y H Q I (w Y H Q q)
def PS.wk(h:PS X e t)(w:∀D Y H,t' D Y H->t D Y H):PS X e t':=fun js s Y H D I q=>h js s Y H D I (w D Y H q)
def PSs.wk(h:PSs X e t)(w:∀D Y H,t' D Y H->t D Y H):PSs X e t':=fun js s Y H D I q=>h js s Y H D I (w D Y H q)
end L2
namespace PR
open PySem PySem.Spec L2
structure Zn where
 H0:Hp
 F0:JH
 fp0:JH
 B:JH
 pin:Option V:=none
abbrev NoL:JH:=fun _=>False
def BW(T:Tb)(H:Hp)(f:JH):Prop:=∀a ps,T.tb a=some ps->H a=some (.tbl ps)/\¬f a
structure cM(T:Tb)(Z:Zn)(F:JH)(H:Hp):Prop where
 bo:(∀a,Z.B a->(∃o,Z.H0 a=some o)/\¬Z.fp0 a)/\BW T Z.H0 Z.fp0
 keep:∀a o,Z.H0 a=some o->¬Z.fp0 a->H a=some o
 f0:∀a,Z.F0 a->F a
 fn:∀a,F a->Z.F0 a\/Z.H0 a=none\/Z.fp0 a
 ft:∀a,F a->∃o,H a=some o
structure aD(T:Tb)(Z:Zn)(F:JH)(H:Hp)(Y:St)(env:En)(fp:Nat->JK):Prop where
 hp:cM T Z F H
 len:Y.length=env.length
 rel:∀(i:Nat) (pv:PV),env[i]?=some (some pv)->∃v,Y[i]?=some (some v)/\Rel T F Z.B NoL H pv v (fp i)
 nd:∀i,(fp i).Nodup
 dj:∀i j,i≠j->∀a∈fp i,a∉fp j
 dis:∀i,∀a∈fp i,¬F a/\∃o,H a=some o
 new:∀i,∀a∈fp i,Z.H0 a=none\/Z.fp0 a
 ch:∀i,∀a∈fp i,∃o,H a=some o/\Chg o
 pn:∀v,Z.pin=some v->Y[0]?=some (some v)/\dY env=true
def Own(fp:Nat->JK):JH:=fun a=>∃i,a∈fp i
structure Gr(F:JH)(H:Hp)(F':JH)(H':Hp):Prop where
 ext:Ext H H'
 mono:∀a,F a->F' a
 only:∀a,F' a->F a\/H a=none
 dom:∀a,F' a->∃o,H' a=some o
def Gr.refl(h:∀a,F a->∃o,H a=some o):Gr F H F H:=⟨Ext.refl,fun _ h=>h,fun _ h=>.inl h,h⟩
def Gr.trans(a:Gr F H F1 H1)(b:Gr F1 H1 F2 H2):Gr F H F2 H2:=
 ⟨a.ext.trans b.ext,fun c h=>b.mono c (a.mono c h),fun c h=>(b.only c h).elim (a.only c) fun z=>.inr (a.ext.free z),b.dom⟩
def Gr.same(h:∀a,F a->∃o,H a=some o)(e:Ext H H'):Gr F H F H':=⟨e,fun _ h=>h,fun _ h=>.inl h,fun a q=>let⟨o,z⟩:=h a q;⟨o,e a o z⟩⟩
section
variable{T:Tb}{Z:Zn}{F F':JH}{H H':Hp}{Y:St}{env:En}{fp:Nat->JK}
def cM.tb(S:cM T Z F H)(h:T.tb a=some ps):H a=some (.tbl ps):=let⟨h1,h2⟩:=S.bo.2 a ps h;S.keep a _ h1 h2
def aD.tbo(S:aD T Z F H Y env fp)(e:Ext H H')(hn:∀ a,f a->H a=none \/ Own fp a):BW T H' f:=fun a ps h=>⟨e a _ (S.hp.tb h),fun z=>by
 have q:=S.hp.tb h;rcases hn a z with n |⟨i,hi⟩
 ·rw[q]at n;cases n
 ·obtain⟨o,h1,h2⟩:=S.ch i a hi;rw[q]at h1;cases h1;exact h2⟩
def cM.grow(S:cM T Z F H)(g:Gr F H F' H'):cM T Z F' H':=
 ⟨S.bo,fun a o h n=>g.ext a o (S.keep a o h n),fun a h=>g.mono a (S.f0 a h),fun a h=>by
  rcases g.only a h with z|z
  ·exact S.fn a z
  ·refine .inr ?_;by_cases q:Z.fp0 a
   ·exact .inr q
   ·refine .inl ?_;cases w:Z.H0 a with
    |none=>rfl
    |some o=>rw[S.keep a o w q]at z;exact(nomatch z),g.dom⟩
def aD.grow(S:aD T Z F H Y env fp)(g:Gr F H F' H'):aD T Z F' H' Y env fp:=
 ⟨S.hp.grow g,S.len,fun i pv h=>let ⟨v,q1,q2⟩:=S.rel i pv h;⟨v,q1,q2.ext g.ext g.mono⟩,S.nd,S.dj,fun i a h=>by
  obtain⟨n,o,q⟩:=S.dis i a h;refine⟨fun z=>?_,o,g.ext a o q⟩;rcases g.only a z with z|z
  ·exact n z
  ·rw[q]at z;exact(nomatch z),S.new,fun i a h=>let⟨o,q,c⟩:=S.ch i a h;⟨o,g.ext a o q,c⟩,S.pn⟩
end
def GE(T:Tb)(W:Nat->St->JP)(B F L:JH)(Y:St)(H:Hp)(Q:VK):JR->Prop
 |.ok pv=>∀v H' F' f,Gr F H F' H'->Rel T F' B L H' pv v f->(∀a∈f,¬F' a)->f.Nodup->(∀a∈f,H a=none)->Q v H'
 |.exc c=>∀H',Ext H H'->W c Y H'
 |.stuck=>False
def GA(T:Tb)(W:Nat->St->JP)(B F L:JH)(Y:St)(H:Hp)(Q:JO->JP):Res (JQ)->Prop
 |.ok pvs=>∀vs H' F' f,Gr F H F' H'->RelL T F' B L H' pvs vs f->(∀a∈f,¬F' a)->f.Nodup->(∀a∈f,H a=none)->Q vs H'
 |.exc c=>∀H',Ext H H'->W c Y H'
 |.stuck=>False
def GT(W:Nat->St->JP)(F:JH)(Y:St)(H:Hp)(Q:Bool->JP):Res Bool->Prop
 |.ok b=>∀H' F',Gr F H F' H'->Q b H'
 |.exc c=>∀H',Ext H H'->W c Y H'
 |.stuck=>False
def tE(T:Tb)(W:Nat->St->JP)(m:ME):TE:=fun Y H Q=>∃Z F env fp,aD T Z F H Y env fp/\GE T W Z.B F (Own fp) Y H Q (m env)
def tA(T:Tb)(W:Nat->St->JP)(m:MA):TA:=fun Y H Q=>∃Z F env fp,aD T Z F H Y env fp/\GA T W Z.B F (Own fp) Y H Q (m env)
def tT(T:Tb)(W:Nat->St->JP)(m:MT):TT:=fun Y H Q=>∃Z F env fp,aD T Z F H Y env fp/\GT W F Y H Q (m env)
abbrev SE(X:Cx)(T:Tb)(W:Nat->St->JP)(e:Expr)(m:ME):Prop:=PE X e (tE T W m)
abbrev SA(X:Cx)(T:Tb)(W:Nat->St->JP)(es:List Expr)(m:MA):Prop:=PA X es (tA T W m)
abbrev ST(X:Cx)(T:Tb)(W:Nat->St->JP)(e:Expr)(m:MT):Prop:=PT X e (tT T W m)
section
variable{X:Cx}{T:Tb}{W:Nat->St->JP}{Z:Zn}{F F' B L:JH}{H H':Hp}{Y:St}{env:En}{fp:Nat->JK}
def GE.scal{Q:VK}{pv:PV}{v:V}(q:GE T W B F L Y H Q (.ok pv))(g:Gr F H F' H')(r:Rel T F' B L H' pv v []):Q v H':=
 q v H' F' [] g r (fun _ z=>(nomatch z)) nodup_nil (fun _ z=>(nomatch z))
def lz{v:V}{pv:PV}(h:PE X e (tC v))(r:∀F B L H,Rel T F B L H pv v []):SE X T W e (mC pv):=PE.wk h fun Y H Q ⟨Z,F,env,fp,S,q⟩=>q.scal (Gr.refl S.hp.ft) (r _ _ _ _)
def ai{i j pos}:SE X T W (.Constant (.int i) j pos) (mC (.int i)):=lz wJ fun _ _ _ _=>by unfold Rel;exact⟨rfl,rfl⟩
def ee{b j pos}:SE X T W (.Constant (.bool b) j pos) (mC (.bl b)):=lz GL fun _ _ _ _=>by unfold Rel;exact⟨rfl,rfl⟩
def lB{j pos}:SE X T W (.Constant .none j pos) (mC .non):=lz wI fun _ _ _ _=>by unfold Rel;exact⟨rfl,rfl⟩
def b0{x j pos}:SE X T W (.Constant (.str x) j pos) (mC (.str x)):=lz C6 fun _ _ _ _=>by unfold Rel;exact⟨rfl,rfl⟩
def CB(hN:X.N[i]?=some x)(hv:Vis X.env.scope x)(hd:(x ==("__debug__":Str))=false:=by decide)(hcd:(x ==("__classdict__":Str))=false:=by decide):SE X T W (.Name x pos) (ac i):=
 PE.wk (hZ hN hv hd hcd) fun Y H Q hz1=>by
  obtain⟨Z,F,env,fp,S,q⟩:=hz1;unfold ac at q;split at q
  ·rename_i pv e
   obtain⟨v,e1,r⟩:=S.rel i pv e;refine⟨v,e1,q.scal (Gr.refl S.hp.ft) ?_⟩;exact Rel.JS (fun a h=>⟨i,h⟩) (Rel.tr (fun _ h=>h) (fun _ h=>h) (fun _ h=>h.elim) (fun a o q _=>q) (fun a _ o q=>q) r)
  ·exact q.elim
def tE.bind(S:aD T Z F H Y env fp)(hx:∀c,m env=.exc c->∀H',Ext H H'->W c Y H')(hs:m env≠.stuck)
  (k:∀pv v H' F' f,m env=.ok pv->Gr F H F' H'->Rel T F' Z.B (Own fp) H' pv v f->(∀a∈f,¬F' a)->f.Nodup->(∀a∈f,H a=none)->Q v H'):tE T W m Y H Q:=by
 refine⟨Z,F,env,fp,S,?_⟩;cases e:m env with
 |ok pv=>exact fun v H' F' f g r h1 h2 h3=>k pv v H' F' f e g r h1 h2 h3
 |exc c=>exact hx c e
 |stuck=>exact hs e
def tE.bq(S:aD T Z F H Y env fp)(k:∀pv v H' F' f,m env=.ok pv->Gr F H F' H'->Rel T F' Z.B (Own fp) H' pv v f->(∀a∈f,¬F' a)->f.Nodup->(∀a∈f,H a=none)->Q v H')(hx:∀c,m env=.exc c->∀H',Ext H H'->W c Y H':=by exact fun c e=>by rw[e]at q;exact q)(hs:m env≠.stuck:=by exact fun e=>by rw[e]at q;exact q):tE T W m Y H Q:=tE.bind S hx hs k
def tA.bind(S:aD T Z F H Y env fp)(hx:∀c,m env=.exc c->∀H',Ext H H'->W c Y H')(hs:m env≠.stuck)
  (k:∀pvs vs H' F' f,m env=.ok pvs->Gr F H F' H'->RelL T F' Z.B (Own fp) H' pvs vs f->(∀a∈f,¬F' a)->f.Nodup->(∀a∈f,H a=none)->Q vs H'):tA T W m Y H Q:=by
 refine⟨Z,F,env,fp,S,?_⟩;cases e:m env with
 |ok pv=>exact fun v H' F' f g r h1 h2 h3=>k pv v H' F' f e g r h1 h2 h3
 |exc c=>exact hx c e
 |stuck=>exact hs e
def tA.bq(S:aD T Z F H Y env fp)(k:∀pvs vs H' F' f,m env=.ok pvs->Gr F H F' H'->RelL T F' Z.B (Own fp) H' pvs vs f->(∀a∈f,¬F' a)->f.Nodup->(∀a∈f,H a=none)->Q vs H')(hx:∀c,m env=.exc c->∀H',Ext H H'->W c Y H':=by exact fun c e=>by rw[e]at q;exact q)(hs:m env≠.stuck:=by exact fun e=>by rw[e]at q;exact q):tA T W m Y H Q:=tA.bind S hx hs k
def tT.bind(S:aD T Z F H Y env fp)(hx:∀c,m env=.exc c->∀H',Ext H H'->W c Y H')(hs:m env≠.stuck)
  (k:∀b H' F',m env=.ok b->Gr F H F' H'->Q b H'):tT T W m Y H Q:=by
 refine⟨Z,F,env,fp,S,?_⟩;cases e:m env with
 |ok pv=>exact fun H' F' g=>k pv H' F' e g
 |exc c=>exact hx c e
 |stuck=>exact hs e
def af:SA X T W [] ak:=PA.wk fT fun Y H Q ⟨Z,F,env,fp,S,q⟩=>q [] H F [] (Gr.refl S.hp.ft) (by unfold RelL;exact⟨rfl,rfl⟩) (fun _ z=>(nomatch z)) nodup_nil (fun _ z=>(nomatch z))
def aa(ha:SE X T W e m)(hr:SA X T W es ms)(hs:starEach (e::es) X.env=(false,eval e X.env)::starEach es X.env:=by rfl):SA X T W (e::es) (ad m ms):=
 PA.wk (cR ha hr hs) fun Y H Q hz1=>by
  obtain⟨Z,F,env,fp,S,q⟩:=hz1;unfold ad at q;refine tE.bq S fun x v H1 F1 f1 e1 g1 r1 n1 d1 w1=>?_;rw[e1]at q;simp only[Res.J2]at q;refine tA.bind (S.grow g1) (fun c e=>by rw[e]at q;exact fun H' x=>q H' (g1.ext.trans x)) (fun e=>by rw[e]at q;exact q) fun xs vs H2 F2 f2 e2 g2 r2 n2 d2 w2=>?_;rw[e2]at q;simp only[Res.J2]at q;have new1:∀a∈f1,¬F2 a:=fun a ha z=>by
   rcases g2.only a z with z|z
   ·exact n1 a ha z
   ·obtain⟨o,ho⟩:=r1.there a ha;rw[ho]at z;cases z
  refine q (v::vs) H2 F2 (f1++f2) (g1.trans g2) (by unfold RelL;exact⟨v,vs,f1,f2,rfl,r1.ext g2.ext g2.mono,r2,rfl⟩) (fun a ha=>?_) ?_ (fun a ha=>?_)
  ·rcases mem_append.mp ha with ha|ha
   ·exact new1 a ha
   ·exact n2 a ha
  ·refine nodup_append.mpr ⟨d1,d2,fun a ha b hb z=>?_⟩;subst z;obtain⟨o,ho⟩:=r1.there a ha;rw[w2 a hb]at ho;cases ho
  ·rcases mem_append.mp ha with ha|ha
   ·exact w1 a ha
   ·exact g1.ext.free (w2 a ha)
def ar(f:JQ->JR)(ms:MA):ME:=fun env=>(ms env).bind f
def Mir(T:Tb)(W:Nat->St->JP)(f:JQ->JR)(r:JO->Hp->VK->Prop):Prop:=
 ∀(B F L:JH) (Y:St) (H:Hp) (Q:VK) (F':JH) (H':Hp) (xs:JQ) (vs:JO) (fx:JK),Gr F H F' H'->RelL T F' B L H' xs vs fx->(∀a∈fx,¬F' a)->fx.Nodup->(∀a∈fx,H a=none)->
  GE T W B F L Y H Q (f xs)->r vs H' Q
def tA.mir(hm:Mir T W f r)(h:tE T W (ar f ms) Y H Q):tA T W ms Y H fun vs H1=>r vs H1 Q:=by obtain⟨Z,F,env,fp,S,q⟩:=h;unfold ar at q;refine tA.bq S fun xs vs H1 F1 f1 e1 g1 r1 n1 d1 w1=>?_;rw[e1]at q;exact hm Z.B F (Own fp) Y H Q F1 H1 xs vs f1 g1 r1 n1 d1 w1 q
def fj{id:String}{x:Str}{es:List Expr}{f:JQ->JR}{r:JO->Hp->VK->Prop}(hc:dR X (.builtin id) r)(hmir:Mir T W f r)(hg:Gl X x)(hm:X.mg x=none)(hv:bootBuiltins x=some (.builtin id))(ha:SA X T W (e::es) ms)
  (hn:x≠"__name__":=by decide) (hdb:(x ==("__debug__":Str))=false:=by decide)
  (he:starEach (e::es) X.env=(false,eval e X.env)::starEach es X.env:=by rfl) (hpl:(backTo pos (starEach es X.env)).any (·.1)=false:=by rfl):SE X T W (.Call (.Name x p) (e::es) [] pos) (ar f ms):=
 PE.wk (iK hc hg hm hv ha hn hdb he hpl) fun Y H Q h=>tA.mir hmir h
def j1{id:String}{x:Str}{es:List Expr}{f:JQ->JR}{r:JO->Hp->VK->Prop}(hc:dR X (.type id) r)(hmir:Mir T W f r)(hg:Gl X x)(hm:X.mg x=none)(hv:bootBuiltins x=some (.type id))(ha:SA X T W (e::es) ms)
  (hn:x≠"__name__":=by decide) (hdb:(x ==("__debug__":Str))=false:=by decide)
  (he:starEach (e::es) X.env=(false,eval e X.env)::starEach es X.env:=by rfl) (hpl:(backTo pos (starEach es X.env)).any (·.1)=false:=by rfl):SE X T W (.Call (.Name x p) (e::es) [] pos) (ar f ms):=
 PE.wk (j7 hc hg hm hv ha hn hdb he hpl) fun Y H Q h=>tA.mir hmir h
def jw(T:Tb)(W:Nat->St->JP)(f:PV->PV->JR)(r:R2):Prop:=
 ∀(B F L:JH) (Y:St) (H:Hp) (Q:VK) (F':JH) (H':Hp) (x y:PV) (v u:V) (fx fy:JK),Gr F H F' H'->Rel T F' B L H' x v fx->Rel T F' B L H' y u fy->(∀a∈fx++fy,¬F' a)->(fx++fy).Nodup->(∀a∈fx++fy,H a=none)->
  GE T W B F L Y H Q (f x y)->r v u H' Q
def tE.mir2(hm:jw T W f r)(h:tE T W (mOp f ma mb) Y H Q):tOp r (tE T W ma) (tE T W mb) Y H Q:=by
 obtain⟨Z,F,env,fp,S,q⟩:=h;unfold mOp at q;refine tE.bq S fun x v H1 F1 f1 e1 g1 r1 n1 d1 w1=>?_;rw[e1]at q;simp only[Res.J2]at q;refine tE.bind (S.grow g1) (fun c e=>by rw[e]at q;exact fun H' x=>q H' (g1.ext.trans x)) (fun e=>by rw[e]at q;exact q) fun y u H2 F2 f2 e2 g2 r2 n2 d2 w2=>?_;rw[e2]at q;simp only[Res.J2]at q;have new1:∀a∈f1,¬F2 a:=fun a ha z=>by
  rcases g2.only a z with z|z
  ·exact n1 a ha z
  ·obtain⟨o,ho⟩:=r1.there a ha;rw[ho]at z;cases z
 refine hm Z.B F (Own fp) Y H Q F2 H2 x y v u f1 f2 (g1.trans g2) (r1.ext g2.ext g2.mono) r2 (fun a ha=>?_) ?_ (fun a ha=>?_) q
 ·rcases mem_append.mp ha with ha|ha
  ·exact new1 a ha
  ·exact n2 a ha
 ·refine nodup_append.mpr ⟨d1,d2,fun a ha b hb z=>?_⟩;subst z;obtain⟨o,ho⟩:=r1.there a ha;rw[w2 a hb]at ho;cases ho
 ·rcases mem_append.mp ha with ha|ha
  ·exact w1 a ha
  ·exact g1.ext.free (w2 a ha)
def jc(ho:OpR X (binaryOp op) r)(hm:jw T W f r)(ha:SE X T W a ma)(hb:SE X T W b mb):SE X T W (.BinOp a op b pos) (mOp f ma mb):=
 PE.wk (GJ (pos:=pos) ho ha hb) fun Y H Q h=>tE.mir2 hm h
def rE(ho:OpR X (compareOp op) r)(hm:jw T W f r)(ha:SE X T W a ma)(hb:SE X T W b mb)(hk:behindInMarks op b=false):SE X T W (.Compare a [op] [b] pos) (mOp f ma mb):=
 PE.wk (AT (pos:=pos) ho ha hb hk) fun Y H Q h=>tE.mir2 hm h
def B4(hr:IxR X r)(hm:jw T W f r)(ha:SE X T W a ma)(hb:SE X T W b mb)(hs:i6 b):SE X T W (.Subscript a b pos) (mOp f ma mb):=
 PE.wk (B8 (pos:=pos) hr ha hb hs) fun Y H Q h=>tE.mir2 hm h
def lP(hg:∀i j F B L H,Rel T F B L H (g' i j) (g i j) []):jw T W (jL g') (rI0 g):=by
  intro B F L Y H Q F' H' x y v u fx fy gr rx ry _ _ _ q;cases x<;>cases y<;>first
    |exact q.elim
    | (unfold Rel at rx ry
       exact⟨_,_,rx.1,ry.1,q.scal gr (hg _ _ _ _ _ _)⟩)
def nT(hc:∀i j,C' i j=true->C i j)(hg:∀i j F B L H,Rel T F B L H (g' i j) (g i j) []):jw T W (eC C' g') (rI C g):=by
  intro B F L Y H Q F' H' x y v u fx fy gr rx ry _ _ _ q;cases x<;>cases y<;>first
    |exact q.elim
    | (unfold Rel at rx ry
       simp only[eC]at q;split at q
       . rename_i hh
         exact⟨_,_,rx.1,ry.1,hc _ _ hh,q.scal gr (hg _ _ _ _ _ _)⟩
       . exact q.elim)
def eM:Rel T F B L H (.int i) (.int i) []:=by unfold Rel;exact⟨rfl,rfl⟩
def jk:Rel T F B L H (.bl i) (.bl i) []:=by unfold Rel;exact⟨rfl,rfl⟩
def CS:Rel T F B L H .non .non []:=by unfold Rel;exact⟨rfl,rfl⟩
def iC:PV->PV->JR:=jL fun i j=>.int (i-j)
def dD:PV->PV->JR:=eC (fun i j=>decide ((-(2 ^ 64)<i/\i<2 ^ 64)\/(-(2 ^ 64)<j/\j<2 ^ 64))) fun i j=>.int (i*j)
def cq:PV->PV->JR:=eC (fun _ j=>decide (0<j)) fun i j=>.int (i%j)
def dE:PV->PV->JR:=eC (fun _ j=>decide (0<j/\j<1073741824)) fun i j=>.int (i / j)
def uQ:PV->PV->JR:=eC (fun i j=>decide (0<=j/\j<=1000000/\i.natAbs<2 ^ 64)) fun i j=>.int (i ^ j.toNat)
def pLt:PV->PV->JR:=jL fun i j=>.bl (decide (i<j))
def pGt:PV->PV->JR:=jL fun i j=>.bl (decide (j<i))
def pGe:PV->PV->JR:=jL fun i j=>.bl (decide (j<=i))
variable{a b:Expr}{ma mb:ME}{pos:Pos}
def dW(ha:SE X T W a ma)(hb:SE X T W b mb):SE X T W (.BinOp a .Sub b pos) (mOp iC ma mb):=jc Db (lP fun _ _ _ _ _ _=>eM) ha hb
def dX(ha:SE X T W a ma)(hb:SE X T W b mb):SE X T W (.BinOp a .Mult b pos) (mOp dD ma mb):=jc Di (nT (fun i j h=>(by simpa using h:(-(2 ^ 64)<i/\i<2 ^ 64)\/(-(2 ^ 64)<j/\j<2 ^ 64))) fun _ _ _ _ _ _=>eM) ha hb
def bK(ha:SE X T W a ma)(hb:SE X T W b mb):SE X T W (.BinOp a .Mod b pos) (mOp cq ma mb):=jc Dj (nT (fun _ _ h=>of_decide_eq_true h) fun _ _ _ _ _ _=>eM) ha hb
def dH(ha:SE X T W a ma)(hb:SE X T W b mb):SE X T W (.BinOp a .FloorDiv b pos) (mOp dE ma mb):=jc AX (nT (fun i j h=>(by simpa using h:0<j/\j<1073741824)) fun _ _ _ _ _ _=>eM) ha hb
def rC(ha:SE X T W a ma)(hb:SE X T W b mb):SE X T W (.BinOp a .Pow b pos) (mOp uQ ma mb):=jc Dg (nT (fun i j h=>(by simpa using h:0<=j/\j<=1000000/\i.natAbs<2 ^ 64)) fun _ _ _ _ _ _=>eM) ha hb
end
def GS(T:Tb)(W:Nat->St->JP)(Z:Zn)(D:Ends):Out->Prop
 |.next e=>∀F H Y fp,aD T Z F H Y e fp->D.nx Y H
 |.ret pv=>∀F H v f,cM T Z F H->Rel T F Z.B NoL H pv v f->f.Nodup->(∀a∈f,¬F a)->(∀a∈f,Z.H0 a=none\/Z.fp0 a)->D.rt v H
 |.brk e=>∀F H Y fp,aD T Z F H Y e fp->D.bk Y H
 |.cont e=>∀F H Y fp,aD T Z F H Y e fp->D.ct Y H
 |.exc c e=>∀F H Y fp,aD T Z F H Y e fp->W c Y H
 |.stuck=>False
def tS(T:Tb)(W:Nat->St->JP)(m:MS):TS:=fun D Y H=>∃Z F env fp,aD T Z F H Y env fp/\GS T W Z D (m env)
abbrev SS(X:Cx)(T:Tb)(W:Nat->St->JP)(st:Stmt)(m:MS):Prop:=PS X st (tS T W m)
abbrev SSs(X:Cx)(T:Tb)(W:Nat->St->JP)(sts:List Stmt)(m:MS):Prop:=PSs X sts (tS T W m)
def xk{p:Fl->Bool}(hL:p .lnt=false->∀a,L a->L' a)(hB:p .bor=false->∀a,B a->B' a):Mp T (fun f=>f) p (fun x=>x) (fun _=>True) F B L H F B' L' H:=
 ⟨fun f a vs q _ h=>by
  cases f with
  |lnt=>exact⟨hL q a h.1,h.2⟩
  |bor=>exact⟨hB q a h.1,h.2⟩
  | _=>exact h,fun f a q _ h=>⟨by
  cases f with
  |lnt=>exact hL q a h
  |bor=>exact hB q a h
  |_=>exact h,fun _ q=>q⟩,fun _ _ _ _ h=>h,rfl,fun _ _=>rfl,fun _ _ q _=>q⟩
def Rel.noL(hp:x.has Fl.JX=false)(h:Rel T F B L H x v fo):Rel T F B L' H x v fo:=by
 have:=(xk (p:=Fl.JX) (L':=L') (fun z=>(nomatch z)) (fun _ _ q=>q)).rel hp (fun _ _=>True.intro) h
 rwa [kY]at this
def RelL.noL(hp:hasL Fl.JX x=false)(h:RelL T F B L H x v fo):RelL T F B L' H x v fo:=by
 have:=(xk (p:=Fl.JX) (L':=L') (fun z=>(nomatch z)) (fun _ _ q=>q)).rels hp (fun _ _=>True.intro) h
 rwa [mapL_id]at this
section
variable{X:Cx}{T:Tb}{W:Nat->St->JP}{Z:Zn}{F F' B L:JH}{H H':Hp}{Y:St}{env:En}{fp:Nat->JK}{D:Ends}
def cO(fp:Nat->JK)(i:Nat)(f:JK):Nat->JK:=fun j=>if j=i then f else fp j
def aD.put(S:aD T Z F H Y env fp){i:Nat}{pv:PV}{v:V}{f:JK}(r:Rel T F Z.B NoL H pv v f)(nd:f.Nodup)(nf:∀a∈f,¬F a)(new:∀a∈f,Z.H0 a=none\/Z.fp0 a)(dj:∀a∈f,∀j,j≠i->a∉fp j)(ho:aT i env=true) :
  aD T Z F H (Y.set i (some v)) (env.set i (some pv)) (cO fp i f):=by
 refine⟨S.hp,by rw[length_set,length_set,S.len],fun j pv' e=>?_,fun j=>?_,fun j k hjk a ha=>?_,fun j a ha=>?_,fun j a ha=>?_,fun j a ha=>?_,fun w hw=>?_⟩
 ·grind[cO,aD,cM,Gr]
 ·unfold cO;split
  ·exact nd
  ·exact S.nd j
 ·grind[cO,aD,cM,Gr]
 ·unfold cO at ha;by_cases h1:j=i
  ·rw[if_pos h1]at ha;exact⟨nf a ha,r.there a ha⟩
  ·rw[if_neg h1]at ha;exact S.dis j a ha
 ·unfold cO at ha;by_cases h1:j=i
  ·rw[if_pos h1]at ha;exact new a ha
  ·rw[if_neg h1]at ha;exact S.new j a ha
 ·unfold cO at ha;by_cases h1:j=i
  ·rw[if_pos h1]at ha;exact r.chg a ha
  ·rw[if_neg h1]at ha;exact S.ch j a ha
 ·obtain⟨h1,h2⟩:=S.pn w hw;have hi:i≠0:=fun z=>by rw[z]at ho;simp[aT,h2]at ho
  refine⟨by rw[getElem?_set_ne hi];exact h1,?_⟩;unfold dY at h2 ⊢;rw[getElem?_set_ne hi];exact h2
def aD.putN(S:aD T Z F H Y env fp)(g:Gr F H F' H'){i:Nat}{pv:PV}{v:V}{f:JK}(ho:aT i env=true)(r:Rel T F' Z.B L H' pv v f)(hl:pv.JZ=true)(nf:∀a∈f,¬F' a)(nd:f.Nodup)(w:∀a∈f,H a=none) :
  aD T Z F' H' (Y.set i (some v)) (env.set i (some pv)) (cO fp i f):=by
 refine(S.grow g).put (Rel.noL (by simpa[PV.JZ]using hl) r) nd nf (fun a ha=>?_) (fun a ha j _ hj=>?_) ho
 ·by_cases q:Z.fp0 a
  ·exact .inr q
  ·refine .inl ?_;cases e:Z.H0 a with
   |none=>rfl
   |some o=>have:=S.hp.keep a o e q;rw[w a ha]at this;cases this
 ·obtain⟨_,o,ho⟩:=S.dis j a hj;rw[w a ha]at ho;cases ho
def aN:SSs X T W [] aS:=PSs.wk AJ fun D Y H ⟨Z,F,env,fp,S,q⟩=>q F H Y fp S
def ah{bU:List Stmt}(h1:SS X T W st a)(h2:SSs X T W bU b):SSs X T W (st::bU) (av a b):=
 PSs.wk (wx h1 h2) fun D Y H hz1=>by
  obtain⟨Z,F,env,fp,S,q⟩:=hz1;refine⟨Z,F,env,fp,S,?_⟩;unfold av at q;cases e:a env with
  |next e'=>rw[e]at q;exact fun F' H' σ' fp' S'=>⟨Z,F',e',fp',S',q⟩
  |ret v|brk e'|cont e'|exc c e'|stuck=>rw[e]at q;exact q
def am(h1:SS X T W st a):SSs X T W [st] a:=AI h1
def a9(hc:ST X T W c mc)(ha:SSs X T W a ma)(hb:SSs X T W b mb):SS X T W (.If c a b pos) (mBr mc ma mb):=
 PS.wk (GB (pos:=pos) hc ha hb) fun D Y H hz1=>by
  obtain⟨Z,F,env,fp,S,q⟩:=hz1;unfold mBr at q;refine tT.bind S (fun c e H' x=>?_) (fun e=>by rw[e]at q;exact q) fun b H' F' e g=>?_
  ·rw[e]at q;exact q F H' Y fp (S.grow (Gr.same S.hp.ft x))
  ·cases b with
   |true=>rw[e]at q;exact(if_pos rfl).mpr ⟨Z,F',env,fp,S.grow g,q⟩
   |false=>rw[e]at q;exact(if_neg (by decide)).mpr ⟨Z,F',env,fp,S.grow g,q⟩
def Cw(hN:X.N.Nodup)(hi:X.N[i]?=some x)(hx:Loc X.env.scope x)(he:SE X T W e m)(hs:swapsWith e (some (.Name x pos')) pos.line X.env=pure false:=by rfl)
  (hf:X.fn x=true\/X.env.scope.names.lookup x=some .local:=by first|exact .inl rfl|exact .inr rfl|assumption):SS X T W (.Assign [.Name x pos'] e pos) (aV i m):=
 PS.wk (CY (pos:=pos) hN hi hx he hs hf) fun D Y H hz1=>by
  obtain⟨Z,F,env,fp,S,q⟩:=hz1;unfold aV at q;refine tE.bind S (fun c e H' x=>?_) (fun e=>by rw[e]at q;exact q) fun pv v H1 F1 f e g r h1 h2 h3=>?_
  ·rw[e]at q;exact q F H' Y fp (S.grow (Gr.same S.hp.ft x))
  ·rw[e]at q;simp only at q;split at q
   ·rename_i hl
    rw[and_eq_true]at hl;exact q F1 H1 _ _ (S.putN g hl.2 r hl.1 h1 h2 h3)
   ·exact q.elim
def cM.newE(S:cM T Z F H){f:JK}(w:∀a∈f,H a=none):∀a∈f,Z.H0 a=none\/Z.fp0 a:=fun a ha=>by
 by_cases q:Z.fp0 a
 ·exact .inr q
 ·refine .inl ?_;cases e:Z.H0 a with
  |none=>rfl
  |some o=>have:=S.keep a o e q;rw[w a ha]at this;cases this
def aE(he:SE X T W e m):SS X T W (.Return (some e) pos) (bp m):=
 PS.wk (rL (pos:=pos) he) fun D Y H hz1=>by
  obtain⟨Z,F,env,fp,S,q⟩:=hz1;unfold bp at q;refine tE.bind S (fun c e H' x=>?_) (fun e=>by rw[e]at q;exact q) fun pv v H1 F1 f e g r h1 h2 h3=>?_
  ·rw[e]at q;exact q F H' Y fp (S.grow (Gr.same S.hp.ft x))
  ·rw[e]at q;simp only at q;split at q
   ·rename_i hl
    exact q F1 H1 v f (S.hp.grow g) (Rel.noL (by simpa[PV.JZ]using hl) r) h2 h1 (S.hp.newE h3)
   ·exact q.elim
def e9(hN:X.N[i]?=some x)(hv:Vis X.env.scope x)(hd:(x ==("__debug__":Str))=false:=by decide)(hcd:(x ==("__classdict__":Str))=false:=by decide):SS X T W (.Return (some (.Name x pos')) pos) (fX i):=
 PS.wk (rL (pos:=pos) (hZ hN hv hd hcd)) fun D Y H hz1=>by
  obtain⟨Z,F,env,fp,S,q⟩:=hz1;unfold fX at q;split at q
  ·rename_i pv e
   obtain⟨v,e1,r⟩:=S.rel i pv e;exact⟨v,e1,q F H v (fp i) S.hp r (S.nd i) (fun a ha=>(S.dis i a ha).1) (S.new i)⟩
  ·exact q.elim
def e_(he:SE X T W e m)(hs:swapsWith e none pos.line X.env=pure false:=by rfl):SS X T W (.Expr e pos) (fI m):=
 PS.wk (oJ (pos:=pos) he hs) fun D Y H hz1=>by
  obtain⟨Z,F,env,fp,S,q⟩:=hz1;unfold fI at q;refine tE.bind S (fun c e H' x=>?_) (fun e=>by rw[e]at q;exact q) fun pv v H1 F1 f e g r h1 h2 h3=>?_
  ·rw[e]at q;exact q F H' Y fp (S.grow (Gr.same S.hp.ft x))
  ·rw[e]at q;exact q F1 H1 Y fp (S.grow g)
def uW(hF:∀a,F a->F' a):Mp T Fl.JU (fun _=>false) (fun _=>[]) F' F B L H F' B L H:=
 ⟨fun f a vs _ c h=>by
  cases f with
  |own=>exact⟨c rfl,.inl h⟩
  |frz=>exact⟨hF a h.1,h.2⟩
  | _=>exact h,fun f a _ c h=>⟨by
  cases f with
  |own=>exact c rfl
  |frz=>exact hF a h
  |_=>exact h,fun _ q=>q⟩,fun f a x y h=>by cases f<;>exact⟨rfl,rfl⟩,rfl,fun _ _=>rfl,fun _ _ q _=>q⟩
def Rel.JU(hF:∀a,F a->F' a)(hp:∀a∈fo,F' a)(h:Rel T F B L H x v fo):Rel T F' B L H (x.J0 Fl.JU) v []:=(uW hF).rel (mf x) hp h
def aD.frz(S:aD T Z F H Y env fp){i:Nat}{pv:PV}(e:env[i]?=some (some pv)):aD T Z (fun a=>F a\/a∈fp i) H Y (env.set i (some (pv.J0 Fl.JU))) (cO fp i []):=by
 have hi:i<env.length:=(List.getElem?_eq_some_iff.mp e).1;refine⟨⟨S.hp.bo,S.hp.keep,fun a h=>.inl (S.hp.f0 a h),fun a h=>h.elim (S.hp.fn a) fun z=>.inr (S.new i a z),fun a h=>h.elim (S.hp.ft a) fun z=>(S.dis i a z).2⟩,by rw[length_set,S.len],fun j pv' e'=>?_,fun j=>?_,fun j k hjk a ha=>?_,fun j a ha=>?_,fun j a ha=>?_,fun j a ha=>?_,fun w hw=>?_⟩
 ·by_cases hj:j=i
  ·subst hj;rw[getElem?_set_self hi]at e';cases e';obtain⟨v,h1,h2⟩:=S.rel j pv e;refine⟨v,h1,?_⟩;unfold cO;rw[if_pos rfl];exact Rel.JU (fun _ h=>.inl h) (fun a h=>.inr h) h2
  ·rw[getElem?_set_ne (Ne.symm hj)]at e';obtain⟨w,h1,h2⟩:=S.rel j pv' e';refine⟨w,h1,?_⟩;unfold cO;rw[if_neg hj];exact h2.ext Ext.refl fun _ h=>.inl h
 ·unfold cO;split
  ·exact nodup_nil
  ·exact S.nd j
 ·grind[cO,aD,cM,Gr]
 ·unfold cO at ha;by_cases h1:j=i
  ·rw[if_pos h1]at ha;cases ha
  ·rw[if_neg h1]at ha;exact⟨fun z=>z.elim (S.dis j a ha).1 fun z=>S.dj j i h1 a ha z,(S.dis j a ha).2⟩
 ·unfold cO at ha;by_cases h1:j=i
  ·rw[if_pos h1]at ha;cases ha
  ·rw[if_neg h1]at ha;exact S.new j a ha
 ·unfold cO at ha;by_cases h1:j=i
  ·rw[if_pos h1]at ha;cases ha
  ·rw[if_neg h1]at ha;exact S.ch j a ha
 ·obtain⟨h1,h2⟩:=S.pn w hw;refine⟨h1,?_⟩;unfold dY at h2 ⊢;by_cases hi0:i=0
  ·subst hi0;rw[e]at h2;rw[getElem?_set_self hi];cases pv<;>first|exact h2 |(cases h2;done)|rfl
  ·rw[getElem?_set_ne hi0];exact h2
def gY{i:Nat}{sts:List Stmt}(h:SSs X T W sts m):SSs X T W sts (av (i_ i) m):=PSs.wk h fun D Y H hz1=>by
 obtain⟨Z,F,env,fp,S,q⟩:=hz1;cases e:env[i]? with
 |none=>simp[av,i_,e]at q;exact q.elim
 |some w=>
  cases w with
  |none=>simp[av,i_,e]at q;exact q.elim
  |some pv=>simp only[av,i_,e]at q;exact⟨Z,_,_,_,S.frz e,q⟩
def Zn.re(Z:Zn)(F:JH)(H:Hp)(fp:Nat->JK):Zn:=⟨H,F,Own fp,Z.B,Z.pin⟩
def aD.enter(S:aD T Z F H Y env fp):aD T (Z.re F H fp) F H Y env fp:=
 ⟨⟨⟨fun a h=>by
   obtain⟨⟨o,h1⟩,h2⟩:=S.hp.bo.1 a h;refine⟨⟨o,S.hp.keep a o h1 h2⟩,fun⟨i,hi⟩=>?_⟩;rcases S.new i a hi with z|z
   ·rw[h1]at z;cases z
   ·exact h2 z,S.tbo Ext.refl fun _ z=>.inr z⟩,fun _ _ h _=>h,fun _ h=>h,fun _ h=>.inl h,S.hp.ft⟩,S.len,S.rel,S.nd,S.dj,S.dis,fun i a ha=>.inr ⟨i,ha⟩,S.ch,S.pn⟩
def cM.leave(S:aD T Z F H Y env fp)(S':cM T (Z.re F H fp) F' H'):cM T Z F' H':=
 ⟨S.hp.bo,fun a o h n=>S'.keep a o (S.hp.keep a o h n) fun hz1=>by
   obtain⟨i,hi⟩:=hz1;rcases S.new i a hi with z|z
   ·rw[h]at z;cases z
   ·exact n z,fun a h=>S'.f0 a (S.hp.f0 a h),fun a h=>by
  rcases S'.fn a h with z|z |⟨i,hi⟩
  ·exact S.hp.fn a z
  ·refine .inr ?_;by_cases q:Z.fp0 a
   ·exact .inr q
   ·refine .inl ?_;cases w:Z.H0 a with
    |none=>rfl
    |some o=>have z':H a=none:=z;rw[S.hp.keep a o w q]at z';cases z'
  ·exact .inr (S.new i a hi),S'.ft⟩
def aD.newL(S:aD T Z F H Y env fp)(h:(Z.re F H fp).H0 a=none \/(Z.re F H fp).fp0 a):Z.H0 a=none\/Z.fp0 a:=by
 rcases h with z |⟨i,hi⟩
 ·by_cases q:Z.fp0 a
  ·exact .inr q
  ·refine .inl ?_;cases w:Z.H0 a with
   |none=>rfl
   |some o=>have z':H a=none:=z;rw[S.hp.keep a o w q]at z';cases z'
 ·exact S.new i a hi
def aD.leave(S:aD T Z F H Y env fp)(S':aD T (Z.re F H fp) F' H' σ' env' fp'):aD T Z F' H' σ' env' fp':=
 ⟨cM.leave S S'.hp,S'.len,S'.rel,S'.nd,S'.dj,S'.dis,fun i a ha=>S.newL (S'.new i a ha),S'.ch,S'.pn⟩
abbrev SW(X:Cx)(T:Tb)(W:Nat->St->JP)(e:Expr)(m:MT):Prop:=PW X e (tT T W m)
def tT.test(h:tT T W (aw m) Y H Q):tE T W m Y H fun x H'=>∃k,x=.bl k/\Q k H':=by
 obtain⟨Z,F,env,fp,S,q⟩:=h;unfold aw at q;refine tE.bq S fun x v H1 F1 f1 e1 g1 r1 n1 d1 w1=>?_;rw[e1]at q;cases x with
 |bl b=>unfold Rel at r1;exact⟨b,r1.1,q H1 F1 g1⟩
 |_=>exact q.elim
def gX(ho:OpR X (compareOp op) r)(hm:jw T W f r)(ha:SE X T W a ma)(hb:SE X T W b mb)(hk:behindInMarks op b=false):ST X T W (.Compare a [op] [b] pos) (aw (mOp f ma mb)):=
 PT.wk (sX (pos:=pos) ho ha hb hk) fun Y H Q h=>by obtain⟨Z,F,env,fp,S,q⟩:=tT.test h;exact tE.mir2 hm ⟨Z,F,env,fp,S,q⟩
def eR(h:ST X T W a m):ST X T W (.UnaryOp .Not a pos) (fH m):=PT.wk (CW (pos:=pos) h) fun Y H Q hz1=>by obtain⟨Z,F,env,fp,S,q⟩:=hz1;unfold fH at q;refine tT.bind S (fun c e=>by rw[e]at q;exact q) (fun e=>by rw[e]at q;exact q) fun b H1 F1 e1 g1=>?_;rw[e1]at q;exact q H1 F1 g1
def et(h:ST X T W a m):SW X T W (.BoolOp .And [a] pos) m:=AH h
def er(h:ST X T W a m):SW X T W (.BoolOp .Or [a] pos) m:=CU h
def fB{bU:List Expr}(h:ST X T W a m)(h2:SW X T W (.BoolOp .And (b::bU) pos) n):SW X T W (.BoolOp .And (a::b::bU) pos) (eP m n):=PW.wk (CV h h2) fun Y H Q hz1=>by
 obtain⟨Z,F,env,fp,S,q⟩:=hz1;unfold eP at q;refine tT.bind S (fun c e=>by rw[e]at q;exact q) (fun e=>by rw[e]at q;exact q) fun b H1 F1 e1 g1=>?_;rw[e1]at q;cases b with
 |true=>
  refine(if_pos rfl).mpr ⟨Z,F1,env,fp,S.grow g1,?_⟩;simp only[Res.J2,if_true]at q;cases e2:n env with
  |ok b=>rw[e2]at q;exact fun H2 F2 g2=>q H2 F2 (g1.trans g2)
  |exc c=>rw[e2]at q;exact fun H' x=>q H' (g1.ext.trans x)
  |stuck=>rw[e2]at q;exact q
 |false=>exact(if_neg (by decide)).mpr (q H1 F1 g1)
def gg{bU:List Expr}(h:ST X T W a m)(h2:SW X T W (.BoolOp .Or (b::bU) pos) n):SW X T W (.BoolOp .Or (a::b::bU) pos) (gF m n):=PW.wk (Gz h h2) fun Y H Q hz1=>by
 obtain⟨Z,F,env,fp,S,q⟩:=hz1;unfold gF at q;refine tT.bind S (fun c e=>by rw[e]at q;exact q) (fun e=>by rw[e]at q;exact q) fun b H1 F1 e1 g1=>?_;rw[e1]at q;cases b with
 |false=>
  refine(if_neg (by decide)).mpr ⟨Z,F1,env,fp,S.grow g1,?_⟩;simp only[Res.J2,false_eq_true,if_false]at q;cases e2:n env with
  |ok b=>rw[e2]at q;exact fun H2 F2 g2=>q H2 F2 (g1.trans g2)
  |exc c=>rw[e2]at q;exact fun H' x=>q H' (g1.ext.trans x)
  |stuck=>rw[e2]at q;exact q
 |true=>exact(if_pos rfl).mpr (q H1 F1 g1)
def SW.st(h:SW X T W e m):ST X T W e m:=PW.pt h
def bZ(hK:X.K=T.K)(h:SE X T W a m)(he:∀whole,isTrue a X.env whole=(do let v <- whole;standAt a.pos;holding [v] (truthy v)):=by intro _;rfl):ST X T W a (cF m):=PT.wk (ww h he) fun Y H Q hz1=>by
 obtain⟨Z,F,env,fp,S,q⟩:=hz1;unfold cF at q;refine tE.bq S fun x v H1 F1 f1 e1 g1 r1 n1 d1 w1=>?_;rw[e1]at q;rw[hK];cases x with
 |non=>unfold Rel at r1;rw[r1.1];exact⟨false,rfl,q H1 F1 g1⟩
 |bl b=>unfold Rel at r1;rw[r1.1];exact⟨b,rfl,q H1 F1 g1⟩
 |int i=>unfold Rel at r1;rw[r1.1];exact⟨_,rfl,q H1 F1 g1⟩
 |str i=>exact q.elim
 |lst f xs=>
  unfold Rel at r1;obtain⟨a,vs,fp',rfl,hl,hr,_⟩:=r1;have hl':SqL T.K H1 a vs:=hl.sq;have e:(!xs.isEmpty)=!vs.isEmpty:=by have:=hr.length;cases xs<;>cases vs<;>simp_all
  exact⟨_,.inl ⟨vs,hl',rfl⟩,by rw[<- e];exact q H1 F1 g1⟩
 |tup xs=>
  unfold Rel at r1;obtain⟨a,vs,rfl,hl,hr⟩:=r1;have e:(!xs.isEmpty)=!vs.isEmpty:=by have:=hr.length;cases xs<;>cases vs<;>simp_all
  exact⟨_,.inr (.inl ⟨vs,hl,rfl⟩),by rw[<- e];exact q H1 F1 g1⟩
 |obj f c ks xs|exc c|box k xs=>exact q.elim
def iF(hc:ST X T W c mc)(ha:SE X T W a ma)(hb:SE X T W b mb):SE X T W (.IfExp c a b pos) (oX mc ma mb):=PE.wk (wK (pos:=pos) hc ha hb) fun Y H Q hz1=>by
 obtain⟨Z,F,env,fp,S,q⟩:=hz1;unfold oX at q;refine tT.bind S (fun c e=>by rw[e]at q;exact q) (fun e=>by rw[e]at q;exact q) fun b H1 F1 e1 g1=>?_;rw[e1]at q;have lift:∀m:ME,GE T W Z.B F (Own fp) Y H Q (m env)->tE T W m Y H1 Q:=fun m q=>by
  refine⟨Z,F1,env,fp,S.grow g1,?_⟩;cases e2:m env with
  |ok b=>rw[e2]at q;exact fun v H2 F2 f g2 r n d w=>q v H2 F2 f (g1.trans g2) r n d fun a ha=>g1.ext.free (w a ha)
  |exc c=>rw[e2]at q;exact fun H' x=>q H' (g1.ext.trans x)
  |stuck=>rw[e2]at q;exact q
 cases b with
 |true=>exact(if_pos rfl).mpr (lift ma q)
 |false=>exact(if_neg (by decide)).mpr (lift mb q)
def tL(a:ME):ME:=fun env=>(a env).bind fun
 |.bl b=>.ok (.bl (!b))
 |_=>.stuck
def gn(a b:ME):ME:=fun env=>(a env).bind fun
 |.bl true=>b env
 |.bl false=>.ok (.bl false)
 |_=>.stuck
def u9(a b:ME):ME:=fun env=>(a env).bind fun
 |.bl false=>b env
 |.bl true=>.ok (.bl true)
 |_=>.stuck
def CG(ha:SE X T W a ma):SE X T W (.UnaryOp .Not a pos) (tL ma):=PE.wk (C8 (pos:=pos) ha) fun Y H Q hz1=>by
 obtain⟨Z,F,env,fp,S,q⟩:=hz1;unfold tL at q;refine tE.bq S fun x v H1 F1 f1 e1 g1 r1 n1 d1 w1=>?_;rw[e1]at q;cases x with
 |bl b=>unfold Rel at r1;exact⟨b,r1.1,q.scal g1 jk⟩
 |_=>exact q.elim
def g8(ha:SE X T W a ma):SE X T W (.BoolOp op [a] pos) ma:=C7 ha
def tE.later(S:aD T Z F H Y env fp)(g1:Gr F H F' H')(q:GE T W Z.B F (Own fp) Y H Q (m env)):tE T W m Y H' Q:=by
 refine⟨Z,F',env,fp,S.grow g1,?_⟩;cases e2:m env with
 |ok b=>rw[e2]at q;exact fun v H2 F2 f g2 r n d w=>q v H2 F2 f (g1.trans g2) r n d fun a ha=>g1.ext.free (w a ha)
 |exc c=>rw[e2]at q;exact fun H' x=>q H' (g1.ext.trans x)
 |stuck=>rw[e2]at q;exact q
def gw{bU:List Expr}(ha:SE X T W a ma)(hb:SE X T W (.BoolOp .And (b::bU) pos) mb):SE X T W (.BoolOp .And (a::b::bU) pos) (gn ma mb):=PE.wk (Da ha hb) fun Y H Q hz1=>by
 obtain⟨Z,F,env,fp,S,q⟩:=hz1;unfold gn at q;refine tE.bq S fun x v H1 F1 f1 e1 g1 r1 n1 d1 w1=>?_;rw[e1]at q;cases x with
 |bl b=>
  unfold Rel at r1;refine⟨b,r1.1,?_⟩;cases b with
  |true=>exact(if_pos rfl).mpr (tE.later S g1 q)
  |false=>exact(if_neg (by decide)).mpr (q.scal g1 jk)
 |_=>exact q.elim
def B3{bU:List Expr}(ha:SE X T W a ma)(hb:SE X T W (.BoolOp .Or (b::bU) pos) mb):SE X T W (.BoolOp .Or (a::b::bU) pos) (u9 ma mb):=PE.wk (GH ha hb) fun Y H Q hz1=>by
 obtain⟨Z,F,env,fp,S,q⟩:=hz1;unfold u9 at q;refine tE.bq S fun x v H1 F1 f1 e1 g1 r1 n1 d1 w1=>?_;rw[e1]at q;cases x with
 |bl b=>
  unfold Rel at r1;refine⟨b,r1.1,?_⟩;cases b with
  |false=>exact(if_neg (by decide)).mpr (tE.later S g1 q)
  |true=>exact(if_pos rfl).mpr (q.scal g1 jk)
 |_=>exact q.elim
def zU(T:Tb)(W:Nat->St->JP)(f:PV->JR)(r:V->Hp->VK->Prop):Prop:=
 ∀(B F L:JH) (Y:St) (H:Hp) (Q:VK) (F':JH) (H':Hp) (x:PV) (v:V) (fx:JK),Gr F H F' H'->Rel T F' B L H' x v fx->(∀a∈fx,¬F' a)->fx.Nodup->(∀a∈fx,H a=none)->GE T W B F L Y H Q (f x)->r v H' Q
def tE.mir1(hm:zU T W f r)(h:tE T W (mUn f m) Y H Q):tUn r (tE T W m) Y H Q:=by obtain⟨Z,F,env,fp,S,q⟩:=h;unfold mUn at q;refine tE.bq S fun x v H1 F1 f1 e1 g1 r1 n1 d1 w1=>?_;rw[e1]at q;exact hm Z.B F (Own fp) Y H Q F1 H1 x v f1 g1 r1 n1 d1 w1 q
def jm:PV->JR
 |.int i=>.ok (.int (-i))
 |_=>.stuck
def lC(ha:SE X T W a m):SE X T W (.UnaryOp .USub a pos) (mUn jm m):=PE.wk (GD (pos:=pos) Cm ha) fun Y H Q h=>tE.mir1 (fun B F L Y H Q F' H' x v fx g r _ _ _ q=>by
 cases x with
 |int i=>unfold Rel at r;exact⟨i,r.1,q.scal g eM⟩
 |_=>exact q.elim) h
def bL(k:Nat):List Nat->JQ->Option PV
 |j::ks,v::vs=>if j=k then some v else bL k ks vs
 |_,_=>none
def Fl.JW:Fl->Bool
 |.own=>true
 |_=>false
def ap(k:Nat):PV->JR
 |.obj f _ ks vs=>match bL k ks vs with
  |some v=>if f.JW&&v.has Fl.JW then .stuck else .ok v
  |none=>.stuck
 |_=>.stuck
mutual
def Rel.J1:∀{x:PV}{v:V}{fp:JK},x.has Fl.JW=false->Rel T F B L H x v fp->fp=[]
 |.non,_,_,_,h|.bl _,_,_,_,h|.int _,_,_,_,h|.str _,_,_,_,h=>by unfold Rel at h;exact h.2
 |.lst f xs,_,fp,hp,h=>by
  unfold Rel at h;simp only[PV.has,or_eq_false_iff]at hp;obtain⟨a,vs,fp',e,hl,hr,hf⟩:=h;cases f with
  |own=>exact absurd hp.1 (by decide)
  |frz|bor|lnt|mod=>exact hf.2
 |.tup xs,_,fp,hp,h=>by unfold Rel at h;simp only[PV.has]at hp;obtain⟨a,vs,e,hl,hr⟩:=h;exact RelL.J1 hp hr
 |.obj f c ks xs,_,fp,hp,h=>by
  unfold Rel at h;simp only[PV.has,or_eq_false_iff]at hp;obtain⟨a,dx,vs,fp',e,hl,hk,hr,hf,ha⟩:=h;cases f with
  |own=>exact absurd hp.1 (by decide)
  |frz|bor|lnt|mod=>exact hf.2
 |.exc c,_,fp,hp,h=>by unfold Rel at h;obtain⟨a,_,_,e⟩:=h;exact e
 |.box k xs,_,fp,hp,h=>by unfold Rel at h;obtain⟨a,vs,e,hl,hr⟩:=h;exact RelL.J1 hp hr
def RelL.J1:∀{xs:JQ}{vs:JO}{fp:JK},hasL Fl.JW xs=false->RelL T F B L H xs vs fp->fp=[]
 | [],_,_,_,h=>by unfold RelL at h;exact h.2
 |x::xs,_,fp,hp,h=>by unfold RelL at h;simp only[hasL,or_eq_false_iff]at hp;obtain⟨v,ws,f1,f2,e,h1,h2,rfl⟩:=h;rw[Rel.J1 hp.1 h1,RelL.J1 hp.2 h2];rfl
end
def RelL.get:∀{xs:JQ}{vs:JO}{fp:JK}{i:Nat}{x:PV},RelL T F B L H xs vs fp->xs[i]?=some x->∃v f,vs[i]?=some v/\Rel T F B L H x v f/\f.Sublist fp
 | [],_,_,_,_,_,e=>by simp at e
 |y::xs,_,fp,0,x,h,e=>by
  unfold RelL at h
  grind
 |y::xs,_,fp,i+1,x,h,e=>by unfold RelL at h;obtain⟨v,ws,f1,f2,rfl,h1,h2,rfl⟩:=h;obtain⟨w,f,e1,r,s⟩:=RelL.get (i:=i) h2 (by simpa using e);exact⟨w,f,by simpa using e1,r,s.trans (List.sublist_append_right _ _)⟩
def qm:∀{ks:List Nat}{xs:JQ}{vs:JO}{fp:JK}{x:PV},RelL T F B L H xs vs fp->bL k ks xs=some x->∃v f,((ks.map T.att).zip vs).lookup (T.att k)=some v/\Rel T F B L H x v f/\f.Sublist fp
 | [],_,_,_,_,_,e|j::ks,[],_,_,_,_,e=>by simp[bL]at e
 |j::ks,y::xs,_,fp,x,h,e=>by
  unfold RelL at h;obtain⟨v,ws,f1,f2,rfl,h1,h2,rfl⟩:=h;unfold bL at e;by_cases hj:j=k
  ·rw[if_pos hj]at e;cases e;subst hj;exact⟨v,f1,by simp,h1,List.sublist_append_left _ _⟩
  ·rw[if_neg hj]at e;obtain⟨w,f,e1,r,s⟩:=qm (ks:=ks) h2 e;refine⟨w,f,?_,r,s.trans (List.sublist_append_right _ _)⟩;have:(T.att k==T.att j)=false:=by rw[beq_eq_false_iff_ne];exact fun z=>hj (T.inj _ _ z).symm
   rw[map_cons,zip_cons_cons,lookup_cons,this];exact e1
def Aa(hK:X.K=T.K)(hf:T.att k=f)(hc:∀c<T.nc,Cls T.K (T.cls c))(hn:∀c<T.nc,fG T.K (T.cls c) f)(h:tE T W (mUn (ap k) m) Y H Q):Gh X.K (tE T W m) f Y H Q:=by
 obtain⟨Z,F,env,fp,S,q⟩:=h;unfold mUn at q;refine tE.bq S fun x v H1 F1 f1 e1 g1 r1 n1 d1 w1=>?_;rw[e1]at q;cases x with
 |obj fl c ks xs=>
  simp only[Res.J2,ap]at q;cases e2:bL k ks xs with
  |none=>rw[e2]at q;exact q.elim
  |some y=>
   rw[e2]at q;dsimp only at q;unfold Rel at r1;obtain⟨a,dx,vs,fp',rfl,hl,hk,hr,hfl,_⟩:=r1;obtain⟨w,f',l1,l2,l3⟩:=qm hr e2;have e0:f'=[]:=by
    cases fl with
    |own=>
     simp only[Fl.JW,Bool.true_and]at q;by_cases ho:y.has Fl.JW=true
     ·rw[if_pos ho]at q;exact q.elim
     ·exact Rel.J1 (by simpa using ho) l2
    |frz|bor|lnt|mod=>obtain⟨rfl,_⟩:=hfl;exact List.sublist_nil.mp l3
   subst e0;by_cases hb:(fl.JW&&y.has Fl.JW)=true
   ·rw[if_pos hb]at q;exact q.elim
   ·rw[if_neg hb]at q;rw[hK];exact⟨a,_,dx,_,w,rfl,hl,hc c hk.2,hn c hk.2,by rw[<- hf];exact l1,q.scal g1 l2⟩
 |_=>exact q.elim
def At(hK:X.K=T.K)(hf:T.att k=f)(hc:∀c<T.nc,Cls T.K (T.cls c))(hn:∀c<T.nc,fG T.K (T.cls c) f)(he:SE X T W e m)(hb:attributeBase e f X.env (eval e X.env)=eval e X.env:=by rfl) :
  SE X T W (.Attribute e f pos) (mUn (ap k) m):=PE.wk (C_ (pos:=pos) he hb) fun Y H Q h=>Aa hK hf hc hn h
end
end PR
namespace L2
open PySem PySem.Spec
def cU.there(x:cU P w H h a o):∃u,h.get? a=some u:=by
 cases o with
 |lst xs=>obtain⟨_,_,_,_,e⟩:=x;exact⟨_,e⟩
 |tup xs=>obtain⟨_,_,_,o,e,_⟩:=x;exact⟨_,e⟩
 |dK kvs|dT kvs=>obtain⟨_,_,_,_,o,_,_,e,_⟩:=x;exact⟨_,e⟩
 |set S n=>obtain⟨o,_,_,_,e,_⟩:=x;exact⟨_,e⟩
 |ins C dx fs=>obtain⟨_,_,_,e,_⟩:=x;exact⟨_,e⟩
 |own y=>exact x
 |xd fs=>obtain⟨_,⟨_,_,_,e,_⟩,_⟩:=x;exact⟨_,e⟩
 |rng lo hi=>obtain⟨_,_,_,e⟩:=x;exact⟨_,e⟩
 |frz ob u=>obtain⟨e,_⟩:=x;exact⟨_,e⟩
 |tbl ps=>obtain⟨_,e,_⟩:=x;exact⟨_,e⟩
 |met f y=>exact⟨_,(show h.get? a=some _ from x)⟩
 |ext φ=>obtain⟨_,q,_⟩:=x;exact q
end L2
namespace PR
open PySem PySem.Spec L2
structure Fly(P:Program)(w:World)(outer:List Env)(H:Hp)(s:Shared)(cls:Value)(H':Hp)(e:Value)(s':Shared):Prop where
 os:s'.os=s.os
 bare:PyProof.Rows.AllBare s'.gens
 un:Un (frs outer) [] H H' s.heap s'.heap
 hok:HOk P w H' s'.heap
 fly:∃x a0 Bh,e=.ref x/\FlyingW Bh outer x cls a0 s'.heap/\(∀b o u,H' b=some u->s'.heap.get? b=some o->Bh.get? b=some o)/\
  (∀b o o',s'.heap.get? b=some o->s.heap.get? b=some o'->b∉frs outer->Bh.get? b=some o)
def CXP(P:Program)(w:World):CXT:=fun outer H s E e s'=>∃cls H',Fly P w outer H s cls H' e s'/\E cls none H'
def XF(X:Cx)(T:Tb)(W:Nat->St->JP):Prop:=∀(js:JG) (Y:St) (H:Hp) (s:Shared) (c:Nat) (H':Hp) (e:Value) (s':Shared),L2.Inv X js Y H s->Fly X.prog X.w X.stack H s (.ref (T.xcl c)) H' e s'->W c Y H'->X.xe e s'
def XM(X:Cx)(T:Tb)(W:Nat->St->JP):Prop:=∀(js:JG) (Y:St) (H:Hp) (s:Shared) (c:Nat) (h':Heap) (e:Addr) (vs:JJ),L2.Inv X js Y H s->Heap.MadeExcOf s.heap h' e (.ref (T.xcl c)) vs->W c Y H->X.xe (.ref e) {s with heap:=h'}
section
variable{P:Program}{w:World}{K:PySem.W.Frag}{mg:JE}{base:Heap}{N:JL}{qual:Str}{scope:Scope}{f:Addr}{cd:Value}{A:Around}{outer:List Env}{s:Shared}{H:Hp}{E:XK}
def tW{H:Hp}{h h' Bh:Heap}(ok:HOk P w H h)(k:∀b o u,H b=some u->h.get? b=some o->Bh.get? b=some o)(st:Bh.StaysIn h'):HOk P w H h':=fun a o e=>
 (ok a o e).stay (fun b u hb q=>by
  rcases hb with rfl|hb
  ·exact st _ _ (k b u _ e q)
  ·exact st _ _ (k b u _ hb q)) (fun _ q=>q) fun _ _ _ q=>q
def i3(I:L2.Inv X js Y H1 s1)(hst:X.stack=X.env::X.outer)(hex:X.ex=[])(hfrm:X.env.frame=some X.env.locals)
  (hos:os2=s1.os) (hb:PyProof.Rows.AllBare g2) (u2:Un (frs X.stack) [] H1 H2 s1.heap h2) (ok:HOk X.prog X.w H2 h2) (tr:∀b o u,H2 b=some u->h2.get? b=some o->Bh.get? b=some o)
  (ol:∀b o o',h2.get? b=some o->s1.heap.get? b=some o'->b∉frs X.stack->Bh.get? b=some o) (fl:FlyingW Bh X.outer x cls a0 h') (up:h2.UpToSlots h') :
  Fly X.prog X.w X.outer X.H₀ X.s₀ cls H2 (.ref x) ⟨h',g2,d2,t2,os2⟩:=by
 have u1:=I.base;rw[hex]at u1;have hfs:frs X.stack=X.env.locals::frs X.outer:=by rw[hst];show List.filterMap _ _=_;rw[List.filterMap_cons,hfrm];rfl
 have u:Un (frs X.stack) [] X.H₀ H2 X.s₀.heap h2:=(u1.mono (fun b hb=>by rw[hfs];exact mem_cons_of_mem _ hb) fun _ z=>z).trans u2;have neL:∀b o,X.s₀.heap.get? b=some o->b≠X.env.locals:=fun b o e=>Nat.ne_of_lt (Nat.lt_of_lt_of_le (lt_size e) I.ok.above);have nst:∀b o,X.s₀.heap.get? b=some o->b∉frs X.outer->b∉frs X.stack:=fun b o e hn hb=>by
  rw[hfs]at hb;rcases mem_cons.mp hb with z|z
  ·exact neL b o e z
  ·exact hn z
 have data:∀b o,X.s₀.heap.get? b=some o->b∈frs X.outer->∀vs,o.data≠.fields vs:=fun b o e hb vs z=>by obtain⟨_,o',ho',hd'⟩:=I.ok.funs.mem hb;rw[e]at ho';cases ho';exact hd' vs z
 refine⟨hos.trans I.os,hb,⟨fun b o e n hf _=>?_,fun b o e n hf _=>?_,u.free,fun b o e _=>?_,u.tups,u.frzs,u.tbls⟩,tW ok tr fl.1,⟨x,a0,Bh,rfl,fl,fun b o v e q=>?_,fun b o o' e q hf=>?_⟩⟩
 ·have q:=u.keep b o e n (nst b o e hf) (by simp);obtain⟨o1,e1⟩:=u1.there b o e (by simp);exact fl.1 b o (ol b o o1 q e1 (nst b o e hf))
 ·obtain⟨sl,q⟩:=u.slot b o e n (by rw[hfs];exact mem_cons_of_mem _ hf) (by simp);obtain⟨sl',q'⟩:=up b _ q (data b o e hf);exact⟨sl',q'⟩
 ·by_cases hf:b∈frs X.outer
  ·obtain⟨_,o2,ho2,_⟩:=fl.2.2.1.mem hf;exact⟨o2,ho2⟩
  ·obtain⟨o1,e1⟩:=u1.there b o e (by simp);obtain⟨o2,e2⟩:=u2.there b o1 e1 (by simp);exact⟨o2,fl.1 b o2 (ol b o2 o1 e2 e1 (nst b o e hf))⟩
 ·have hlt:=ok.lt e;obtain⟨o2,e2⟩:∃o2,h2.get? b=some o2:=by have x:=ok b v e;exact cU.there x
  have:=fl.1 b o2 (tr b o2 v e e2);rw[q]at this;cases this;exact tr b o v e e2
 ·obtain⟨o1,e1⟩:=u1.there b o' q (by simp);obtain⟨o2,e2⟩:=u2.there b o1 e1 (by simp);have hB:=ol b o2 o1 e2 e1 (nst b o' q hf);have:=fl.1 b o2 hB;rw[e]at this;cases this;exact hB
end
section
variable{P:Program}{w:World}{K:PySem.W.Frag}{mg:JE}{base:Heap}{N:JL}{qual:Str}{scope:Scope}{f:Addr}{cd:Value}{A:Around}{outer:List Env}{s:Shared}{H:Hp}{E:XK}{T:Tb}
abbrev WD(T:Tb)(E:XK):Nat->St->JP:=fun c _ H=>E (.ref (T.xcl c)) none H
def Cl:XF (dQ (CXP P w) P w K mg base N qual scope f cd A outer s H E) T (WD T E):=by intro js Y H1 s1 c H2 e s2 I fl hW;obtain⟨x,a0,Bh,rfl,fly,tr,ol⟩:=fl.fly;refine wpAny_leaves_onW (L:=s.heap.objs.size) I.ok.frames rfl fly fun h' fly' up=>?_;obtain⟨h2,g2,d2,t2,os2⟩:=s2;exact⟨_,H2,i3 I rfl rfl rfl fl.os fl.bare fl.un fl.hok tr ol fly' up,hW⟩
def b9:XM (dQ (CXP P w) P w K mg base N qual scope f cd A outer s H E) T (WD T E):=by
 intro js Y H1 s1 c h2 e vs I mx hW;have hin:∀env ∈(dQ (CXP P w) P w K mg base N qual scope f cd A outer s H E).stack,∀b,env.frame=some b->b∈frs (dQ (CXP P w) P w K mg base N qual scope f cd A outer s H E).stack:=fun env he b hb=>List.mem_filterMap.mpr ⟨env,he,hb⟩;refine wpAny_leaves_madeW (base:=hideAll s1.heap (frs (dQ (CXP P w) P w K mg base N qual scope f cd A outer s H E).stack)) (h:=s1.heap) (L:=s.heap.objs.size) I.ok.frames rfl (fun b o q=>PySem.W.of_hideAll _ q) (PySem.W.funFrames_hide I.stack hin) mx fun h' t fly' _ _ up=>?_;obtain⟨h1,g1,d1,t1,os1⟩:=s1;have fresh:∀b o,h1.get? b=some o->h2.get? b=some o:=mx.keeps;have nfr:∀b u,H1 b=some u->b∉frs (dQ (CXP P w) P w K mg base N qual scope f cd A outer s H E).stack:=fun b u e hb=>by rw[I.stkFree b hb]at e;cases e
 refine⟨_,H1,i3 I rfl rfl rfl rfl I.bare (h2:=h2) (Bh:=hideAll h1 (frs (dQ (CXP P w) P w K mg base N qual scope f cd A outer s H E).stack)) (Un.kept fresh) (I.hok.kept fresh) (fun b o u e q=>?_) (fun b o o' e q hb=>?_) fly' up,hW⟩
 ·obtain⟨o1,e1⟩:=cU.there (I.hok b u e);have:=fresh b o1 e1;rw[q]at this;cases this;exact hideAll_get _ e1 (nfr b u e)
 ·have:=fresh b o' q;rw[e]at this;cases this;exact hideAll_get _ q hb
end
structure Js(X:Cx)(x:Str)(C:Addr):Prop where
 bm:X.mg x=some (.ref C)
 obj:∃bm N nm q bs hdct sn sub ab col dd k0 k1 k2 k3 k5 mN,X.base.get? C=some (excClassObj nm q C N bs bm hdct sn sub ab col dd k0 k1 k2 k3 k5 "ValueError.__new__")/\X.base.Ns N mN/\mN "__init__"=none /\
  OwnTail X.base [.type "ValueError",.type "Exception",.type "BaseException",.type "object"] bm
section
variable{X:Cx}{T:Tb}{W:Nat->St->JP}
def v6(O:Js X x (T.xcl c))(hx:XM X T W)(hc:X.calm=true)(hg:Gl X x)(ha:SA X T W (e::es) ms)(hne:∀env pvs,ms env=.ok pvs->pvs.length<=100)(hd:(x ==("__debug__":Str))=false:=by decide)
  (he:starEach (e::es) X.env=(false,eval e X.env)::starEach es X.env:=by rfl) (hpl:(backTo cpos (starEach es X.env)).any (·.1)=false:=by rfl) :
  SS X T W (.Raise (some (.Call (.Name x np) (e::es) [] cpos)) none pos) (fun env=>match ms env with
   |.ok _=>.exc c env
   |.exc k=>.exc k env
   |.stuck=>.stuck):=by
 intro js s Y H D I h;obtain⟨Z,F,env,fp,S,q⟩:=h;dsimp only at q;obtain⟨tl,N,nm,qn,bs,hdct,sn,sub,ab,col,dd,k0,k1,k2,k3,k5,mN,hC,hN,hni,TL⟩:=O.obj;refine wpAny_Raise_call_subT (C:=T.xcl c) (nm:=nm) (q:=qn) (N:=N) (bs:=bs) (bm:=tl) (hdct:=hdct) (sn:=sn) (sub:=sub) (ab:=ab) (col:=col) (dd:=dd) (k0:=k0) (k1:=k1) (k2:=k2) (k3:=k3) (k5:=k5)
  PySem.F.excBase_ValueError (mN:=mN) (TL.hasType PySem.F.excBase_ValueError.hasBase) (I.ok.hd hc) (by rw[he];show(false ||(backTo cpos (starEach es X.env)).any (·.1))=false;rw[hpl];rfl) hni (iZ I hg O.bm ⟨rfl,?_⟩ hd)
 have h2:=ha cpos js s Y H (fun vs H'=>vs.length <= 100/\W c Y H') I (tA.bind S (fun k e H' x=>by rw [e] at q;exact q F H' Y fp (S.grow (Gr.same S.hp.ft x))) (fun e=>by rw [e] at q;exact q) fun pvs vs H' F' f e g r _ _ _=>by
  rw[e]at q;exact⟨by rw[<- r.length];exact hne env pvs e,q F' H' Y fp (S.grow g)⟩)
 rw[he]at h2 ⊢;refine Calls.evalArgs_plain (wpAny_mono h2 (fun vs s₂ h₂=>?_) fun _ _ y=>y);obtain⟨vs',H',I2,rv,hl,hw⟩:=h₂;refine⟨rfl,?_,I2.bk _ _ hC,hN.keeps I2.bk,TL.keeps I2.bk,fun h' e' mx=>hx js Y H' s₂ c h' e' vs I2 mx hw⟩;rw[<- rv.length,sizeLine_eq];omega
end
def aL(m:JQ->JR)(xs:JQ):JR:=match m (mapL Fl.JT xs)with
 |.ok v=>if v.has Fl.JY then .stuck else .ok v
 |.exc c=>.exc c
 |.stuck=>.stuck
def a_(n:Nat)(m:MS)(args:JQ):JR:=match m (args.map some++replicate (n-args.length) none)with
 |.next _=>.ok .non
 |.ret v=>.ok v
 |.exc c _=>.exc c
 |_=>.stuck
def GF(T:Tb)(Z:Zn)(Q:VK)(E:XK):JR->Prop
 |.ok pv=>∀F H v f,cM T Z F H->Rel T F Z.B NoL H pv v f->f.Nodup->(∀a∈f,¬F a)->(∀a∈f,Z.H0 a=none\/Z.fp0 a)->Q v H
 |.exc c=>∀H,(∀a o,Z.H0 a=some o->¬Z.fp0 a->H a=some o)->E (.ref (T.xcl c)) none H
 |.stuck=>False
structure sL(T:Tb)(F B:JH)(H:Hp)(pvs:JQ)(vs:JO)(f:JK):Prop where
 rel:RelL T F B NoL H pvs vs f
 nd:f.Nodup
 nf:∀a∈f,¬F a
 bo:(∀a,B a->(∃o,H a=some o)/\a∉f)/\BW T H (·∈f)
 ft:∀a,F a->∃o,H a=some o
def spM(T:Tb)(n:Nat)(m:JQ->JR):Sp:=fun vs H Q E=>vs.length=n/\∃pvs F B f,sL T F B H pvs vs f/\GF T ⟨H,F,(·∈f),B,none⟩ Q E (m pvs)
def RelL.split:∀{xs:JQ}{vs:JO}{f:JK},RelL T F B L H xs vs f->f.Nodup ->
  ∃g:Nat->JK,(∀(i:Nat) x v,xs[i]?=some x->vs[i]?=some v->Rel T F B L H x v (g i))/\(∀i,(g i).Nodup)/\(∀i j,i≠j->∀a∈g i,a∉g j)/\∀i a,a∈g i->a∈f
 | [],_,_,_,_=>⟨fun _=>[],fun i x v e=>by simp at e,fun _=>nodup_nil,fun _ _ _ _ z=>(nomatch z),fun _ _ z=>(nomatch z)⟩
 |x::xs,_,_,h,nd=>by
  unfold RelL at h;obtain⟨v,ws,f1,f2,rfl,h1,h2,rfl⟩:=h;obtain⟨n1,n2,n3⟩:=nodup_append.mp nd;obtain⟨g,g1,g2,g3,g4⟩:=RelL.split h2 n2;refine⟨fun i=>match i with|0=>f1|j+1=>g j,fun i y u e1 e2=>?_,fun i=>?_,fun i j hij a ha=>?_,fun i a ha=>?_⟩
  ·cases i with
   |zero=>simp at e1 e2;subst e1 e2;exact h1
   |succ i=>exact g1 i y u (by simpa using e1) (by simpa using e2)
  ·cases i with
   |zero=>exact n1
   |succ i=>exact g2 i
  ·grind
  grind
section
variable{P:Program}{w:World}{K:PySem.W.Frag}{mg:JE}{base:Heap}{T:Tb}
def i5(N:JL)(R:sL T F B H pvs vs f)(pin:Option V)(hpin:∀v,pin=some v->vs[0]?=some v/\∃fl c ks xs,pvs[0]?=some (.obj fl c ks xs)) :
  ∃fp,aD T ⟨H,F,(·∈f),B,pin⟩ F H (L2.start N vs) (pvs.map some++replicate (N.length-pvs.length) none) fp:=by
 obtain⟨g,g1,g2,g3,g4⟩:=R.rel.split R.nd;have hl:=R.rel.length;refine⟨g,⟨R.bo,fun _ _ h _=>h,fun _ h=>h,fun _ h=>.inl h,R.ft⟩,?_,fun i pv e=>?_,g2,g3,fun i a ha=>⟨R.nf a (g4 i a ha),R.rel.there a (g4 i a ha)⟩,fun i a ha=>.inr (g4 i a ha),fun i a ha=>R.rel.chg a (g4 i a ha),fun v hv=>?_⟩
 ·unfold L2.start;simp[hl]
 ·by_cases hi:i<pvs.length
  ·rw[getElem?_append_left (by simpa using hi),getElem?_map]at e;obtain⟨x,e1,e2⟩:=map_eq_some_iff.mp e;cases e2;obtain⟨v,_,ev,_⟩:=R.rel.get e1;refine⟨v,?_,g1 i pv v e1 ev⟩;unfold L2.start;rw[getElem?_append_left (by simpa[<- hl]using hi),getElem?_map,ev];rfl
  ·rw[getElem?_append_right (by simpa using hi),getElem?_replicate]at e;split at e<;>cases e
 ·obtain⟨h1,fl,c,ks,xs,h2⟩:=hpin v hv;have hl0:0<vs.length:=(List.getElem?_eq_some_iff.mp h1).1;have hp0:0<pvs.length:=(List.getElem?_eq_some_iff.mp h2).1;unfold L2.start dY;rw[getElem?_append_left (by simpa using hl0),getElem?_append_left (by simpa using hp0),getElem?_map,getElem?_map,h1,h2];exact⟨rfl,rfl⟩
def HJ(F:Fun K x qual st f fd)(S:dF N ps (aH st))
  (body:∀ (cdv:Value) (A:Around) (outer:List Env) (s:Shared) (H:Hp) (E:XK),d0 k (A.deeper (PyProof.Rows.envOfC qual (aH st) s.heap.objs.size f cdv)) ->
   SSs (dQ (CXP P w) P w K mg base N qual (aH st) f cdv A outer s H E) T (WD T E) (bQ st) m):dG P w K mg base (CXP P w) (k+1) f fd ps (spM T ps.length (a_ N.length m)):=by
 obtain⟨oc,od,kV,doc,pm,an,cdv,ct,osl,rfl,lk,hcd⟩:=F.ex;refine Cd lk hcd S (fun vs H Q E h=>h.1) fun A outer s H vs Q E hr hsp=>⟨_,body cdv A outer s H E hr,?_⟩
 obtain⟨_,pvs,F,B,fl,R,q⟩:=hsp;obtain⟨fp,S0⟩:=i5 N R none (fun _ h=>nomatch h);refine⟨_,F,_,fp,S0,?_⟩;unfold a_ at q;cases e:m (pvs.map some++replicate (N.length-pvs.length) none)with
 |next e'=>rw[e]at q;exact fun F' H' σ' fp' S'=>q F' H' .non [] S'.hp CS nodup_nil (fun _ z=>(nomatch z)) (fun _ z=>(nomatch z))
 |ret v=>rw[e]at q;exact q
 |brk e'|cont e'=>rw[e]at q;exact q.elim
 |exc c e'=>rw[e]at q;exact fun F' H' σ' fp' S'=>q H' S'.hp.keep
 |stuck=>rw[e]at q;exact q.elim
end
def xj(hB:∀a,B a->B' a)(hL:∀a,L a->B' a):Mp T Fl.JT (fun _=>false) (fun x=>x) (fun _=>True) F B L H F B' L' H:=
 ⟨fun f a vs _ c h=>by
  cases f with
  |bor=>exact⟨hB a h.1,h.2⟩
  |lnt=>exact⟨hL a h.1,.inl h.2⟩
  | _=>exact h,fun f a _ c h=>⟨by
  cases f with
  |bor=>exact hB a h
  |lnt=>exact hL a h
  |_=>exact h,fun _ q=>q⟩,fun f a x y h=>by cases f<;>exact h,rfl,fun _ _=>rfl,fun _ _ q _=>q⟩
def RelL.JT(hB:∀a,B a->B' a)(hL:∀a,L a->B' a)(h:RelL T F B L H x v fo):RelL T F B' L' H (mapL Fl.JT x) v fo:=(xj hB hL).rels (has_noL x) (fun _ _=>True.intro) h
def Rel.noB(hp:x.has Fl.JY=false)(h:Rel T F B L H x v fo):Rel T F B' L H x v fo:=by
 have:=(xk (p:=Fl.JY) (B':=B') (fun _ _ q=>q) (fun z=>(nomatch z))).rel hp (fun _ _=>True.intro) h
 rwa [kY]at this
def RelL.append:∀{xs ys:JQ}{vs us:JO}{f g:JK},RelL T F B L H xs vs f->RelL T F B L H ys us g->RelL T F B L H (xs++ys) (vs++us) (f++g)
 | [],_,_,_,_,_,h,r=>by unfold RelL at h;obtain⟨rfl,rfl⟩:=h;exact r
 |x::xs,_,_,_,_,_,h,r=>by unfold RelL at h;obtain⟨v,ws,f1,f2,rfl,h1,h2,rfl⟩:=h;show RelL T F B L H (x::(xs++_)) (v::(ws++_)) _;unfold RelL;exact⟨v,_,f1,_,rfl,h1,RelL.append h2 r,by rw[append_assoc]⟩
section
variable{X:Cx}{T:Tb}{W:Nat->St->JP}{Z:Zn}{F F1:JH}{H H1:Hp}{Y:St}{env:En}{fp:Nat->JK}
def wf
  (G:dG X.prog X.w X.K X.mg X.base (CXP X.prog X.w) k f fd ps (spM T ps.length m)) (hr:d0 k X.A) (hb:fA X.K fd ps ds) (hd:aW dvs ds) (hdp:∀F B L H,RelL T F B L H dps dvs []) (hx:XF X T W)
  (S:aD T Z F H Y env fp) (g:Gr F H F1 H1) (r:RelL T F1 Z.B (Own fp) H1 xs vs fx) (nf:∀a∈fx,¬F1 a) (nd:fx.Nodup) (new:∀a∈fx,H a=none) (q:GE T W Z.B F (Own fp) Y H Q (aL m (xs++dps)))
  (I1:L2.Inv X js Y H1 s1) (rv:aW vs us) (hlen:vs.length+dvs.length=ps.length):wpAny (model X.prog X.w) X.A (call (.ref f) us) (EP X js Y Q) X.xe s1:=by
 have r2:aW (vs++dvs) (us++ds):=rv.append hd;have hl:(us++ds).length=ps.length:=by rw[<- r2.length,length_append];exact hlen
 have rr:RelL T F1 Z.B (Own fp) H1 (xs++dps) (vs++dvs) fx:=by
  have:=RelL.append r (hdp F1 Z.B (Own fp) H1)
  rwa [append_nil]at this
 have hBo:∀a,Z.B a->(∃o,H1 a=some o)/\a∉fx:=fun a h=>by obtain⟨⟨o,h1⟩,h2⟩:=S.hp.bo.1 a h;have h3:=S.hp.keep a o h1 h2;exact⟨⟨o,g.ext a o h3⟩,fun z=>by rw[new a z]at h3;cases h3⟩
 have hOw:∀a,Own fp a->(∃o,H1 a=some o)/\a∉fx:=fun a hz1=>by obtain⟨i,hi⟩:=hz1;obtain⟨_,o,ho⟩:=S.dis i a hi;exact⟨⟨o,g.ext a o ho⟩,fun z=>by rw[new a z]at ho;cases ho⟩
 have R:sL T F1 (fun a=>(∃o,H1 a=some o)/\a∉fx) H1 (mapL Fl.JT (xs++dps)) (vs++dvs) fx:=⟨RelL.JT hBo hOw rr,nd,nf,⟨fun a h=>h,S.tbo g.ext fun a z=>.inl (new a z)⟩,g.dom⟩
 refine wpAny_call (codeAny_mono (G.run X.A X.stack s1 H1 ⟨us,[]⟩ (us ++ ds) (vs ++ dvs) Q (fun cls _ H'=>∃ c,cls=.ref (T.xcl c)/\W c Y H') hr I1.env0 (hb s1 us I1.kIn hl) r2
  ⟨by rw[r2.length,hl],_,F1,_,fx,R,?_⟩) fun rs s' hq=>?_)
 ·unfold aL at q;cases e:m (mapL Fl.JT (xs++dps))with
  |ok v=>
   rw[e]at q;dsimp only at q;intro F2 H2 u f2 hp2 r3 nd2 nf2 new2;by_cases hbr:v.has Fl.JY=true
   ·rw[if_pos hbr]at q;exact q.elim
   ·rw[if_neg hbr]at q;have hbr':v.has Fl.JY=false:=by simpa using hbr
    refine q u H2 F2 f2 ⟨fun a o h=>hp2.keep a o (g.ext a o h) fun z=>(by rw[new a z]at h;cases h),fun a h=>hp2.f0 a (g.mono a h),fun a h=>?_,hp2.ft⟩ ?_ nf2 nd2 fun a ha=>?_
    ·rcases hp2.fn a h with z|z|z
     ·exact g.only a z
     ·exact .inr (g.ext.free z)
     ·exact .inr (new a z)
    ·exact Rel.tr (fun _ h=>h) (fun _ h=>h) (fun _ h=>h.elim) (fun _ _ h _=>h) (fun _ _ _ h=>h) (Rel.noB (B':=Z.B) hbr' r3)
    ·rcases new2 a ha with z|z
     ·exact g.ext.free z
     ·exact new a z
  |exc c=>rw[e]at q;exact fun H' h=>⟨c,rfl,q H' fun a o z=>h a o (g.ext a o z) fun z'=>by rw[new a z']at z;cases z⟩
  |stuck=>rw[e]at q;exact q.elim
 ·cases rs with
  |error e=>obtain⟨cls,H',fl,c,rfl,hw⟩:=hq;exact hx js Y H1 s1 c H' e s' I1 fl hw
  |ok fl=>
   cases fl with
   |ret u=>exact I1.after hq
   |next|brk|cont=>exact False.elim hq
def As
  (G:dG X.prog X.w X.K X.mg X.base (CXP X.prog X.w) k f fd ps (spM T ps.length m)) (hr:d0 k X.A) (hg:Gl X x) (hm:X.mg x=some (.ref f)) (hk:PySem.W.keepIn X.K (.ref f)=true) (hb:fA X.K fd ps ds) (hd:aW dvs ds) (hdp:∀F B L H,RelL T F B L H dps dvs []) (hx:XF X T W)
  (hn:∀env xs,ms env=.ok xs->xs.length+dvs.length=ps.length) (ha:SA X T W (e::es) ms)
  (hdb:(x ==("__debug__":Str))=false:=by decide) (he:starEach (e::es) X.env=(false,eval e X.env)::starEach es X.env:=by rfl) (hpl:(backTo pos (starEach es X.env)).any (·.1)=false:=by rfl) :
  SE X T W (.Call (.Name x p) (e::es) [] pos) (ar (fun xs=>aL m (xs++dps)) ms):=by
 intro js s Y H Q I h;obtain⟨Z,F,env,fp,S,q⟩:=h;unfold ar at q;refine wpAny_Call_Name_kw (iZ I hg hm ?_ hdb);refine callWith_K (h₀:=X.base) I.ok.mod.kin hk (thn (ha pos js s Y H (fun vs H1=>∀ us s1,L2.Inv X js Y H1 s1->aW vs us->wpAny (model X.prog X.w) X.A (call (.ref f) us) (EP X js Y Q) X.xe s1) I
  (tA.bq S fun xs vs H1 F1 f1 e1 g1 r1 n1 d1 w1 us s1 I1 rv=>?_)) fun us s1 ⟨vs,H1,I1,r,q1⟩=>⟨I1.kIn,q1 us s1 I1 r⟩) he hpl
 rw[e1]at q;exact wf G hr hb hd hdp hx S g1 r1 n1 d1 w1 q I1 rv (by rw[<- r1.length];exact hn env xs e1)
def eO(X:Cx)(T:Tb)(k:Nat)(mn:Str)(ps:JL)(ds:JJ)(disp:Nat->Option (JQ->JR)):Prop:=
 ∀c m,c<T.nc->disp c=some m->∃f fd,BX X.K (T.cls c) mn f/\fA X.K fd ps ds/\dG X.prog X.w X.K X.mg X.base (CXP X.prog X.w) k f fd ps (spM T ps.length m)
def tN(disp:Nat->Option (JQ->JR))(dps:JQ)(o:ME)(ms:MA):ME:=fun env=>(o env).bind fun ov=>match ov with
 |.obj _ c _ _=>match disp c with
  |some m=>(ms env).bind fun xs=>aL m ((ov::xs)++ dps)
  |none=>.stuck
 |_=>.stuck
def kF(hm:∀k,T.att k≠mn):∀(ks:List Nat) (vs:JO),((ks.map T.att).zip vs).lookup mn=none
 | [],_|j::ks,[]=>rfl
 |j::ks,v::vs=>by rw[map_cons,zip_cons_cons,lookup_cons,show(mn==T.att j)=false by rw[beq_eq_false_iff_ne];exact(hm j).symm];exact kF hm ks vs
def tK
  (hK:X.K=T.K) (hc:∀c<T.nc,Cls T.K (T.cls c)) (hm:∀k,T.att k≠mn) (D:eO X T k mn ps ds disp) (e:disp c=some m) (r:Rel T F1 B L H1 (.obj fl c ks xs) v f1) (I1:L2.Inv X js Y H1 s1) (ru:bX v u)
  (h:∀a f fd,u=.ref a->PySem.W.keepIn X.K (.ref f)=true->fA X.K fd ps ds->dG X.prog X.w X.K X.mg X.base (CXP X.prog X.w) k f fd ps (spM T ps.length m)->Q (.ref f,[.ref a]) s1) :
  wpAny (model X.prog X.w) X.A (getMethod u mn pl) Q X.xe s1:=by
 unfold Rel at r;obtain⟨a,dx,vs,fp',rfl,hl,hk,hr,_,_⟩:=r;obtain⟨f,fd,M,hb,G⟩:=D c m hk.2 e;obtain rfl:u=Value.ref a:=ru;refine sk I1 hl (by rw[hK];exact hc c hk.2) M (kF hm _ _) (h a f fd rfl M.kp hb G)
def Am
  (hK:X.K=T.K) (hc:∀c<T.nc,Cls T.K (T.cls c)) (hm:∀k,T.att k≠mn) (D:eO X T k mn ps ds disp) (hr:d0 k X.A) (hd:aW dvs ds) (hdp:∀F B L H,RelL T F B L H dps dvs []) (hx:XF X T W)
  (hn:∀env xs,ms env=.ok xs->xs.length+1+dvs.length=ps.length) (ho:SE X T W o mo) (ha:SA X T W (e::es) ms)
  (hst:starEach (e::es) X.env=(false,eval e X.env)::starEach es X.env:=by rfl) (hpl:(backTo pos (starEach es X.env)).any (·.1)=false:=by rfl)
  (ht:eval (.Call (.Attribute o mn apos) (e::es) [] pos) X.env=(do
   let ov <- eval o X.env
   standAt apos.atName
   let(f,first) <- holding [ov] (getMethod ov mn pl)
   callWith pos f first (backTo pos (starEach (e::es) X.env)) (backToKw pos (keywordEach [] X.env))):=by rfl) :
  SE X T W (.Call (.Attribute o mn apos) (e::es) [] pos) (tN disp dps mo ms):=by
 intro js s Y H Q I h;obtain⟨Z,F,env,fp,S,q⟩:=h;unfold tN at q;refine methodCall_KW (pl:=pl) (thn (ho js s Y H (fun v H1=>∃ ov F1 f1,mo env=.ok ov/\Gr F H F1 H1/\Rel T F1 Z.B (Own fp) H1 ov v f1/\(∀ a ∈ f1,¬ F1 a)/\f1.Nodup/\∀ a ∈ f1,H a=none) I
  (tE.bq S fun ov v H1 F1 f1 e1 g1 r1 n1 d1 w1=>⟨ov,F1,f1,e1,g1,r1,n1,d1,w1⟩)) fun u s1 zz=>?_) ht
 obtain⟨v,H1,I1,ru,ov,F1,f1,e1,g1,r1,n1,d1,w1⟩:=zz;rw[e1]at q;simp only[Res.J2]at q;by_cases hobj:∃fl c ks xs m,ov=.obj fl c ks xs/\disp c=some m
 ·obtain⟨fl,c,ks,ys,m,rfl,em⟩:=hobj;dsimp only at q;rw[em]at q;dsimp only at q;refine tK hK hc hm D em r1 I1 ru fun a f fd eu hkp hb G=>?_;subst eu;refine callWith_K (first:=[.ref a]) (h₀:=X.base) I.ok.mod.kin hkp (thn (ha pos js s1 Y H1 (fun vs H2=>∀ us s2,L2.Inv X js Y H2 s2->aW vs us->wpAny (model X.prog X.w) X.A (call (.ref f) (.ref a::us)) (EP X js Y Q) X.xe s2) I1
   (tA.bind (S.grow g1) (fun c e=>by rw[e]at q;exact fun H' x=>q H' (g1.ext.trans x)) (fun e=>by rw[e]at q;exact q) fun xs vs H2 F2 f2 e2 g2 r2 n2 d2 w2 us s2 I2 rv=>?_)) fun us s2 ⟨vs,H2,I2,r,q2⟩=>⟨I2.kIn,q2 us s2 I2 r⟩) hst hpl
  rw[e2]at q;simp only[Res.J2]at q;have nn:∀b∈f1,¬F2 b:=fun b hb z=>by
   rcases g2.only b z with z|z
   ·exact n1 b hb z
   ·obtain⟨oo,hoo⟩:=r1.there b hb;rw[hoo]at z;cases z
  refine wf (xs:=.obj fl c ks ys::xs) (vs:=v::vs) (us:=.ref a::us) (fx:=f1++f2) G hr hb hd hdp hx S (g1.trans g2) (by unfold RelL;exact⟨v,vs,f1,f2,rfl,r1.ext g2.ext g2.mono,r2,rfl⟩) (fun b hb=>?_) ?_ (fun b hb=>?_) q I2 (.cons ru rv) ?_
  ·rcases mem_append.mp hb with hb|hb
   ·exact nn b hb
   ·exact n2 b hb
  ·refine nodup_append.mpr ⟨d1,d2,fun b hb c hc z=>?_⟩;subst z;obtain⟨oo,hoo⟩:=r1.there b hb;rw[w2 b hc]at hoo;cases hoo
  ·rcases mem_append.mp hb with hb|hb
   ·exact w1 b hb
   ·exact g1.ext.free (w2 b hb)
  ·have:=hn env xs e2;rw[length_cons,<- r2.length];exact this
 ·exfalso;cases ov with
  |obj fl c ks ys=>
   cases em:disp c with
   |none=>simp only[em]at q;exact q
   |some m=>exact hobj ⟨fl,c,ks,ys,m,rfl,em⟩
  |_=>exact q
end
def iA(ms:MA)(n:Nat):Prop:=∀env xs,ms env=.ok xs->xs.length=n
def fq:iA ak 0:=fun _ _ h=>by cases h;rfl
def ef(h:iA ms n):iA (ad m ms) (n+1):=fun env xs e=>by
 unfold ad at e;cases e1:m env with
 |ok x=>
  rw[e1]at e;simp only[Res.J2]at e;cases e2:ms env with
  |ok ys=>rw[e2]at e;simp only[Res.J2]at e;cases e;rw[length_cons,h env ys e2]
  |exc c|stuck=>rw[e2]at e;cases e
 |exc c|stuck=>rw[e1]at e;cases e
def aM:PV->Option (JQ)
 |.lst _ xs|.tup xs=>some xs
 |_=>none
section
variable{X:Cx}{T:Tb}{W:Nat->St->JP}{Z:Zn}{F F1 B L:JH}{H H1:Hp}{Y:St}{env:En}{fp:Nat->JK}{D:Ends}
def Rel.seq(r:Rel T F B L H x v fx)(e:aM x=some xs):∃a vs fx',v=.ref a/\(SqL T.K H a vs\/SqT T.K H a vs)/\RelL T F B L H xs vs fx'/\fx'.Sublist fx:=by
 cases x with
 |lst f ys=>
  cases e;unfold Rel at r;obtain⟨a,vs,fp',rfl,hl,hr,hf⟩:=r;refine⟨a,vs,fp',rfl,.inl hl.sq,hr,?_⟩;cases f with
  |own=>obtain rfl:fx=a::fp':=hf;exact List.sublist_cons_self _ _
  |frz|bor|lnt|mod=>obtain⟨rfl,rfl⟩:=hf;exact Sublist.refl _
 |tup ys=>cases e;unfold Rel at r;obtain⟨a,vs,rfl,hl,hr⟩:=r;exact⟨a,vs,fx,rfl,.inr hl,hr,Sublist.refl _⟩
 |_=>cases e
def GE.newL(q:GE T W B F L Y H Q (.ok (.lst .own ys)))(g:Gr F H F1 H1)(r:RelL T F1 B L H1 ys vs fx)(nf:∀a∈fx,¬F1 a)(nd:fx.Nodup)(new:∀a∈fx,H a=none) :
  ∀p,H1 p=none->Q (.ref p) (upd H1 p (.lst vs)):=fun p hp=>by
 refine q (.ref p) (upd H1 p (.lst vs)) F1 (p::fx) (g.trans (Gr.same g.dom (Ext.upd hp))) ?_ (fun a ha=>?_) ?_ (fun a ha=>?_)
 ·unfold Rel;exact⟨p,vs,fx,rfl,bz,r.ext (Ext.upd hp) fun _ h=>h,rfl⟩
 ·grind[cO,aD,cM,Gr]
 ·refine nodup_cons.mpr ⟨fun z=>?_,nd⟩;obtain⟨o,ho⟩:=r.there p z;rw[hp]at ho;cases ho
 ·rcases mem_cons.mp ha with rfl|ha
  ·exact g.ext.free hp
  ·exact new a ha
def GE.newT(q:GE T W B F L Y H Q (.ok (.tup ys)))(g:Gr F H F1 H1)(r:RelL T F1 B L H1 ys vs fx)(nf:∀a∈fx,¬F1 a)(nd:fx.Nodup)(new:∀a∈fx,H a=none) :
  ∀p,H1 p=none->Q (.ref p) (upd H1 p (.tup vs)):=fun p hp=>by
 refine q (.ref p) (upd H1 p (.tup vs)) F1 fx (g.trans (Gr.same g.dom (Ext.upd hp))) ?_ nf nd new;unfold Rel;exact⟨p,vs,rfl,SqT.of bz,r.ext (Ext.upd hp) fun _ h=>h⟩
def small(h:n<=1000):n<=sizeLine:=by rw[sizeLine_eq];omega
def cB(ms:MA):ME:=fun env=>(ms env).bind fun xs=>.ok (.lst .own xs)
def mW(ms:MA):ME:=fun env=>(ms env).bind fun xs=>.ok (.tup xs)
def CJ(ha:SA X T W es ms)(hn:iA ms n)(hs:n<=1000:=by decide):SE X T W (.List es pos) (cB ms):=PE.wk (C9 (pos:=pos) ha) fun Y H Q hz1=>by obtain⟨Z,F,env,fp,S,q⟩:=hz1;unfold cB at q;refine tA.bq S fun xs vs H1 F1 f1 e1 g1 r1 n1 d1 w1=>?_;rw[e1]at q;exact⟨small (by rw[<- r1.length,hn env xs e1];exact hs),GE.newL q g1 r1 n1 d1 w1⟩
def CD{x1}(ha:SA X T W es ms)(hn:iA ms n)(hs:n<=1000:=by decide):SE X T W (.Tuple es x1 pos) (mW ms):=PE.wk (wG (pos:=pos) ha) fun Y H Q hz1=>by obtain⟨Z,F,env,fp,S,q⟩:=hz1;unfold mW at q;refine tA.bq S fun xs vs H1 F1 f1 e1 g1 r1 n1 d1 w1=>?_;rw[e1]at q;exact⟨small (by rw[<- r1.length,hn env xs e1];exact hs),GE.newT q g1 r1 n1 d1 w1⟩
def p1(f:PV->JR):JQ->JR
 | [x]=>f x
 |_=>.stuck
def RelL.one(r:RelL T F B L H [x] vs f):∃v,vs=[v]/\Rel T F B L H x v f:=by unfold RelL at r;obtain⟨v,ws,f1,f2,rfl,h1,h2,rfl⟩:=r;unfold RelL at h2;obtain⟨rfl,rfl⟩:=h2;exact⟨v,rfl,by rwa [append_nil]⟩
def bV:PV->JR:=fun x=>match aM x with
 |some xs=>.ok (.int xs.length)
 |none=>.stuck
def A6(hK:X.K=T.K):Mir T W (p1 bV) (fun xs H Q=>∃p ys,xs=[.ref p]/\(SqL X.K H p ys\/SqT X.K H p ys)/\Q (.int ys.length) H):=by
 intro B F L Y H Q F' H' xs vs fx g r _ _ _ q
 match xs,r,q with
 | [x],r,q=>
  obtain⟨v,rfl,r1⟩:=r.one;simp only[p1,bV]at q;cases e:aM x with
  |none=>rw[e]at q;exact q.elim
  |some ys=>rw[e]at q;obtain⟨a,ws,fx',rfl,hs,hr,_⟩:=r1.seq e;exact⟨a,ws,rfl,by rw[hK];exact hs,q.scal g (by rw[<- hr.length];exact eM)⟩
 | [],_,q|_::_::_,_,q=>exact q.elim
def b_(hK:X.K=T.K)(hg:Gl X "len")(hm:X.mg "len"=none)(ha:SE X T W e m)(he:starEach [e] X.env=[(false,eval e X.env)]:=by rfl):SE X T W (.Call (.Name "len" p) [e] [] pos) (ar (p1 bV) (ad m ak)):=
 fj pA (A6 hK) hg hm PySem.boot_len (aa ha af he) (he:=he)
def b7:PV->JR:=fun x=>match aM x with
 |some xs=>.ok (.lst .own xs)
 |none=>.stuck
def xq(hK:X.K=T.K):Mir T W (p1 b7) (fun xs H Q=>∃p ys,xs=[.ref p]/\(SqL X.K H p ys\/SqT X.K H p ys)/\∀l,H l=none->Q (.ref l) (upd H l (.lst ys))):=by
 intro B F L Y H Q F' H' xs vs fx g r nf nd new q
 match xs,r,q with
 | [x],r,q=>
  obtain⟨v,rfl,r1⟩:=r.one;simp only[p1,b7]at q;cases e:aM x with
  |none=>rw[e]at q;exact q.elim
  |some ys=>rw[e]at q;obtain⟨a,ws,fx',rfl,hs,hr,sl⟩:=r1.seq e;exact⟨a,ws,rfl,by rw[hK];exact hs,GE.newL q g hr (fun b hb=>nf b (sl.subset hb)) (nd.sublist sl) (fun b hb=>new b (sl.subset hb))⟩
 | [],_,q|_::_::_,_,q=>exact q.elim
def cQ(hK:X.K=T.K)(hg:Gl X "list")(hm:X.mg "list"=none)(hv:bootBuiltins "list"=some (.type "list"))(ha:SE X T W e m)(he:starEach [e] X.env=[(false,eval e X.env)]:=by rfl):SE X T W (.Call (.Name "list" p) [e] [] pos) (ar (p1 b7) (ad m ak)):=
 j1 pz (xq hK) hg hm hv (aa ha af he) (he:=he)
def dA:PV->JR:=fun x=>match aM x with
 |some xs=>.ok (.tup xs)
 |none=>.stuck
def uY(hK:X.K=T.K):Mir T W (p1 dA) (fun xs H Q=>∃p ys,xs=[.ref p]/\((SqL X.K H p ys/\∀l,H l=none->Q (.ref l) (upd H l (.tup ys)))\/(SqT X.K H p ys/\Q (.ref p) H))):=by
 intro B F L Y H Q F' H' xs vs fx g r nf nd new q
 match xs,r,q with
 | [x],r,q=>
  obtain⟨v,rfl,r1⟩:=r.one;simp only[p1,dA]at q;cases x with
  |lst f ys=>
   simp only[aM]at q;unfold Rel at r1;obtain⟨a,ws,fp',rfl,hl,hr,hf⟩:=r1;have sl:fp'.Sublist fx:=by
    cases f with
    |own=>obtain rfl:fx=a::fp':=hf;exact List.sublist_cons_self _ _
    |frz|bor|lnt|mod=>obtain⟨rfl,rfl⟩:=hf;exact Sublist.refl _
   exact⟨a,ws,rfl,.inl ⟨by rw[hK];exact hl.sq,GE.newT q g hr (fun b hb=>nf b (sl.subset hb)) (nd.sublist sl) (fun b hb=>new b (sl.subset hb))⟩⟩
  |tup ys=>simp only[aM]at q;have r2:=r1;unfold Rel at r2;obtain⟨a,ws,rfl,hs,hr⟩:=r2;exact⟨a,ws,rfl,.inr ⟨by rw[hK];exact hs,q _ _ _ fx g r1 nf nd new⟩⟩
  |_=>exact q.elim
 | [],_,q|_::_::_,_,q=>exact q.elim
def fR(hK:X.K=T.K)(hg:Gl X "tuple")(hm:X.mg "tuple"=none)(hv:bootBuiltins "tuple"=some (.type "tuple"))(ha:SE X T W e m)(he:starEach [e] X.env=[(false,eval e X.env)]:=by rfl):SE X T W (.Call (.Name "tuple" p) [e] [] pos) (ar (p1 dA) (ad m ak)):=
 j1 m_ (uY hK) hg hm hv (aa ha af he) (he:=he)
def aQ:PV->PV->JR
 |x,.int i=>match aM x with
  |some xs=>match atI xs i with
   |some y=>if x.has Fl.JW&&y.has Fl.JW then .stuck else .ok y
   |none=>.stuck
  |none=>.stuck
 |_,_=>.stuck
def uk(r:RelL T F B L H xs vs f)(e:atI xs i=some y):∃v f',atI vs i=some v/\Rel T F B L H y v f'/\f'.Sublist f:=by
 unfold atI at e ⊢;rw[<- r.length];cases e1:ixN xs.length i with
 |none=>rw[e1]at e;cases e
 |some j=>rw[e1]at e;exact r.get e
def A7(hK:X.K=T.K):jw T W aQ (fun x y H Q=>AF X.K x y H Q \/(AD X.K x y H Q\/AE x y H Q)):=by
 intro B F L Y H Q F' H' x y v u fx fy g rx ry nf nd new q;cases y with
 |int i=>
  unfold Rel at ry;obtain⟨rfl,rfl⟩:=ry;simp only[aQ]at q;cases e:aM x with
  |none=>rw[e]at q;exact q.elim
  |some xs=>
   rw[e]at q;dsimp only at q;obtain⟨a,ws,fx',rfl,hs,hr,sl⟩:=rx.seq e;cases e2:atI xs i with
   |none=>rw[e2]at q;exact q.elim
   |some z=>
    rw[e2]at q;dsimp only at q;obtain⟨w,f',h1,h2,h3⟩:=uk hr e2;have e0:f'=[]:=by
     by_cases ho:x.has Fl.JW=true
     ·by_cases hz:z.has Fl.JW=true
      ·rw[ho,hz]at q;exact q.elim
      ·exact Rel.J1 (by simpa using hz) h2
     ·have:=Rel.J1 (by simpa using ho) rx;subst this;exact List.sublist_nil.mp (h3.trans sl)
    subst e0;by_cases hb:(x.has Fl.JW&&z.has Fl.JW)=true
    ·rw[if_pos hb]at q;exact q.elim
    ·rw[if_neg hb]at q;rcases hs with hs|hs
     ·exact .inl ⟨a,ws,i,w,rfl,rfl,by rw[hK];exact hs,h1,q.scal g h2⟩
     ·exact .inr (.inl ⟨a,ws,i,w,rfl,rfl,by rw[hK];exact hs,h1,q.scal g h2⟩)
 |_=>exact q.elim
def CK(hK:X.K=T.K)(ha:SE X T W a ma)(hb:SE X T W b mb)(hs:i6 b):SE X T W (.Subscript a b pos) (mOp aQ ma mb):=
 B4 xL (A7 hK) ha hb hs
abbrev MO:=En->Res (JM)
def dr:MO:=fun _=>.ok none
def eG(m:ME):MO:=fun env=>(m env).bind fun
 |.int i=>.ok (some i)
 |_=>.stuck
def gS(xs:JQ)(lo hi:JM):JQ:=(xs.drop (HT.sIx xs.length 0 lo)).take (HT.sIx xs.length xs.length hi-HT.sIx xs.length 0 lo)
def dB(o:ME)(lo hi:MO):ME:=fun env=>(o env).bind fun x=>(lo env).bind fun l=>(hi env).bind fun h=>match x with
 |.lst _ xs=>.ok (.lst .own (gS xs l h))
 |_=>.stuck
def RelL.drop:∀{xs:JQ}{vs:JO}{f:JK} (n:Nat),RelL T F B L H xs vs f->∃f',RelL T F B L H (xs.drop n) (vs.drop n) f'/\f'.Sublist f
 |xs,vs,f,0,h=>⟨f,h,Sublist.refl _⟩
 | [],vs,f,n+1,h=>by unfold RelL at h;obtain⟨rfl,rfl⟩:=h;exact⟨[],by simp[RelL],Sublist.refl _⟩
 |x::xs,_,_,n+1,h=>by unfold RelL at h;obtain⟨v,ws,f1,f2,rfl,h1,h2,rfl⟩:=h;obtain⟨f',r,s⟩:=RelL.drop n h2;exact⟨f',by simpa using r,s.trans (List.sublist_append_right _ _)⟩
def RelL.take:∀{xs:JQ}{vs:JO}{f:JK} (n:Nat),RelL T F B L H xs vs f->∃f',RelL T F B L H (xs.take n) (vs.take n) f'/\f'.Sublist f
 |xs,vs,f,0,h=>⟨[],by simp[RelL],List.nil_sublist _⟩
 | [],vs,f,n+1,h=>by unfold RelL at h;obtain⟨rfl,rfl⟩:=h;exact⟨[],by simp[RelL],Sublist.refl _⟩
 |x::xs,_,_,n+1,h=>by unfold RelL at h;obtain⟨v,ws,f1,f2,rfl,h1,h2,rfl⟩:=h;obtain⟨f',r,s⟩:=RelL.take n h2;refine⟨f1++f',?_,Sublist.append (Sublist.refl _) s⟩;rw[List.take_succ_cons,List.take_succ_cons];unfold RelL;exact⟨v,_,f1,f',rfl,h1,r,rfl⟩
def tO(T:Tb)(W:Nat->St->JP)(m:MO):TO:=fun Y H Q=>∃Z F env fp,aD T Z F H Y env fp/\match m env with
 |.ok o=>∀H' F',Gr F H F' H'->Q o H'
 |.exc c=>∀H',Ext H H'->W c Y H'
 |.stuck=>False
abbrev SO(X:Cx)(T:Tb)(W:Nat->St->JP)(e:Option Expr)(m:MO):Prop:=PO X e (tO T W m)
def gh:SO X T W none dr:=fun js s Y H Q I ⟨Z,F,env,fp,S,q⟩=>AN js s Y H Q I (q H F (Gr.refl S.hp.ft))
def fe(h:SE X T W e m):SO X T W (some e) (eG m):=fun js s Y H Q I ⟨Z,F,env,fp,S,q⟩=>AM h js s Y H Q I (by
 unfold eG at q;refine tE.bq S fun x v H1 F1 f1 e1 g1 r1 n1 d1 w1=>?_;rw[e1]at q;cases x with
 |int i=>unfold Rel at r1;exact⟨i,r1.1,q H1 F1 g1⟩
 |_=>exact q.elim)
def eB(hK:X.K=T.K)(he:SE X T W e m)(hl:SO X T W lo ml)(hu:SO X T W hi mh):SE X T W (.Subscript e (.Slice lo hi none p2) pos) (dB m ml mh):=
 PE.wk (wH (pos:=pos) (p2:=p2) Ae he hl hu) fun Y H Q hz1=>by
  obtain⟨Z,F,env,fp,S,q⟩:=hz1;unfold dB at q;refine tE.bq S fun x v H1 F1 f1 e1 g1 r1 n1 d1 w1=>?_;rw[e1]at q;simp only[Res.J2]at q;refine⟨Z,F1,env,fp,S.grow g1,?_⟩;cases e2:ml env with
  |exc c=>rw[e2]at q;exact fun H' x=>q H' (g1.ext.trans x)
  |stuck=>rw[e2]at q;exact q
  |ok l=>
   rw[e2]at q;intro H2 F2 g2;refine⟨Z,F2,env,fp,(S.grow g1).grow g2,?_⟩;simp only[Res.J2]at q;cases e3:mh env with
   |exc c=>rw[e3]at q;exact fun H' x=>q H' ((g1.ext.trans g2.ext).trans x)
   |stuck=>rw[e3]at q;exact q
   |ok h=>
    rw[e3]at q;intro H3 F3 g3;simp only[Res.J2]at q;cases x with
    |lst f xs=>
     have g:=(g1.trans g2).trans g3;have r3:=(r1.ext (g2.trans g3).ext (g2.trans g3).mono)
     have nf3:∀a∈f1,¬F3 a:=fun a ha z=>by
      rcases(g2.trans g3).only a z with z|z
      ·exact n1 a ha z
      ·obtain⟨o,ho⟩:=r1.there a ha;rw[ho]at z;cases z
     unfold Rel at r3;obtain⟨a,ws,fp',rfl,hll,hr,hf⟩:=r3;have sl:fp'.Sublist f1:=by
      cases f with
      |own=>obtain rfl:f1=a::fp':=hf;exact List.sublist_cons_self _ _
      |frz|bor|lnt|mod=>obtain⟨rfl,rfl⟩:=hf;exact Sublist.refl _
     obtain⟨f4,h4,s4⟩:=RelL.drop (HT.sIx xs.length 0 l) hr;obtain⟨f5,h5,s5⟩:=RelL.take (HT.sIx xs.length xs.length h-HT.sIx xs.length 0 l) h4;have sl2:=(s5.trans s4).trans sl;refine⟨a,ws,rfl,by rw[hK];exact hll.sq,?_⟩;unfold yQ;rw[<- hr.length];exact GE.newL q g h5 (fun b hb=>nf3 b (sl2.subset hb)) (d1.sublist sl2) (fun b hb=>w1 b (sl2.subset hb))
    |_=>exact q.elim
def B7(K:PySem.W.Frag):R2:=fun x y H Q=>∃l b xs zs,x=.ref l/\y=.ref b/\Rd H l (.lst xs)/\Rd H b (.lst zs)/\xs.length+zs.length<=sizeLine/\∀p,H p=none->Q (.ref p) (upd H p (.lst (xs++zs)))
def AY:OpR X (binaryOp .Add) (B7 K):=by
 intro js s Y H x y v u Q I rx ry h;obtain⟨l,b,xs,zs,rfl,rfl,hH,hB,hz,q⟩:=h;cases rx;cases ry;obtain⟨z,its,n,r,e⟩:=hH.ok I.hok;obtain⟨z2,its2,n2,r2,e2⟩:=hB.ok I.hok;have hl:=r.length;have hl2:=r2.length;refine PySem.P.add_list e e2 ?_ (by rw[size_toArray,size_toArray];omega);have ea:its.toArray++its2.toArray=(its++its2).toArray:=by simp
 rw[ea];exact⟨.ref _,_,I.lnew (t':=s.toks) (r.append r2) (by rw[length_append];omega),rfl,q _ I.fresh⟩
def aK:PV->PV->JR
 |.int i,.int j=>.ok (.int (i+j))
 |.lst f xs,.lst g ys=>if f=.mod\/g=.mod\/¬xs.length+ys.length<=10000000 then .stuck else .ok (.lst .own (xs++ys))
 |_,_=>.stuck
def mO.rd(h:mO T F B L H f a vs)(n:f≠.mod):Rd H a (.lst vs):=by
 cases f with
 |own=>exact .inl h
 |lnt=>exact .inl h.2
 |frz|bor=>exact h.2
 |mod=>exact absurd rfl n
def qS.sub(hf:qS f a fp' fx):fp'.Sublist fx:=by
 cases f with
 |own=>obtain rfl:fx=a::fp':=hf;exact List.sublist_cons_self _ _
 |frz|bor|lnt|mod=>obtain⟨rfl,rfl⟩:=hf;exact Sublist.refl _
def xm:jw T W aK (fun x y H Q=>(rI0 fun i j=>.int (i+j)) x y H Q\/B7 T.K x y H Q):=by
 intro B F L Y H Q F' H' x y v u fx fy g rx ry nf nd new q;cases x with
 |int i=>
  cases y with
  |int j=>unfold Rel at rx ry;exact .inl ⟨i,j,rx.1,ry.1,q.scal g eM⟩
  |_=>exact q.elim
 |lst f xs=>
  cases y with
  |lst f' ys=>
   simp only[aK]at q;by_cases hc:f=.mod\/f'=.mod\/¬xs.length+ys.length<=10000000
   ·rw[if_pos hc]at q;exact q.elim
   ·rw[if_neg hc]at q;unfold Rel at rx ry;obtain⟨a,vs,fp1,rfl,hl1,hr1,hf1⟩:=rx;obtain⟨b,us,fp2,rfl,hl2,hr2,hf2⟩:=ry;have sl:=Sublist.append hf1.sub hf2.sub;have h3:xs.length+ys.length<=10000000:=by
     rcases Nat.lt_or_ge 10000000 (xs.length+ys.length)with z|z
     ·exact absurd (.inr (.inr (by omega))) hc
     ·exact z
    refine .inr ⟨a,b,vs,us,rfl,rfl,hl1.rd fun z=>hc (.inl z),hl2.rd fun z=>hc (.inr (.inl z)),by rw[<- hr1.length,<- hr2.length,sizeLine_eq];omega,?_⟩;exact GE.newL q g (RelL.append hr1 hr2) (fun b hb=>nf b (sl.subset hb)) (nd.sublist sl) (fun b hb=>new b (sl.subset hb))
  |_=>exact q.elim
 |_=>exact q.elim
def OpR.or(h:OpR X f r)(h':OpR X f r'):OpR X f (fun x y H Q=>r x y H Q\/r' x y H Q):=by
 intro js s Y H x y v u Q I rx ry q;rcases q with q|q
 ·exact h js s Y H x y v u Q I rx ry q
 ·exact h' js s Y H x y v u Q I rx ry q
def aP(ha:SE X T W a ma)(hb:SE X T W b mb):SE X T W (.BinOp a .Add b pos) (mOp aK ma mb):=jc (OpR.or Dm AY) xm ha hb
end
mutual
def PV.data:PV->PyData
 |.non=>.none
 |.bl b=>.bool b
 |.int i=>.int i
 |.str x=>.str x
 |.lst _ xs=>.list (dataL xs)
 |.tup xs=>.tuple (dataL xs)
 |.obj _ _ _ _|.exc _|.box _ _=>.dict []
def dataL:JQ->List PyData
 | []=>[]
 |x::xs=>x.data::dataL xs
end
def shp(x:PV):Bool:=SeqAt.shaped x.data
section
variable{X:Cx}{T:Tb}{W:Nat->St->JP}{Z:Zn}{F F1 B L:JH}{H H1:Hp}{Y:St}{env:En}{fp:Nat->JK}{D:Ends}{js:JG}{s:Shared}
mutual
def Rel.reads(hK:X.K=T.K)(I:L2.Inv X js Y H s):∀{x:PV}{v:V}{f:JK}{u:Value},Rel T F B L H x v f->bX v u->x.data.canLay0=true->∃as,Reads s.heap u x.data as
 |.non,_,_,_,r,ru,_=>by unfold Rel at r;obtain⟨rfl,_⟩:=r;cases ru;exact⟨[],.none⟩
 |.bl b,_,_,_,r,ru,_=>by unfold Rel at r;obtain⟨rfl,_⟩:=r;cases ru;exact⟨[],.bool b⟩
 |.int i,_,_,_,r,ru,_=>by unfold Rel at r;obtain⟨rfl,_⟩:=r;obtain⟨t,rfl⟩:=ru;exact⟨[],.int i t⟩
 |.str x,_,_,_,r,ru,_=>by unfold Rel at r;obtain⟨rfl,_⟩:=r;obtain⟨t,rfl⟩:=ru;exact⟨[],.str x t⟩
 |.lst f xs,_,_,_,r,ru,hc=>by unfold Rel at r;obtain⟨a,vs,fp',rfl,hl,hr,_⟩:=r;cases ru;obtain⟨its,rv,⟨o,n,ho,hcl,_,hd⟩,_⟩:=I.list (by rw[hK];exact hl.sq);obtain⟨as,ra⟩:=RelL.reads hK I hr rv (by simpa[PV.data,PyData.canLay0]using hc);exact⟨_,.list ho hcl hd (by simpa using ra)⟩
 |.tup xs,_,_,_,r,ru,hc=>by unfold Rel at r;obtain⟨a,vs,rfl,hl,hr⟩:=r;cases ru;obtain⟨its,rv,⟨o,ho,hcl,n,hd⟩,_⟩:=I.tuple (by rw[hK];exact hl);obtain⟨as,ra⟩:=RelL.reads hK I hr rv (by simpa[PV.data,PyData.canLay0]using hc);exact⟨_,.tuple ho hcl hd (by simpa using ra)⟩
 |.obj _ _ _ _,_,_,_,_,_,hc|.exc _,_,_,_,_,_,hc|.box _ _,_,_,_,_,_,hc=>by simp[PV.data,PyData.canLay0]at hc
def RelL.reads(hK:X.K=T.K)(I:L2.Inv X js Y H s):∀{xs:JQ}{vs:JO}{f:JK}{us:JJ},RelL T F B L H xs vs f->aW vs us->PyData.canLayAll0 (dataL xs)=true->∃as,ReadsAll s.heap us (dataL xs) as
 | [],_,_,_,r,ru,_=>by unfold RelL at r;obtain⟨rfl,_⟩:=r;cases ru;exact⟨[],.nil⟩
 |x::xs,_,_,_,r,ru,hc=>by
  unfold RelL at r;obtain⟨v,ws,f1,f2,rfl,h1,h2,_⟩:=r;cases ru with
  |cons r1 r2=>simp only[dataL,PyData.canLayAll0,and_eq_true]at hc;obtain⟨as,ra⟩:=Rel.reads hK I h1 r1 hc.1;obtain⟨bs,rb⟩:=RelL.reads hK I h2 r2 hc.2;exact⟨_,.cons ra rb⟩
end
def pEq:PV->PV->JR:=fun x y=>if shp x&&shp y then .ok (.bl (PyData.eqv x.data y.data))else .stuck
def pNe:PV->PV->JR:=fun x y=>if shp x&&shp y then .ok (.bl (!PyData.eqv x.data y.data))else .stuck
def wv(X:Cx)(T:Tb)(g:PyData->PyData->Bool):R2:=fun v u H Q=>∃x y F B L fx fy,Rel T F B L H x v fx/\Rel T F B L H y u fy/\shp x=true/\shp y=true/\Q (.bl (g x.data y.data)) H
def wR(hK:X.K=T.K)(hu:X.A.units+64<cLine):OpR X (compareOp .Eq) (wv X T fun a b=>PyData.eqv a b):=by intro js s Y H v u v' u' Q I rv ru h;obtain⟨x,y,F,B,L,fx,fy,rx,ry,hx,hy,q⟩:=h;obtain⟨as,ra⟩:=rx.reads hK I rv (SeqAt.canLay_of_shaped hx);obtain⟨bs,rb⟩:=ry.reads hK I ru (SeqAt.canLay_of_shaped hy);exact PyProof.Rows.eq_dataH ra rb hx hy hu ⟨.bl _,H,I,rfl,q⟩
def wP(hK:X.K=T.K)(hu:X.A.units+64<cLine):OpR X (compareOp .NotEq) (wv X T fun a b=>!PyData.eqv a b):=by intro js s Y H v u v' u' Q I rv ru h;obtain⟨x,y,F,B,L,fx,fy,rx,ry,hx,hy,q⟩:=h;obtain⟨as,ra⟩:=rx.reads hK I rv (SeqAt.canLay_of_shaped hx);obtain⟨bs,rb⟩:=ry.reads hK I ru (SeqAt.canLay_of_shaped hy);exact PyProof.Rows.ne_dataH ra rb hx hy hu ⟨.bl _,H,I,rfl,q⟩
def jM:jw T W (fun x y=>if shp x&&shp y then .ok (.bl (g x.data y.data))else .stuck) (wv X T g):=by
 intro B F L Y H Q F' H' x y v u fx fy gr rx ry nf nd new q;dsimp only at q;by_cases hc:(shp x&&shp y)=true
 ·rw[if_pos hc]at q;rw[and_eq_true]at hc;exact⟨x,y,F',B,L,fx,fy,rx,ry,hc.1,hc.2,q.scal gr jk⟩
 ·rw[if_neg hc]at q;exact q.elim
variable{a b:Expr}{ma mb:ME}{pos:Pos}
def jd(hK:X.K=T.K)(hu:X.A.units+64<cLine)(ha:SE X T W a ma)(hb:SE X T W b mb):SE X T W (.Compare a [.Eq] [b] pos) (mOp pEq ma mb):=rE (wR hK hu) jM ha hb (ig _)
def sO(hK:X.K=T.K)(hu:X.A.units+64<cLine)(ha:SE X T W a ma)(hb:SE X T W b mb):SE X T W (.Compare a [.NotEq] [b] pos) (mOp pNe ma mb):=rE (wP hK hu) (jM (g:=fun a b=>!PyData.eqv a b)) ha hb (ig _)
def cE(hK:X.K=T.K)(hu:X.A.units+64<cLine)(ha:SE X T W a ma)(hb:SE X T W b mb):ST X T W (.Compare a [.Eq] [b] pos) (aw (mOp pEq ma mb)):=gX (wR hK hu) jM ha hb (ig _)
def iB(hK:X.K=T.K)(hu:X.A.units+64<cLine)(ha:SE X T W a ma)(hb:SE X T W b mb):ST X T W (.Compare a [.NotEq] [b] pos) (aw (mOp pNe ma mb)):=gX (wP hK hu) (jM (g:=fun a b=>!PyData.eqv a b)) ha hb (ig _)
def fh(ha:SE X T W a ma)(hb:SE X T W b mb):ST X T W (.Compare a [.Lt] [b] pos) (aw (mOp pLt ma mb)):=gX GQ (lP fun _ _ _ _ _ _=>jk) ha hb (ig _)
def gI(ha:SE X T W a ma)(hb:SE X T W b mb):ST X T W (.Compare a [.Gt] [b] pos) (aw (mOp pGt ma mb)):=gX GR (lP fun _ _ _ _ _ _=>jk) ha hb (ig _)
def nB(ha:SE X T W a ma)(hb:SE X T W b mb):ST X T W (.Compare a [.GtE] [b] pos) (aw (mOp pGe ma mb)):=gX GU (lP fun _ _ _ _ _ _=>jk) ha hb (ig _)
def inL(x:PV)(ys:JQ):Bool:=ys.any fun y=>PyData.eqv y.data x.data
def pIn:PV->PV->JR:=fun x y=>match aM y with
 |some ys=>if shp x&&ys.all shp then .ok (.bl (inL x ys))else .stuck
 |none=>.stuck
def j8:PV->PV->JR:=fun x y=>match aM y with
 |some ys=>if shp x&&ys.all shp then .ok (.bl (!inL x ys))else .stuck
 |none=>.stuck
def qt(hK:X.K=T.K)(I:L2.Inv X js Y H s)(hu:A.units+64<cLine)(rx:Rel T F B L H x v fx)(ry:Rel T F B L H y u fy)(rv:bX v v')(ru:bX u u')(hx:shp x=true)(hy:shp y=true) :
  SeqAt.EqAt A s v' u' (PyData.eqv x.data y.data):=by
 obtain⟨as,ra⟩:=rx.reads hK I rv (SeqAt.canLay_of_shaped hx);obtain⟨bs,rb⟩:=ry.reads hK I ru (SeqAt.canLay_of_shaped hy);exact SeqAt.eqAt_reads _ _ A s v' u' as bs ra rb (SeqAt.canLay_of_shaped hx) (SeqAt.canLay_of_shaped hy) (SeqAt.room_of_shaped hx hu)
def jS(hK:X.K=T.K)(I:L2.Inv X js Y H s)(hu:A.units+64<cLine)(rx:Rel T F B L H x v fx)(rv:bX v v')(hx:shp x=true) :
  ∀{ys:JQ}{us:JO}{fy:JK}{us':JJ},RelL T F B L H ys us fy->aW us us'->ys.all shp=true->∃e:Value->Bool,(∀w∈us',SeqAt.EqAt A s w v' (e w))/\us'.any e=inL x ys:=by
 intro ys us fy us' r rv' hs;have one:∀(ys:JQ) (us:JO) (fy:JK) (us':JJ),RelL T F B L H ys us fy->aW us us'->ys.all shp=true->∀w∈us',∃b,SeqAt.EqAt A s w v' b/\(b=true->inL x ys=true):=by
  intro ys
  induction ys with
  |nil=>intro us fy us' r rv' _ w hw;unfold RelL at r;obtain⟨rfl,_⟩:=r;cases rv';cases hw
  |cons y ys ih=>
   intro us fy us' r rv' hs w hw;unfold RelL at r;obtain⟨u,ws,f1,f2,rfl,h1,h2,_⟩:=r;cases rv' with
   |cons r1 r2=>
    rw[all_cons,and_eq_true]at hs;rcases mem_cons.mp hw with rfl|hw
    ·exact⟨_,qt hK I hu h1 rx r1 rv hs.1 hx,fun z=>by simp[inL,z]⟩
    ·obtain⟨b,h3,h4⟩:=ih ws f2 _ h2 r2 hs.2 w hw;exact⟨b,h3,fun z=>by have:=h4 z;unfold inL at this ⊢;simp[this]⟩
 have some_:∀(ys:JQ) (us:JO) (fy:JK) (us':JJ),RelL T F B L H ys us fy->aW us us'->ys.all shp=true->inL x ys=true->∃w∈us',SeqAt.EqAt A s w v' true:=by
  intro ys
  induction ys with
  |nil=>intro us fy us' r rv' _ h;simp[inL]at h
  |cons y ys ih=>
   intro us fy us' r rv' hs h;unfold RelL at r;obtain⟨u,ws,f1,f2,rfl,h1,h2,_⟩:=r;cases rv' with
   |cons r1 r2=>
    rw[all_cons,and_eq_true]at hs;by_cases hy:PyData.eqv y.data x.data=true
    ·refine⟨_,mem_cons_self,?_⟩;have:=qt hK I hu h1 rx r1 rv hs.1 hx
     rwa [hy]at this
    ·have h':inL x ys=true:=by unfold inL at h ⊢;rw[List.any_cons]at h;simpa[hy]using h
     grind
 by_cases hin:inL x ys=true
 ·obtain⟨w0,hw0,q0⟩:=some_ ys us fy us' r rv' hs hin;refine⟨fun w=>@decide (SeqAt.EqAt A s w v' true) (Classical.propDecidable _),fun w hw=>?_,?_⟩
  ·obtain⟨b,h1,_⟩:=one ys us fy us' r rv' hs w hw;by_cases ht:SeqAt.EqAt A s w v' true
   ·simp only[ht,decide_true]
   ·simp only[ht,decide_false];cases b with
    |true=>exact absurd h1 ht
    |false=>exact h1
  ·rw[hin,any_eq_true];exact⟨w0,hw0,by simp[q0]⟩
 ·have hin':inL x ys=false:=by simpa using hin
  refine⟨fun _=>false,fun w hw=>?_,by rw[hin'];simp⟩
  grind
def CT(X:Cx)(T:Tb)(neg:Bool):R2:=fun v u H Q=>∃x ys a vs F B L fx fy,u=.ref a/\(SqL T.K H a vs\/SqT T.K H a vs)/\Rel T F B L H x v fx/\RelL T F B L H ys vs fy/\shp x=true/\ys.all shp=true/\Q (.bl (if neg then !inL x ys else inL x ys)) H
def wQ(hK:X.K=T.K)(hu:X.A.units+66<cLine):OpR X (compareOp .In) (CT X T false):=by
 intro js s Y H v u v' u' Q I rv ru h;obtain⟨x,ys,a,vs,F,B,L,fx,fy,rfl,hs,rx,ry,hx,hy,q⟩:=h;cases ru;have hu1:X.A.in1.units+64<cLine:=by show X.A.units+1+64<cLine;omega
 rcases hs with hs|hs
 ·obtain⟨its,r,pl,_⟩:=I.list (by rw[hK];exact hs);obtain⟨e,h1,h2⟩:=jS hK I hu1 rx rv hx ry r hy;refine SeqAt.in_listAt e pl.isList (fun w hw=>h1 w (by simpa using hw)) ⟨.bl _,H,I,rfl,?_⟩;rw[show its.toArray.any e=its.any e by simp,h2];exact q
 ·obtain⟨its,r,pl,_⟩:=I.tuple (by rw[hK];exact hs);obtain⟨e,h1,h2⟩:=jS hK I hu1 rx rv hx ry r hy;refine SeqAt.in_tupleAt e pl (fun w hw=>h1 w (by simpa using hw)) ⟨.bl _,H,I,rfl,?_⟩;rw[show its.toArray.any e=its.any e by simp,h2];exact q
def uS(hK:X.K=T.K)(hu:X.A.units+66<cLine):OpR X (compareOp .NotIn) (CT X T true):=by
 intro js s Y H v u v' u' Q I rv ru h;obtain⟨x,ys,a,vs,F,B,L,fx,fy,rfl,hs,rx,ry,hx,hy,q⟩:=h;cases ru;have hu1:X.A.in1.units+64<cLine:=by show X.A.units+1+64<cLine;omega
 rcases hs with hs|hs
 ·obtain⟨its,r,pl,_⟩:=I.list (by rw[hK];exact hs);obtain⟨e,h1,h2⟩:=jS hK I hu1 rx rv hx ry r hy;refine SeqAt.notIn_listAt e pl.isList (fun w hw=>h1 w (by simpa using hw)) ⟨.bl _,H,I,rfl,?_⟩;rw[show its.toArray.any e=its.any e by simp,h2];exact q
 ·obtain⟨its,r,pl,_⟩:=I.tuple (by rw[hK];exact hs);obtain⟨e,h1,h2⟩:=jS hK I hu1 rx rv hx ry r hy;refine SeqAt.notIn_tupleAt e pl (fun w hw=>h1 w (by simpa using hw)) ⟨.bl _,H,I,rfl,?_⟩;rw[show its.toArray.any e=its.any e by simp,h2];exact q
def rT:jw T W (fun x y=>match aM y with
 |some ys=>if shp x&&ys.all shp then .ok (.bl (if neg then !inL x ys else inL x ys))else .stuck
 |none=>.stuck) (CT X T neg):=by
 intro B F L Y H Q F' H' x y v u fx fy gr rx ry nf nd new q;dsimp only at q;cases e:aM y with
 |none=>rw[e]at q;exact q.elim
 |some ys=>
  rw[e]at q;dsimp only at q;by_cases hc:(shp x&&ys.all shp)=true
  ·rw[if_pos hc]at q;rw[and_eq_true]at hc;obtain⟨a,ws,f',rfl,hs,hr,_⟩:=ry.seq e;exact⟨x,ys,a,ws,F',B,L,fx,f',rfl,hs,rx,hr,hc.1,hc.2,q.scal gr jk⟩
  ·rw[if_neg hc]at q;exact q.elim
def wa(hK:X.K=T.K)(hu:X.A.units+66<cLine)(ha:SE X T W a ma)(hb:SE X T W b mb)(hk:behindInMarks .In b=false:=by with_unfolding_all rfl):SE X T W (.Compare a [.In] [b] pos) (mOp pIn ma mb):=rE (wQ hK hu) (rT (neg:=false)) ha hb hk
def jb(hK:X.K=T.K)(hu:X.A.units+66<cLine)(ha:SE X T W a ma)(hb:SE X T W b mb)(hk:behindInMarks .In b=false:=by with_unfolding_all rfl):ST X T W (.Compare a [.In] [b] pos) (aw (mOp pIn ma mb)):=gX (wQ hK hu) (rT (neg:=false)) ha hb hk
def v4(hK:X.K=T.K)(hu:X.A.units+66<cLine)(ha:SE X T W a ma)(hb:SE X T W b mb)(hk:behindInMarks .NotIn b=false:=by with_unfolding_all rfl):ST X T W (.Compare a [.NotIn] [b] pos) (aw (mOp j8 ma mb)):=gX (uS hK hu) (rT (neg:=true)) ha hb hk
def PV.isNon:PV->Bool
 |.non=>true
 |_=>false
def je:PV->PV->JR
 |x,.non=>.ok (.bl (!x.isNon))
 |_,_=>.stuck
def Rel.isNon(r:Rel T F B L H x v f):decide (v=.non)=x.isNon:=by
 cases x with
 |non|bl b|int i|str i=>unfold Rel at r;rw[r.1];rfl
 |lst f xs=>unfold Rel at r;obtain⟨a,_,_,rfl,_⟩:=r;rfl
 |tup xs=>unfold Rel at r;obtain⟨a,_,rfl,_⟩:=r;rfl
 |obj f c ks xs=>unfold Rel at r;obtain⟨a,_,_,_,rfl,_⟩:=r;rfl
 |exc c=>unfold Rel at r;obtain⟨a,rfl,_⟩:=r;rfl
 |box k xs=>unfold Rel at r;obtain⟨a,vs,rfl,_⟩:=r;rfl
def xo:jw T W je (fun x y H Q=>y=.non/\Q (.bl (!decide (x=.non))) H):=by
 intro B F L Y H Q F' H' x y v u fx fy gr rx ry nf nd new q;cases y with
 |non=>unfold Rel at ry;refine⟨ry.1,?_⟩;rw[rx.isNon];exact GE.scal (pv:=.bl (!x.isNon)) (by simpa[je]using q) gr jk
 |_=>simp only[je]at q;exact q.elim
def sN(ha:SE X T W a ma)(hb:SE X T W b mb):ST X T W (.Compare a [.IsNot] [b] pos) (aw (mOp je ma mb)):=gX AW xo ha hb (ig _)
end
abbrev TgM:=PV->En->Option En
abbrev sI:=JQ->En->Option En
def tgN(i:Nat):TgM:=fun v env=>if aT i env then some (env.set i (some v))else none
def ja:sI:=fun vs env=>match vs with
 | []=>some env
 |_=>none
def cN(t:TgM)(u:sI):sI:=fun vs env=>match vs with
 |v::r=>match t v env with
  |some e=>u r e
  |none=>none
 | []=>none
def tgT(n:Nat)(u:sI):TgM:=fun v env=>match v with
 |.tup xs=>if xs.length=n then u xs env else none
 |_=>none
structure vP(Z:Zn)(F:JH)(fp:Nat->JK)(f:JK):Prop where
 nd:f.Nodup
 nf:∀a∈f,¬F a
 new:∀a∈f,Z.H0 a=none\/Z.fp0 a
 dj:∀a∈f,∀j,a∉fp j
def vP.nil:vP Z F fp []:=⟨nodup_nil,fun _ z=>(nomatch z),fun _ z=>(nomatch z),fun _ z=>(nomatch z)⟩
def GG(T:Tb)(Z:Zn)(F:JH)(H:Hp)(Q:St->JP):Option En->Prop
 |some e=>∀Y fp,aD T Z F H Y e fp->Q Y H
 |none=>False
def tG(T:Tb)(m:TgM):TG:=fun v Y H Q=>∃Z F env fp pv f,aD T Z F H Y env fp/\Rel T F Z.B NoL H pv v f/\vP Z F fp f/\GG T Z F H Q (m pv env)
def tGs(T:Tb)(m:sI):TGs:=fun vs Y H Q=>∃Z F env fp pvs f,aD T Z F H Y env fp/\RelL T F Z.B NoL H pvs vs f/\vP Z F fp f/\GG T Z F H Q (m pvs env)
abbrev SG(X:Cx)(T:Tb)(tg:Expr)(m:TgM):Prop:=PG X tg (tG T m)
abbrev SGs(X:Cx)(T:Tb)(ts:List Expr)(m:sI):Prop:=PGs X ts (tGs T m)
section
variable{X:Cx}{T:Tb}{W:Nat->St->JP}{Z:Zn}{F F1 B L:JH}{H H1:Hp}{Y:St}{env:En}{fp:Nat->JK}{D:Ends}
def PG.wk(h:PG X tg t)(w:∀v Y H Q,t' v Y H Q->t v Y H Q):PG X tg t':=fun js s Y H v u Q I r q=>h js s Y H v u Q I r (w v Y H Q q)
def PGs.wk(h:PGs X ts t)(w:∀v Y H Q,t' v Y H Q->t v Y H Q):PGs X ts t':=fun js s Y H v u Q I r q=>h js s Y H v u Q I r (w v Y H Q q)
def Ag(hN:X.N.Nodup)(hi:X.N[i]?=some x)(hx:Loc X.env.scope x)(hf:X.fn x=true\/X.env.scope.names.lookup x=some .local:=by first|exact .inl rfl|exact .inr rfl|assumption):SG X T (.Name x pos) (tgN i):=
 PG.wk (tm (pos:=pos) hN hi hx hf) fun v Y H Q hz1=>by
  obtain⟨Z,F,env,fp,pv,f,S,r,fr,q⟩:=hz1;unfold tgN at q;by_cases ho:aT i env=true
  ·rw[if_pos ho]at q;exact q _ _ (S.put r fr.nd fr.nf fr.new (fun a ha j _=>fr.dj a ha j) ho)
  ·rw[if_neg ho]at q;exact q.elim
def jE:SGs X T [] ja:=PGs.wk AR fun vs Y H Q hz1=>by
 obtain⟨Z,F,env,fp,pvs,f,S,r,fr,q⟩:=hz1;cases pvs with
 |nil=>unfold RelL at r;exact⟨r.1,q Y fp S⟩
 |cons x xs=>exact q.elim
def dL(hN:X.N.Nodup)(hi:X.N[i]?=some x)(hx:Loc X.env.scope x)(h2:SGs X T es u)
  (hs:(assignEach (.Name x pos::es) X.env).map (·.2)=assign (.Name x pos) X.env::(assignEach es X.env).map (·.2):=by rfl)
  (hf:X.fn x=true\/X.env.scope.names.lookup x=some .local:=by first|exact .inl rfl|exact .inr rfl|assumption):SGs X T (.Name x pos::es) (cN (tgN i) u):=
 PGs.wk (wF (tm (pos:=pos) hN hi hx hf) h2 hs) fun vs Y H Q hz1=>by
  obtain⟨Z,F,env,fp,pvs,f,S,r,fr,q⟩:=hz1;cases pvs with
  |nil=>exact q.elim
  |cons y ys=>
   unfold RelL at r;obtain⟨v,ws,f1,f2,rfl,r1,r2,rfl⟩:=r;obtain⟨n1,n2,n3⟩:=nodup_append.mp fr.nd;by_cases ho:aT i env=true
   case neg=>simp only[cN,tgN,if_neg ho]at q;exact q.elim
   simp only[cN,tgN,if_pos ho]at q;refine⟨v,ws,rfl,Z,F,env.set i (some y),cO fp i f1,ys,f2,S.put r1 n1 (fun a ha=>fr.nf a (mem_append_left _ ha)) (fun a ha=>fr.new a (mem_append_left _ ha)) (fun a ha j _=>fr.dj a (mem_append_left _ ha) j) ho,r2,⟨n2,fun a ha=>fr.nf a (mem_append_right _ ha),fun a ha=>fr.new a (mem_append_right _ ha),fun a ha j=>?_⟩,q⟩;unfold cO;split
   ·exact fun z=>n3 a z a ha rfl
   ·exact fr.dj a (mem_append_right _ ha) j
def ly(hK:X.K=T.K)(hc:X.calm=true)(h:SGs X T es u)(hn:(assignEach es X.env).length=n:=by rfl)(hst:(assignEach es X.env).findIdx? (·.1)=none:=by rfl):SG X T (.Tuple es k pos) (tgT n u):=
 PG.wk (C4 (pos:=pos) (k:=k) hc h hn hst) fun v Y H Q hz1=>by
  obtain⟨Z,F,env,fp,pv,f,S,r,fr,q⟩:=hz1;cases pv with
  |tup xs=>
   unfold Rel at r;obtain⟨a,vs,rfl,hl,hr⟩:=r;simp only[tgT]at q;by_cases hx:xs.length=n
   ·rw[if_pos hx]at q;exact⟨a,vs,rfl,by rw[hK];exact hl,by rw[<- hr.length];exact hx,Z,F,env,fp,xs,f,S,hr,fr,q⟩
   ·rw[if_neg hx]at q;exact q.elim
  |_=>exact q.elim
abbrev MI:=En->Res (JQ)
def ItR(T:Tb)(F B:JH)(Ow:JH)(H1:Hp)(J:It)(xs:JQ):Prop:=
 ∀H2,(∀a o,H1 a=some o->¬Ow a->H2 a=some o)->(∀(i:Nat) x,xs[i]?=some x->J.go i H2/\∀v H3,J.yld i H2 v H3->Ext H2 H3/\Rel T F B NoL H3 x v [])/\J.stop xs.length H2
def ItR.of0(h:∀H2,(∀a o,H1 a=some o->¬Ow a->H2 a=some o)->(∀(i:Nat) x,xs[i]?=some x->J.go i H2/\∀v H3,J.yld i H2 v H3->H3=H2/\Rel T F B NoL H2 x v [])/\J.stop xs.length H2):ItR T F B Ow H1 J xs:=fun H2 hk=>by obtain⟨a,b⟩:=h H2 hk;refine⟨fun i x e=>⟨(a i x e).1,fun v H3 hy=>?_⟩,b⟩;obtain⟨rfl,r⟩:=(a i x e).2 v H3 hy;exact⟨Ext.refl,r⟩
def GI(T:Tb)(W:Nat->St->JP)(B F Ow:JH)(Y:St)(H:Hp)(R:It->JP):Res (JQ)->Prop
 |.ok xs=>∀J H1 F1,Gr F H F1 H1->ItR T F1 B Ow H1 J xs->R J H1
 |.exc c=>∀H',Ext H H'->W c Y H'
 |.stuck=>False
def tI(T:Tb)(W:Nat->St->JP)(m:MI):TI:=fun Y H R=>∃Z F env fp,aD T Z F H Y env fp/\GI T W Z.B F (Own fp) Y H R (m env)
abbrev SI(X:Cx)(T:Tb)(W:Nat->St->JP)(tg iter:Expr)(m:MI):Prop:=PI X tg iter (tI T W m)
def wE(hl:PE X l tl):PI X tg l (fun Y H R=>tl Y H fun x H1=>∃a,x=.ref a/\((∃xs,SqL X.K H1 a xs/\R (Itl X.K a) H1)\/ ∃xs,SqT X.K H1 a xs/\R (Itt X.K a) H1)):=by
 intro js s Y H R I h;refine thn (hl js s Y H _ I h) fun v s1 hz1=>?_;obtain⟨x,H1,I1,r1,q1⟩:=hz1;obtain⟨a,e,q⟩:=q1;subst e;cases r1;rcases q with⟨xs,hq,q⟩ |⟨xs,hq,q⟩
 ·obtain⟨its,rv,p,hz⟩:=I1.list hq;refine wpAny_pyIter_list p.isList ?_;refine⟨s1.heap.objs.size,[s1.heap.objs.size],_,_,H1,rfl,I1.kept (t':=s1.toks) fun b o e=>get?_push_of_some _ e,ul a _,⟨_,get?_push_size _ rfl,rfl,rfl⟩,fun b hb=>?_,q⟩;have e:b=s1.heap.objs.size:=by simpa using hb
  subst e;exact I1.fpOk (Nat.le_refl _) (I1.hok.fresh (Nat.le_refl _))
 ·obtain⟨its,rv,p,hz⟩:=I1.tuple hq;refine wpAny_pyIter_tuple (show s1.heap.IsTuple a its.toArray from p) ?_;refine⟨s1.heap.objs.size,[s1.heap.objs.size],_,_,H1,rfl,I1.kept (t':=s1.toks) fun b o e=>get?_push_of_some _ e,qV a _,⟨_,get?_push_size _ rfl,rfl,rfl⟩,fun b hb=>?_,q⟩;have e:b=s1.heap.objs.size:=by simpa using hb
  subst e;exact I1.fpOk (Nat.le_refl _) (I1.hok.fresh (Nat.le_refl _))
def dI(xs:JQ):Bool:=!hasL Fl.JW xs&&!hasL Fl.JX xs
def dO(m:ME):MI:=fun env=>(m env).bind fun x=>match x with
 |.lst f xs=>if !f.JX&&dI xs then .ok xs else .stuck
 |.tup xs=>if dI xs then .ok xs else .stuck
 |_=>.stuck
def jq{H2:Hp}{Ow:JH}(hF:∀a,F1 a->¬Ow a)(hB:∀a,B a->¬Ow a)(hO:∀a o,Ow a->H1 a=some o->Chg o)(hk:∀a o,H1 a=some o->¬Ow a->H2 a=some o){xs:JQ}{vs:JO}(r:RelL T F1 B NoL H1 xs vs []){i:Nat}{x:PV}{v:V}(e:xs[i]?=some x)(ev:vs[i]?=some v):Rel T F1 B NoL H2 x v []:=by
 obtain⟨w,f,e1,r1,sl⟩:=r.get e;rw[ev]at e1;cases e1;obtain rfl:=List.sublist_nil.mp sl;refine Rel.tr (fun _ h=>h) (fun _ h=>h) (fun _ h=>h) (fun a o q h=>hk a o q ?_) (fun _ z=>(nomatch z)) r1;rcases h with h|h|h|h
 ·exact hF a h
 ·exact hB a h
 ·exact h.elim
 ·intro z;have:=hO a o z q;cases o with
  |lst _|ins _ _ _=>exact h
  |_=>exact this
def aD.bow(S:aD T Z F H Y env fp):∀a,Z.B a->¬Own fp a:=fun a h hz1=>by
 obtain⟨i,hi⟩:=hz1;obtain⟨⟨o,h1⟩,h2⟩:=S.hp.bo.1 a h;rcases S.new i a hi with z|z
 ·rw[h1]at z;cases z
 ·exact h2 z
def aD.fow(S:aD T Z F H Y env fp):∀a,F a->¬Own fp a:=fun a h ⟨i,hi⟩=>(S.dis i a hi).1 h
def aD.oow(S:aD T Z F H Y env fp):∀a o,Own fp a->H a=some o->Chg o:=fun a o hz1 e=>by obtain⟨i,hi⟩:=hz1;obtain⟨o',h1,h2⟩:=S.ch i a hi;rw[e]at h1;cases h1;exact h2
def eF(h:dI xs=true)(r:RelL T F B L H xs vs f):f=[]/\RelL T F B NoL H xs vs f:=by simp only[dI,and_eq_true,not_eq_true']at h;exact⟨RelL.J1 h.1 r,RelL.noL h.2 r⟩
def gZ(hK:X.K=T.K)(he:SE X T W e m):SI X T W tg e (dO m):=fun js s Y H R I h=>wE he js s Y H R I (by
 obtain⟨Z,F,env,fp,S,q⟩:=h;unfold dO at q;refine tE.bq S fun x v H1 F1 f1 e1 g1 r1 n1 d1 w1=>?_;rw[e1]at q;simp only[Res.J2]at q;have S1:=S.grow g1;rw[hK];cases x with
 |lst f xs=>
  dsimp only at q;by_cases hc:(!f.JX&&dI xs)=true
  ·rw[if_pos hc]at q;rw[and_eq_true]at hc;unfold Rel at r1;obtain⟨a,vs,fp',rfl,hl,hr,hf⟩:=r1;obtain⟨rfl,hr'⟩:=eF hc.2 hr;refine⟨a,rfl,.inl ⟨vs,hl.sq,q _ H1 F1 g1 (ItR.of0 fun H2 hk=>?_)⟩⟩;have na:f≠.mod->∀o,H1 a=some o->H2 a=some o:=fun hn o ho=>by
    refine hk a o ho ?_;cases f with
    |own=>rintro⟨i,hi⟩;obtain⟨_,o',ho'⟩:=S.dis i a hi;obtain rfl:f1=[a]:=hf;rw[w1 a mem_cons_self]at ho';cases ho'
    |frz=>exact S1.fow a hl.1
    |bor=>exact S1.bow a hl.1
    |lnt=>exact absurd hc.1 (by decide)
    |mod=>exact absurd rfl hn
   have hl2:SqL T.K H2 a vs:=by
    by_cases hn:f=.mod
    ·subst hn;exact .inr hl
    ·exact .inl (Rd.tr (na hn) (hl.rd hn))
   refine⟨fun i x ex=>?_,⟨vs,hl2,by rw[hr.length];exact Nat.le_refl _⟩⟩;obtain⟨v,_,ev,_,_⟩:=hr.get ex;refine⟨⟨vs,v,hl2,ev⟩,fun w H3 hy=>⟨hy.1,?_⟩⟩;have e3:=hy.2 vs hl2;exact jq S1.fow S1.bow S1.oow hk hr' ex e3
  ·rw[if_neg hc]at q;exact q.elim
 |tup xs=>
  dsimp only at q;by_cases hc:dI xs=true
  ·rw[if_pos hc]at q;unfold Rel at r1;obtain⟨a,vs,rfl,hl,hr⟩:=r1;obtain⟨rfl,hr'⟩:=eF hc hr;refine⟨a,rfl,.inr ⟨vs,hl,q _ H1 F1 g1 (ItR.of0 fun H2 hk=>?_)⟩⟩;have hl2:SqT T.K H2 a vs:=SqT.tr (fun o ho hfx=>hk a o ho fun z=>by
    have:=S1.oow a o z ho;cases o with
    |lst _|ins _ _ _=>exact hfx
    |_=>exact this) hl
   refine⟨fun i x ex=>?_,⟨vs,hl2,by rw[hr.length];exact Nat.le_refl _⟩⟩;obtain⟨v,_,ev,_,_⟩:=hr.get ex;refine⟨⟨vs,v,hl2,ev⟩,fun w H3 hy=>⟨hy.1,?_⟩⟩;exact jq S1.fow S1.bow S1.oow hk hr' ex (hy.2 vs hl2)
  ·rw[if_neg hc]at q;exact q.elim
 |_=>exact q.elim)
def cC(lo:Int)(n:Nat):JQ:=(range n).map fun k=>.int (lo+(k:Nat))
def inR(i:Int):Bool:=decide (-(2 ^ 62)<= i/\i<2 ^ 62)
def bM(ms:MA):MI:=fun env=>(ms env).bind fun xs=>match xs with
 | [.int n]=>if inR n then .ok (cC 0 n.toNat)else .stuck
 |_=>.stuck
def Bq:ItR T F1 B Ow H1 (Itr lo n) (cC lo n):=by
 apply ItR.of0;intro H2 _;refine⟨fun i x ex=>?_,by simp[cC,Itr]⟩;have hi:i<n:=by have:=(List.getElem?_eq_some_iff.mp ex).1;simpa[cC]using this
 refine⟨hi,fun v H3 hy=>⟨hy.1,?_⟩⟩;obtain⟨_,rfl⟩:=hy;have:x=.int (lo+(i:Nat)):=by simp[cC,hi]at ex;exact ex.symm
 subst this;exact eM
def d_(hg:Gl X "range")(hm:X.mg "range" = none)(ha:SA X T W [a] ms)(hs:starEach [a] X.env=[(false,eval a X.env)]:=by rfl):SI X T W tg (.Call (.Name "range" p) [a] [] pos) (bM ms):=fun js s Y H R I h=>nN hg hm ha hs js s Y H R I (by
 obtain⟨Z,F,env,fp,S,q⟩:=h;unfold bM at q;refine tA.bq S fun xs vs H1 F1 f1 e1 g1 r1 n1 d1 w1=>?_;rw[e1]at q;simp only[Res.J2]at q;split at q
 ·rename_i n
  split at q
  ·rename_i hc
   obtain⟨v,rfl,r2⟩:=r1.one;unfold Rel at r2;obtain⟨rfl,_⟩:=r2;have hc':-(2 ^ 62)<= n/\n<2 ^ 62:=by simpa[inR]using hc
   exact⟨n,rfl,hc'.1,hc'.2,q _ H1 F1 g1 Bq⟩
  ·exact q.elim
 ·exact q.elim)
def dv(it:MI)(tg:TgM)(body:MS):MS:=fun env=>match it env with
 | .ok xs=>mZ (fun x e=>match tg x e with
  |some e'=>body e'
  |none=>.stuck) xs env
 |.exc c=>.exc c env
 |.stuck=>.stuck
def dg(hp:PassesOwn (model X.prog X.w) X.A X.env X.xe)(hc:X.calm=true)(hi:SI X T W tg iter mi)(hg:SG X T tg g)(hb:SSs X T W body mb)
  (hs:∀x,foldedSetIterable iter X.env x=pure x:=by intro _;rfl):SS X T W (.For tg iter body [] pos) (dv mi g mb):=PS.wk (CZ (pos:=pos) hp hc hi hg hb hs) fun D Y H hz1=>by
 obtain⟨Z,F,env,fp,S,q⟩:=hz1;unfold dv at q;refine⟨Z,F,env,fp,S,?_⟩;cases em:mi env with
 |exc c=>rw[em]at q;exact fun H' x=>q F H' Y fp (S.grow (Gr.same S.hp.ft x))
 |stuck=>rw[em]at q;exact q
 |ok xs=>
  rw[em]at q;dsimp only at q;intro J H1 F1 g1 it;have S1:=S.grow g1;generalize hbd:(fun (x:PV) (e:En)=>match g x e with
   |some e'=>mb e'
   |none=>Out.stuck)=bd at q
  refine⟨fun i m σ2 H2=>m=xs.length-i/\i<=xs.length/\∃F2 env2 fp2,aD T (Z.re F1 H1 fp) F2 H2 σ2 env2 fp2/\GS T W Z D (mZ bd (xs.drop i) env2),⟨xs.length,by simp,zero_le _,F1,env,fp,S1.enter,q⟩,?_⟩;rintro i m σ2 H2 ⟨rfl,hi,F2,env2,fp2,S2,q2⟩;obtain⟨go,stop⟩:=it H2 S2.hp.keep;by_cases hlt:i<xs.length
  ·have hx:xs[i]?=some xs[i]:=by simp[hlt]
   obtain⟨g1',yl⟩:=go i _ hx;refine .inr ⟨g1',fun σ3 H3=>∃F3 env3 fp3,aD T (Z.re F1 H1 fp) F3 H3 σ3 env3 fp3/\GS T W Z D (mZ bd (xs.drop (i+1)) env3),fun σ3 H3 h3=>⟨xs.length-(i+1),by omega,rfl,hlt,h3⟩,fun v H3 hy=>?_⟩;obtain⟨ex3,r⟩:=yl v H3 hy;rw[List.drop_eq_getElem_cons hlt]at q2;unfold mZ at q2;rw[<- hbd]at q2;dsimp only at q2;refine⟨Z.re F1 H1 fp,F2,env2,fp2,xs[i],[],S2.grow (Gr.same S2.hp.ft ex3),r.ext Ext.refl S2.hp.f0,vP.nil,?_⟩;cases eg:g xs[i] env2 with
   |none=>rw[eg]at q2;exact q2
   |some e'=>
    rw[eg]at q2;dsimp only at q2;intro σ' fp' S';refine⟨Z.re F1 H1 fp,F2,e',fp',S',?_⟩;cases eb:mb e' with
    |next e2|cont e2=>rw[eb]at q2;exact fun F3 H3 σ3 fp3 S3=>⟨F3,e2,fp3,S3,by rw[<- hbd];exact q2⟩
    |brk e2=>rw[eb]at q2;exact fun F3 H3 σ3 fp3 S3=>q2 F3 H3 σ3 fp3 (S1.leave S3)
    |ret v=>rw[eb]at q2;exact fun F3 H3 v f hp r nd nf new=>q2 F3 H3 v f (cM.leave S1 hp) r nd nf fun a ha=>S1.newL (new a ha)
    |exc c e2=>rw[eb]at q2;exact fun F3 H3 σ3 fp3 S3=>q2 F3 H3 σ3 fp3 (S1.leave S3)
    |stuck=>rw[eb]at q2;exact q2
  ·have e:i=xs.length:=by omega
   subst e;rw[List.drop_length]at q2;exact .inl ⟨stop,q2 F2 H2 σ2 fp2 (S1.leave S2)⟩
end
end PR
namespace L2
open PySem PySem.Spec
def eX(cells:List (Str×Addr)):List (Str×NameKind)->List (Str×Addr)->List (Str×Addr)
 | [],acc=>acc
 | (n,k)::r,acc=>if (k == .free)=true then (match cells.lookup n with
  |some c=>eX cells r ((n,c)::acc)
  |none=>eX cells r acc)else eX cells r acc
def jt:∀(names:List (Str×NameKind)) (acc:List (Str×Addr)),(∀y∈names,y.2=.free->∃c,env.cells.lookup y.1=some c)->
  (forIn names acc fun (x:Str × NameKind) (cs:List (Str × Addr))=>match x with
   |(name,kind)=>if(kind==.free)=true then do let c <- cellOf env name;pure (ForInStep.yield ((name,c)::cs))else pure (ForInStep.yield cs):Sem (List (Str×Addr)))=pure (eX env.cells names acc)
 | [],acc,_=>by simp[eX]
 |(n,k)::r,acc,h=>by
  rw[List.forIn_cons];by_cases hk:(k==NameKind.free)=true
  ·obtain⟨c,hc⟩:=h (n,k) mem_cons_self (by simpa using hk);dsimp only at hc;simp only[hk,if_true,cellOf,hc,pure_bind];rw[eX,if_pos hk,hc];exact jt r _ fun y hy=>h y (mem_cons_of_mem _ hy)
  ·simp only[hk,false_eq_true,if_false,pure_bind];rw[eX,if_neg hk];exact jt r _ fun y hy=>h y (mem_cons_of_mem _ hy)
def m6(h:∀y∈scope.names,y.2=.free->∃c,env.cells.lookup y.1=some c):closureFor scope env=pure (eX env.cells scope.names []):=by unfold closureFor;simp only[];rw[<- jt scope.names [] h];simp
def gU{cells:List (Str×Addr)}:∀{names:List (Str×NameKind)}{acc:List (Str×Addr)},(∀p∈acc,cells.lookup p.1=some p.2)->∀p∈eX cells names acc,cells.lookup p.1=some p.2
 | [],_,h=>h
 |(n,k)::r,acc,h=>by
  unfold eX;split
  ·split
   ·rename_i c hc
    exact gU (by grind)
   ·exact gU h
  ·exact gU h
def jY:∀{names:List (Str×NameKind)}{acc:List (Str×Addr)}{p:Str×Addr},p∈acc->p∈eX cells names acc
 | [],_,_,h=>h
 |(n,k)::r,acc,p,h=>by
  unfold eX;split
  ·split
   ·exact jY (mem_cons_of_mem _ h)
   ·exact jY h
  ·exact jY h
def iU{cells:List (Str×Addr)}{x:Str}{c:Addr}(hc:cells.lookup x=some c):∀{names:List (Str×NameKind)}{acc:List (Str×Addr)},(x,NameKind.free)∈ names->(x,c)∈ eX cells names acc
 | [],_,h=>nomatch h
 |(n,k)::r,acc,h=>by
  unfold eX;rcases mem_cons.mp h with e|h
  ·cases e;rw[if_pos (by rfl),hc];exact jY mem_cons_self
  ·split
   ·split
    ·exact iU hc h
    ·exact iU hc h
   ·exact iU hc h
def jg{cells l:List (Str×Addr)}(h:∀p∈l,cells.lookup p.1=some p.2){x:Str}{c:Addr}(m:(x,c)∈ l):l.lookup x=some c:=by
 induction l with
 |nil=>cases m
 |cons p r ih=>
  grind
def gT{cells:List (Str×Addr)}{names:List (Str×NameKind)}{x:Str}{c:Addr}(h:(eX cells names []).lookup x=some c):cells.lookup x=some c:=
 gU (names:=names) (acc:=[]) (fun _ z=>nomatch z) (x,c) (PySem.mem_of_lookup h)
def mD:∀(names:List (Str×NameKind)) (a:Nat) (l acc:List (Str×Addr)),cellsFrom a names (l++acc)=cellsFrom a names l++acc
 | [],_,_,_=>rfl
 |(n,k)::r,a,l,acc=>by
  unfold cellsFrom;split
  ·exact mD r (a+1) ((n,a)::l) acc
  ·exact mD r a l acc
def mB:∀{names:List (Str×NameKind)}{a:Nat}{l:List (Str×Addr)}{p:Str×Addr},p∈cellsFrom a names l->p∈l \/(a<=p.2/\(p.1,NameKind.cell)∈ names)
 | [],_,_,_,h=>.inl h
 |(n,k)::r,a,l,p,h=>by
  unfold cellsFrom at h;split at h
  ·rename_i hk
   have hk:k=.cell:=by simpa using hk
   subst hk;rcases mB h with h|h
   ·grind
   ·exact .inr ⟨by omega,mem_cons_of_mem _ h.2⟩
  ·rcases mB h with h|h
   ·exact .inl h
   ·exact .inr ⟨h.1,mem_cons_of_mem _ h.2⟩
def pd:∀{names:List (Str×NameKind)}{a:Nat}{l:List (Str×Addr)}{x:Str},((x,NameKind.cell)∈ names \/(l.lookup x).isSome=true)->((cellsFrom a names l).lookup x).isSome=true
 | [],_,_,_,h=>h.resolve_left (fun z=>nomatch z)
 |(n,k)::r,a,l,x,h=>by
  unfold cellsFrom;split
  ·rename_i hk
   have hk:k=.cell:=by simpa using hk
   subst hk;refine pd ?_
   grind
  ·rename_i hk
   refine pd ?_
   grind
def mF:∀{names:List (Str×NameKind)}{a:Nat}{l:List (Str×Addr)},(∀p∈l,p.2<a)->(l.Pairwise fun x y=>x.2≠y.2)->(cellsFrom a names l).Pairwise fun x y=>x.2≠y.2
 | [],_,_,_,h=>h
 |(n,k)::r,a,l,hl,h=>by
  unfold cellsFrom;split
  ·refine mF (fun p hp=>?_) (pairwise_cons.mpr ⟨fun y hy e=>?_,h⟩)
   ·grind
   ·have e':a=y.2:=e;exact Nat.lt_irrefl _ (Nat.lt_of_lt_of_eq (hl y hy) e')
  ·exact mF hl h
def lT{α:Type}{x:Str}:∀{l m:List (Str×α)},(l++m).lookup x=(l.lookup x).or (m.lookup x)
 | [],m=>by simp
 |(n,c)::l,m=>by
  grind
abbrev qB(X:Cx)(scope:Scope)(C:Addr):List (Str×Addr):=cellsFrom (C+1) scope.names (eX X.env.cells scope.names [])
def jZ{X:Cx}{scope:Scope}{C:Addr}{x:Str}{c:Addr}(h:(qB X scope C).lookup x=some c):(C+1<=c/\(x,NameKind.cell)∈ scope.names/\(x,c)∈ cellsFrom (C+1) scope.names [])\/(eX X.env.cells scope.names []).lookup x=some c:=by
 unfold qB at h;rw[show eX X.env.cells scope.names []=[]++ eX X.env.cells scope.names []from rfl,mD,lT]at h;cases e:(cellsFrom (C+1) scope.names []).lookup x with
 |some d=>
  rw[e]at h;cases h;have m:=PySem.mem_of_lookup e;rcases mB m with z|z
  ·cases z
  ·exact .inl ⟨z.1,z.2,m⟩
 |none=>rw[e]at h;exact .inr (by simpa using h)
def ET(hx:(x,NameKind.cell)∉ scope.names)(h:(eX X.env.cells scope.names []).lookup x=some c):(qB X scope C).lookup x=some c:=by
 unfold qB;rw[show eX X.env.cells scope.names []=[]++ eX X.env.cells scope.names []from rfl,mD,lT];cases e:(cellsFrom (C+1) scope.names []).lookup x with
 |some d=>
  rcases mB (PySem.mem_of_lookup e)with z|z
  ·cases z
  ·exact absurd z.2 hx
 |none=>simpa using h
def p5{M:Model}{A:Around}{E:JD}{s:Shared}{scope:Scope}{globals:Addr}{closure:List (Str×Addr)}{qual:Str}{func:Option Addr}{code:Value}{outer:Env}{builtins:Addr}{Q:Env->Shared->Prop}
  (hQ:∀ h',h'.Ns s.heap.objs.size (fun _=>none)->(∀ b o,s.heap.get? b=some o->h'.get? b=some o)->(∀ n c,(n,c) ∈ cellsFrom (s.heap.objs.size+1) scope.names []->h'.IsCell c none) ->
   Q (newEnv scope s.heap.objs.size globals (cellsFrom (s.heap.objs.size+1) scope.names closure) qual func code (some outer) builtins) {s with heap:=h'}) :
  wpAny M A (newFunctionEnv scope globals closure [] qual func code (some outer) builtins) Q E s:=by
 simp only[newFunctionEnv,Option.isSome_some,if_true];refine wpAny_bind (wpAny_alloc ?_);refine wpAny_bind (wpAny_layCells _ (fun name kind cells=>by cases hkc:kind==NameKind.cell<;>simp[hkc]) _ _ _ _ ?_);have ok:=cellsFrom_ok scope.names (s.heap.push {cls:=.type "dict",data:=.dict #[]}) (s.heap.objs.size+1) [] ⟨fun _ _ hm=>(nomatch hm),Pairwise.nil⟩ (by rw[size_push];exact Nat.le_refl _);rw[size_push]at ok;rw[show({s with heap:=s.heap.push {cls:=.type "dict",data:=.dict #[]}}:Shared).heap.objs.size=s.heap.objs.size+1 from size_push ..];refine wpAny_bind ?_;rw[List.forIn_nil];exact wpAny_pure (wpAny_pure (hQ _ ((Heap.Ns.new s.heap (.type "dict")).keeps (pushCells_keeps _ _)) (fun b o e=>pushCells_keeps _ _ b o (get?_push_of_some _ e)) fun n c hm=>(ok.empty n c hm).1))
def cxC(X:Cx)(scope:Scope)(C:Addr)(N:JL)(s:Shared)(H:Hp)(ex:JK):Cx:=
 {X with env:=compEnvC scope (qB X scope C) C X.env,N:=N,s₀:=s,H₀:=H,outer:=X.stack,stack:=X.stack,ex:=ex,fn:=fun x=>scope.names.lookup x==some .cell,pn:=[],xe:=fun _ _=>False}
structure eZ(X:Cx)(scope:Scope)(caps:List Nat)(N tn:JL):Prop where
 kind:scope.kind=.function
 cel:∀y∈scope.names,y.2=.cell->scope.names.lookup y.1=some .cell
 names:∀y∈scope.names,y.2=.local->scope.names.lookup y.1=some .local
 free:∀y∈scope.names,y.2=.free->X.env.kindOf y.1=some .cell\/X.env.kindOf y.1=some .free
 eN:N=caps.map (fun i=>X.N.getD i "")++ tn
 capN:∀i∈caps,i<X.N.length
 capF:∀i∈caps,∀x,X.N[i]?=some x->(x,NameKind.free)∈ scope.names/\scope.names.lookup x=some .free
 nd:N.Nodup
def jG{scope:Scope}{env:Env}{x:Str}{k:NameKind}(h:(relabel scope env).names.lookup x=some k)(hc:k=.cell\/k=.free):(x,NameKind.free)∈ scope.names \/(x,NameKind.cell)∈ scope.names:=by
 have m:=PySem.mem_of_lookup h;obtain⟨⟨n,k0⟩,hm,e⟩:=mem_map.mp m
 grind
def jH{scope:Scope}{env:Env}{x:Str}:∀{names:List (Str×NameKind)},names.lookup x=some .free ->
  (names.map fun(n,k)=>if(k==NameKind.free&&env.scope.kind==.function&&env.kindOf n==some .cell)then(n,NameKind.cell)else(n,k)).lookup x=some .cell \/
  (names.map fun(n,k)=>if(k==NameKind.free&&env.scope.kind==.function&&env.kindOf n==some .cell)then(n,NameKind.cell)else(n,k)).lookup x=some .free
 | [],h=>by simp at h
 |(n,k)::r,h=>by
  show List.lookup x ((if(k==NameKind.free&&env.scope.kind==.function&&env.kindOf n==some .cell)=true then(n,NameKind.cell)else(n,k))::_)=_\/List.lookup x ((if(k==NameKind.free&&env.scope.kind==.function&&env.kindOf n==some .cell)=true then(n,NameKind.cell)else(n,k))::_)=_;have ih:=@jH scope env x r
  grind
section
variable{X:Cx}{scope:Scope}{caps:List Nat}{N tn:JL}{js:JG}{Y:St}{H:Hp}{s:Shared}{fp:JK}{C:Addr}
def o9(cs:eZ X scope caps N tn)(I:Inv X js Y H s)(hf:∀b∈fp,mQ X js H b)(hlt:∀b∈fp,b<s.heap.objs.size)(hC:s.heap.objs.size<=C):(cxC X scope C N s H fp).Ok where
 mod:=I.ok.mod
 kind:=by show(relabel scope X.env).kind=_;exact cs.kind
 glob:=I.ok.glob
 blt:=I.ok.blt
 above:=hC
 inj:=fun x y c h1 h2=>by
  have old:∀z,(eX X.env.cells scope.names []).lookup z=some c->c<s.heap.objs.size:=fun z hz=>let⟨_,hv⟩:=I.cell z c (gT hz);hv.lt
  rcases jZ h1 with⟨l1,_,m1⟩|h1<;>rcases jZ h2 with⟨l2,_,m2⟩|h2
  ·exact name_of_addr (mF (l:=[]) (fun _ z=>nomatch z) Pairwise.nil) m1 m2
  ·grind
  ·grind
  ·exact I.ok.inj x y c (gT h1) (gT h2)
 has:=fun x hx=>by
  have hx:(relabel scope X.env).names.lookup x=some .cell \/(relabel scope X.env).names.lookup x=some .free:=hx;have m:(x,NameKind.free)∈ scope.names \/(x,NameKind.cell)∈ scope.names:=by
   rcases hx with h|h
   ·exact jG h (.inl rfl)
   ·exact jG h (.inr rfl)
  refine isSome_iff_exists.mp (pd (l:=eX X.env.cells scope.names []) ?_);rcases m with m|m
  ·obtain⟨c,hc⟩:=I.ok.has x (cs.free _ m rfl);exact .inr (by rw[jg (gU (acc:=[]) fun _ z=>nomatch z) (iU hc m)];rfl)
  ·exact .inl m
 cab:=fun x c h hc=>by
  have h':(scope.names.lookup x==some NameKind.cell)=true:=h;have hx:scope.names.lookup x=some .cell:=by simpa using h'
  have hs:s.heap.objs.size<=C:=hC;have hc:(qB X scope C).lookup x=some c:=hc;obtain⟨d,hd⟩:=isSome_iff_exists.mp (pd (a:=C+1) (l:=[]) (.inl (PySem.mem_of_lookup hx)));unfold qB at hc;rw[show eX X.env.cells scope.names []=[]++ eX X.env.cells scope.names []from rfl,mD,lT,hd]at hc;cases hc;rcases mB (PySem.mem_of_lookup hd)with z|z
  ·cases z
  ·exact Nat.le_trans hs (Nat.le_trans (le_succ _) z.1)
 hd:=I.ok.hd
 frames:=I.ok.frames
 stk:=.inl rfl
 exf:=fun b hb=>⟨Nat.ne_of_lt (Nat.lt_of_lt_of_le (hlt b hb) hC),fun x c h=>by
  rcases jZ h with⟨l1,_,_⟩|h
  ·exact fun z=>absurd (Nat.lt_of_lt_of_le (hlt b hb) (Nat.le_trans hC (Nat.le_trans (le_succ _) l1))) (by rw[z];exact Nat.lt_irrefl _)
  ·exact(hf b hb).2.2.2.2.1 x c (gT h)⟩
 bs:=I.bs
 bsz:=Nat.le_trans I.ok.bsz I.sz
 noex:=fun b o e hb=>by
  rcases(hf b hb).2.2.2.1 with z|z
  ·exact I.ok.noex b o e z
  ·exact absurd (Nat.lt_of_lt_of_le (lt_size e) (Nat.le_trans I.ok.bsz z)) (Nat.lt_irrefl _)
 exfs:=fun b hb hs=>by
  rcases mem_cons.mp (I.stkSub b hs)with z|z
  ·exact(hf b hb).2.1 z
  ·exact(hf b hb).2.2.1 z
 funs:=I.stack
 frf:=I.stkFree
def pf(caps:List Nat)(k:Nat)(Y:St):St:=caps.map (fun i=>(Y[i]?).join)++ replicate k none
def xM(cs:eZ X scope caps N tn)(I:Inv X js Y H s)(hf:∀b∈fp,mQ X js H b)(hlt:∀b∈fp,b<s.heap.objs.size)
  (hns:h₁.Ns (s.heap.objs.size+1) fun _=>none) (hD:h₁.get? s.heap.objs.size=some {cls:=.type "list",data:=.seq ([]:JJ).toArray}) (old:∀b o,s.heap.get? b=some o->h₁.get? b=some o)
  (hcl:∀n c,(n,c)∈ cellsFrom (s.heap.objs.size+1+1) scope.names []->h₁.IsCell c none) :
  Inv (cxC X scope (s.heap.objs.size+1) N s H fp) [] (pf caps tn.length Y) (upd H s.heap.objs.size (.lst [])) {s with heap:=h₁,toks:=t}:=by
 have fresh:∀b,s.heap.objs.size<=b->H b=none:=fun b hb=>I.hok.fresh hb;have neD:s.heap.objs.size+1≠s.heap.objs.size:=Nat.succ_ne_self _;have ltc:∀x c,(eX X.env.cells scope.names []).lookup x=some c->∃v,s.heap.IsCell c v:=fun x c h=>I.cell x c (gT h);refine⟨o9 cs I hf hlt (le_succ _),rfl,I.bare,Un.laid old (Nat.le_refl _) (fresh _ (Nat.le_refl _)),⟨_,hns,fun i y v h1 h2 h3=>?_⟩,fun x c h=>?_,?_,fun x c h=>?_,fun p hp=>absurd (show p ∈([]:JG)from hp) (by simp),?_,?_⟩
 ·have hi:i<caps.length:=by
   unfold pf at h2;by_cases hi:i<caps.length
   ·exact hi
   ·rw[getElem?_append_right (by simpa using hi),getElem?_replicate]at h2;split at h2<;>cases h2
  unfold pf at h2;rw[getElem?_append_left (by simpa using hi),getElem?_map]at h2;obtain⟨j,hj,e2⟩:=map_eq_some_iff.mp h2;have hjc:j∈caps:=List.mem_of_getElem? hj;have hjN:=cs.capN j hjc;have hy:X.N[j]?=some y:=by
   have h1':N[i]?=some y:=h1;rw[cs.eN,getElem?_append_left (by simpa using hi),getElem?_map,hj]at h1';have:X.N.getD j ""=y:=by simpa using h1'
   rw[<- this];simp[hjN]
  have hσ:Y[j]?=some (some v):=by
   cases e:Y[j]? with
   |none=>rw[e]at e2;cases e2
   |some w=>rw[e]at e2;simp only[join_some]at e2;rw[e2]
  obtain⟨m0,hn0,hl⟩:=I.loc;obtain⟨hm,hlk⟩:=cs.capF j hjc y hy;have hk:=cs.free _ hm rfl;dsimp only at hk;have hvis:Vis X.env.scope y:=by
   rcases hk with z|z
   ·exact .inr (.inl z)
   ·exact .inr (.inr z)
  obtain⟨u,ru,lk⟩:=hl j y v hy hσ hvis;refine⟨u,ru,.inr ?_⟩;rcases lk with⟨z,_⟩ |⟨_,c,hc,hcell⟩
  ·rcases hk with w|w
   ·rw[z]at w;cases w
   ·rw[z]at w;cases w
  ·refine⟨jH (scope:=scope) hlk,c,ET (fun z=>?_) (jg (gU (acc:=[]) fun _ z=>nomatch z) (iU hc hm)),hcell.keeps old⟩;have:=cs.cel _ z rfl;rw[hlk]at this;cases this
 ·rcases jZ h with⟨_,_,m⟩|h
  ·exact⟨none,hcl x c m⟩
  ·obtain⟨v,hv⟩:=ltc x c h;exact⟨v,hv.keeps old⟩
 ·show upd H _ _ (s.heap.objs.size+1)=none;rw[aJ neD];exact fresh _ (le_succ _)
 ·rcases jZ h with⟨l1,_,_⟩|h2
  ·rw[aJ (Nat.ne_of_gt (Nat.lt_of_lt_of_le (Nat.lt_succ_of_lt (Nat.lt_succ_self _)) l1))];exact .inl (fresh _ (Nat.le_trans (Nat.le_succ_of_le (le_succ _)) l1))
  ·obtain⟨v,hv⟩:=ltc x c h2;rw[aJ (Nat.ne_of_lt hv.lt)];exact(I.freeC x c (gT h2)).imp (fun z=>z) fun q=>⟨eq_false_iff.mpr fun e=>Nat.lt_irrefl _ (Nat.lt_of_lt_of_le hv.lt ((o9 cs I hf hlt (le_succ _)).cab x c e h)),q.2⟩
 ·exact I.hok.laid old (Nat.le_refl _) ⟨zero_le _,[],_,.nil,hD⟩
 ·show(pf caps tn.length Y).length=N.length;rw[cs.eN];simp[pf]
end
end L2
namespace PR
open PySem PySem.Spec L2
def Fl.JV:Fl->Fl
 |.own|.lnt=>.bor
 |f=>f
def PV.JV(x:PV):PV:=x.J0 Fl.JV
def uX(hB:∀a,B a->B' a)(hL:∀a,L a->B' a):Mp T Fl.JV (fun _=>false) (fun _=>[]) B' F B L H F B' L' H:=
 ⟨fun f a vs _ c h=>by
  cases f with
  |own=>exact⟨c rfl,.inl h⟩
  |bor=>exact⟨hB a h.1,h.2⟩
  |lnt=>exact⟨hL a h.1,.inl h.2⟩
  | _=>exact h,fun f a _ c h=>⟨by
  cases f with
  |own=>exact c rfl
  |bor=>exact hB a h
  |lnt=>exact hL a h
  |_=>exact h,fun _ q=>q⟩,fun f a x y h=>by cases f<;>exact⟨rfl,rfl⟩,rfl,fun _ _=>rfl,fun _ _ q _=>q⟩
def Rel.JV(hB:∀a,B a->B' a)(hL:∀a,L a->B' a)(hp:∀a∈fo,B' a)(h:Rel T F B L H x v fo):Rel T F B' L' H (x.J0 Fl.JV) v []:=(uX hB hL).rel (mf x) hp h
mutual
def ju:∀x:PV,(x.J0 Fl.JV).has Fl.JW=false
 |.non|.bl _|.int _|.str _=>rfl
 |.lst f xs=>by simp only[PV.J0,PV.has,borrow_ownL xs,Bool.or_false];cases f<;>rfl
 |.tup xs=>by simp only[PV.J0,PV.has,borrow_ownL xs]
 |.obj f c ks xs=>by simp only[PV.J0,PV.has,borrow_ownL xs,Bool.or_false];cases f<;>rfl
 |.exc _=>rfl
 |.box k xs=>by simp only[PV.J0,PV.has,borrow_ownL xs]
def borrow_ownL:∀xs:JQ,hasL Fl.JW (mapL Fl.JV xs)=false
 | []=>rfl
 |x::xs=>by simp only[mapL,hasL,ju x,borrow_ownL xs,Bool.or_false]
end
def ItC(T:Tb)(F B L:JH)(H1:Hp)(J:It)(xs:JQ):Prop:=
 ∀H2,Ext H1 H2->(∀(i:Nat) x,xs[i]?=some x->J.go i H2/\∀v H3,J.yld i H2 v H3->Ext H2 H3/\∃f,(∀a∈f,∃o,H1 a=some o)/\Rel T F B L H3 x v f)/\J.stop xs.length H2
def ItC.of0(h:∀H2,Ext H1 H2->(∀(i:Nat) x,xs[i]?=some x->J.go i H2/\∀v H3,J.yld i H2 v H3->H3=H2/\∃f,Rel T F B L H1 x v f)/\J.stop xs.length H2):ItC T F B L H1 J xs:=fun H2 hk=>by obtain⟨a,b⟩:=h H2 hk;refine⟨fun i x e=>⟨(a i x e).1,fun v H3 hy=>?_⟩,b⟩;obtain⟨rfl,f,r⟩:=(a i x e).2 v H3 hy;exact⟨Ext.refl,f,fun a ha=>r.there a ha,r.ext hk fun _ h=>h⟩
def GIc(T:Tb)(W:Nat->St->JP)(B F L:JH)(Y:St)(H:Hp)(R:It->JP):Res (JQ)->Prop
 |.ok xs=>∀J H1 F1,Gr F H F1 H1->ItC T F1 B L H1 J xs->R J H1
 |.exc c=>∀H',Ext H H'->W c Y H'
 |.stuck=>False
def tIc(T:Tb)(W:Nat->St->JP)(m:MI):TI:=fun Y H R=>∃Z F env fp,aD T Z F H Y env fp/\GIc T W Z.B F (Own fp) Y H R (m env)
abbrev SIc(X:Cx)(T:Tb)(W:Nat->St->JP)(tg iter:Expr)(m:MI):Prop:=PI X tg iter (tIc T W m)
def da(m:ME):MI:=fun env=>(m env).bind fun x=>match aM x with
 |some xs=>.ok xs
 |none=>.stuck
section
variable{X:Cx}{T:Tb}{W:Nat->St->JP}{Z:Zn}{F F1 B L:JH}{H H1:Hp}{Y:St}{env:En}{fp:Nat->JK}{D:Ends}
def cw(hK:X.K=T.K)(he:SE X T W e m):SIc X T W tg e (da m):=fun js s Y H R I h=>wE he js s Y H R I (by
 obtain⟨Z,F,env,fp,S,q⟩:=h;unfold da at q;refine tE.bq S fun x v H1 F1 f1 e1 g1 r1 n1 d1 w1=>?_;rw[e1]at q;simp only[Res.J2]at q;cases es:aM x with
 |none=>rw[es]at q;exact q.elim
 |some xs=>
  rw[es]at q;obtain⟨a,vs,f',rfl,hs,hr,_⟩:=r1.seq es;refine⟨a,rfl,?_⟩;rw[hK];rcases hs with hs|hs
  ·refine .inl ⟨vs,hs,q _ H1 F1 g1 (ItC.of0 fun H2 hx=>?_)⟩;have h2:SqL T.K H2 a vs:=by
    rcases hs with z|z
    ·exact .inl (Rd.tr (fun o q=>hx a o q) z)
    ·exact .inr z
   refine⟨fun i x ex=>?_,⟨vs,h2,by rw[hr.length];exact Nat.le_refl _⟩⟩;obtain⟨v,f,ev,rv,_⟩:=hr.get ex;refine⟨⟨vs,v,h2,ev⟩,fun w H3 hy=>⟨hy.1,f,?_⟩⟩;have:=hy.2 vs h2;rw[ev]at this;cases this;exact rv
  ·refine .inr ⟨vs,hs,q _ H1 F1 g1 (ItC.of0 fun H2 hx=>?_)⟩;have h2:SqT T.K H2 a vs:=SqT.tr (fun o q _=>hx a o q) hs;refine⟨fun i x ex=>?_,⟨vs,h2,by rw[hr.length];exact Nat.le_refl _⟩⟩;obtain⟨v,f,ev,rv,_⟩:=hr.get ex;refine⟨⟨vs,v,h2,ev⟩,fun w H3 hy=>⟨hy.1,f,?_⟩⟩;have:=hy.2 vs h2;rw[ev]at this;cases this;exact rv)
def Br:ItC T F1 B L H1 (Itr lo n) (cC lo n):=by
 apply ItC.of0;intro H2 _;refine⟨fun i x ex=>?_,by simp[cC,Itr]⟩;have hi:i<n:=by have:=(List.getElem?_eq_some_iff.mp ex).1;simpa[cC]using this
 refine⟨hi,fun v H3 hy=>⟨hy.1,[],?_⟩⟩;obtain⟨_,rfl⟩:=hy;have:x=.int (lo+(i:Nat)):=by simp[cC,hi]at ex;exact ex.symm
 subst this;exact eM
def a6(hg:Gl X "range")(hm:X.mg "range" = none)(ha:SA X T W [a] ms)(hs:starEach [a] X.env=[(false,eval a X.env)]:=by rfl):SIc X T W tg (.Call (.Name "range" p) [a] [] pos) (bM ms):=fun js s Y H R I h=>nN hg hm ha hs js s Y H R I (by
 obtain⟨Z,F,env,fp,S,q⟩:=h;unfold bM at q;refine tA.bq S fun xs vs H1 F1 f1 e1 g1 r1 n1 d1 w1=>?_;rw[e1]at q;simp only[Res.J2]at q;split at q
 ·rename_i n
  split at q
  ·rename_i hc
   obtain⟨v,rfl,r2⟩:=r1.one;unfold Rel at r2;obtain⟨rfl,_⟩:=r2;have hc':-(2 ^ 62)<= n/\n<2 ^ 62:=by simpa[inR]using hc
   exact⟨n,rfl,hc'.1,hc'.2,q _ H1 F1 g1 Br⟩
  ·exact q.elim
 ·exact q.elim)
abbrev WF:Nat->St->JP:=fun _ _ _=>False
def STs(X:Cx)(T:Tb)(W:Nat->St->JP)(ifs:List Expr)(m:MT):Prop:=
 ∀(js:JG) (s:Shared) (Y:St) (H:Hp) (Q:Bool->JP),L2.Inv X js Y H s->tT T W m Y H Q ->
  wpAny (model X.prog X.w) X.A (forIn ifs true fun c r=>if r=true then do let ok <- isTrue c X.env (eval c X.env);pure (ForInStep.yield ok)else pure (ForInStep.yield r)) (TP X js Y Q) X.xe s
def bS:MT:=fun _=>.ok true
def bH:STs X T W [] bS:=fun js s Y H Q I ⟨Z,F,env,fp,S,q⟩=>wpAny_tests_nil ⟨H,I,q H F (Gr.refl S.hp.ft)⟩
def cH(h:ST X T W c m):STs X T W [c] m:=fun js s Y H Q I q=>wpAny_tests_one (h js s Y H Q I q)
structure iz(g:TgM)(k:Nat):Prop where
 keep:∀x env e',g x env=some e'->e'.length=env.length/\∀j<k,e'[j]?=env[j]?
 own:∀x env e',g x env=some e'->x.has Fl.JW=false->∀(j:Nat) pv,e'[j]?=some (some pv)->env[j]?=some (some pv)\/ pv.has Fl.JW=false
structure lq(g:sI)(k:Nat):Prop where
 keep:∀x env e',g x env=some e'->e'.length=env.length/\∀j<k,e'[j]?=env[j]?
 own:∀x env e',g x env=some e'->hasL Fl.JW x=false->∀(j:Nat) pv,e'[j]?=some (some pv)->env[j]?=some (some pv)\/ pv.has Fl.JW=false
def vX(h:k<=i):iz (tgN i) k:=by
 refine⟨fun x env e' e=>?_,fun x env e' e hx j pv hj=>?_⟩
 ·unfold tgN at e;split at e
  ·cases e;exact⟨by simp,fun j hj=>getElem?_set_ne (by omega)⟩
  ·cases e
 ·unfold tgN at e;split at e
  ·cases e;by_cases hij:i=j
   ·subst hij;have hl:i<env.length:=by have:=(List.getElem?_eq_some_iff.mp hj).1;simpa using this
    rw[getElem?_set_self hl]at hj;cases hj;exact .inr hx
   ·rw[getElem?_set_ne hij]at hj;exact .inl hj
  ·cases e
def jy:lq ja k:=by
 refine⟨fun x env e' e=>?_,fun x env e' e _ j pv hj=>?_⟩
 ·cases x with
  |nil=>cases e;exact⟨rfl,fun _ _=>rfl⟩
  |cons _ _=>cases e
 ·cases x with
  |nil=>cases e;exact .inl hj
  |cons _ _=>cases e
def d6(h1:iz g k)(h2:lq u k):lq (cN g u) k:=by
 refine⟨fun x env e' e=>?_,fun x env e' e hx j pv hj=>?_⟩
 ·cases x with
  |nil=>cases e
  |cons y ys=>
   simp only[cN]at e;cases e1:g y env with
   |none=>rw[e1]at e;cases e
   |some e2=>rw[e1]at e;obtain⟨l1,k1⟩:=h1.keep y env e2 e1;obtain⟨l2,k2⟩:=h2.keep ys e2 e' e;exact⟨l2.trans l1,fun j hj=>(k2 j hj).trans (k1 j hj)⟩
 ·cases x with
  |nil=>cases e
  |cons y ys=>
   simp only[hasL,or_eq_false_iff]at hx;simp only[cN]at e;cases e1:g y env with
   |none=>rw[e1]at e;cases e
   |some e2=>
    rw[e1]at e;rcases h2.own ys e2 e' e hx.2 j pv hj with z|z
    ·exact h1.own y env e2 e1 hx.1 j pv z
    ·exact .inr z
def kQ(h:lq u k):iz (tgT n u) k:=by
 refine⟨fun x env e' e=>?_,fun x env e' e hx j pv hj=>?_⟩
 ·cases x with
  |tup xs=>
   simp only[tgT]at e;split at e
   ·exact h.keep xs env e' e
   ·cases e
  |_=>cases e
 ·cases x with
  |tup xs=>
   simp only[tgT]at e;simp only[PV.has]at hx;split at e
   ·exact h.own xs env e' e hx j pv hj
   ·cases e
  |_=>cases e
def bW(caps:List Nat)(k:Nat)(env:En):En:=caps.map (fun i=>((env[i]?).join).map PV.JV)++ replicate k none
def eK(g:TgM)(mc:MT)(me:ME)(env:En):JQ->Res (JQ)
 | []=>.ok []
 |x::xs=>match g x.JV env with
  |none=>.stuck
  |some e=>(mc e).bind fun b=>if b then(me e).bind fun y=>if y.has Fl.JY||y.has Fl.JX then .stuck else(eK g mc me env xs).bind fun ys=>.ok (y::ys)else eK g mc me env xs
def aY(caps:List Nat)(k:Nat)(mi:MI)(g:TgM)(mc:MT)(me:ME):ME:=fun env=>(mi env).bind fun xs=>if xs.length <= 10000000 then (match eK g mc me (bW caps k env) xs with
 |.ok ys=>.ok (.lst .own ys)
 |_=>.stuck)else .stuck
end
section
variable{prog:Program}{w:World}{A:Around}{R:Result->Shared->Prop}{s:Shared}
def pb(I:Nat->Shared->Prop)
  (turn:∀ n s,I n s->wpAny (model prog w) A (pyNext it) (fun r s₁=>match r with
   |none=>R (.ok .next) s₁
   | some v=>wpAny (model prog w) A (letOwnedTupleGo target it v) (fun _ s₁'=>wpAny (model prog w) A (assign target env v) (fun _ s₂=>
     wpAny (model prog w) A (forIn ifs true fun c r=>if r=true then do let ok <- isTrue c env (eval c env);pure (ForInStep.yield ok) else pure (ForInStep.yield r)) (fun ok s₃=>
      if ok=true then wpAny (model prog w) A (eval elt env) (fun x s₄=>
       wpAny (model prog w) A (call (.builtin "list.append") [acc,x]) (fun _ s₅=>∃m,m<n/\I m s₅) (notedBy (model prog w) A env fun e s'=>R (.error e) s') s₄) (notedBy (model prog w) A env fun e s'=>R (.error e) s') s₃
      else ∃m,m<n/\I m s₃) (notedBy (model prog w) A env fun e s'=>R (.error e) s') s₂) (notedBy (model prog w) A env fun e s'=>R (.error e) s') s₁') (notedBy (model prog w) A env fun e s'=>R (.error e) s') s₁) (notedBy (model prog w) A env fun e s'=>R (.error e) s') s)
  (n:Nat) (h:I n s) :
  codeAny (model prog w) A (.compLoop (.ListComp elt [⟨target,iter,ifs,0⟩] scope pos) 0 it acc env) R s:=by
 refine codeAny_loop rfl I (fun n s hI=>?_) n h;show wpAny _ A ((compTurn (.ListComp elt [⟨target,iter,ifs,0⟩] scope pos) 0 it acc env).onRaise (fun x=>do noteFrame x env;theTreesLotGoes x)) _ _ s;refine wpAny_noted ?_;rw[compTurn_list];refine wpAny_bind (wpAny_standAt (wpAny_bind (wpAny_mono (turn n s hI) (fun r s₁ h₁=>?_) fun _ _ h'=>h')));cases r with
 |none=>exact wpAny_pure h₁
 |some v=>
  refine wpAny_bind (wpAny_mono h₁ (fun _ s₁' h₁'=>?_) fun _ _ h'=>h');refine wpAny_bind (wpAny_mono h₁' (fun _ s₂ h₂=>wpAny_bind (wpAny_mono h₂ (fun ok s₃ h₃=>?_) fun _ _ h'=>h')) fun _ _ h'=>h');cases ok with
  |false=>exact wpAny_pure ⟨rfl,h₃⟩
  |true=>exact wpAny_bind (wpAny_bind (wpAny_mono h₃ (fun x s₄ h₄=>wpAny_bind (wpAny_mono h₄ (fun _ s₅ h₅=>wpAny_pure (wpAny_pure ⟨rfl,h₅⟩)) fun _ _ h'=>h')) fun _ _ h'=>h'))
end
end PR
namespace PR
open PySem PySem.Spec L2
section
variable{X:Cx}{T:Tb}{W:Nat->St->JP}{Z:Zn}{F F1 B L:JH}{H H1:Hp}{Y:St}{env:En}{fp:Nat->JK}{D:Ends}
def aD.wk(S:aD T Z F H Y env fp)(hpin:Z.pin=none)(hl:e2.length=env.length)(h:∀(i:Nat) pv,e2[i]?=some (some pv)->env[i]?=some (some pv)):aD T Z F H Y e2 fp:=
 ⟨S.hp,S.len.trans hl.symm,fun i pv e=>S.rel i pv (h i pv e),S.nd,S.dj,S.dis,S.new,S.ch,fun v hv=>by rw[hpin]at hv;cases hv⟩
def aD.J1(S:aD T Z F H Y env fp)(h:∀(i:Nat) pv,env[i]?=some (some pv)->pv.has Fl.JW=false):aD T Z F H Y env (fun _=>[]):=
 ⟨S.hp,S.len,fun i pv e=>by
  obtain⟨v,h1,h2⟩:=S.rel i pv e;have:=Rel.J1 (h i pv e) h2;rw[this]at h2;exact⟨v,h1,h2⟩,fun _=>nodup_nil,fun _ _ _ _ z=>(nomatch z),fun _ _ z=>(nomatch z),fun _ _ z=>(nomatch z),fun _ _ z=>(nomatch z),S.pn⟩
def aD.updD(S:aD T Z F H Y env (fun _=>[]))(hF:¬F Dd)(h0:Z.H0 Dd=none)(hD:H Dd=some o)(hfx:¬jh o):aD T Z F (upd H Dd o') Y env (fun _=>[]):=by
 have ne:∀a u,H a=some u->(F a\/Z.B a\/NoL a\/jh u)->a≠Dd:=(by grind[cO,aD,cM,Gr])
 refine⟨⟨S.hp.bo,fun a u e n=>?_,S.hp.f0,S.hp.fn,fun a h=>?_⟩,S.len,fun i pv e=>?_,S.nd,S.dj,fun _ _ z=>(nomatch z),S.new,fun _ _ z=>(nomatch z),S.pn⟩
 ·have:a≠Dd:=fun z=>by rw[z,h0]at e;cases e
  rw[aJ this];exact S.hp.keep a u e n
 ·obtain⟨u,e⟩:=S.hp.ft a h;exact⟨u,by rw[aJ (show a≠Dd from fun z=>hF (by rw[<- z];exact h))];exact e⟩
 ·obtain⟨v,h1,h2⟩:=S.rel i pv e;refine⟨v,h1,Rel.tr (fun _ h=>h) (fun _ h=>h) (fun _ h=>h) (fun a u q h=>?_) (fun _ z=>(nomatch z)) h2⟩;rw[aJ (ne a u q h)];exact q
def zC(F:JH)(H:Hp):Zn:=⟨H,F,fun _=>False,fun a=>∃o,H a=some o,none⟩
def vG(S:aD T Z F H Y env fp)(hD:H Dd=none)(hFD:¬F Dd) :
  aD T (zC F H) F (upd H Dd (.lst [])) (pf caps k Y) (bW caps k env) (fun _=>[]):=by
 have ext:Ext H (upd H Dd (.lst [])):=Ext.upd hD;refine⟨⟨⟨fun a h=>⟨h,fun z=>z⟩,S.tbo Ext.refl fun _ z=>False.elim z⟩,fun a o h _=>ext a o h,fun _ h=>h,fun _ h=>.inl h,fun a h=>let⟨o,e⟩:=S.hp.ft a h;⟨o,ext a o e⟩⟩,by simp[pf,bW],fun i pv e=>?_,fun _=>nodup_nil,fun _ _ _ _ z=>(nomatch z),fun _ _ z=>(nomatch z),fun _ _ z=>(nomatch z),fun _ _ z=>(nomatch z),fun _ h=>(nomatch h)⟩;unfold bW at e;unfold pf;by_cases hi:i<caps.length
 ·rw[getElem?_append_left (by simpa using hi),getElem?_map]at e ⊢;obtain⟨j,hj,e2⟩:=map_eq_some_iff.mp e;rw[hj];obtain⟨pv0,e3,rfl⟩:=map_eq_some_iff.mp e2;have e4:env[j]?=some (some pv0):=by
   cases e5:env[j]? with
   |none=>rw[e5]at e3;cases e3
   |some w=>rw[e5]at e3;simp only[join_some]at e3;rw[e3]
  obtain⟨v,h1,h2⟩:=S.rel j pv0 e4;refine⟨v,by simp[h1],?_⟩;refine Rel.JV (B:=fun a=>∃o,H a=some o) (L:=NoL) (fun _ h=>h) (fun _ h=>h.elim) (fun a ha=>(S.dis j a ha).2) ?_;exact Rel.tr (fun _ h=>h) (fun a h=>let⟨⟨o,h1⟩,h2⟩:=S.hp.bo.1 a h;⟨o,S.hp.keep a o h1 h2⟩) (fun _ h=>h) (fun a o q _=>ext a o q) (fun a _ o q=>ext a o q) h2
 ·rw[getElem?_append_right (by simpa using hi),getElem?_replicate]at e;split at e<;>cases e
set_option maxHeartbeats 1000000 in
def og
  (cs:eZ X scope caps N tn) (hc:X.calm=true) (hi:SIc X T W tg iter mi) (hk:iz g caps.length)
  (hb:∀C s H ex,SG (cxC X scope C N s H ex) T tg g/\STs (cxC X scope C N s H ex) T WF ifs mc/\SE (cxC X scope C N s H ex) T WF elt me)
  (hs:∀x,foldedSetIterable iter X.env x=pure x) (I:L2.Inv X js Y H s) (h:tE T W (aY caps tn.length mi g mc me) Y H Q)
  (hfin:∀(Dd C:Addr) (H':Hp) (s6:Shared) (m:JE),Q (.ref Dd) H'->L2.Inv X js Y H' s6->s6.heap.Ns C m->H' C=none->C≠X.env.locals->C∉X.fs->X.s₀.heap.objs.size<=C->(∀x c,X.env.cells.lookup x=some c->c≠C)->(∀p∈X.pn++js,p.1≠C)->compPost (model X.prog X.w) X.A X.xe use Q' (.ref Dd) C (.ok .next) s6) :
  wpAny (model X.prog X.w) X.A (comprehension (.ListComp elt [⟨tg,iter,ifs,0⟩] scope pos) scope X.env p' (newList []) false (eval iter X.env) use) Q' X.xe s:=by
 obtain⟨Z,F,env,fp,S,q⟩:=h;unfold aY at q;refine wpAny_comprehension_free (use:=use) rfl hs (m6 fun y hy hf=>I.ok.has y.1 (cs.free y hy hf)) cs.kind cs.names ?_;refine thn (hi js s Y H (fun J H1=>∃F1 xs,mi env=.ok xs/\Gr F H F1 H1/\ItC T F1 Z.B (Own fp) H1 J xs) I ⟨Z,F,env,fp,S,?_⟩) fun xv s1 h1=>thn h1 fun itv s2 h2=>?_
 ·cases em:mi env with
  |ok xs=>exact fun J H1 F1 g1 it=>⟨F1,xs,rfl,g1,it⟩
  |exc c|stuck=>rw[em]at q;exact q
 obtain⟨it,fpi,tn_,J,H2,rfl,I2,Tn,st2,f2,F1,xs,em,g1,itc⟩:=h2;rw[em]at q;simp only[Res.J2]at q;split at q
 case isFalse=>exact q.elim
 rename_i hlen
 cases ec:eK g mc me (bW caps tn.length env) xs with
 |exc c|stuck=>rw[ec]at q;exact q.elim
 |ok full=>
 rw[ec]at q;dsimp only at q;have S2:=S.grow g1;have hlt:∀b∈fpi,b<s2.heap.objs.size:=fun b hb=>by obtain⟨o,ho,_⟩:=Tn.obj 0 _ st2 b hb;exact lt_size ho
 refine PySem.wpAny_newObj_type (p5 fun h₁ hns₁ hsb₁ hcl₁=>?_);dsimp only at hns₁ hsb₁ hcl₁ ⊢;generalize hH2:s2.heap.push {cls:=.type "list",dict:=none,data:=.seq ([]:JJ).toArray}=P2 at hns₁ hsb₁ hcl₁ ⊢;have hC:P2.objs.size=s2.heap.objs.size+1:=by rw[<- hH2,size_push]
 have old:∀b o,s2.heap.get? b=some o->h₁.get? b=some o:=fun b o e=>hsb₁ b o (hH2▸get?_push_of_some _ e);have hDo:h₁.get? s2.heap.objs.size=some {cls:=.type "list",data:=.seq ([]:JJ).toArray}:=hsb₁ _ _ (hH2▸get?_push_size _ rfl);rw[hC]at hns₁ hcl₁;have inv0:=xM (t:=s2.toks) cs I2 f2 hlt hns₁ hDo old hcl₁;have hDH:H2 s2.heap.objs.size=none:=I2.hok.fresh (Nat.le_refl _);have hDF:¬F1 s2.heap.objs.size:=fun z=>by obtain⟨o,e⟩:=g1.dom _ z;rw[hDH]at e;cases e
 have SB:=vG (caps:=caps) (k:=tn.length) S2 hDH hDF;obtain⟨hgN,hts,hel⟩:=hb (s2.heap.objs.size+1) s2 H2 fpi;have never:∀{α:Type}{t:Sem α}{Qa:α->Shared->Prop}{E':JD}{s':Shared},wpAny (model X.prog X.w) X.A t Qa (fun _ _=>False) s'->wpAny (model X.prog X.w) X.A t Qa E' s':=fun h=>wpAny_mono h (fun _ _ x=>x) fun _ _ z=>z.elim;have fpok:∀{H':Hp}{pins':JG},(∀p∈pins',p.1∉fpi)->(∀b∈fpi,H' b=none)->∀b∈fpi,mQ (cxC X scope (s2.heap.objs.size+1) N s2 H2 fpi) pins' H' b:=fun {H' pins'} hp hn b hb=>by
  refine⟨hn b hb,Nat.ne_of_lt (Nat.lt_succ_of_lt (hlt b hb)),(o9 cs I2 f2 hlt (le_succ _)).exfs b hb,.inl hb,((o9 cs I2 f2 hlt (le_succ _)).exf b hb).2,fun p hp' z=>?_⟩;rcases mem_append.mp hp' with w|w
  ·exact absurd (show p ∈([]:JG)from w) (by simp)
  ·exact hp p w (z▸hb)
 have key:∀s4:Shared,L2.Inv (cxC X scope (s2.heap.objs.size+1) N s2 H2 fpi) [] (pf caps tn.length Y) (upd H2 s2.heap.objs.size (.lst [])) s4->tn_ 0 s4.heap ->
   codeAny (model X.prog X.w) X.A (.compLoop (.ListComp elt [⟨tg,iter,ifs,0⟩] scope pos) 0 (.ref it) (.ref s2.heap.objs.size) (compEnvC scope (qB X scope (s2.heap.objs.size+1)) (s2.heap.objs.size+1) X.env))
    (compPost (model X.prog X.w) X.A X.xe use Q' (.ref s2.heap.objs.size) (s2.heap.objs.size+1)) s4:=by
  intro s4 inv4 st4;refine pb (fun n s'=>∃ (i:Nat) (σ':St) (H':Hp) (Fi:JH) (ys zs:JQ) (vs:JO) (f:JK),n=xs.length - i/\i <= xs.length/\L2.Inv (cxC X scope (s2.heap.objs.size+1) N s2 H2 fpi) [] σ' H' s'/\tn_ i s'.heap/\(∀ b ∈ fpi,H' b=none) /\
   aD T (zC F1 H2) Fi H' σ' (bW caps tn.length env) (fun _=>[])/\H' s2.heap.objs.size=some (.lst vs)/\RelL T Fi Z.B (Own fp) H' ys vs f/\f.Nodup/\(∀a∈f,¬Fi a/\H2 a=none/\a≠s2.heap.objs.size)/\¬Fi s2.heap.objs.size/\ys.length<=i /\
   eK g mc me (bW caps tn.length env) (xs.drop i)=.ok zs/\full=ys++zs) ?_ xs.length ?_
  case refine_2=>
   refine⟨0,_,_,F1,[],full,[],[],by simp,zero_le _,inv4,st4,fun b hb=>?_,SB,bz,by unfold RelL;exact⟨rfl,rfl⟩,nodup_nil,fun _ z=>(nomatch z),hDF,zero_le _,ec,rfl⟩;rw[aJ (Nat.ne_of_lt (hlt b hb))];exact(f2 b hb).1
  rintro n s5 ⟨i,σ',H',Fi,ys,zs,vs,f,rfl,hil,inv5,st5,fr5,SI5,hD5,ry,nd5,nf5,nFD,hyl,ecl,efull⟩;have ext5:Ext H2 H':=fun a o e=>SI5.hp.keep a o e fun z=>z;have gr5:Gr F1 H2 Fi H':=⟨ext5,SI5.hp.f0,fun a h=>by
   rcases SI5.hp.fn a h with z|z|z
   ·exact .inl z
   ·exact .inr z
   ·exact z.elim,SI5.hp.ft⟩
  obtain⟨go,stop⟩:=itc H' ext5;by_cases hlt5:i<xs.length
  ·have hx:xs[i]?=some xs[i]:=by simp[hlt5]
   obtain⟨g5,yl⟩:=go i _ hx;rw[List.drop_eq_getElem_cons hlt5]at ecl;unfold eK at ecl;cases eg:g xs[i].JV (bW caps tn.length env)with
   |none=>rw[eg]at ecl;cases ecl
   |some e'=>
   rw[eg]at ecl;dsimp only at ecl;refine thn (Tn.item (cxC X scope (s2.heap.objs.size+1) N s2 H2 fpi) rfl rfl rfl hc i [] s5 σ' H' _ inv5 (fpok (fun _ z=>absurd z (by simp)) fr5) st5 g5) fun r s6 hz1=>?_;obtain⟨u,hr,h6⟩:=hz1;subst hr;refine thn h6 fun _ s7 hz1=>?_;obtain⟨v,H7,inv7,rv,yy,st7,fr7⟩:=hz1;obtain⟨ex7,fx,tx,rx⟩:=yl v H7 yy
   replace SI5:=SI5.grow (Gr.same SI5.hp.ft ex7)
   replace ry:=ry.ext ex7 fun _ h=>h
   replace hD5:=ex7 _ _ hD5
   replace gr5:=gr5.trans (Gr.same gr5.dom ex7)
   replace ext5:=gr5.ext
   have pinv:=inv7.pinned (fpok (fun _ z=>absurd z (by simp)) fr7) (Tn.obj _ _ st7);have rxb:Rel T Fi (zC F1 H2).B NoL H7 xs[i].JV v []:=by refine Rel.JV (B:=fun a=>∃o,H2 a=some o) (L:=Own fp) (fun _ h=>h) (fun a ⟨j,hj⟩=>(S2.dis j a hj).2) (fun a ha=>tx a ha) ?_;exact Rel.tr SI5.hp.f0 (fun a h=>let⟨⟨o,h1⟩,h2⟩:=S2.hp.bo.1 a h;⟨o,S2.hp.keep a o h1 h2⟩) (fun _ h=>h) (fun a o q _=>q) (fun a _ o q=>q) rx
   refine never (thn (hgN _ s7 σ' H7 v u (fun σ8 H8=>H8=H7/\∃fp8,aD T (zC F1 H2) Fi H7 σ8 e' fp8) pinv rv ⟨zC F1 H2,Fi,bW caps tn.length env,fun _=>[],xs[i].JV,[],SI5,rxb,vP.nil,?_⟩) fun _ s8 ⟨σ8,H8,inv8,e8,fp8,S8⟩=>?_)
   ·rw[eg];exact fun σ8 fp8 S8=>⟨rfl,fp8,S8⟩
   subst e8;obtain⟨kl,kk⟩:=hk.keep _ _ _ eg;have capOwn:∀(j:Nat) pv,(bW caps tn.length env)[j]?=some (some pv)->pv.has Fl.JW=false:=fun j pv ej=>by
    unfold bW at ej;by_cases hj:j<caps.length
    ·rw[getElem?_append_left (by simpa using hj),getElem?_map]at ej;obtain⟨jj,_,e2⟩:=map_eq_some_iff.mp ej;obtain⟨pv0,_,rfl⟩:=map_eq_some_iff.mp e2;exact ju pv0
    ·rw[getElem?_append_right (by simpa using hj),getElem?_replicate]at ej;split at ej<;>cases ej
   have S8':aD T (zC F1 H2) Fi H8 σ8 e' (fun _=>[]):=S8.J1 fun j pv ej=>by
    rcases hk.own _ _ _ eg (ju _) j pv ej with z|z
    ·exact capOwn j pv z
    ·exact z
   have back:∀{F9:JH}{H9:Hp},aD T (zC F1 H2) F9 H9 σ8 e' (fun _=>[])->aD T (zC F1 H2) F9 H9 σ8 (bW caps tn.length env) (fun _=>[]):=fun S9=>S9.wk rfl kl.symm fun j pv ej=>by
    have hj:j<caps.length:=by
     by_cases hj:j<caps.length
     ·exact hj
     ·unfold bW at ej;rw[getElem?_append_right (by simpa using hj),getElem?_replicate]at ej;split at ej<;>cases ej
    rw[kk j hj];exact ej
   have pinback:∀{H9:Hp}{s9:Shared},L2.Inv (cxC X scope (s2.heap.objs.size+1) N s2 H2 fpi) ([]++ lG fpi s7.heap) σ8 H9 s9->L2.Inv (cxC X scope (s2.heap.objs.size+1) N s2 H2 fpi) [] σ8 H9 s9/\tn_ (i+1) s9.heap/\∀b∈fpi,H9 b=none:=fun {H9 s9} i9=>
    ⟨i9.unpinned,Tn.keep _ _ _ st7 fun b hb o e=>(i9.pin (b,o) (mem_append_right _ (mem_append_right _ (ii hb e)))).1,fun b hb=>by
     obtain⟨o,e,_⟩:=Tn.obj _ _ st7 b hb;exact(i9.pin (b,o) (mem_append_right _ (mem_append_right _ (ii hb e)))).2.1⟩
   cases emc:mc e' with
   |exc c|stuck=>rw[emc]at ecl;cases ecl
   |ok bb=>
   rw[emc]at ecl;simp only[Res.J2]at ecl;refine never (thn (hts _ s8 σ8 H8 (fun b H9=>b=bb/\∃F9,Gr Fi H8 F9 H9) inv8 ⟨zC F1 H2,Fi,e',fun _=>[],S8',?_⟩) fun ok s9 ⟨H9,inv9,eb,F9,g9⟩=>?_)
   ·rw[emc];exact fun H9 F9 g9=>⟨rfl,F9,g9⟩
   subst eb;have S9:=S8'.grow g9;have ry9:=ry.ext g9.ext g9.mono;have nf9:∀a∈f,¬F9 a:=fun a ha z=>by
    rcases g9.only a z with z|z
    ·exact(nf5 a ha).1 z
    ·obtain⟨o,e⟩:=ry.there a ha;rw[e]at z;cases z
   have nFD9:¬F9 s2.heap.objs.size:=fun z=>by
    rcases g9.only _ z with z|z
    ·exact nFD z
    ·rw[hD5]at z;cases z
   cases ok with
   |false=>simp only[false_eq_true,if_false]at ecl ⊢;obtain⟨i10,st10,fr10⟩:=pinback inv9;exact⟨xs.length-(i+1),by omega,i+1,σ8,H9,F9,ys,zs,vs,f,rfl,hlt5,i10,st10,fr10,back S9,g9.ext _ _ hD5,ry9,nd5,fun a ha=>⟨nf9 a ha,(nf5 a ha).2⟩,nFD9,by omega,ecl,efull⟩
   |true=>
    simp only[if_true]at ecl ⊢;cases eme:me e' with
    |exc c|stuck=>rw[eme]at ecl;cases ecl
    |ok y=>
    rw[eme]at ecl;simp only[Res.J2]at ecl;split at ecl
    case isTrue=>cases ecl
    rename_i hyb
    simp only[or_eq_true,not_or,Bool.not_eq_true]at hyb;cases ecr:eK g mc me (bW caps tn.length env) (xs.drop (i+1))with
    |exc c|stuck=>rw[ecr]at ecl;cases ecl
    |ok zs'=>
    rw[ecr]at ecl;simp only[Res.J2]at ecl;cases ecl;refine never (thn (hel _ s9 σ8 H9 (fun v' H10=>∃F10 f10,Gr F9 H9 F10 H10/\Rel T F10 (zC F1 H2).B (Own fun _=>[]) H10 y v' f10/\(∀a∈f10,¬F10 a)/\f10.Nodup/\∀a∈f10,H9 a=none) inv9 ⟨zC F1 H2,F9,e',fun _=>[],S9,?_⟩) fun w s10 ⟨v',H10,inv10,rw10,F10,f10,g10,r10,n10,d10,w10⟩=>?_)
    ·rw[eme];exact fun v' H10 F10 f10 g10 r10 n10 d10 w10=>⟨F10,f10,g10,r10,n10,d10,w10⟩
    have hvl:vs.length<sizeLine:=by have h1:=ry.length;have h2:sizeLine=16777216:=sizeLine_eq;omega
    have hD10:H10 s2.heap.objs.size=some (.lst vs):=g10.ext _ _ (g9.ext _ _ hD5);refine never (thn (nS _ s10 σ8 H10 (.ref s2.heap.objs.size) [v'] (.ref s2.heap.objs.size) [w] (fun _ H11=>H11=upd H10 s2.heap.objs.size (.lst (vs++[v']))) inv10 rfl (.cons rw10 .nil) ⟨s2.heap.objs.size,vs,v',rfl,rfl,hD10,hvl,rfl⟩) fun _ s11 zz=>?_);obtain⟨_,H11,inv11,_,e11⟩:=zz;subst e11;obtain⟨i12,st12,fr12⟩:=pinback inv11;have S10:=S9.grow g10;have nFD10:¬F10 s2.heap.objs.size:=fun z=>by
     rcases g10.only _ z with z|z
     ·exact nFD9 z
     ·rw[g9.ext _ _ hD5]at z;cases z
    have ry10:=ry9.ext g10.ext g10.mono;have ryy:RelL T F10 Z.B (Own fp) (upd H10 s2.heap.objs.size (.lst (vs++[v']))) (ys++[y]) (vs++[v']) (f++f10):=by
     have ry1:Rel T F10 Z.B (Own fp) H10 y v' f10:=Rel.noL hyb.2 (Rel.noB (B':=Z.B) hyb.1 r10);have all:RelL T F10 Z.B (Own fp) H10 (ys++[y]) (vs++[v']) (f++f10):=RelL.append ry10 (by unfold RelL;exact⟨v',[],f10,[],rfl,ry1,by unfold RelL;exact⟨rfl,rfl⟩,by simp⟩);refine RelL.tr (fun _ h=>h) (fun _ h=>h) (fun _ h=>h) (fun a o e h=>?_) (fun a ha o e=>?_) all
     ·refine(aJ fun z=>?_).trans e;subst z;rcases h with h|h|h|h
      ·exact nFD10 h
      ·obtain⟨⟨o',h1⟩,h2⟩:=S2.hp.bo.1 _ h;rw[S2.hp.keep _ o' h1 h2]at hDH;cases hDH
      ·obtain⟨j,hj⟩:=h;obtain⟨_,o',ho'⟩:=S2.dis j _ hj;rw[hDH]at ho';cases ho'
      ·rw[hD10]at e;cases e;exact h
     ·refine(aJ fun z=>?_).trans e;subst z;rcases mem_append.mp ha with ha|ha
      ·exact(nf5 _ ha).2.2 rfl
      ·have:=w10 _ ha;rw[g9.ext _ _ hD5]at this;cases this
    have nf10:∀a∈f,¬F10 a:=fun a ha z=>by
     rcases g10.only a z with z|z
     ·exact nf9 a ha z
     ·obtain⟨o,e⟩:=ry9.there a ha;rw[e]at z;cases z
    refine⟨xs.length-(i+1),by omega,i+1,σ8,_,F10,ys++[y],zs',vs++[v'],f++f10,rfl,hlt5,i12,st12,fr12,back (S10.updD nFD10 hDH hD10 (fun z=>z)),bz,ryy,?_,fun a ha=>?_,nFD10,by simp;omega,ecr,by rw[efull,append_assoc];rfl⟩
    ·refine nodup_append.mpr ⟨nd5,d10,fun a ha b hb z=>?_⟩;subst z;obtain⟨o,e⟩:=ry9.there a ha;rw[w10 a hb]at e;cases e
    ·rcases mem_append.mp ha with ha|ha
     ·exact⟨nf10 a ha,(nf5 a ha).2⟩
     ·refine⟨n10 a ha,?_,fun z=>?_⟩
      ·have:=w10 a ha;exact ext5.free (g9.ext.free this)
      ·subst z;have:=w10 _ ha;rw[g9.ext _ _ hD5]at this;cases this
  ·have e:i=xs.length:=by omega
   subst e;rw[List.drop_length]at ecl;unfold eK at ecl;cases ecl;rw[append_nil]at efull;subst efull;refine thn (Tn.done (cxC X scope (s2.heap.objs.size+1) N s2 H2 fpi) rfl rfl rfl hc xs.length [] s5 σ' H' _ inv5 (fpok (fun _ z=>absurd z (by simp)) fr5) st5 stop) fun r s6 hz1=>?_;obtain⟨hr,inv6⟩:=hz1;subst hr;obtain⟨m,hn,_⟩:=id inv6.loc;have hlc:X.env.locals<s2.heap.objs.size+1:=Nat.lt_succ_of_lt I2.lt;have iX:L2.Inv X js Y H' s6:=I2.call' inv6.os inv6.base inv6.hok inv6.bare fun b hb=>⟨(f2 b hb).2.2.2.1,(f2 b hb).2.1,(f2 b hb).2.2.2.2.1,(f2 b hb).2.2.2.2.2⟩
   refine hfin _ (s2.heap.objs.size+1) H' s6 m ?_ iX hn inv6.free (Nat.ne_of_gt hlc) (I2.nofs (le_succ _)) (Nat.le_trans I2.sz (le_succ _)) (fun x c e z=>?_) (fun p hp z=>?_)
   case refine_2=>
    obtain⟨v,hv⟩:=I2.cell x c e;rw[z]at hv;exact absurd hv.lt (Nat.not_lt.mpr (le_succ _))
   case refine_3=>
    have:=lt_size (I2.pin p hp).1;rw[z]at this;exact absurd this (Nat.not_lt.mpr (le_succ _))
   refine q (.ref s2.heap.objs.size) H' Fi (s2.heap.objs.size::f) (g1.trans gr5) ?_ (fun a ha=>?_) ?_ (fun a ha=>?_)
   ·unfold Rel;exact⟨_,vs,f,rfl,hD5,ry,rfl⟩
   ·grind
   ·exact nodup_cons.mpr ⟨fun z=>(nf5 _ z).2.2 rfl,nd5⟩
   ·rcases mem_cons.mp ha with rfl|ha
    ·exact g1.ext.free hDH
    ·exact g1.ext.free (nf5 a ha).2.1
 have st0:tn_ 0 h₁:=Tn.keep _ _ _ st2 fun b _ o e=>old b o e;have lp:=key _ inv0 st0;simp only[hC];exact codeAny_compStart_list lp (Tn.self _ 0 _ _ _ st0 lp)
def Ar
  (cs:eZ X scope caps N tn) (hc:X.calm=true) (hi:SIc X T W tg iter mi) (hk:iz g caps.length)
  (hb:∀C s H ex,SG (cxC X scope C N s H ex) T tg g/\STs (cxC X scope C N s H ex) T WF ifs mc/\SE (cxC X scope C N s H ex) T WF elt me)
  (hs:∀x,foldedSetIterable iter X.env x=pure x:=by intro _;rfl):SE X T W (.ListComp elt [⟨tg,iter,ifs,0⟩] scope pos) (aY caps tn.length mi g mc me):=by
 intro js s Y H Q I h;rw[eval_ListComp];refine og cs hc hi hk hb hs I h fun Dd C H' s6 m hq iX hn hCn hCl hCf hC0 hCc hCp=>⟨m,hn,fun h' hs'=>⟨.ref Dd,H',?_,rfl,hq⟩⟩
 exact iX.turned (t':=s6.toks) (fun b o hb e=>(hs'.2 b hb).trans e) hCn hCl (.inr hC0) hCc hCp
def Ab
  (cs:eZ X scope caps N tn) (hc:X.calm=true) (hN:X.N.Nodup) (hy:X.N[i]?=some y) (hx:Loc X.env.scope y) (hi:SIc X T W tg iter mi) (hk:iz g caps.length)
  (hb:∀C s H ex,SG (cxC X scope C N s H ex) T tg g/\STs (cxC X scope C N s H ex) T WF ifs mc/\SE (cxC X scope C N s H ex) T WF elt me)
  (hsw:swapsWith (.ListComp elt [⟨tg,iter,ifs,0⟩] scope pos) (some (.Name y py)) spos.line X.env=pure true:=by rfl)
  (hs:∀x,foldedSetIterable iter X.env x=pure x:=by intro _;rfl)
  (hf:X.fn y=true\/X.env.scope.names.lookup y=some .local:=by first|exact .inl rfl|exact .inr rfl|assumption) :
  SS X T W (.Assign [.Name y py] (.ListComp elt [⟨tg,iter,ifs,0⟩] scope pos) spos) (aV i (aY caps tn.length mi g mc me)):=by
 intro js s Y H D I h;obtain⟨Z,F,env,fp,S,q⟩:=h;unfold aV at q;rw[exec_Assign_Name_used _ _ _ _ hsw];refine wpAny_bind (wpAny_standAt (wpAny_bind ?_));show wpAny _ X.A (do let _ <- comprehension (.ListComp elt [⟨tg,iter,ifs,0⟩] scope pos) scope X.env _ (newList []) false (eval iter X.env) (some (assign (.Name y py) X.env))) _ _ s;refine wpAny_bind (wpAny_mono (og (use:=some (assign (.Name y py) X.env)) (Q':=fun _ s'=>SP X js D .next s') (Q:=fun v H1=>D.nx (Y.set i (some v)) H1) cs hc hi hk hb hs I ?_ fun Dd C H' s6 m hq iX hn hCn hCl hCf hC0 hCc hCp=>?_) (fun _ s' hq=>wpAny_pure (wpAny_pure hq)) fun _ _ e=>e)
 ·refine tE.bind S (fun c e H' x=>?_) (fun e=>by rw[e]at q;exact q) fun pv v H1 F1 f e g r h1 h2 h3=>?_
  ·rw[e]at q;exact q F H' Y fp (S.grow (Gr.same S.hp.ft x))
  ·rw[e]at q;simp only at q;split at q
   ·rename_i hl
    rw[and_eq_true]at hl;exact q F1 H1 _ _ (S.putN g hl.2 r hl.1 h1 h2 h3)
   ·exact q.elim
 ·refine wpAny_assign_Name (nA (v:=.ref Dd) (u:=.ref Dd) iX hN hy hx rfl (fun s7 i7 ⟨a,hsa,ha⟩=>?_) hf);have hCa:C≠a:=by
   rcases ha with ha|ha
   ·rw[ha];exact hCl
   ·exact fun z=>hCc y a ha z.symm
  refine⟨m,hn.sameBut hsa hCa,fun h' hs'=>⟨_,H',?_,hq⟩⟩;exact i7.turned (t':=s7.toks) (fun b o hb e=>(hs'.2 b hb).trans e) hCn hCl (.inr hC0) hCc hCp
end
def GFI(T:Tb)(Z:Zn)(v0:V)(Q:VK)(E:XK):JR->Prop
 |.ok pv=>∀F H f,cM T Z F H->Rel T F Z.B NoL H pv v0 f->f.Nodup->(∀a∈f,¬F a)->(∀a∈f,Z.H0 a=none\/Z.fp0 a)->Q .non H
 |.exc c=>∀H,(∀a o,Z.H0 a=some o->¬Z.fp0 a->H a=some o)->E (.ref (T.xcl c)) none H
 |.stuck=>False
def spI(T:Tb)(n:Nat)(m:JQ->JR):Sp:=fun vs H Q E=>vs.length=n/\∃v0 pvs F B f,vs[0]?=some v0/\sL T F B H pvs vs f/\(∃fl c ks xs,pvs[0]?=some (.obj fl c ks xs))/\GFI T ⟨H,F,(·∈f),B,some v0⟩ v0 Q E (m pvs)
def iG(n:Nat)(m:MS)(args:JQ):JR:=match m (args.map some++replicate (n-args.length) none)with
 |.next e=>match e[0]? with
  |some (some o)=>.ok o
  |_=>.stuck
 |.exc c _=>.exc c
 |_=>.stuck
section
variable{P:Program}{w:World}{K:PySem.W.Frag}{mg:JE}{base:Heap}{T:Tb}
def Es(F:Fun K x qual st f fd)(S:dF N ps (aH st))
  (body:∀ (cdv:Value) (A:Around) (outer:List Env) (s:Shared) (H:Hp) (E:XK),d0 k (A.deeper (PyProof.Rows.envOfC qual (aH st) s.heap.objs.size f cdv)) ->
   SSs (dQ (CXP P w) P w K mg base N qual (aH st) f cdv A outer s H E) T (WD T E) (bQ st) m):dG P w K mg base (CXP P w) (k+1) f fd ps (spI T ps.length (iG N.length m)):=by
 obtain⟨oc,od,kV,doc,pm,an,cdv,ct,osl,rfl,lk,hcd⟩:=F.ex;refine Cd lk hcd S (fun vs H Q E h=>h.1) fun A outer s H vs Q E hr hsp=>⟨_,body cdv A outer s H E hr,?_⟩
 obtain⟨_,v0,pvs,F,B,fl,hv0,R,hob,q⟩:=hsp;obtain⟨fp,S0⟩:=i5 N R (some v0) (fun v hv=>by cases hv;exact⟨hv0,hob⟩);refine⟨_,F,_,fp,S0,?_⟩;unfold iG at q;cases e:m (pvs.map some++replicate (N.length-pvs.length) none)with
 |next e'=>
  rw[e]at q;dsimp only at q;intro F' H' σ' fp' S';obtain⟨h1,_⟩:=S'.pn v0 rfl;cases e0:e'[0]? with
  |none=>rw[e0]at q;exact q.elim
  |some o0=>
   cases o0 with
   |none=>rw[e0]at q;exact q.elim
   |some o=>rw[e0]at q;obtain⟨v,h2,r⟩:=S'.rel 0 o e0;rw[h1]at h2;cases h2;exact q F' H' (fp' 0) S'.hp r (S'.nd 0) (fun a ha=>(S'.dis 0 a ha).1) (S'.new 0)
 |ret v|brk e'|cont e'=>rw[e]at q;exact q.elim
 |exc c e'=>rw[e]at q;exact fun F' H' σ' fp' S'=>q H' S'.hp.keep
 |stuck=>rw[e]at q;exact q.elim
end
section
variable{X:Cx}{T:Tb}{W:Nat->St->JP}{Z:Zn}{F F1 B L:JH}{H H1:Hp}{Y:St}{env:En}{fp:Nat->JK}{D:Ends}
def CP
  (M:Mk X.K (T.cls c) f) (hcn:c<T.nc) (G:dG X.prog X.w X.K X.mg X.base (CXP X.prog X.w) k f fd ps (spI T ps.length m)) (hr:d0 (k+1) X.A) (hb:fA X.K fd ps ds) (hd:aW dvs ds) (hdp:∀F B L H,RelL T F B L H dps dvs []) (hx:XF X T W)
  (S:aD T Z F H Y env fp) (g:Gr F H F1 H1) (r:RelL T F1 Z.B (Own fp) H1 xs vs fx) (nf:∀a∈fx,¬F1 a) (nd:fx.Nodup) (new:∀a∈fx,H a=none) (q:GE T W Z.B F (Own fp) Y H Q (aL m (.obj .own c [] []::(xs++dps))))
  (I1:L2.Inv X js Y H1 s1) (rv:aW vs us) (hlen:vs.length+dvs.length+1=ps.length):wpAny (model X.prog X.w) X.A (call (.ref (T.cls c)) us) (EP X js Y Q) X.xe s1:=by
 have hxn:H1 (s1.heap.objs.size+1)=none:=I1.hok.fresh (le_succ _);have hdn:H1 s1.heap.objs.size=none:=I1.hok.fresh (Nat.le_refl _);have hne:s1.heap.objs.size≠s1.heap.objs.size+1:=Nat.ne_of_lt (Nat.lt_succ_self _);generalize hH2:upd (upd H1 s1.heap.objs.size (.own (s1.heap.objs.size+1))) (s1.heap.objs.size+1) (.ins (T.cls c) s1.heap.objs.size [])=H2;have ext2:Ext H1 H2:=by rw[<- hH2];exact(Ext.upd hdn).trans (Ext.upd (by rw[aJ hne.symm];exact hxn))
 have free2:∀a,H2 a=none->H1 a=none:=fun a h=>ext2.free h;have hx2:H2 (s1.heap.objs.size+1)=some (.ins (T.cls c) s1.heap.objs.size []):=by rw[<- hH2];exact bz
 have I2:=L2.Inv.made (C:=T.cls c) I1;rw[hH2]at I2;have r2:aW (V.ref (s1.heap.objs.size+1)::(vs++dvs)) (Value.ref (s1.heap.objs.size+1)::(us++ds)):=.cons rfl (rv.append hd);have hl:(Value.ref (s1.heap.objs.size+1)::us++ds).length=ps.length:=by have e:=r2.length;simp only[length_cons,length_append]at e hlen ⊢;omega
 have rr:RelL T F1 Z.B (Own fp) H1 (xs++dps) (vs++dvs) fx:=by
  have:=RelL.append r (hdp F1 Z.B (Own fp) H1)
  rwa [append_nil]at this
 have nx:s1.heap.objs.size+1∉fx:=fun z=>by obtain⟨o,ho⟩:=r.there _ z;rw[hxn]at ho;cases ho
 have hBo:∀a,Z.B a->(∃o,H2 a=some o)/\a ∉(s1.heap.objs.size+1)::fx:=fun a h=>by
  obtain⟨⟨o,h1⟩,h2⟩:=S.hp.bo.1 a h;have h3:=S.hp.keep a o h1 h2;refine⟨⟨o,ext2 a o (g.ext a o h3)⟩,fun z=>?_⟩;rcases mem_cons.mp z with z|z
  ·rw[z]at h3;rw[g.ext _ _ h3]at hxn;cases hxn
  ·rw[new a z]at h3;cases h3
 have hOw:∀a,Own fp a->(∃o,H2 a=some o)/\a ∉(s1.heap.objs.size+1)::fx:=fun a hz1=>by
  obtain⟨i,hi⟩:=hz1;obtain⟨_,o,ho⟩:=S.dis i a hi;refine⟨⟨o,ext2 a o (g.ext a o ho)⟩,fun z=>?_⟩;rcases mem_cons.mp z with z|z
  ·rw[z]at ho;rw[g.ext _ _ ho]at hxn;cases hxn
  ·rw[new a z]at ho;cases ho
 have nF:¬F1 (s1.heap.objs.size+1):=fun z=>by obtain⟨o,ho⟩:=g.dom _ z;rw[hxn]at ho;cases ho
 have R:sL T F1 (fun a=>(∃o,H2 a=some o)/\a ∉(s1.heap.objs.size+1)::fx) H2 (.obj .own c [] []::mapL Fl.JT (xs++dps)) (.ref (s1.heap.objs.size+1)::(vs++dvs)) ((s1.heap.objs.size+1)::fx):=by
  refine⟨?_,nodup_cons.mpr ⟨nx,nd⟩,fun a ha=>?_,⟨fun a h=>h,S.tbo (g.ext.trans ext2) fun a z=>.inl ((mem_cons.mp z).elim (fun z=>by rw[z];exact g.ext.free hxn) (new a))⟩,fun a h=>let⟨o,ho⟩:=g.dom a h;⟨o,ext2 a o ho⟩⟩
  ·unfold RelL;refine⟨_,_,[s1.heap.objs.size+1],fx,rfl,?_,RelL.JT hBo hOw (rr.ext ext2 fun _ h=>h),rfl⟩;unfold Rel;exact⟨_,s1.heap.objs.size,[],[],rfl,by simpa using hx2,⟨rfl,hcn⟩,by unfold RelL;exact⟨rfl,rfl⟩,rfl,True.intro⟩
  ·rcases mem_cons.mp ha with rfl|ha
   ·exact nF
   ·exact nf a ha
 have newx:∀a ∈(s1.heap.objs.size+1)::fx,H a=none:=fun a ha=>by
  rcases mem_cons.mp ha with rfl|ha
  ·exact g.ext.free hxn
  ·exact new a ha
 refine wpAny_call (xA (f:=f) I1.kIn M.makes M.init (beq_iff_eq.mp M.fn) (codeAny_mono (G.run _ X.stack _ _ ⟨Value.ref (s1.heap.objs.size+1)::us,[]⟩ (Value.ref (s1.heap.objs.size+1)::(us ++ ds)) _ (fun v H3=>v=.non/\Q (.ref (s1.heap.objs.size+1)) H3) (fun cls _ H'=>∃ c,cls=.ref (T.xcl c)/\W c Y H') (hr.make (T.cls c) us [])
  (I2.env0.make (T.cls c) us []) (hb _ (Value.ref (s1.heap.objs.size+1)::us) I2.kIn hl) r2 ⟨by rw[r2.length];exact hl,_,_,F1,_,_,rfl,R,⟨.own,c,[],[],rfl⟩,?_⟩) fun rs s' hq'=>?_))
 ·unfold aL at q;have e0:mapL Fl.JT (PV.obj .own c [] []::(xs++dps))=.obj .own c [] []::mapL Fl.JT (xs++dps):=by simp[mapL,PV.J0,Fl.JT]
  rw[e0]at q;cases e:m (.obj .own c [] []::mapL Fl.JT (xs++dps))with
  |ok v=>
   rw[e]at q;dsimp only at q;intro F3 H3 f3 hp3 r3 nd3 nf3 new3;refine⟨rfl,?_⟩;by_cases hbr:v.has Fl.JY=true
   ·rw[if_pos hbr]at q;exact q.elim
   ·rw[if_neg hbr]at q;have hbr':v.has Fl.JY=false:=by simpa using hbr
    refine q _ H3 F3 f3 ⟨fun a o h=>hp3.keep a o (ext2 a o (g.ext a o h)) fun z=>(by rw[newx a z]at h;cases h),fun a h=>hp3.f0 a (g.mono a h),fun a h=>?_,hp3.ft⟩ ?_ nf3 nd3 fun a ha=>?_
    ·rcases hp3.fn a h with z|z|z
     ·exact g.only a z
     ·exact .inr (g.ext.free (free2 a z))
     ·exact .inr (newx a z)
    ·exact Rel.tr (fun _ h=>h) (fun _ h=>h) (fun _ h=>h.elim) (fun _ _ h _=>h) (fun _ _ _ h=>h) (Rel.noB (B':=Z.B) hbr' r3)
    ·rcases new3 a ha with z|z
     ·exact g.ext.free (free2 a z)
     ·exact newx a z
  |exc c'=>rw[e]at q;exact fun H' h=>⟨c',rfl,q H' fun a o z=>h a o (ext2 a o (g.ext a o z)) fun z'=>by rw[newx a z']at z;cases z⟩
  |stuck=>rw[e]at q;exact q.elim
 ·cases rs with
  |error e=>obtain⟨cls,H',fl,c',rfl,hw⟩:=hq';exact hx js Y H2 _ c' H' e s' I2 fl hw
  |ok fl=>
   cases fl with
   |ret u=>obtain⟨v,H',I3,rv',ev,q3⟩:=I2.after hq';subst ev;exact⟨rv',⟨V.ref (s1.heap.objs.size+1),H',I3,rfl,q3⟩⟩
   |next|brk|cont=>exact False.elim hq'
def Ao
  (M:Mk X.K (T.cls c) f) (hcn:c<T.nc) (G:dG X.prog X.w X.K X.mg X.base (CXP X.prog X.w) k f fd ps (spI T ps.length m)) (hr:d0 (k+1) X.A) (hg:Gl X x) (hm:X.mg x=some (.ref (T.cls c))) (hb:fA X.K fd ps ds) (hd:aW dvs ds) (hdp:∀F B L H,RelL T F B L H dps dvs []) (hx:XF X T W)
  (hn:iA ms n) (hps:n+dvs.length+1=ps.length) (ha:SA X T W (e::es) ms)
  (hdb:(x ==("__debug__":Str))=false:=by decide) (he:starEach (e::es) X.env=(false,eval e X.env)::starEach es X.env:=by rfl) (hpl:(backTo pos (starEach es X.env)).any (·.1)=false:=by rfl) :
  SE X T W (.Call (.Name x p) (e::es) [] pos) (ar (fun xs=>aL m (.obj .own c [] []::(xs++dps))) ms):=by
 intro js s Y H Q I h;obtain⟨Z,F,env,fp,S,q⟩:=h;unfold ar at q;refine wpAny_Call_Name_kw (iZ I hg hm ?_ hdb);refine callWith_K (h₀:=X.base) I.ok.mod.kin M.kp (thn (ha pos js s Y H (fun vs H1=>∀ us s1,L2.Inv X js Y H1 s1->aW vs us->wpAny (model X.prog X.w) X.A (call (.ref (T.cls c)) us) (EP X js Y Q) X.xe s1) I
  (tA.bq S fun xs vs H1 F1 f1 e1 g1 r1 n1 d1 w1 us s1 I1 rv=>?_)) fun us s1 ⟨vs,H1,I1,r,q1⟩=>⟨I1.kIn,q1 us s1 I1 r⟩) he hpl
 rw[e1]at q;exact CP M hcn G hr hb hd hdp hx S g1 r1 n1 d1 w1 q I1 rv (by rw[<- r1.length,hn env xs e1];exact hps)
def aD.mut(S:aD T Z F H Y env fp)(hi:i<env.length)(hv:Y[i]?=some (some v))(ha:a∈fp i)(r:Rel T F Z.B NoL (upd H a o') pv' v f')(nd:f'.Nodup)(nf:∀b∈f',¬F b)
  (new:∀b∈f',Z.H0 b=none\/Z.fp0 b) (dj:∀b∈f',∀j,j≠i->b∉fp j) (ho:i=0->dY env=true->∃fl c ks xs,pv'=.obj fl c ks xs):aD T Z F (upd H a o') Y (env.set i (some pv')) (cO fp i f'):=by
 obtain⟨oa,hoa,hch⟩:=S.ch i a ha;have nFa:¬F a:=(S.dis i a ha).1;have nBa:¬Z.B a:=fun z=>S.bow a z ⟨i,ha⟩;have ne:∀b u,H b=some u->(F b\/Z.B b\/NoL b\/jh u)->b≠a:=fun b u e h z=>by
  subst z;rcases h with h|h|h|h
  ·exact nFa h
  ·exact nBa h
  ·exact h
  ·rw[hoa]at e;cases e;cases oa with
   |lst _|ins _ _ _=>exact h
   |_=>exact hch
 have nz:∀b u,Z.H0 b=some u->¬Z.fp0 b->b≠a:=(by grind[cO,aD,cM,Gr])
 have nj:∀j,j≠i->∀b∈fp j,b≠a:=fun j hj b hb z=>by subst z;exact S.dj j i hj _ hb ha
 refine⟨⟨S.hp.bo,fun b u e n=>by rw[aJ (nz b u e n)];exact S.hp.keep b u e n,S.hp.f0,S.hp.fn,fun b h=>?_⟩,by rw[length_set,S.len],fun j pv e=>?_,fun j=>?_,fun j k hjk b hb=>?_,fun j b hb=>?_,fun j b hb=>?_,fun j b hb=>?_,fun w hw=>?_⟩
 ·obtain⟨u,e⟩:=S.hp.ft b h;exact⟨u,by rw[aJ (show b≠a from fun z=>nFa (by rw[<- z];exact h))];exact e⟩
 ·by_cases hj:j=i
  ·subst hj;rw[getElem?_set_self hi]at e;cases e;refine⟨v,hv,?_⟩;unfold cO;rw[if_pos rfl];exact r
  ·rw[getElem?_set_ne (Ne.symm hj)]at e;obtain⟨w,h1,h2⟩:=S.rel j pv e;refine⟨w,h1,?_⟩;unfold cO;rw[if_neg hj];exact Rel.tr (fun _ h=>h) (fun _ h=>h) (fun _ h=>h) (fun b u q h=>by rw[aJ (ne b u q h)];exact q) (fun b hb u q=>by rw[aJ (nj j hj b hb)];exact q) h2
 ·unfold cO;split
  ·exact nd
  ·exact S.nd j
 ·grind[cO,aD,cM,Gr]
 ·unfold cO at hb;by_cases h1:j=i
  ·rw[if_pos h1]at hb;exact⟨nf b hb,r.there b hb⟩
  ·rw[if_neg h1]at hb;obtain⟨n,u,e⟩:=S.dis j b hb;exact⟨n,u,by rw[aJ (nj j h1 b hb)];exact e⟩
 ·unfold cO at hb;by_cases h1:j=i
  ·rw[if_pos h1]at hb;exact new b hb
  ·rw[if_neg h1]at hb;exact S.new j b hb
 ·unfold cO at hb;by_cases h1:j=i
  ·rw[if_pos h1]at hb;exact r.chg b hb
  ·rw[if_neg h1]at hb;obtain⟨u,e,c⟩:=S.ch j b hb;exact⟨u,by rw[aJ (nj j h1 b hb)];exact e,c⟩
 ·obtain⟨h1,h2⟩:=S.pn w hw;refine⟨h1,?_⟩;by_cases hi0:i=0
  ·obtain⟨fl,c,ks,xs,e⟩:=ho hi0 h2;subst hi0 e;unfold dY;rw[getElem?_set_self hi]
  ·unfold dY at h2 ⊢;rw[getElem?_set_ne hi0];exact h2
def fY(i k:Nat)(e:ME):MS:=fun env=>match e env with
 | .ok v=>(match env[i]? with
  |some (some (.obj .own c ks vs))=>if v.JZ&&!ks.contains k&&decide (ks.length<900)then .next (env.set i (some (.obj .own c (ks++[k]) (vs++[v]))))else .stuck
  |_=>.stuck)
 |.exc c=>.exc c env
 |.stuck=>.stuck
def pW:∀{ks:List Nat}{ws:JO},ks.contains k=false->ks.length=ws.length->hV (T.att k) y ((ks.map T.att).zip ws)=((ks++[k]).map T.att).zip (ws++[y])
 | [],[],_,_=>rfl
 |j::ks,w::ws,h,hl=>by simp only[List.contains_cons,or_eq_false_iff,beq_eq_false_iff_ne]at h;show hV (T.att k) y ((T.att j,w)::(ks.map T.att).zip ws)=(T.att j,w)::((ks++[k]).map T.att).zip (ws++[y]);unfold hV;rw[if_neg (fun z=>h.1 (T.inj _ _ z).symm),pW h.2 (by simpa using hl)]
 | [],_::_,_,hl|_::_,[],_,hl=>by simp at hl
def Cy(hK:X.K=T.K)(hf:T.att k=f)(hc:∀c<T.nc,Cls T.K (T.cls c))(hn:∀c<T.nc,fG T.K (T.cls c) f)(hN:X.N[i]?=some x)(hv:Vis X.env.scope x)(he:SE X T W e m)
  (hs:swapsWith e (some (.Attribute (.Name x px) f pos')) pos.line X.env=pure false:=by rfl) (hd:(x ==("__debug__":Str))=false:=by decide) (hcd:(x ==("__classdict__":Str))=false:=by decide) :
  SS X T W (.Assign [.Attribute (.Name x px) f pos'] e pos) (fY i k m):=PS.wk (C0 (pos:=pos) (pos':=pos') (hZ (pos:=px) hN hv hd hcd) he hs) fun D Y H hz1=>by
 obtain⟨Z,F,env,fp,S,q⟩:=hz1;unfold fY at q;refine tE.bind S (fun c e H' x=>?_) (fun e=>by rw[e]at q;exact q) fun pv v H1 F1 f1 e g r h1 h2 h3=>?_
 ·rw[e]at q;exact q F H' Y fp (S.grow (Gr.same S.hp.ft x))
 ·rw[e]at q;dsimp only at q;split at q
  ·rename_i c ks vs eo
   split at q
   ·rename_i hcnd
    simp only[and_eq_true,not_eq_true',decide_eq_true_eq]at hcnd;obtain⟨⟨hln,hkn⟩,hkl⟩:=hcnd;have S1:=S.grow g;obtain⟨vo,ho1,ho2⟩:=S1.rel i _ eo;have ho3:=ho2;unfold Rel at ho3;obtain⟨a,dx,ws,fp',rfl,hl,hk,hr,hfl,_⟩:=ho3;have hfl':fp i=a::fp':=hfl;have hil:i<env.length:=(List.getElem?_eq_some_iff.mp eo).1;refine⟨_,ho1,a,_,dx,_,rfl,hl,by rw[hK];exact hc c hk.2,by rw[hK];exact hn c hk.2,?_,?_⟩
    ·have:=hr.length;rw[List.length_zip,length_map];omega
    ·rw[<- hf,pW hkn (by rw[<- hr.length];exact hk.1)];have ha:a∈fp i:=by rw[hfl'];exact mem_cons_self
     have nd:(a::fp').Nodup:=by rw[<- hfl'];exact S1.nd i
     have old:∀b∈f1,∀j,b∉fp j:=fun b hb j hj=>by obtain⟨_,o,e⟩:=S.dis j b hj;rw[h3 b hb]at e;cases e
     have hrv:Rel T F1 Z.B NoL H1 pv v f1:=Rel.noL (by simpa[PV.JZ]using hln) r;have nea:∀b u,H1 b=some u->(F1 b\/Z.B b\/NoL b\/jh u)->b≠a:=fun b u e h z=>by
      subst z;rcases h with h|h|h|h
      ·exact(S1.dis i _ ha).1 h
      ·exact S1.bow _ h ⟨i,ha⟩
      ·exact h
      ·rw[hl]at e;cases e;exact h
     refine q F1 _ Y _ (S1.mut (f':=a::(fp'++f1)) hil ho1 ha ?_ ?_ (fun b hb=>?_) (fun b hb=>?_) (fun b hb j hj=>?_) fun _ _=>⟨_,_,_,_,rfl⟩)
     ·unfold Rel;have hrr:RelL T F1 Z.B NoL H1 (vs++[pv]) (ws++[v]) (fp'++f1):=RelL.append hr (by unfold RelL;exact⟨v,[],f1,[],rfl,hrv,by unfold RelL;exact⟨rfl,rfl⟩,by simp⟩);refine⟨a,dx,ws++[v],fp'++f1,rfl,bz,⟨by simp[hk.1],hk.2⟩,?_,rfl,True.intro⟩;refine RelL.tr (fun _ h=>h) (fun _ h=>h) (fun _ h=>h) (fun b u e h=>by rw[aJ (nea b u e h)];exact e) (fun b hb u e=>?_) hrr;refine(aJ fun z=>?_).trans e
      grind
     ·grind
     ·grind[cO,aD,cM,Gr]
     ·rcases mem_cons.mp hb with rfl|hb
      ·exact S1.new i _ ha
      ·rcases mem_append.mp hb with hb|hb
       ·exact S1.new i b (by rw[hfl'];exact mem_cons_of_mem _ hb)
       ·exact S.hp.newE h3 b hb
     grind[cO,aD,cM,Gr]
   ·exact q.elim
  ·exact q.elim
def aD.mutL{i:Nat}{xs ys:JQ}{ws us:JO}{a:Addr}{v:V}{f' fp':JK}(S:aD T Z F H Y env fp)(eo:env[i]?=some (some (.lst .own xs)))(hv:Y[i]?=some (some (.ref a)))(hfp:fp i=a::fp')(r:RelL T F Z.B NoL H ys us f')(nd:f'.Nodup)
  (hf:∀b∈f',(b∈fp')\/(¬F b/\(Z.H0 b=none\/Z.fp0 b)/\∀j,b∉fp j)) (hl:H a=some (.lst ws)):aD T Z F (upd H a (.lst us)) Y (env.set i (some (.lst .own ys))) (cO fp i (a::f')):=by
 have ha:a∈fp i:=by rw[hfp];exact mem_cons_self
 have ndi:(a::fp').Nodup:=by rw[<- hfp];exact S.nd i
 have sub:∀b∈fp',b∈fp i:=fun b hb=>by rw[hfp];exact mem_cons_of_mem _ hb
 have na:∀b∈f',b≠a:=(by grind)
 have hil:i<env.length:=(List.getElem?_eq_some_iff.mp eo).1;have nea:∀b u,H b=some u->(F b\/Z.B b\/NoL b\/jh u)->b≠a:=fun b u e h z=>by
  subst z;rcases h with h|h|h|h
  ·exact(S.dis i _ ha).1 h
  ·exact S.bow _ h ⟨i,ha⟩
  ·exact h
  ·rw[hl]at e;cases e;exact h
 refine S.mut hil hv ha ?_ (nodup_cons.mpr ⟨fun z=>na a z rfl,nd⟩) (fun b hb=>?_) (fun b hb=>?_) (fun b hb j hj=>?_) fun h0 h1=>?_
 ·unfold Rel;exact⟨a,us,f',rfl,bz,RelL.tr (fun _ h=>h) (fun _ h=>h) (fun _ h=>h) (fun b u e h=>by rw[aJ (nea b u e h)];exact e) (fun b hb u e=>by rw[aJ (na b hb)];exact e) r,rfl⟩
 ·rcases mem_cons.mp hb with rfl|hb
  ·exact(S.dis i _ ha).1
  ·rcases hf b hb with h|h
   ·exact(S.dis i b (sub b h)).1
   ·exact h.1
 ·grind[cO,aD,cM,Gr]
 ·grind[cO,aD,cM,Gr]
 ·subst h0;unfold dY at h1;rw[eo]at h1;cases h1
def aD.lst{i:Nat}{xs:JQ}(S:aD T Z F H Y env fp)(eo:env[i]?=some (some (.lst .own xs))):∃a ws fp',Y[i]?=some (some (.ref a))/\H a=some (.lst ws)/\RelL T F Z.B NoL H xs ws fp'/\fp i=a::fp':=by obtain⟨v,h1,h2⟩:=S.rel i _ eo;unfold Rel at h2;obtain⟨a,ws,fp',rfl,hl,hr,hf⟩:=h2;exact⟨a,ws,fp',h1,hl,hr,hf⟩
def aD.beside{f1:JK}(S:aD T Z F H Y env fp)(g:Gr F H F1 H1)(h1:∀ a ∈ f1,¬ F1 a)(h3:∀ a ∈ f1,H a=none):∀ b ∈ f1,¬ F1 b/\(Z.H0 b=none \/ Z.fp0 b)/\∀ j,b ∉ fp j:=fun b hb=>⟨h1 b hb,S.hp.newE h3 b hb,fun j hj=>by
 obtain⟨_,o,e⟩:=S.dis j b hj;rw[h3 b hb]at e;cases e⟩
def cJ(i:Nat)(e:ME):MS:=fun env=>match e env with
 | .ok v=>(match env[i]? with
  |some (some (.lst .own xs))=>if v.JZ&&decide (xs.length<10000000)then .next (env.set i (some (.lst .own (xs++[v]))))else .stuck
  |_=>.stuck)
 | .exc c=>(match env[i]? with
  |some (some (.lst .own _))=>.exc c env
  |_=>.stuck)
 |.stuck=>.stuck
def ut{i:Nat}{x:Str}{e:Expr}{m:ME}{pos px apos cpos:Pos}(hK:X.K=T.K)(hN:X.N[i]?=some x)(hv:Vis X.env.scope x)(he:SE X T W e m)
  (hs:swapsWith (.Call (.Attribute (.Name x px) "append" apos) [e] [] cpos) none pos.line X.env=pure false:=by rfl) (hst:starEach [e] X.env=[(false,eval e X.env)]:=by rfl)
  (hfew:((backTo cpos (starEach [e] X.env)).all (fun x=>!x.1)&&(backToKw cpos (keywordEach [] X.env)).all (fun x=>x.1.isSome)&&decide ([e].length+([]:List Keyword).length+(if([]:List Keyword).isEmpty then 0 else 1)<30))=true:=by rfl)
  (hline:(apos.endLine==cpos.line)=true:=by rfl) (hd:(x ==("__debug__":Str))=false:=by decide) (hcd:(x ==("__classdict__":Str))=false:=by decide) :
  SS X T W (.Expr (.Call (.Attribute (.Name x px) "append" apos) [e] [] cpos) pos) (cJ i m):=
 PS.wk (oJ (pos:=pos) (GK (cpos:=cpos) (apos:=apos) PySem.F.plainAttrs_list PySem.F.slot_list_append PySem.F.type_list_append nS (hZ (pos:=px) hN hv hd hcd) (aa he af hst) rfl hfew hline hst) hs) fun D Y H hz1=>by
  obtain⟨Z,F,env,fp,S,q⟩:=hz1;unfold cJ at q;cases em:m env with
  |stuck=>rw[em]at q;exact q.elim
  |exc c=>
   rw[em]at q;dsimp only at q;split at q
   ·rename_i xs eo
    obtain⟨a,ws,fp',h1,hl,hr,hf⟩:=S.lst eo;refine⟨_,h1,.inl ⟨rfl,ws,by rw[hK];exact SqL.of hl⟩,Z,F,env,fp,S,?_⟩;unfold ad;rw[em];exact fun H' x=>q F H' Y fp (S.grow (Gr.same S.hp.ft x))
   ·exact q.elim
  |ok v=>
   rw[em]at q;dsimp only at q;split at q
   ·rename_i xs eo
    split at q
    ·rename_i hc
     simp only[and_eq_true,decide_eq_true_eq]at hc;obtain⟨a,ws,fp',h1,hl,hr,hf⟩:=S.lst eo;refine⟨_,h1,.inl ⟨rfl,ws,by rw[hK];exact SqL.of hl⟩,Z,F,env,fp,S,?_⟩;unfold ad ak;rw[em];intro vs H1 F1 f1 g r n1 d1 w1;obtain⟨u,rfl,ru⟩:=r.one;have S1:=S.grow g;have hl1:=g.ext a _ hl;refine⟨a,ws,u,rfl,rfl,hl1,?_,?_⟩
     ·rw[<- hr.length,sizeLine_eq];omega
     ·have rone:RelL T F1 Z.B NoL H1 [v] [u] f1:=by unfold RelL;exact⟨u,[],f1,[],rfl,Rel.noL (by simpa[PV.JZ]using hc.1) ru,by unfold RelL;exact⟨rfl,rfl⟩,by simp⟩
      refine q F1 _ Y _ (S1.mutL (v:=u) eo h1 hf (RelL.append (hr.ext g.ext g.mono) rone) ?_ (fun b hb=>?_) hl1)
      ·have ndi:(a::fp').Nodup:=by rw[<- hf];exact S.nd i
       refine nodup_append.mpr ⟨(nodup_cons.mp ndi).2,d1,fun b hb b' hb' z=>?_⟩;subst z;exact(S.beside g n1 w1 b hb').2.2 i (by rw[hf];exact mem_cons_of_mem _ hb)
      ·rcases mem_append.mp hb with hb|hb
       ·exact .inl hb
       ·exact .inr (S.beside g n1 w1 b hb)
    ·exact q.elim
   ·exact q.elim
def im(i:Nat)(k e:ME):MS:=fun env=>match e env with
 | .ok v=>(match env[i]? with
  | some (some (.lst .own xs))=>(match k env with
   | .ok (.int j)=>(match ixN xs.length j with
    |some n=>if v.JZ then .next (env.set i (some (.lst .own (xs.set n v))))else .stuck
    |none=>.stuck)
   |_=>.stuck)
  |_=>.stuck)
 |.exc c=>.exc c env
 |.stuck=>.stuck
def RelL.set{y:PV}{w:V}{g:JK}(ry:Rel T F B L H y w g):∀{xs:JQ}{vs:JO}{f:JK} (n:Nat),RelL T F B L H xs vs f->(f++g).Nodup->∃f',RelL T F B L H (xs.set n y) (vs.set n w) f'/\f'.Nodup/\∀b∈f',b∈f\/b∈g
 | [],vs,f,n,h,nd=>by unfold RelL at h;obtain⟨rfl,rfl⟩:=h;exact⟨[],by simp[RelL],nodup_nil,fun _ z=>(nomatch z)⟩
 |x::xs,_,_,0,h,nd=>by
  unfold RelL at h;obtain⟨v,ws,f1,f2,rfl,h1,h2,rfl⟩:=h;obtain⟨n1,n2,n3⟩:=nodup_append.mp nd;obtain⟨m1,m2,m3⟩:=nodup_append.mp n1;refine⟨g++f2,?_,(by grind),fun b hb=>?_⟩
  ·rw[List.set_cons_zero,List.set_cons_zero];unfold RelL;exact⟨w,ws,g,f2,rfl,ry,h2,rfl⟩
  grind
 |x::xs,_,_,n+1,h,nd=>by
  unfold RelL at h;obtain⟨v,ws,f1,f2,rfl,h1,h2,rfl⟩:=h;obtain⟨n1,n2,n3⟩:=nodup_append.mp nd;obtain⟨m1,m2,m3⟩:=nodup_append.mp n1;obtain⟨f',r,d,s⟩:=RelL.set ry n h2 (nodup_append.mpr ⟨m2,n2,fun a ha b hb=>n3 a (mem_append_right _ ha) b hb⟩);refine⟨f1++f',?_,nodup_append.mpr ⟨m1,d,fun a ha b hb z=>?_⟩,fun b hb=>?_⟩
  ·rw[List.set_cons_succ,List.set_cons_succ];unfold RelL;exact⟨v,_,f1,f',rfl,h1,r,rfl⟩
  ·grind
  grind
def jB{i:Nat}{x:Str}{k e:Expr}{mk me:ME}{pos px tpos:Pos}(hN:X.N[i]?=some x)(hv:Vis X.env.scope x)(hk:SE X T W k mk)(he:SE X T W e me)
  (ha:∀ v,assign (.Subscript (.Name x px) k tpos) X.env v=(do
   let ov <- holding [v] (eval (.Name x px) X.env)
   let iv <- holding [v,ov] (eval k X.env)
   standAt tpos
   holding [v,ov,iv] (setItem ov iv v)
   release [v,ov,iv] []):=by intro _;rfl)
  (hs:swapsWithSole [.Subscript (.Name x px) k tpos] e pos.line X.env=pure false:=by rfl) (hw:swappedStores [.Subscript (.Name x px) k tpos] e X.env=pure none:=by rfl)
  (h1:(assignEach [.Subscript (.Name x px) k tpos] X.env).map (·.2)=[assign (.Subscript (.Name x px) k tpos) X.env]:=by rfl) (hd:(x ==("__debug__":Str))=false:=by decide) (hcd:(x ==("__classdict__":Str))=false:=by decide) :
  SS X T W (.Assign [.Subscript (.Name x px) k tpos] e pos) (im i mk me):=
 PS.wk (C1 (pos:=pos) he (C5 (pos:=tpos) (hZ (pos:=px) hN hv hd hcd) hk v9 ha) hs hw h1) fun D Y H hz1=>by
  obtain⟨Z,F,env,fp,S,q⟩:=hz1;unfold im at q;refine tE.bind S (fun c e H' x=>?_) (fun e=>by rw[e]at q;exact q) fun pv v H1 F1 f1 e g r n1 d1 w1=>?_
  ·rw[e]at q;exact q F H' Y fp (S.grow (Gr.same S.hp.ft x))
  ·rw[e]at q;dsimp only at q;split at q
   ·rename_i xs eo
    have S1:=S.grow g;obtain⟨a,ws,fp',h1,hl,hr,hf⟩:=S1.lst eo;cases ek:mk env with
    |stuck|exc c=>rw[ek]at q;exact q.elim
    |ok kv=>
     rw[ek]at q;refine⟨_,h1,Z,F1,env,fp,S1,?_⟩;rw[ek];intro u H2 F2 f2 g2 r2 _ _ _;cases kv with
     |int j=>
      dsimp only at q;unfold Rel at r2;obtain⟨rfl,_⟩:=r2;cases en:ixN xs.length j with
      |none=>rw[en]at q;exact q.elim
      |some n=>
       rw[en]at q;dsimp only at q;split at q
       ·rename_i hln
        have S2:=S1.grow g2;have hr2:=hr.ext g2.ext g2.mono;have ndi:(a::fp').Nodup:=by rw[<- hf];exact S.nd i
        have g12:=g.trans g2;have nn:∀b∈f1,¬F2 b:=fun b hb z=>by
         rcases g2.only b z with z|z
         ·exact n1 b hb z
         ·obtain⟨o,ho⟩:=r.there b hb;rw[ho]at z;cases z
        obtain ⟨f',r',nd',sub'⟩:=RelL.set (T:=T) (Rel.noL (L':=NoL) (by simpa [PV.JZ] using hln) (r.ext g2.ext g2.mono)) n hr2 (nodup_append.mpr ⟨(nodup_cons.mp ndi).2,d1,fun b hb b' hb' z=>by
         subst z;exact(S.beside g12 nn w1 b hb').2.2 i (by rw[hf];exact mem_cons_of_mem _ hb)⟩)
        refine⟨a,ws,j,n,rfl,rfl,g2.ext a _ hl,by rw[<- hr.length];exact en,?_⟩;refine q F2 _ Y _ (S2.mutL (v:=v) eo h1 hf r' nd' (fun b hb=>?_) (g2.ext a _ hl));rcases sub' b hb with h|h
        ·exact .inl h
        ·exact .inr (S.beside g12 nn w1 b h)
       ·exact q.elim
     |_=>exact q.elim
   ·exact q.elim
end
def A0(i:Nat):Str:=⟨#[1114112+i]⟩
def ji(l:JL)(i:Nat):Str:=match l[i]? with
 |some x=>x
 |none=>A0 i
def j6(x:Str):Bool:=x.cps.all fun c=>decide (c<1114112)
def gD(i:Nat):j6 (A0 i)=false:=by simp[j6,A0]
def vM(nd:l.Nodup)(h:l.all j6=true)(i j:Nat)(e:ji l i=ji l j):i=j:=by
 have pl:∀(i:Nat) x,l[i]?=some x->j6 x=true:=fun i x hx=>all_eq_true.mp h x (List.mem_of_getElem? hx);unfold ji at e;cases ei:l[i]? with
 |some x=>
  cases ej:l[j]? with
  |some y=>rw[ei,ej]at e;dsimp only at e;subst e;obtain⟨h1,e1⟩:=List.getElem?_eq_some_iff.mp ei;obtain⟨h2,e2⟩:=List.getElem?_eq_some_iff.mp ej;exact(getElem_inj nd).mp (e1.trans e2.symm)
  |none=>rw[ei,ej]at e;dsimp only at e;have:=pl i x ei;rw[e,gD]at this;cases this
 |none=>
  cases ej:l[j]? with
  |some y=>rw[ei,ej]at e;dsimp only at e;have:=pl j y ej;rw[<- e,gD]at this;cases this
  |none=>rw[ei,ej]at e;dsimp only at e;simpa[A0]using e
def qQ(hp:j6 m=true)(hm:m∉l)(k:Nat):ji l k≠m:=by
 unfold ji;cases e:l[k]? with
 |some x=>exact fun z=>hm (z▸List.mem_of_getElem? e)
 |none=>intro z;dsimp only at z;rw[<- z,gD]at hp;cases hp
structure Ctx(X:Cx)(T:Tb)(W:Nat->St->JP)(k:Nat):Prop where
 hK:X.K=T.K
 calm:X.calm=true
 room:d0 k X.A
 xf:XF X T W
 po:PassesOwn (model X.prog X.w) X.A X.env X.xe
def Ctx.hu(c:Ctx X T W k):X.A.units+64<cLine:=c.room.units
def Ctx.hu2(c:Ctx X T W k):X.A.units+66<cLine:=by have:=c.room.un;omega
def o_
  (hr:d0 k (A.deeper (PyProof.Rows.envOfC qual scope s.heap.objs.size f cd))):Ctx (dQ (CXP P w) P w T.K mg base N qual scope f cd A outer s H E) T (WD T E) k:=⟨rfl,rfl,hr,Cl,PassesOwn.leaving⟩
def Ctx.comp(c:Ctx X T W k):Ctx (cxC X scope C N s H ex) T WF k:=⟨c.hK,c.calm,c.room,fun _ _ _ _ _ _ _ _ _ _ h=>h.elim,PassesOwn.never⟩
def my(scD scope:Scope)(NX:JL)(caps:List Nat)(N tn:JL):Bool:=
 decide (scope.kind=.function)&&scope.names.all (fun y=>decide (y.2=.cell->scope.names.lookup y.1=some .cell))&&scope.names.all (fun y=>decide (y.2=.local->scope.names.lookup y.1=some .local)) &&
 scope.names.all (fun y=>decide (y.2=.free->scD.names.lookup y.1=some .cell\/scD.names.lookup y.1=some .free))&&decide (N=caps.map (fun i=>NX.getD i "")++ tn)&&caps.all (fun i=>decide (i<NX.length)) &&
 caps.all (fun i=>match NX[i]? with|some x=>decide ((x,NameKind.free)∈ scope.names/\scope.names.lookup x=some .free)|none=>false)&&decide N.Nodup
def BO(h:my scD scope NX caps N tn=true)(hs:X.env.scope=scD)(hN:X.N=NX):eZ X scope caps N tn:=by simp only[my,and_eq_true,decide_eq_true_eq,all_eq_true]at h;obtain⟨⟨⟨⟨⟨⟨⟨h1,h2⟩,h3⟩,h4⟩,h5⟩,h6⟩,h7⟩,h9⟩:=h;subst hs hN;refine⟨h1,h2,h3,h4,h5,h6,fun i hi x hx=>?_,h9⟩;have:=h7 i hi;rw[hx]at this;simpa using this
section
variable{X:Cx}{T:Tb}{W:Nat->St->JP}
def sv(i:Nat)(hN:X.N[i]?=some x:=by rfl)(hv:Vis X.env.scope x:=by first|exact Or.inl rfl|exact Or.inr (Or.inl rfl)|exact Or.inr (Or.inr rfl))(hd:(x ==("__debug__":Str))=false:=by decide)
  (hcd:(x ==("__classdict__":Str))=false:=by decide):SE X T W (.Name x pos) (ac i):=CB hN hv hd hcd
def tyP:PV->String
 |.non=>"NoneType"
 |.bl _=>"bool"
 |.int _=>"int"
 |.str _=>"str"
 |.lst _ _=>"list"
 |.tup _=>"tuple"
 |_=>""
def l7(t c:String):Bool:=t==c ||(t=="bool"&&c=="int")
def p3(c:String):PV->JR:=fun x=>if tyP x="" then .stuck else .ok (.bl (l7 (tyP x) c))
def qY(m:ME)(c:String):ME:=fun env=>(m env).bind (p3 c)
def zV(K:PySem.W.Frag)(c:String):Prop:=∀t∈["NoneType","bool","int","str","list","tuple"],kitOne K (.type t) (.type c)=some (l7 t c)
def Bs(hK:X.K=T.K)(hc:zV T.K c)(I:L2.Inv X js Y H s)(r:Rel T F B L H x v f)(ru:bX v u)(hx:tyP x≠"")
  (h:∀tk,Q (.bool (l7 (tyP x) c)) {s with toks:=tk}):wpAny (model X.prog X.w) A (call (.builtin "isinstance") [u,.type c]) Q E s:=by
 have kin:T.K.In s.heap:=by rw[<- hK];exact I.kIn
 cases x with
 |non=>unfold Rel at r;obtain⟨rfl,_⟩:=r;cases ru;exact kia_one kitx_none kin True.intro (hc _ (by simp)) (fun z=>nomatch z) h
 |bl b=>unfold Rel at r;obtain⟨rfl,_⟩:=r;cases ru;exact kia_one kitx_bool kin True.intro (hc _ (by simp)) (fun z=>nomatch z) h
 |int i=>unfold Rel at r;obtain⟨rfl,_⟩:=r;obtain⟨t,rfl⟩:=ru;exact kia_one kitx_int kin True.intro (hc _ (by simp)) (fun z=>nomatch z) h
 |str i=>unfold Rel at r;obtain⟨rfl,_⟩:=r;obtain⟨t,rfl⟩:=ru;exact kia_one kitx_str kin True.intro (hc _ (by simp)) (fun z=>nomatch z) h
 |lst f xs=>unfold Rel at r;obtain⟨a,vs,fp',rfl,hl,hr,_⟩:=r;cases ru;obtain⟨its,_,⟨o,n,ho,hcl,_,_⟩,_⟩:=I.list (by rw[hK];exact hl.sq);exact kia_one kitx_list kin ⟨_,ho,hcl⟩ (hc _ (by simp)) (fun z=>nomatch z) h
 |tup xs=>unfold Rel at r;obtain⟨a,vs,rfl,hl,hr⟩:=r;cases ru;obtain⟨its,_,⟨o,ho,hcl,_⟩,_⟩:=I.tuple (by rw[hK];exact hl);exact kia_one PySem.W.kitx_tuple kin ⟨_,ho,hcl⟩ (hc _ (by simp)) (fun z=>nomatch z) h
 |obj f c ks xs|exc c|box k xs=>exact absurd rfl hx
def oF(hK:X.K=T.K)(hc:zV T.K c)(hg:Gl X "isinstance")(hm:X.mg "isinstance"=none)(hb:bootBuiltins "isinstance"=some (.builtin "isinstance"))(hgc:Gl X cn)(hmc:X.mg cn=none)(hvc:bootBuiltins cn=some (.type c))(he:SE X T W e m)
  (hcn:cn≠"__name__":=by decide) (hcd:(cn ==("__debug__":Str))=false:=by decide) (hst:starEach [e,.Name cn pc] X.env=[(false,eval e X.env),(false,eval (.Name cn pc) X.env)]:=by rfl)
  (hst2:starEach [.Name cn pc] X.env=[(false,eval (.Name cn pc) X.env)]:=by rfl):SE X T W (.Call (.Name "isinstance" p) [e,.Name cn pc] [] pos) (qY m c):=by
 have ht:PE X (.Name cn pc) (tC (.ty c)):=tq hgc hmc hvc rfl hcn hcd;have hcall:dR X (.builtin "isinstance") (fun vs H Q=>∃v x F B L f,vs=[v,.ty c]/\Rel T F B L H x v f/\tyP x≠"" /\ Q (.bl (l7 (tyP x) c)) H):=by
  intro js s Y H vs us Q I rv h;obtain⟨v,x,F,B,L,f,rfl,r,hx,q⟩:=h;cases rv with
  |cons r1 r2=>
   cases r2 with
   |cons r3 r4=>cases r4;cases r3;exact Bs hK hc I r r1 hx fun tk=>⟨.bl _,H,I.tok tk,rfl,q⟩
 have hargs:PA X [e,.Name cn pc] (kz (tE T W m) (kz (tC (.ty c)) vZ)):=cR he (cR ht fT hst2) (by rw[hst,hst2]);refine PE.wk (iK (pos:=pos) (p:=p) hcall hg hm hb hargs (he:=by rw[hst,hst2]) (hpl:=by rw[hst2];rfl)) fun Y H Q hz1=>?_;obtain⟨Z,F,env,fp,S,q⟩:=hz1;unfold qY at q;refine tE.bq S fun x v H1 F1 f1 e1 g1 r1 n1 d1 w1=>?_;rw[e1]at q;simp only[Res.J2,p3]at q;by_cases hx:tyP x=""
 ·rw[if_pos hx]at q;exact q.elim
 ·rw[if_neg hx]at q;exact⟨v,x,F1,Z.B,Own fp,f1,rfl,r1,hx,q.scal g1 jk⟩
end
def wb(hg:Gl X x)(hm:X.mg x=some (.int i t))(hd:(x ==("__debug__":Str))=false:=by decide):SE X T W (.Name x pos) (mC (.int i)):=
 lz (v:=.int i) (jJ hg hm ⟨t,rfl⟩ hd) fun _ _ _ _=>eM
end PR
namespace PR
open PySem PySem.Spec
structure nr(K:PySem.W.Frag)(C:Addr):Prop where
 ga:PySem.W.findIn K (.ref C) "__getattribute__"=some (some (.builtin "BaseException.__getattribute__"))
 gt:PySem.W.findIn K (.ref C) "__getattr__"=some none
 ca:PySem.W.findIn K (.ref C) "__class__"=some (some (.builtin "object.__class__"))
 sb:mroIn K C (.type "BaseException")=some true
 so:mroIn K C (.type "object")=some true
 cl:(clsIn K C).isSome=true
section
variable{prog:Program}{w:World}{A:Around}{E:JD}{h:Heap}{g:Array GenState}{d:Drawn}{t:Nat}{os:OsState}{a C:Addr}{o:Obj}{K:PySem.W.Frag}
def yE(O:nr K C)(X:K.In h)(hx:h.get? a=some o)(hc:o.cls=.ref C)(hq:Q (.done (.ret (.ref C))) ⟨h,g,d,t,os⟩) :
  wpAny (model prog w) A (Builtin.«object.__getattribute__» ⟨[.ref a,.str "__class__" tk],[]⟩) Q E ⟨h,g,d,t,os⟩:=by
 have k1:(⟨h,g,d,t,os⟩:Shared).TypeIs (.builtin "object.__class__") "getset_descriptor":=F.typeOf_object_class;have k2:=F.typeOf_object_class;have k3:=F.slot_gs_get.lookup;have k4:=F.slot_gs_set.lookup;have lc:=looks_findIn (M:=model prog w) X O.ca;have ls:=PySem.W.looks_mroIn (M:=model prog w) X O.so
 repeat (any_goals (first|assumption |(with_reducible refine wpAny_loadPart_at hx ?_;rw[hc])|with_reducible refine PySem.W.Looks.at lc ?_|wp_step))
 refine codeAny_call_builtin F.slot_gs_get.plain F.entry_gs_get (F.slot_gs_get.check _ _ _ _ _ _ _ _ k1 (F.args_gs_get _ _ _) ?_);rw[<- F.owner_object_class]at ls
 repeat (any_goals (first|assumption |(with_reducible refine wpAny_loadPart_at hx ?_;rw[hc])|with_reducible refine PySem.W.Looks.at ls ?_|wp_step))
 refine⟨Code.quiet_builtin _ (by decide +kernel),codeAny_builtin F.entry_object_class ?_⟩
 repeat (any_goals (first|assumption |(with_reducible refine wpAny_loadPart_at hx ?_;rw[hc])|wp_step))
def EN(O:nr K C)(X:K.In h)(hx:h.get? a=some o)(hc:o.cls=.ref C)(hq:Q () ⟨h,g,d,t,os⟩):wpAny M A (checkBuiltinCall "BaseException.__getattribute__" ⟨[.ref a,v],[]⟩) Q E ⟨h,g,d,t,os⟩:=by
 have ka:=F.args_bexc_ga (.ref a) v;have lb:=PySem.W.looks_mroIn (M:=M) X O.sb;simp only[checkBuiltinCall,show builtinKind "BaseException.__getattribute__"=some .slot by decide +kernel,show splitId "BaseException.__getattribute__"=some ("BaseException","__getattribute__") by decide +kernel];refine wpAny_bind ?_;unfold isInstance
 repeat (first |(with_reducible refine wpAny_loadPart_at hx ?_;rw[hc])|with_reducible refine PySem.W.Looks.at lb ?_|wp_step)
 exact hq
def HK(O:nr K C)(X:K.In h)(hx:h.get? a=some o)(hc:o.cls=.ref C)(hq:Q (.ref C) ⟨h,g,d,t,os⟩) :
  wpAny (model prog w) A (getAttrBy (.ref a) (.str "__class__" tk) false) Q E ⟨h,g,d,t,os⟩:=by
 have k1:=PySem.F.excAttr_ValueError.ga.bind (.ref a);have k2:(false&&onTheHeap (Value.builtin "BaseException.__getattribute__"))=false:=rfl;have k3:(onTheHeap (Value.ref C)&&Value.builtin "BaseException.__getattribute__"==Value.builtin "object.__getattribute__")=false:=by rw[show(Value.builtin "BaseException.__getattribute__"==Value.builtin "object.__getattribute__")=false by decide +kernel];rfl
 have lg:=looks_findIn (M:=model prog w) X O.ga;have lt:=looks_findIn (M:=model prog w) X O.gt
 repeat (any_goals (first|assumption |(with_reducible refine wpAny_loadPart_at hx ?_;rw[hc])|with_reducible refine PySem.W.Looks.at lg ?_|with_reducible refine PySem.W.Looks.at lt ?_|wp_step))
 refine codeAny_call_builtin PySem.F.excAttr_ValueError.ga.plain F.entry_bexc_ga (EN O X hx hc (yE O X hx hc ?_))
 repeat (any_goals (first|assumption|wp_step))
def BD(O:nr K C)(X:K.In h)(hx:h.get? a=some o)(hc:o.cls=.ref C)(hq:Q (some (.ref C)) ⟨h,g,d,t+1,os⟩):wpAny (model prog w) A (getAttr? (.ref a) "__class__") Q E ⟨h,g,d,t,os⟩:=by
 unfold getAttr? getAttrBy?
 repeat (any_goals (first|assumption|with_reducible apply HK O X hx hc|wp_step))
def oh(h:(clsIn K C).isSome=true):∃c dd cd sl,K.lookup C=some ⟨c,dd,.cls cd,sl⟩:=by
 unfold clsIn at h;split at h
 ·exact⟨_,_,_,_,by assumption⟩
 ·cases h
def xE(O:nr K C):PySem.W.KitX K (.ref a) (.ref C) (fun h=>∃o,h.get? a=some o/\o.cls=.ref C) where
 ty:=fun M h _ ⟨o,hx,hc⟩=>hc ▸(PySem.W.Looks.ld hx).andThen .now
 it:=fun M h X _=>by obtain⟨c,dd,cd,sl,ho⟩:=oh O.cl;intro A' Q' E' s' k q;unfold isType loadHead;exact wpAny_bind (wpAny_loadPart (k _ _ (X _ _ ho)) (wpAny_pure q))
 ne:=fun h tp dd its n sl X htp=>by obtain⟨c,dd',cd,sl',ho⟩:=oh O.cl;refine eq_false_iff.mpr fun q=>?_;obtain rfl:C=tp:=Value.ref.inj (beq_iff_eq.mp q);have z:=(X _ _ ho).symm.trans htp;cases z
 ca:=fun {_ _ _ _ _ s} X p k=>by obtain⟨h,g,d,t,os⟩:=s;obtain⟨o,hx,hc⟩:=p;exact BD O X hx hc k
end
end PR
namespace L2
open PySem PySem.Spec PyProof.Rows
abbrev Cx.tryX(X:Cx)(E:JD)(pn:JG):Cx:={X with xe:=E,pn:=pn}
abbrev Cx.hanX(X:Cx)(e:Value):Cx:={X with A:=X.A.mark (some e),calm:=false,xe:=fun _ _=>False}
section
variable{X:Cx}{js pins':JG}{Y:St}{H H':Hp}{s:Shared}{E:JD}{e:Value}
def Inv.tryX(I:Inv X js Y H s):Inv (X.tryX E (X.pn++js)) [] Y H s:=
 ⟨⟨I.ok.mod,I.ok.kind,I.ok.glob,I.ok.blt,I.ok.above,I.ok.inj,I.ok.has,I.ok.cab,I.ok.hd,I.ok.frames,I.ok.stk,I.ok.exf,I.ok.bs,I.ok.bsz,I.ok.noex,I.ok.exfs,I.ok.funs,I.ok.frf⟩,
  I.os,I.bare,I.base,I.loc,I.cell,I.free,I.freeC,fun p hp=>I.pin p (by simpa using hp),I.hok,I.len⟩
def Inv.untry(I:Inv (X.tryX E (X.pn++js)) pins' Y H s):Inv X js Y H s:=
 ⟨⟨I.ok.mod,I.ok.kind,I.ok.glob,I.ok.blt,I.ok.above,I.ok.inj,I.ok.has,I.ok.cab,I.ok.hd,I.ok.frames,I.ok.stk,I.ok.exf,I.ok.bs,I.ok.bsz,I.ok.noex,I.ok.exfs,I.ok.funs,I.ok.frf⟩,
  I.os,I.bare,I.base,I.loc,I.cell,I.free,I.freeC,fun p hp=>I.pin p (mem_append_left _ hp),I.hok,I.len⟩
def Inv.hanX(I:Inv X js Y H s):Inv (X.hanX e) js Y H s:=
 ⟨⟨I.ok.mod,I.ok.kind,I.ok.glob,I.ok.blt,I.ok.above,I.ok.inj,I.ok.has,I.ok.cab,fun z=>(nomatch z),I.ok.frames,I.ok.stk,I.ok.exf,I.ok.bs,I.ok.bsz,I.ok.noex,I.ok.exfs,I.ok.funs,I.ok.frf⟩,
  I.os,I.bare,I.base,I.loc,I.cell,I.free,I.freeC,I.pin,I.hok,I.len⟩
def Inv.unhan(ok:X.Ok)(I:Inv (X.hanX e) js Y H s):Inv X js Y H s:=⟨ok,I.os,I.bare,I.base,I.loc,I.cell,I.free,I.freeC,I.pin,I.hok,I.len⟩
def k_(I:Inv X js Y H s)(hN:X.N.Nodup)(hi:X.N[i]?=some x)(hk:X.env.scope.names.lookup x=some .local)
  (h:∀s',Inv X js (Y.set i none) H s'->Q () s'):wpAny M A (do bindName X.env x .none;unbindBehindTheSuite X.env x pos) Q E s:=by
 obtain⟨m,hn,hl⟩:=id I.loc;obtain⟨oL,_,_,hoL,_⟩:=id hn;have hcls:(X.env.scope.kind==.class ||(X.env.scope.kind==.module&&X.env.locals != X.env.globals))=false:=by rw[I.ok.kind];rfl
 refine wpAny_nameGoes_keeps hk hn hcls fun h' v hn' hs=>h _ ?_;have ne:∀b o,X.s₀.heap.get? b=some o->b≠X.env.locals:=fun b o e=>Nat.ne_of_lt (Nat.lt_of_lt_of_le (lt_size e) I.ok.above);refine⟨I.ok,I.os,I.bare,⟨fun b o e n hb hx=>(hs.2 b (ne b o e)).trans (I.base.keep b o e n hb hx),fun b o e n hb hx=>?_,I.base.free,fun b o e hx=>?_,I.base.tups,I.base.frzs,I.base.tbls⟩,⟨_,hn',fun j y v' e1 e2 e3=>?_⟩,fun y c e=>?_,I.free,I.freeC,fun p hp=>?_,fun b ob e=>?_,by simpa using I.len⟩
 ·obtain⟨sl,e1⟩:=I.base.slot b o e n hb hx;exact⟨sl,(hs.2 b (ne b o e)).trans e1⟩
 ·obtain⟨o',e1⟩:=I.base.there b o e hx;exact⟨o',(hs.2 b (ne b o e)).trans e1⟩
 ·by_cases hj:j=i
  ·subst hj;rw[List.getElem?_set]at e2;simp at e2
  ·rw[getElem?_set_ne (Ne.symm hj)]at e2;obtain⟨u,r,q⟩:=hl j y v' e1 e2 e3;refine⟨u,r,?_⟩;rcases q with⟨k,z⟩ |⟨k,c,z,w⟩
   ·have hy:y≠x:=fun q=>hj (lO hN e1 (q▸hi));exact .inl ⟨k,by simp[hy,z]⟩
   ·exact .inr ⟨k,c,z,w.sameBut hs (I.cne y c z)⟩
 ·obtain⟨w,z⟩:=I.cell y c e;exact⟨w,z.sameBut hs (I.cne y c e)⟩
 ·obtain⟨e,n,np,nf,d⟩:=I.pin p hp;exact⟨(hs.2 p.1 np).trans e,n,np,nf,d⟩
 ·refine(I.hok b ob e).stay (fun c w hc q=>(hs.2 c ?_).trans q) (fun _ q=>q) fun _ _ _ q=>q;rintro rfl;rcases hc with z|z
  ·rw[<- z,I.free]at e;cases e
  ·rw[I.free]at z;cases z
end
end L2
namespace PR
open PySem PySem.Spec L2
section
variable{X:Cx}{T:Tb}{W:Nat->St->JP}{js:JG}{Y:St}{H H':Hp}{s s':Shared}
def tQ(I:L2.Inv X js Y H s)(fl:Fly X.prog X.w X.stack H s (.ref C) H' (.ref x) s')(f0:FlyingW Bh X.stack x (.ref C) a0 s'.heap)
  (tr:∀b o u,H' b=some u->s'.heap.get? b=some o->Bh.get? b=some o) (ol:∀b o o',s'.heap.get? b=some o->s.heap.get? b=some o'->b∉frs X.stack->Bh.get? b=some o)
  (f6:FlyingW Bh X.stack x (.ref C) a0 h6) (up:s'.heap.UpToSlots h6) (hg:PyProof.Rows.AllBare g) :
  L2.Inv X js Y (upd H' x (zX C x)) ⟨h6,g,d,t,s'.os⟩/\H' x=none/\s.heap.get? x=none:=by
 obtain⟨oe,he,hc⟩:=f6.there;obtain⟨o0,he0,_⟩:=f0.there;have nx:H' x=none:=by
  cases e:H' x with
  |none=>rfl
  |some u=>have:=tr x o0 u e he0;rw[f0.2.1]at this;cases this
 have ns:s.heap.get? x=none:=by
  cases e:s.heap.get? x with
  |none=>rfl
  |some o'=>
   by_cases hx:x∈frs X.stack
   ·obtain⟨_,o,ho,hd⟩:=f0.2.2.1.mem hx;obtain⟨o1,vs,h1,_,h2,_⟩:=f0.first;rw[ho]at h1;cases h1;exact absurd h2 (hd vs)
   ·have:=ol x o0 o' he0 e hx;rw[f0.2.1]at this;cases this
 have data:∀b o,s.heap.get? b=some o->b∈frs X.stack->∀vs,o.data≠.fields vs:=fun b o e hb vs z=>by obtain⟨_,o',ho',hd'⟩:=I.stack.mem hb;rw[e]at ho';cases ho';exact hd' vs z
 have hok:HOk X.prog X.w (upd H' x (zX C x)) h6:=fun b u e=>by
  by_cases hb:b=x
  ·subst hb;rw[bz]at e;cases e;exact⟨⟨oe,he,hc⟩,⟨oe,he⟩,fun h1 h2 ⟨o,q1,q2⟩ k=>⟨o,k o q1,q2⟩⟩
  ·rw[aJ hb]at e;have nb:∀c u,H' c=some u->c≠x:=fun c u q z=>by rw[z,nx]at q;cases q
   exact(tW fl.hok tr f6.1 b u e).stay (fun _ _ _ q=>q) (fun c q=>by rw[aJ (nb c _ q)];exact q) fun c xs _ q=>by rw[aJ (nb c _ q)];exact q
 refine⟨I.call' (s':=⟨h6,g,d,t,s'.os⟩) (ch:=[]) fl.os ⟨fun b o e n hf _=>?_,fun b o e n hf _=>?_,fun b o e n _=>?_,fun b o e _=>?_,fun b xs e=>?_,fun b o u e=>?_,fun b ps e=>?_⟩ hok hg (fun _ z=>(nomatch z)),nx,ns⟩
 ·have q:=fl.un.keep b o e n hf (by simp);exact f6.1 b o (ol b o o q e hf)
 ·obtain⟨sl,q⟩:=fl.un.slot b o e n hf (by simp);obtain⟨sl',q'⟩:=up b _ q (data b o e hf);exact⟨sl',q'⟩
 ·rw[aJ (show b≠x from fun z=>by rw[z,ns]at e;cases e)];exact fl.un.free b o e n (by simp)
 ·by_cases hf:b∈frs X.stack
  ·obtain⟨_,o2,ho2,_⟩:=f6.2.2.1.mem hf;exact⟨o2,ho2⟩
  ·obtain⟨o1,e1⟩:=fl.un.there b o e (by simp);exact⟨o1,f6.1 b o1 (ol b o1 o e1 e hf)⟩
 ·have q:=fl.un.tups b xs e;rw[aJ (fun z=>by rw[z,nx]at q;cases q)];exact q
 ·have q:=fl.un.frzs b o u e;rw[aJ (fun z=>by rw[z,nx]at q;cases q)];exact q
 ·obtain⟨more,q⟩:=fl.un.tbls b ps e;exact⟨more,by rw[aJ (fun z=>by rw[z,nx]at q;cases q)];exact q⟩
end
def qT(n:Nat):Out->Out
 |.next e=>.next (e.set n none)
 |.brk e=>.brk (e.set n none)
 |.cont e=>.cont (e.set n none)
 |.ret v=>.ret v
 |.exc _ _|.stuck=>.stuck
def xB(mb:MS)(hit:Nat->Bool)(n:Nat)(mh mo:MS):MS:=fun env=>match mb env with
 |.exc c e=>if hit c then qT n (mh (e.set n (some (.exc c))))else .stuck
 |.next e=>mo e
 |o=>o
section
variable{X:Cx}{T:Tb}{W:Nat->St->JP}{Z:Zn}{F:JH}{H:Hp}{Y:St}{env:En}{fp:Nat->JK}
def aD.unset(S:aD T Z F H Y env fp)(h0:n≠0):aD T Z F H (Y.set n none) (env.set n none) fp:=by
 refine⟨S.hp,by rw[length_set,length_set,S.len],fun i pv e=>?_,S.nd,S.dj,S.dis,S.new,S.ch,fun v hv=>?_⟩
 ·by_cases hi:i=n
  ·subst hi;rw[List.getElem?_set]at e;simp at e
  ·rw[getElem?_set_ne (Ne.symm hi)]at e ⊢;exact S.rel i pv e
 ·obtain⟨h1,h2⟩:=S.pn v hv;refine⟨by rw[getElem?_set_ne h0];exact h1,?_⟩;unfold dY at h2 ⊢;rw[getElem?_set_ne h0];exact h2
def aD.caught(S:aD T Z F H Y env fp)(h0:n≠0)(hx:H x=none) :
  aD T Z F (upd H x (zX (T.xcl c) x)) (Y.set n (some (.ref x))) (env.set n (some (.exc c))) (cO fp n []):=
 (S.grow (Gr.same S.hp.ft (Ext.upd hx))).put (by unfold Rel;exact⟨x,rfl,bz,rfl⟩) nodup_nil (fun _ z=>(nomatch z)) (fun _ z=>(nomatch z)) (fun _ z=>(nomatch z)) (by simp[aT,h0])
def Cu(cx:Ctx X T W k)
  (hst:X.stack=X.env::X.outer) (hfr:X.env.frame=some X.env.locals) (hN:X.N.Nodup) (hi:X.N[i]?=some n) (hl:X.env.scope.names.lookup n=some .local) (h0:i≠0)
  (hg:Gl X cn) (hm:X.mg cn=some (.ref CC)) (hhit:∀c,hit c=true->exmOne T.K (.ref (T.xcl c)) (.ref CC)=some true)
  (hb:∀E pn Wb,Ctx (X.tryX E pn) T Wb k->SSs (X.tryX E pn) T Wb body mb) (hs:∀e,SSs (X.hanX e) T WF (b₀::suite) mh) (ho:SSs X T W orelse mo) (hd:(cn ==("__debug__":Str))=false:=by decide) :
  SS X T W (.Try body [.ExceptHandler (some (.Name cn pc)) (some n) (b₀::suite) hp] orelse [] pos) (xB mb hit i mh mo):=by
 intro js s Y H D I h;obtain⟨Z,F,env,fp,S,q⟩:=h;unfold xB at q;refine wpAny_Try_except ?_;generalize hEb:(fun (e:Value) (s₁:Shared)=>wpAny (model X.prog X.w) X.A (noteFrame e X.env) (fun _ s₂=>wpAny (model X.prog X.w) X.A (setFlight e none) (fun _ s₃=>
  wpAny (model X.prog X.w) X.A (handleBy e X.env [.ExceptHandler (some (.Name cn pc)) (some n) (b₀::suite) hp]) (SP X js D) X.xe s₃) X.xe s₂) X.xe s₁)=Eb
 have po:PassesOwn (model X.prog X.w) X.A X.env Eb:=by rw[<- hEb];exact PassesOwn.looking
 have ctx:Ctx (X.tryX Eb (X.pn++js)) T (fun c σ' H'=>∃Z F env fp,aD T Z F H' σ' env fp/\hit c=true/\GS T W Z D (qT i (mh (env.set i (some (.exc c)))))) k:=by
  refine⟨cx.hK,cx.calm,cx.room,?_,po⟩;intro pins' σ1 H1 s1 c H2 e s2 I1 fl hW;have I1:=I1.untry;obtain⟨Z,F,env,fp,S,hh,q⟩:=hW;obtain⟨x,a0,Bh,rfl,f0,tr,ol⟩:=fl.fly;show Eb (.ref x) s2;rw[<- hEb];have f0':=f0;rw[show(X.tryX Eb (X.pn++js)).stack=X.env::X.outer from hst]at f0';refine wpAny_looks_onW (hst▸I1.ok.frames) hfr f0' fun h4 held4 up4=>wpAny_landsW held4 fun h5 f5 up5=>?_;have f5':FlyingW Bh X.stack x (.ref (T.xcl c)) a0 h5:=by rw[hst];exact f5
  obtain⟨I5,nx,_⟩:=tQ (g:=s2.gens) (d:=s2.drawn) (t:=s2.toks) I1 fl f0 tr ol f5' (up4.trans up5) fl.bare;refine wpAny_handleBy_cons (codeAny_handlers_test ?_) (by intro z;cases z);refine iZ (X:=X.hanX (.ref x)) (js:=js) (I:=I5.hanX) hg hm ?_ hd;obtain⟨o5,ho5,hc5⟩:=f5.there;have lt:PySem.W.Looks (model X.prog X.w) h5 (typeOf (.ref x)) (.ref (T.xcl c)):=hc5 ▸(PySem.W.Looks.ld ho5).andThen .now;have kin:T.K.In h5:=by rw[<- cx.hK];exact I5.kIn
  refine(PySem.W.exm_one kin lt (hhit c hh)).at ?_;refine codeAny_handlers_suite_as ?_;refine PyProof.Rows.lands_againW f5 fun h6 f6 up6=>?_;have f6':FlyingW Bh X.stack x (.ref (T.xcl c)) a0 h6:=by rw[hst];exact f6
  obtain⟨I6,_,_⟩:=tQ (g:=s2.gens) (d:=s2.drawn) (t:=s2.toks) I1 fl f0 tr ol f6' ((up4.trans up5).trans up6) fl.bare;refine jz (X:=X.hanX (.ref x)) (I:=I6.hanX) hN hi (.inl hl) (v:=.ref x) rfl (fun s7 I7=>?_) (.inr hl);have S7:=S.caught (c:=c) h0 nx;refine wpAny_mono (hs (.ref x) js s7 _ _ ⟨fun σ' H'=>D.nx (σ'.set i none) H',D.rt,fun σ' H'=>D.bk (σ'.set i none) H',fun σ' H'=>D.ct (σ'.set i none) H'⟩ I7 ⟨Z,F,_,_,S7,?_⟩) (fun f s8 h8=>?_) fun _ _ z=>z.elim
  ·cases e:mh (env.set i (some (.exc c)))with
   |next e'|brk e'|cont e'=>rw[e]at q;exact fun F' H' σ' fp' S'=>q F' H' _ fp' (S'.unset h0)
   |ret v=>rw[e]at q;exact q
   |exc c' e'|stuck=>rw[e]at q;exact q.elim
  ·cases f with
   |next|brk|cont=>obtain⟨σ',H',I8,q8⟩:=h8;exact k_ (I8.unhan I.ok) hN hi hl fun s9 I9=>⟨_,H',I9,q8⟩
   |ret u=>obtain⟨v,σ',H',I8,r8,q8⟩:=h8;exact k_ (I8.unhan I.ok) hN hi hl fun s9 I9=>⟨v,_,H',I9,r8,q8⟩
 have r:=hb Eb (X.pn ++ js) _ ctx [] s Y H ⟨fun σ' H'=>tS T W mo D σ' H',D.rt,D.bk,D.ct⟩ I.tryX ⟨Z,F,env,fp,S,by
  cases e:mb env with
  |next e'=>rw[e]at q;exact fun F' H' σ' fp' S'=>⟨Z,F',e',fp',S',q⟩
  |brk e'|cont e'|ret v=>rw[e]at q;exact q
  |exc c e'=>
   rw[e]at q;dsimp only at q;intro F' H' σ' fp' S';by_cases hh:hit c=true
   ·rw[if_pos hh]at q;exact⟨Z,F',e',fp',S',hh,q⟩
   ·rw[if_neg hh]at q;exact q.elim
  |stuck=>rw[e]at q;exact q.elim⟩
 refine wpAny_mono r (fun f s1 h1=>?_) fun e s1 h1=>?_
 ·cases f with
  |next=>obtain⟨σ',H',I1,q1⟩:=h1;exact ho js s1 σ' H' D I1.untry q1
  |brk|cont=>obtain⟨σ',H',I1,q1⟩:=h1;exact⟨σ',H',I1.untry,q1⟩
  |ret u=>obtain⟨v,σ',H',I1,r1,q1⟩:=h1;exact⟨v,σ',H',I1.untry,r1,q1⟩
 ·exact h1
end
def iN(tab:Nat->Bool):PV->JR
 |.exc c=>.ok (.bl (tab c))
 |_=>.stuck
section
variable{X:Cx}{T:Tb}{W:Nat->St->JP}
def sR(hK:X.K=T.K)(hx:∀c,nr T.K (T.xcl c))(ht:∀c,kitOne T.K (.ref (T.xcl c)) uc=some (tab c))
  (hg:Gl X "isinstance") (hm:X.mg "isinstance"=none) (hb:bootBuiltins "isinstance"=some (.builtin "isinstance")) (hv:PE X (.Name cn pc) (tC vc)) (hu:∀u,bX vc u->u=uc) (he:SE X T W e m)
  (hst:starEach [e,.Name cn pc] X.env=[(false,eval e X.env),(false,eval (.Name cn pc) X.env)]:=by rfl)
  (hst2:starEach [.Name cn pc] X.env=[(false,eval (.Name cn pc) X.env)]:=by rfl):SE X T W (.Call (.Name "isinstance" p) [e,.Name cn pc] [] pos) (mUn (iN tab) m):=by
 have hcall:dR X (.builtin "isinstance") (fun vs H Q=>∃a c,vs=[.ref a,vc]/\H a=some (zX (T.xcl c) a)/\Q (.bl (tab c)) H):=by
  intro js s Y H vs us Q I rv h;obtain⟨a,c,rfl,ha,q⟩:=h;cases rv with
  |cons r1 r2=>
   cases r2 with
   |cons r3 r4=>
    cases r4;cases r1;rw[hu _ r3];have kin:T.K.In s.heap:=by rw[<- hK];exact I.kIn
    obtain⟨hφ,_,_⟩:=I.hok a _ ha;exact kia_one (xE (hx c)) kin hφ (ht c) (fun z=>nomatch z) fun tk=>⟨.bl _,H,I.tok tk,rfl,q⟩
 have hargs:PA X [e,.Name cn pc] (kz (tE T W m) (kz (tC vc) vZ)):=cR he (cR hv fT hst2) (by rw[hst,hst2]);refine PE.wk (iK (pos:=pos) (p:=p) hcall hg hm hb hargs (he:=by rw[hst,hst2]) (hpl:=by rw[hst2];rfl)) fun Y H Q hz1=>?_;obtain⟨Z,F,env,fp,S,q⟩:=hz1;unfold mUn at q;refine tE.bq S fun x v H1 F1 f1 e1 g1 r1 n1 d1 w1=>?_;rw[e1]at q;cases x with
 |exc c=>unfold Rel at r1;obtain⟨a,rfl,ha,_⟩:=r1;exact⟨a,c,rfl,ha,q.scal g1 jk⟩
 |_=>exact q.elim
def g_(hK:X.K=T.K)(hx:∀c,nr T.K (T.xcl c))(ht:∀c,kitOne T.K (.ref (T.xcl c)) (.ref D)=some (tab c))
  (hg:Gl X "isinstance") (hm:X.mg "isinstance"=none) (hb:bootBuiltins "isinstance"=some (.builtin "isinstance")) (hgc:Gl X cn) (hmc:X.mg cn=some (.ref D)) (he:SE X T W e m) (hcd:(cn ==("__debug__":Str))=false:=by decide)
  (hst:starEach [e,.Name cn pc] X.env=[(false,eval e X.env),(false,eval (.Name cn pc) X.env)]:=by rfl)
  (hst2:starEach [.Name cn pc] X.env=[(false,eval (.Name cn pc) X.env)]:=by rfl):SE X T W (.Call (.Name "isinstance" p) [e,.Name cn pc] [] pos) (mUn (iN tab) m):=
 sR hK hx ht hg hm hb (jJ (v:=.ref D) hgc hmc rfl hcd) (fun _ h=>h) he hst hst2
def Ap(hK:X.K=T.K)(hx:∀c,nr T.K (T.xcl c))(ht:∀i,kitOne T.K (.ref (T.xcl i)) (.type c)=some (tab i))
  (hg:Gl X "isinstance") (hm:X.mg "isinstance"=none) (hb:bootBuiltins "isinstance"=some (.builtin "isinstance")) (hgc:Gl X cn) (hmc:X.mg cn=none) (hvc:bootBuiltins cn=some (.type c)) (he:SE X T W e m)
  (hcn:cn≠"__name__":=by decide) (hcd:(cn ==("__debug__":Str))=false:=by decide)
  (hst:starEach [e,.Name cn pc] X.env=[(false,eval e X.env),(false,eval (.Name cn pc) X.env)]:=by rfl)
  (hst2:starEach [.Name cn pc] X.env=[(false,eval (.Name cn pc) X.env)]:=by rfl):SE X T W (.Call (.Name "isinstance" p) [e,.Name cn pc] [] pos) (mUn (iN tab) m):=
 sR hK hx ht hg hm hb (tq (v:=.ty c) hgc hmc hvc rfl hcn hcd) (fun _ h=>h) he hst hst2
end
def gK(F B L:JH)(H:Hp):RelL T F B L H [] [] []:=by unfold RelL;exact⟨rfl,rfl⟩
def bB(disp:Nat->Option (JQ->JR))(o:ME)(ms:MA):ME:=fun env=>(o env).bind fun ov=>match ov with
 |.obj _ c _ _=>match disp c with
  |some m=>(ms env).bind fun xs=>aL m (ov::xs)
  |none=>.stuck
 |_=>.stuck
def A_(disp:Nat->Option (JQ->JR))(o:ME)(ms:MA):tN disp [] o ms=bB disp o ms:=by
 funext env;unfold tN bB;congr 1;funext ov;cases ov with
 |obj f c ks vs=>simp only[append_nil,List.cons_append]<;>rfl
 |_=>rfl
def jp(c:Nat)(m:JQ->JR)(ms:MA):ME:=ar (fun xs=>aL m (.obj .own c [] []::xs)) ms
section
variable{X:Cx}{T:Tb}{W:Nat->St->JP}
def wd
  (G:dG X.prog X.w X.K X.mg X.base (CXP X.prog X.w) k f fd ps (spM T ps.length m)) (cx:Ctx X T W kk) (hk:k<=kk) (hg:Gl X x) (hm:X.mg x=some (.ref f)) (hkp:PySem.W.keepIn X.K (.ref f)=true) (hb:fA X.K fd ps [])
  (hn:iA ms n) (hps:n=ps.length) (ha:SA X T W (e::es) ms)
  (hdb:(x ==("__debug__":Str))=false:=by decide) (he:starEach (e::es) X.env=(false,eval e X.env)::starEach es X.env:=by rfl) (hpl:(backTo pos (starEach es X.env)).any (·.1)=false:=by rfl) :
  SE X T W (.Call (.Name x p) (e::es) [] pos) (ar (aL m) ms):=by
 have h:=As (dvs:=[]) (dps:=[]) (p:=p) (pos:=pos) G (cx.room.mono hk) hg hm hkp hb .nil gK cx.xf (fun env xs q=>by rw[hn env xs q];exact hps) ha hdb he hpl;simpa using h
def CI
  (cx:Ctx X T W kk) (hc:∀c<T.nc,Cls T.K (T.cls c)) (hm:∀k,T.att k≠mn) (D:eO X T k mn ps [] disp) (hk:k<=kk)
  (hn:iA ms n) (hps:n+1=ps.length) (ho:SE X T W o mo) (ha:SA X T W (e::es) ms)
  (hst:starEach (e::es) X.env=(false,eval e X.env)::starEach es X.env:=by rfl) (hpl:(backTo pos (starEach es X.env)).any (·.1)=false:=by rfl)
  (ht:eval (.Call (.Attribute o mn apos) (e::es) [] pos) X.env=(do
   let ov <- eval o X.env
   standAt apos.atName
   let(f,first) <- holding [ov] (getMethod ov mn pl)
   callWith pos f first (backTo pos (starEach (e::es) X.env)) (backToKw pos (keywordEach [] X.env))):=by rfl) :
  SE X T W (.Call (.Attribute o mn apos) (e::es) [] pos) (bB disp mo ms):=by
 rw[<- A_];exact Am (pl:=pl) (dvs:=[]) (dps:=[]) cx.hK hc hm D (cx.room.mono hk) .nil gK cx.xf (fun env xs q=>by rw[hn env xs q];exact hps) ho ha hst hpl ht
def An
  (cx:Ctx X T W kk) (hc:∀c<T.nc,Cls T.K (T.cls c)) (hm:∀k,T.att k≠mn) (D:eO X T k mn ps [] disp) (hk:k<=kk) (hps:ps.length=1) (ho:SE X T W o mo)
  (ht:eval (.Call (.Attribute o mn apos) [] [] pos) X.env=(do
   let ov <- eval o X.env
   standAt apos.atName
   let(f,first) <- holding [ov] (getMethod ov mn pl)
   callWith pos f first (backTo pos (starEach [] X.env)) (backToKw pos (keywordEach [] X.env))):=by rfl) :
  SE X T W (.Call (.Attribute o mn apos) [] [] pos) (bB disp mo ak):=by
 intro js s Y H Q I h;obtain⟨Z,F,env,fp,S,q⟩:=h;unfold bB at q;refine methodCall_KW (pl:=pl) (thn (ho js s Y H (fun v H1=>∃ ov F1 f1,mo env=.ok ov/\Gr F H F1 H1/\Rel T F1 Z.B (Own fp) H1 ov v f1/\(∀ a ∈ f1,¬ F1 a)/\f1.Nodup/\∀ a ∈ f1,H a=none) I
  (tE.bq S fun ov v H1 F1 f1 e1 g1 r1 n1 d1 w1=>⟨ov,F1,f1,e1,g1,r1,n1,d1,w1⟩)) fun u s1 zz=>?_) ht
 obtain⟨v,H1,I1,ru,ov,F1,f1,e1,g1,r1,n1,d1,w1⟩:=zz;rw[e1]at q;simp only[Res.J2]at q;by_cases hobj:∃fl c ks xs m,ov=.obj fl c ks xs/\disp c=some m
 ·obtain⟨fl,c,ks,ys,m,rfl,em⟩:=hobj;dsimp only at q;rw[em]at q;simp only[ak,Res.J2]at q;refine tK cx.hK hc hm D em r1 I1 ru fun a f fd eu hkp hb G=>?_;subst eu;refine PySem.W.callWith_K0 (first:=[.ref a]) I1.kIn hkp ?_;exact wf (xs:=[.obj fl c ks ys]) (vs:=[v]) (us:=[.ref a]) (fx:=f1) (dvs:=[]) (dps:=[]) G (cx.room.mono hk) hb .nil gK cx.xf S g1 (by unfold RelL;exact⟨v,[],f1,[],rfl,r1,gK _ _ _ _,by simp⟩) n1 d1 w1 (by simpa using q) I1 (.cons ru .nil) (by simp[hps])
 ·exfalso;cases ov with
  |obj fl c ks ys=>
   cases em:disp c with
   |none=>simp only[em]at q;exact q
   |some m=>exact hobj ⟨fl,c,ks,ys,m,rfl,em⟩
  |_=>exact q
def CH
  (M:Mk X.K (T.cls c) f) (hcn:c<T.nc) (G:dG X.prog X.w X.K X.mg X.base (CXP X.prog X.w) k f fd ps (spI T ps.length m)) (cx:Ctx X T W kk) (hk:k+1<=kk) (hg:Gl X x) (hm:X.mg x=some (.ref (T.cls c))) (hb:fA X.K fd ps [])
  (hn:iA ms n) (hps:n+1=ps.length) (ha:SA X T W (e::es) ms)
  (hdb:(x ==("__debug__":Str))=false:=by decide) (he:starEach (e::es) X.env=(false,eval e X.env)::starEach es X.env:=by rfl) (hpl:(backTo pos (starEach es X.env)).any (·.1)=false:=by rfl) :
  SE X T W (.Call (.Name x p) (e::es) [] pos) (jp c m ms):=by
 have h:=Ao (dvs:=[]) (dps:=[]) (p:=p) (pos:=pos) M hcn G (cx.room.mono hk) hg hm hb .nil gK cx.xf hn hps ha hdb he hpl;unfold jp;simpa using h
end
def BC(X:K.In h)(q:excIn K C [.type "ValueError",.type "Exception",.type "BaseException",.type "object"] "ValueError.__new__"=true) :
  ∃bm N nm q bs hdct sn sub ab col dd k0 k1 k2 k3 k5 mN,h.get? C=some (excClassObj nm q C N bs bm hdct sn sub ab col dd k0 k1 k2 k3 k5 "ValueError.__new__")/\h.Ns N mN/\mN "__init__"=none /\
   OwnTail h [.type "ValueError",.type "Exception",.type "BaseException",.type "object"] bm:=by
 unfold excIn at q;split at q
 ·rename_i dd cd sl ho
  split at q
  ·rename_i C' bm k0 k1 k2 k3 n k5 hm hs
   simp only[and_eq_true,beq_iff_eq,not_eq_true']at q;obtain⟨⟨⟨⟨⟨rfl,rfl⟩,hdel⟩,ht⟩,hok⟩,hni⟩:=q;cases cd;cases sl;dsimp only at hm hdel hok hni hs;subst hm hdel hs;exact⟨bm,_,_,_,_,_,_,_,_,_,dd,k0,k1,k2,k3,k5,_,X _ _ ho,.of_isNs (PySem.W.isNs_of_in X hok),PySem.W.nsMap_none_of_in X hok hni,PySem.W.tail_of_in X ht⟩
  ·cases q
 ·cases q
def bj(c:Nat)(ms:MA):MS:=fun env=>match ms env with
 |.ok _=>.exc c env
 |.exc k=>.exc k env
 |.stuck=>.stuck
def ur(cx:Ctx X T W k)(hm:X.mg x=some (.ref (T.xcl c)))(hB:T.K.In X.base)
  (hE:excIn T.K (T.xcl c) [.type "ValueError",.type "Exception",.type "BaseException",.type "object"] "ValueError.__new__"=true) (hx:XM X T W) (hg:Gl X x) (hn:iA ms n) (hn2:n<=100) (ha:SA X T W (e::es) ms)
  (hd:(x ==("__debug__":Str))=false:=by decide)
  (he:starEach (e::es) X.env=(false,eval e X.env)::starEach es X.env:=by rfl) (hpl:(backTo cpos (starEach es X.env)).any (·.1)=false:=by rfl) :
  SS X T W (.Raise (some (.Call (.Name x np) (e::es) [] cpos)) none pos) (bj c ms):=
 v6 (np:=np) (cpos:=cpos) (pos:=pos) ⟨hm,BC hB hE⟩ hx cx.calm hg ha (fun env pvs q=>by rw[hn env pvs q];exact hn2) hd he hpl
structure Scr(fl:Fl):Prop where
 is:fl=.frz\/fl=.mod
def Scr.JS(h:Scr fl):fl.JS=fl:=by rcases h.is with rfl|rfl<;>rfl
def Scr.JT(h:Scr fl):fl.JT=fl:=by rcases h.is with rfl|rfl<;>rfl
def Scr.JV(h:Scr fl):fl.JV=fl:=by rcases h.is with rfl|rfl<;>rfl
def j3:∀ns:JI,RelL T F B L H (ns.map PV.int) (ns.map V.int) []
 | []=>gK _ _ _ _
 |n::ns=>by rw[map_cons,map_cons];unfold RelL;exact⟨_,_,[],[],rfl,eM,j3 ns,rfl⟩
def v7(K:PySem.W.Frag)(tb:Addr->Option (JN):=fun _=>none):Sp:=fun vs H Q _=>(∀b ps,tb b=some ps->H b=some (.tbl ps))/\∃(a:Addr) (ns:JI),vs=[.ref a]/\SqL K H a (ns.map V.int)/\ns.length<=63/\∀v H',v=.bl true->Q v H'
def Ea(G:dG P w T.K mg base (CXP P w) k f fd [x] (spM T 1 m))
  (h:∀(fl:Fl) (ns:JI),Scr fl->ns.length<=63->m [.lst fl (ns.map .int)]=.ok (.bl true)):dG P w T.K mg base (CXP P w) k f fd [x] (v7 T.K T.tb):=by
 refine G.imp fun vs H Q E q=>?_;obtain⟨hT,a,ns,rfl,hS,hl,hQ⟩:=q;have hTb:BW T H (· ∈([]:JK)):=fun b ps h=>⟨hT b ps h,fun z=>nomatch z⟩
 have fin:∀fl,Scr fl->∀Z:Zn,GF T Z Q E (m [.lst fl (ns.map .int)]):=fun fl hf Z=>by rw[h fl ns hf hl];intro F H' v f' _ r _ _ _;unfold Rel at r;exact hQ v H' r.1
 refine⟨rfl,?_⟩;rcases hS with hS|hS
 ·refine⟨[.lst .frz (ns.map .int)],(·=a),fun _=>False,[],⟨?_,nodup_nil,fun _ z=>(nomatch z),⟨fun _ z=>False.elim z,hTb⟩,fun b hb=>?_⟩,fin _ ⟨.inl rfl⟩ _⟩
  ·unfold RelL;refine⟨_,_,[],[],rfl,?_,gK _ _ _ _,rfl⟩;unfold Rel;exact⟨a,_,[],rfl,⟨rfl,hS⟩,j3 ns,rfl,rfl⟩
  ·subst hb;rcases hS with e |⟨o,e⟩
   ·exact⟨_,e⟩
   ·exact⟨_,e⟩
 ·refine⟨[.lst .mod (ns.map .int)],fun _=>False,fun _=>False,[],⟨?_,nodup_nil,fun _ z=>(nomatch z),⟨fun _ z=>False.elim z,hTb⟩,fun _ z=>z.elim⟩,fin _ ⟨.inr rfl⟩ _⟩;unfold RelL;refine⟨_,_,[],[],rfl,?_,gK _ _ _ _,rfl⟩;unfold Rel;exact⟨a,_,[],rfl,hS,j3 ns,rfl,rfl⟩
def Bf:zV K "int":=by intro t ht;simp only[mem_cons,not_mem_nil,or_false]at ht;rcases ht with rfl|rfl|rfl|rfl|rfl|rfl<;>kernel_rfl
def qe:zV K "bool":=by intro t ht;simp only[mem_cons,not_mem_nil,or_false]at ht;rcases ht with rfl|rfl|rfl|rfl|rfl|rfl<;>kernel_rfl
def xF:zV K "list":=by intro t ht;simp only[mem_cons,not_mem_nil,or_false]at ht;rcases ht with rfl|rfl|rfl|rfl|rfl|rfl<;>kernel_rfl
def a5:bootBuiltins "isinstance"=some (.builtin "isinstance"):=by decide +kernel
def y0:bootBuiltins "int"=some (.type "int"):=by decide +kernel
def uj:bootBuiltins "bool"=some (.type "bool"):=by decide +kernel
def ck:bootBuiltins "list"=some (.type "list"):=by decide +kernel
def gc:bootBuiltins "tuple"=some (.type "tuple"):=by decide +kernel
def nk:bootBuiltins "ValueError"=some (.type "ValueError"):=by decide +kernel
def vy(K:PySem.W.Frag)(C:Addr):Bool:=
 decide (PySem.W.findIn K (.ref C) "__getattribute__"=some (some (.builtin "BaseException.__getattribute__")))&&decide (PySem.W.findIn K (.ref C) "__getattr__"=some none) &&
 decide (PySem.W.findIn K (.ref C) "__class__"=some (some (.builtin "object.__class__")))&&decide (mroIn K C (.type "BaseException")=some true)&&decide (mroIn K C (.type "object")=some true)&&(clsIn K C).isSome &&
 excIn K C [.type "ValueError",.type "Exception",.type "BaseException",.type "object"] "ValueError.__new__"
def uf(h:vy K C=true):nr K C/\excIn K C [.type "ValueError",.type "Exception",.type "BaseException",.type "object"] "ValueError.__new__"=true:=by simp only[vy,and_eq_true,decide_eq_true_eq]at h;obtain⟨⟨⟨⟨⟨⟨h1,h2⟩,h3⟩,h4⟩,h5⟩,h6⟩,h7⟩:=h;exact⟨⟨h1,h2,h3,h4,h5,h6⟩,h7⟩
def AQ(l:JK)(i:Nat):Addr:=l.getD i (l.headD 0)
def dz(l:List Bool)(i:Nat):Bool:=l.getD i (l.headD false)
def wD{α:Type}{f:Addr->Option α}{g:α->Bool}{l:JK}{bs:List Bool}{r:Bool->Option α}(hl:l≠[])(h:l.map f=bs.map r)(i:Nat):f (AQ l i)=r (dz bs i):=by
 have hlen:l.length=bs.length:=by simpa using congrArg List.length h
 unfold AQ dz;rw[getD_eq_getElem?_getD,getD_eq_getElem?_getD];have key:∀j,(l[j]?).map f=(bs[j]?).map r:=fun j=>by rw[<- getElem?_map,<- getElem?_map,h]
 cases e:l[i]? with
 |some C=>
  have:=key i;rw[e]at this;cases e2:bs[i]? with
  |some b=>rw[e2]at this;simpa using this
  |none=>rw[e2]at this;simp at this
 |none=>
  have hb:bs[i]?=none:=by rw[List.getElem?_eq_none_iff]at e ⊢;omega
  rw[hb];cases l with
  |nil=>exact absurd rfl hl
  |cons a l=>
   cases bs with
   |nil=>simp at hlen
   |cons b bs=>simpa using key 0
def oA:∀(xs:JO) (ys:JJ),xs.length=ys.length->(∀(i:Nat) x y,xs[i]?=some x->ys[i]?=some y->bX x y)->aW xs ys
 | [],[],_,_=>.nil
 |x::xs,y::ys,hl,h=>.cons (h 0 x y rfl rfl) (oA xs ys (by simpa using hl) fun i a b e1 e2=>h (i+1) a b (by simpa using e1) (by simpa using e2))
 | [],_::_,hl,_|_::_,[],hl,_=>by simp at hl
def rG(lo:Int)(n:Nat):JO:=(range n).map fun k=>.int (lo+(k:Nat))
section
variable{X:Cx}{T:Tb}{W:Nat->St->JP}{Z:Zn}{F F1 B L:JH}{H H1:Hp}{Y:St}{env:En}{fp:Nat->JK}
def wq(lo:Int)(n:Nat):RelL T F B L H (cC lo n) (rG lo n) []:=by
 unfold cC rG;have:∀l:List Nat,RelL T F B L H (l.map fun k=>PV.int (lo+(k:Nat))) (l.map fun k=>V.int (lo+(k:Nat))) []:=by
  intro l
  induction l with
  |nil=>exact gK _ _ _ _
  |cons a l ih=>rw[map_cons,map_cons];unfold RelL;exact⟨_,_,[],[],rfl,eM,ih,rfl⟩
 exact this _
def uM(hg:Gl X "range")(hm:X.mg "range"=none)(ha:PA X [a] ta)(hs:starEach [a] X.env=[(false,eval a X.env)]:=by rfl) :
  PE X (.Call (.Name "range" p) [a] [] pos) (fun Y H Q=>ta Y H fun vs H1=>∃j:Int,vs=[.int j]/\∀r,H1 r=none->Q (.ref r) (upd H1 r (.rng 0 j))):=by
 intro js s Y H Q I h;refine PyProof.Rows.Call_ (gG I hg hm PyProof.Rows.boot_range (PyProof.Rows.callWith_type1 (thn (ha pos js s Y H _ I h) fun us s1 zz=>?_) hs rfl));obtain⟨vs,H1,I1,r1,q1⟩:=zz;obtain⟨j,e,q⟩:=q1;subst e;cases r1 with
 |cons r rr=>cases rr;obtain⟨t,rfl⟩:=r;refine call_range_1 ⟨.ref s1.heap.objs.size,_,I1.laid (fun b u e=>get?_push_of_some _ e) (Nat.le_refl _) ?_,rfl,q _ (I1.hok.fresh (Nat.le_refl _))⟩;exact⟨_,_,_,get?_push_size _ rfl⟩
def nh(hc:X.calm=true):dR X (.type "list") (fun xs H Q=>∃r hi,xs=[.ref r]/\H r=some (.rng 0 hi)/\(0<=hi/\hi<=1000000)/\∀l,H l=none->Q (.ref l) (upd H l (.lst (rG 0 hi.toNat)))):=by
 intro js s Y H xs us Q I rv h;obtain⟨r,hi,rfl,hr,⟨h0,h1⟩,q⟩:=h;obtain⟨u,rfl,rx⟩:=d4 rv;cases rx;obtain⟨t,u,v,e⟩:=I.hok r _ hr;have hsz:Builtin.Range.rangeSize 0 hi 1=(hi.toNat:Int):=by unfold Builtin.Range.rangeSize;rw[if_pos (by decide)];split<;>omega
 have hsm:Builtin.Range.small 0 hi 1=true:=by unfold Builtin.Range.small;rw[hsz];simp only[Builtin.Range.rangeFitsLong,and_eq_true,or_eq_true,decide_eq_true_eq,show(1:Int)>0 by decide,if_true];refine⟨⟨⟨⟨by decide,by omega⟩,by decide⟩,by omega⟩,.inr (by omega)⟩
 refine call_list_range (I.ok.hd hc) e hsm hsz (by omega) fun h' tk acc c' kp eS hacc=>?_;refine⟨.ref s.heap.objs.size,_,I.laid (t':=tk) kp (Nat.le_refl _) ?_,rfl,q _ (I.hok.fresh (Nat.le_refl _))⟩;refine⟨?_,acc.toList,c',oA _ _ ?_ fun i x y e1 e2=>?_,?_⟩
 ·rw[sizeLine_eq];simp[rG];omega
 ·simp[rG,hacc.1]
 ·have:=hacc.2 i y (by simpa using e2);obtain⟨t,rfl⟩:=this;have hi:i<hi.toNat:=by have:=(List.getElem?_eq_some_iff.mp e1).1;simpa[rG]using this
  simp[rG,hi]at e1;subst e1;exact⟨t,by simp⟩
 ·simpa using eS
def iY:JQ->JR
 | [.int n]=>if decide (0<=n/\n<=1000000)then .ok (.lst .own (cC 0 n.toNat))else .stuck
 |_=>.stuck
def nH(hc:X.calm=true)(hg:Gl X "list")(hm:X.mg "list"=none)(hv:bootBuiltins "list"=some (.type "list"))(hg2:Gl X "range")(hm2:X.mg "range"=none)(ha:SA X T W [a] ms)
  (hs:starEach [a] X.env=[(false,eval a X.env)]:=by rfl)
  (he:starEach [.Call (.Name "range" p2) [a] [] pos2] X.env=[(false,eval (.Call (.Name "range" p2) [a] [] pos2) X.env)]:=by rfl) :
  SE X T W (.Call (.Name "list" p) [.Call (.Name "range" p2) [a] [] pos2] [] pos) (ar iY ms):=by
 refine PE.wk (j7 (p:=p) (pos:=pos) (nh hc) hg hm hv (cR (uM (p:=p2) (pos:=pos2) hg2 hm2 ha hs) fT (by rw[he];rfl)) (he:=by rw[he];rfl) (hpl:=rfl)) fun Y H Q hz1=>?_;obtain⟨Z,F,env,fp,S,q⟩:=hz1;unfold ar at q;refine tA.bq S fun pvs vs H1 F1 f1 e1 g1 r1 n1 d1 w1=>?_;rw[e1]at q;simp only[Res.J2]at q
 match pvs,r1,q with
 | [.int n],r1,q=>
  obtain⟨v,rfl,rv⟩:=RelL.one r1;unfold Rel at rv;obtain⟨rfl,rfl⟩:=rv;simp only[iY]at q;refine⟨n,rfl,fun r hr=>?_⟩;by_cases hn:decide (0<=n/\n<=1000000)=true
  ·rw[if_pos hn]at q;have g2:Gr F H F1 (upd H1 r (.rng 0 n)):=g1.trans (Gr.same g1.dom (Ext.upd hr));exact⟨r,n,rfl,bz,of_decide_eq_true hn,fun l hl=>GE.newL q g2 (wq 0 n.toNat) (fun _ z=>(nomatch z)) nodup_nil (fun _ z=>(nomatch z)) l hl⟩
  ·rw[if_neg hn]at q;exact q.elim
 | [],_,q|[.non],_,q|[.bl _],_,q|[.str _],_,q|[.lst _ _],_,q|[.tup _],_,q|[.obj _ _ _ _],_,q|[.exc _],_,q|[.box _ _],_,q|.int _::_::_,_,q|.non::_::_,_,q|.bl _::_::_,_,q|.str _::_::_,_,q|.lst _ _::_::_,_,q|.tup _::_::_,_,q|.obj _ _ _ _::_::_,_,q|.exc _::_::_,_,q|.box _ _::_::_,_,q=>exact q.elim
end
def bR:JQ->Option (JI)
 | []=>some []
 |.int i::xs=>(bR xs).map (i::·)
 |_::_=>none
def kI(ns:JI):Nat:=(firstMet (fun i=>ns.getD i 0) ns.length).length
def h_:PV->JR
 |.lst _ xs=>match bR xs with
  |some ns=>if decide (ns.length<=1000)then .ok (.int (kI ns))else .stuck
  |none=>.stuck
 |_=>.stuck
section
variable{X:Cx}{T:Tb}{W:Nat->St->JP}{Z:Zn}{F F1 B L:JH}{H H1:Hp}{Y:St}{env:En}{fp:Nat->JK}
def cW:∀{xs:JQ}{vs:JO}{f:JK}{ns:JI},bR xs=some ns->RelL T F B L H xs vs f->vs=ns.map V.int
 | [],_,_,_,e,r=>by cases e;unfold RelL at r;exact r.1
 |.int i::xs,_,_,ns,e,r=>by
  unfold RelL at r;obtain⟨v,ws,f1,f2,rfl,h1,h2,rfl⟩:=r;simp only[bR]at e;cases e2:bR xs with
  |none=>rw[e2]at e;cases e
  |some ms=>rw[e2]at e;cases e;unfold Rel at h1;rw[h1.1,cW e2 h2];rfl
 |.non::_,_,_,_,e,_|.bl _::_,_,_,_,e,_|.str _::_,_,_,_,e,_|.lst _ _::_,_,_,_,e,_|.tup _::_,_,_,_,e,_|.obj _ _ _ _::_,_,_,_,e,_|.exc _::_,_,_,_,e,_|.box _ _::_,_,_,_,e,_=>by simp[bR]at e
def gW:∀{ns:JI}{its:JJ},aW (ns.map V.int) its->PyProof.Rows.IntsAre its ns
 | [],_,r=>by cases r;exact .nil
 |n::ns,_,r=>by
  cases r with
  |cons h t=>obtain⟨tk,rfl⟩:=h;exact .cons _ _ (gW t)
def ng(hc:X.calm=true):dR X (.type "set") (fun xs H Q=>∃p ns,xs=[.ref p]/\SqL X.K H p (ns.map V.int)/\ns.length<=1000/\∀r S,H r=none->Q (.ref r) (upd H r (.set S (kI ns)))):=by
 intro js s Y H xs us Q I rv h;obtain⟨p,ns,rfl,hS,hl,q⟩:=h;obtain⟨u,rfl,rx⟩:=d4 rv;cases rx;obtain⟨its,r',pl,hz⟩:=I.list hS;have hlen:=r'.length;rw[length_map]at hlen;refine call_set_list (I.ok.hd hc) pl.isList (ns:=ns) (by simpa using gW r') (by simp only[size_toArray,<- hlen];unfold scanBound;omega) fun h' tk hs kp=>?_;have e:its.toArray.size=ns.length:=by simp[hlen]
 rw[e]at hs;exact⟨.ref s.heap.objs.size,_,I.laid (t':=tk) (o:=.set (fun k'=>(firstMet (fun i=>ns.getD i 0) ns.length).any (·==k')) (kI ns)) (fun b o e=>kp b o (lt_size e) e) (Nat.le_refl _) hs,rfl,q _ _ (I.hok.fresh (Nat.le_refl _))⟩
def ni:dR X (.builtin "len") (fun xs H Q=>∃r S n,xs=[.ref r]/\H r=some (.set S n)/\Q (.int n) H):=by intro js s Y H xs us Q I rv h;obtain⟨r,S,n,rfl,hr,q⟩:=h;obtain⟨u,rfl,rx⟩:=d4 rv;cases rx;obtain⟨o,es,ep,t,ho,hex,hd,_,_,hb,hf,hn⟩:=I.hok r _ hr;have hb':es.size<4096:=hb;exact call_len_set ho hex hd hf (by omega) ⟨.int n,H,I.tok _,⟨s.toks+1,by rw[hn]⟩,q⟩
def E2:bootBuiltins "set"=some (.type "set"):=by decide +kernel
def nJ(hK:X.K=T.K)(hc:X.calm=true)(hg:Gl X "len")(hm:X.mg "len"=none)(hg2:Gl X "set")(hm2:X.mg "set"=none)(he:SE X T W e m)
  (hs:starEach [e] X.env=[(false,eval e X.env)]:=by rfl)
  (hs2:starEach [.Call (.Name "set" p2) [e] [] pos2] X.env=[(false,eval (.Call (.Name "set" p2) [e] [] pos2) X.env)]:=by rfl) :
  SE X T W (.Call (.Name "len" p) [.Call (.Name "set" p2) [e] [] pos2] [] pos) (mUn h_ m):=by
 refine PE.wk (iK (p:=p) (pos:=pos) ni hg hm boot_len (cR (j7 (p:=p2) (pos:=pos2) (ng hc) hg2 hm2 E2 (cR he fT (by rw[hs];rfl)) (he:=by rw[hs];rfl) (hpl:=rfl)) fT (by rw[hs2];rfl)) (he:=by rw[hs2];rfl) (hpl:=rfl)) fun Y H Q hz1=>?_;obtain⟨Z,F,env,fp,S,q⟩:=hz1;unfold mUn at q;refine tE.bq S fun x v H1 F1 f1 e1 g1 r1 n1 d1 w1=>?_;rw[e1]at q;cases x with
 |lst fl xs=>
  simp only[Res.J2,h_]at q;cases en:bR xs with
  |none=>rw[en]at q;exact q.elim
  |some ns=>
   rw[en]at q;dsimp only at q;unfold Rel at r1;obtain⟨a,vs,fp',rfl,hl,hr,_⟩:=r1;by_cases hn:decide (ns.length<=1000)=true
   ·rw[if_pos hn]at q;have hv:=cW en hr;subst hv;exact⟨a,ns,rfl,by rw[hK];exact hl.sq,of_decide_eq_true hn,fun r S hr=>⟨r,S,_,rfl,bz,q.scal (g1.trans (Gr.same g1.dom (Ext.upd hr))) eM⟩⟩
   ·rw[if_neg hn]at q;exact q.elim
 |_=>exact q.elim
end
def gE:JI->Int
 | []=>0
 | [a]=>a
 |a::b::l=>min a (gE (b::l))
def jN:JI->Int
 | []=>0
 | [a]=>a
 |a::b::l=>max a (jN (b::l))
def lQ:∀{l:JI},l≠[]->gE l∈l/\∀x∈l,gE l<=x
 | [],h=>absurd rfl h
 | [a],_=>by simp[gE]
 |a::b::l,_=>by
  obtain⟨h1,h2⟩:=lQ (l:=b::l) (by simp);unfold gE
  grind
def lR:∀{l:JI},l≠[]->jN l∈l/\∀x∈l,x<=jN l
 | [],h=>absurd rfl h
 | [a],_=>by simp[jN]
 |a::b::l,_=>by
  obtain⟨h1,h2⟩:=lR (l:=b::l) (by simp);unfold jN;refine⟨?_,fun x hx=>?_⟩
  ·rcases Int.le_total a (jN (b::l))with h|h
   ·rw[Int.max_eq_right h];exact mem_cons_of_mem _ h1
   ·rw[Int.max_eq_left h];exact mem_cons_self
  ·rcases mem_cons.mp hx with rfl|hx
   ·exact Int.le_max_left _ _
   ·exact Int.le_trans (h2 x hx) (Int.le_max_right _ _)
section
variable{X:Cx}{T:Tb}{W:Nat->St->JP}{Z:Zn}{F F1 B L:JH}{H H1:Hp}{Y:St}{env:En}{fp:Nat->JK}{js:JG}{s:Shared}
def fu{h':Heap}{t:Nat}(I:L2.Inv X js Y H s)(k:∀b o,s.heap.get? b=some o->h'.get? b=some o):L2.Inv X js Y H {s with heap:=h',toks:=t}:=I.un (Un.kept k) (I.hok.kept k)
def dU{its:JJ}{ns:JI}(r:aW (ns.map V.int) its):∀(i:Nat) (v:Value),its.toArray[i]?=some v->∃t,v=.int (ns.getD i 0) t:=by
 intro i v e;have e':its[i]?=some v:=by simpa using e
 have hi:i<ns.length:=by have h1:=(List.getElem?_eq_some_iff.mp e').1;have h2:=r.length;rw[length_map]at h2;omega
 have:∀{ns:JI}{its:JJ}{i:Nat}{v:Value},aW (ns.map V.int) its->its[i]?=some v->∃t,v=.int (ns.getD i 0) t:=by
  intro ns
  induction ns with
  |nil=>intro its i v r e;cases r;simp at e
  |cons n ns ih=>
   intro its i v r e;cases r with
   |cons h t=>
    obtain⟨tk,rfl⟩:=h;cases i with
    |zero=>simp at e;exact⟨tk,by rw[<- e];rfl⟩
    |succ i=>obtain⟨tk',h'⟩:=ih t (by simpa using e);exact⟨tk',by rw[h'];rfl⟩
 exact this r e'
def qJ{ns:JI}(h:0<ns.length):ns.getD (argBest (fun i j=>decide (ns.getD i 0<ns.getD j 0)) (ns.length-1)) 0=gE ns:=by
 obtain⟨h1,h2⟩:=argBest_lt (fun i=>ns.getD i 0) (ns.length-1);obtain⟨m1,m2⟩:=lQ (l:=ns) (by intro z;simp[z]at h);refine Int.le_antisymm ?_ (m2 _ ?_)
 ·obtain⟨i,hi,e⟩:=getElem_of_mem m1;have:=h2 i (by omega)
  grind
 ·rw[getD_eq_getElem?_getD,getElem?_eq_getElem (by omega)];exact getElem_mem _
def yZ{ns:JI}(h:0<ns.length):ns.getD (argBest (fun i j=>decide (ns.getD i 0>ns.getD j 0)) (ns.length-1)) 0=jN ns:=by
 obtain⟨h1,h2⟩:=argBest_gt (fun i=>ns.getD i 0) (ns.length-1);obtain⟨m1,m2⟩:=lR (l:=ns) (by intro z;simp[z]at h);refine Int.le_antisymm (m2 _ ?_) ?_
 ·rw[getD_eq_getElem?_getD,getElem?_eq_getElem (by omega)];exact getElem_mem _
 ·obtain⟨i,hi,e⟩:=getElem_of_mem m1;have:=h2 i (by omega)
  grind
def iE{n:Nat}{l I:Addr}(hl:l<n)(e:I=n):∀b∈[I,l],b<n+1:=(by grind)
def dN{h h':Heap}{o:Obj}(hk:∀b u,b∉[h.objs.size]->(h.push o).get? b=some u->h'.get? b=some u):∀b u,h.get? b=some u->h'.get? b=some u:=fun b u e=>
 hk b u (fun hm=>by
  rcases mem_cons.mp hm with z|z
  ·exact absurd (z▸lt_size e) (Nat.lt_irrefl _)
  ·cases z) (get?_push_of_some _ e)
def pp(hc:X.calm=true):dR X (.builtin "min") (fun xs H Q=>∃p ns,xs=[.ref p]/\(SqL X.K H p (ns.map V.int)\/ SqT X.K H p (ns.map V.int))/\0<ns.length/\Q (.int (gE ns)) H):=by
 intro js s Y H xs us Q I rv h;obtain⟨p,ns,rfl,hq,hn,q⟩:=h;obtain⟨u,rfl,rx⟩:=d4 rv;cases rx;have hh:=I.ok.hd hc;have key:∀{its:JJ},aW (ns.map V.int) its->∀{v:Value}{h':Heap}{tk:Nat},its.toArray[argBest (fun i j=>decide (ns.getD i 0<ns.getD j 0)) (its.toArray.size-1)]?=some v->(∀b o,s.heap.get? b=some o->h'.get? b=some o)->EP X js Y Q v {s with heap:=h',toks:=tk}:=by
  intro its r v h' tk hv k;have hl:its.toArray.size=ns.length:=by have:=r.length;simpa using this.symm
  rw[hl]at hv;obtain⟨t,rfl⟩:=dU r _ _ hv;rw[qJ hn];exact⟨.int _,H,fu I k,⟨t,rfl⟩,q⟩
 rcases hq with hq|hq
 ·obtain⟨its,r,pl,hz⟩:=I.list hq;have hl:its.toArray.size=ns.length:=by have:=r.length;simpa using this.symm
  obtain⟨o,ho,hcl,n,hd⟩:=pl.isList;have hlt:=lt_size ho;refine call_min_walk (wpAny_pyIter_list pl.isList ?_);refine⟨_,_,_,_,_,_,_,rfl,Walks.list (A:=X.A.in1) hh _ p (Nat.ne_of_lt hlt) its.toArray,⟨⟨_,get?_push_size _ rfl,rfl,rfl⟩,pl.isList.push _⟩,fun b hb=>?_,by omega,CmpOf.ints_lt (fun i=>ns.getD i 0) (dU r),fun v h' tk hP hk=>key r hP (dN hk)⟩;show b <(s.heap.push _).objs.size;rw[size_push];exact iE hlt rfl b hb
 ·obtain⟨its,r,pl,hz⟩:=I.tuple hq;have hl:its.toArray.size=ns.length:=by have:=r.length;simpa using this.symm
  have pt:s.heap.IsTuple p its.toArray:=pl;obtain⟨o,ho,hcl,n,hd⟩:=pl;have hlt:=lt_size ho;refine call_min_walk (wpAny_pyIter_tuple pt ?_);refine⟨_,_,_,_,_,_,_,rfl,Walks.tuple (A:=X.A.in1) hh _ p (Nat.ne_of_lt hlt) its.toArray,⟨⟨_,get?_push_size _ rfl,rfl,rfl⟩,pt.push _⟩,fun b hb=>?_,by omega,CmpOf.ints_lt (fun i=>ns.getD i 0) (dU r),fun v h' tk hP hk=>key r hP (dN hk)⟩;show b <(s.heap.push _).objs.size;rw[size_push];exact iE hlt rfl b hb
def pq(hc:X.calm=true):dR X (.builtin "max") (fun xs H Q=>∃p ns,xs=[.ref p]/\(SqL X.K H p (ns.map V.int)\/ SqT X.K H p (ns.map V.int))/\0<ns.length/\Q (.int (jN ns)) H):=by
 intro js s Y H xs us Q I rv h;obtain⟨p,ns,rfl,hq,hn,q⟩:=h;obtain⟨u,rfl,rx⟩:=d4 rv;cases rx;have hh:=I.ok.hd hc;have key:∀{its:JJ},aW (ns.map V.int) its->∀{v:Value}{h':Heap}{tk:Nat},its.toArray[argBest (fun i j=>decide (ns.getD i 0>ns.getD j 0)) (its.toArray.size-1)]?=some v->(∀b o,s.heap.get? b=some o->h'.get? b=some o)->EP X js Y Q v {s with heap:=h',toks:=tk}:=by
  intro its r v h' tk hv k;have hl:its.toArray.size=ns.length:=by have:=r.length;simpa using this.symm
  rw[hl]at hv;obtain⟨t,rfl⟩:=dU r _ _ hv;rw[yZ hn];exact⟨.int _,H,fu I k,⟨t,rfl⟩,q⟩
 rcases hq with hq|hq
 ·obtain⟨its,r,pl,hz⟩:=I.list hq;have hl:its.toArray.size=ns.length:=by have:=r.length;simpa using this.symm
  obtain⟨o,ho,hcl,n,hd⟩:=pl.isList;have hlt:=lt_size ho;refine call_max_walk (wpAny_pyIter_list pl.isList ?_);refine⟨_,_,_,_,_,_,_,rfl,Walks.list (A:=X.A.in1) hh _ p (Nat.ne_of_lt hlt) its.toArray,⟨⟨_,get?_push_size _ rfl,rfl,rfl⟩,pl.isList.push _⟩,fun b hb=>?_,by omega,CmpOf.ints_gt (fun i=>ns.getD i 0) (dU r),fun v h' tk hP hk=>key r hP (dN hk)⟩;show b <(s.heap.push _).objs.size;rw[size_push];exact iE hlt rfl b hb
 ·obtain⟨its,r,pl,hz⟩:=I.tuple hq;have hl:its.toArray.size=ns.length:=by have:=r.length;simpa using this.symm
  have pt:s.heap.IsTuple p its.toArray:=pl;obtain⟨o,ho,hcl,n,hd⟩:=pl;have hlt:=lt_size ho;refine call_max_walk (wpAny_pyIter_tuple pt ?_);refine⟨_,_,_,_,_,_,_,rfl,Walks.tuple (A:=X.A.in1) hh _ p (Nat.ne_of_lt hlt) its.toArray,⟨⟨_,get?_push_size _ rfl,rfl,rfl⟩,pt.push _⟩,fun b hb=>?_,by omega,CmpOf.ints_gt (fun i=>ns.getD i 0) (dU r),fun v h' tk hP hk=>key r hP (dN hk)⟩;show b <(s.heap.push _).objs.size;rw[size_push];exact iE hlt rfl b hb
def gL(g:JI->Int):PV->JR:=fun x=>match aM x with
 |some xs=>match bR xs with
  |some ns=>if ns.isEmpty then .stuck else .ok (.int (g ns))
  |none=>.stuck
 |none=>.stuck
def p9(hK:X.K=T.K):Mir T W (p1 (gL g)) (fun xs H Q=>∃p ns,xs=[.ref p]/\(SqL X.K H p (ns.map V.int)\/ SqT X.K H p (ns.map V.int))/\0<ns.length/\Q (.int (g ns)) H):=by
 intro B F L Y H Q F' H' xs vs fx gr r nf nd new q
 match xs,r,q with
 | [x],r,q=>
  obtain⟨v,rfl,rv⟩:=RelL.one r;simp only[p1,gL]at q;cases e:aM x with
  |none=>rw[e]at q;exact q.elim
  |some ys=>
   rw[e]at q;dsimp only at q;cases e2:bR ys with
   |none=>rw[e2]at q;exact q.elim
   |some ns=>
    rw[e2]at q;dsimp only at q;obtain⟨a,us,fx',rfl,hs,hr,_⟩:=rv.seq e;have hu:=cW e2 hr;subst hu;cases ns with
    |nil=>exact q.elim
    |cons n ns=>exact⟨a,_,rfl,by rw[hK];exact hs,by simp,q.scal gr eM⟩
 | [],_,q=>exact q.elim
 |_::_::_,_,q=>simp only[p1]at q;exact q.elim
def sG:bootBuiltins "min"=some (.builtin "min"):=by decide +kernel
def E4:bootBuiltins "max"=some (.builtin "max"):=by decide +kernel
def sP(hK:X.K=T.K)(hc:X.calm=true)(hg:Gl X "min")(hm:X.mg "min"=none)(ha:SE X T W e m)(he:starEach [e] X.env=[(false,eval e X.env)]:=by rfl):SE X T W (.Call (.Name "min" p) [e] [] pos) (ar (p1 (gL gE)) (ad m ak)):=
 fj (pp hc) (p9 hK) hg hm sG (aa ha af (by rw[he];rfl)) (he:=by rw[he];rfl) (hpl:=rfl)
def sQ(hK:X.K=T.K)(hc:X.calm=true)(hg:Gl X "max")(hm:X.mg "max"=none)(ha:SE X T W e m)(he:starEach [e] X.env=[(false,eval e X.env)]:=by rfl):SE X T W (.Call (.Name "max" p) [e] [] pos) (ar (p1 (gL jN)) (ad m ak)):=
 fj (pq hc) (p9 hK) hg hm E4 (aa ha af (by rw[he];rfl)) (he:=by rw[he];rfl) (hpl:=rfl)
def fC(g:Int->Int->Int):JQ->JR
 | [.int i,.int j]=>.ok (.int (g i j))
 |_=>.stuck
def u0{g:Int->Int->Int}{g':Int->Int->Int}(hg:∀i j,g' i j=g i j):Mir T W (fC g) (fun xs H Q=>∃i j,xs=[.int i,.int j]/\Q (.int (g' i j)) H):=by
 intro B F L Y H Q F' H' xs vs fx gr r nf nd new q
 match xs,r,q with
 | [x,y],r,q=>
  cases x with
  |int i=>
   cases y with
   |int j=>unfold RelL at r;obtain⟨v,ws,f1,f2,rfl,h1,h2,rfl⟩:=r;obtain⟨u,rfl,h3⟩:=RelL.one h2;unfold Rel at h1 h3;obtain⟨rfl,_⟩:=h1;obtain⟨rfl,_⟩:=h3;exact⟨i,j,rfl,by rw[hg];exact q.scal gr eM⟩
   |_=>exact q.elim
  |_=>exact q.elim
 | [],_,q=>exact q.elim
 | [x],_,q=>cases x<;>exact q.elim
 |x::y::z::l,_,q=>cases x<;>cases y<;>exact q.elim
def kS(hc:X.calm=true)(hg:Gl X "min")(hm:X.mg "min"=none)(ha:SA X T W [a,b] ms)(he:starEach [a,b] X.env=[(false,eval a X.env),(false,eval b X.env)]:=by rfl)(he2:starEach [b] X.env=[(false,eval b X.env)]:=by rfl) :
  SE X T W (.Call (.Name "min" p) [a,b] [] pos) (ar (fC min) ms):=
 fj (vI hc) (u0 fun i j=>by simp only[Int.min_def];split<;>split<;>omega) hg hm sG ha (he:=by rw[he,he2]) (hpl:=by rw[he2];rfl)
end
end PR
namespace PR
open PySem PySem.W PyProof.Rows
structure Ord(N:Nat)(lt:Nat->Nat->Bool):Prop where
 tr:∀i j k,i<N->j<N->k<N->lt i j=true->lt j k=true->lt i k=true
 tot:∀i j,i<N->j<N->i≠j->lt i j=false->lt j i=true
 irr:∀i,i<N->lt i i=false
structure Plc(N:Nat)(p:Array Nat):Prop where
 pm:p.toList.Perm (range N)
abbrev at_(p:Array Nat)(i:Nat):Nat:=p.getD i 0
section
variable{N:Nat}{lt:Nat->Nat->Bool}{p:Array Nat}
def Plc.sz(P:Plc N p):p.size=N:=by simpa using P.pm.length_eq
def Plc.get(P:Plc N p)(h:i<N):p[i]?=some (at_ p i):=by
 have:i<p.size:=by rw[P.sz];exact h
 simp[at_,this]
def Plc.bd(P:Plc N p)(h:i<N):at_ p i<N:=by
 have hm:at_ p i∈p.toList:=by have:=P.get h;exact Array.mem_toList_iff.mpr (Array.mem_of_getElem? this)
 simpa using P.pm.mem_iff.mp hm
def Plc.inj(P:Plc N p)(hi:i<N)(hj:j<N)(e:at_ p i=at_ p j):i=j:=by
 have nd:p.toList.Nodup:=P.pm.nodup_iff.mpr nodup_range;have h1:=P.get hi;have h2:=P.get hj;rw[e]at h1;have h1':p.toList[i]?=some (at_ p j):=by simpa using h1
 have h2':p.toList[j]?=some (at_ p j):=by simpa using h2
 obtain⟨a1,b1⟩:=List.getElem?_eq_some_iff.mp h1';obtain⟨a2,b2⟩:=List.getElem?_eq_some_iff.mp h2';exact(getElem_inj nd).mp (b1.trans b2.symm)
def Asc(lt:Nat->Nat->Bool)(p:Array Nat)(n:Nat):Prop:=∀a b,a<b->b<n->lt (at_ p a) (at_ p b)=true
def Dsc(lt:Nat->Nat->Bool)(p:Array Nat)(n:Nat):Prop:=∀a b,a<b->b<n->lt (at_ p b) (at_ p a)=true
def Asc.more(O:Ord N lt)(P:Plc N p)(h:Asc lt p n)(h1:1<=n)(hn:n<N)(hl:lt (at_ p (n-1)) (at_ p n)=true):Asc lt p (n+1):=fun a b hab hb=>by
 by_cases hbn:b<n
 ·exact h a b hab hbn
 ·obtain rfl:b=n:=by omega
  by_cases ha:a=b-1
  ·rw[ha];exact hl
  ·exact O.tr _ _ _ (P.bd (by omega)) (P.bd (by omega)) (P.bd (by omega)) (h a (b-1) (by omega) (by omega)) hl
def Dsc.more(O:Ord N lt)(P:Plc N p)(h:Dsc lt p n)(h1:1<=n)(hn:n<N)(hl:lt (at_ p n) (at_ p (n-1))=true):Dsc lt p (n+1):=fun a b hab hb=>by
 by_cases hbn:b<n
 ·exact h a b hab hbn
 ·obtain rfl:b=n:=by omega
  by_cases ha:a=b-1
  ·rw[ha];exact hl
  ·exact O.tr _ _ _ (P.bd (by omega)) (P.bd (by omega)) (P.bd (by omega)) hl (h a (b-1) (by omega) (by omega))
def Dsc.rev(P:Plc N p)(h:Dsc lt p n)(hn:n<=N):Asc lt (kas_rev p 0 n) n/\Plc N (kas_rev p 0 n):=by
 have hp:(kas_rev p 0 n).toList.Perm p.toList:=Array.perm_iff_toList_perm.mp (mirror_perm _ _ _ _);have P':Plc N (kas_rev p 0 n):=⟨hp.trans P.pm⟩
 have ix:∀k,k<n->at_ (kas_rev p 0 n) k=at_ p (n-1-k):=fun k hk=>by
  have e:=getElem?_mirror_all (xs:=p) (i:=0) (j:=n) (by rw[P.sz];exact hn) k;have h1:(kas_rev p 0 n)[k]?=p[0+n-1-k]?:=by unfold kas_rev;rw[e,if_pos ⟨by omega,hk⟩]
  rw[P'.get (by omega),show 0+n-1-k=n-1-k by omega,P.get (by omega)]at h1;exact Option.some.inj h1
 refine⟨fun a b hab hb=>?_,P'⟩;rw[ix a (by omega),ix b hb];exact h _ _ (by omega) (by omega)
variable{cmp:Nat->Nat->(Bool->Shared->Prop)->Shared->Prop}{s:Shared}
abbrev Cmp(N:Nat)(lt:Nat->Nat->Bool)(cmp:Nat->Nat->(Bool->Shared->Prop)->Shared->Prop)(s:Shared):Prop:=∀(i j:Nat) (C:Bool->Shared->Prop),i<N->j<N->C (lt i j) s->cmp i j C s
def sH(O:Ord N lt)(C:Cmp N lt cmp s)(P:Plc N p):∀(f n:Nat) (Q:Nat->Shared->Prop),1<=n->n+f=N->Asc lt p n->(∀m,n<=m->m<=N->Asc lt p m->(m<N->lt (at_ p m) (at_ p (m-1))=true)->Q m s)->(kas_asc p f n).kasWp cmp Q s
 |0,n,Q,h1,hn,ha,k=>k n (Nat.le_refl _) (by omega) ha (by omega)
 |f+1,n,Q,h1,hn,ha,k=>by
  refine C _ _ _ (P.bd (by omega)) (P.bd (by omega)) ?_;cases e:lt (at_ p n) (at_ p (n-1))with
  |true=>exact k n (Nat.le_refl _) (by omega) ha fun _=>e
  |false=>have hl:=O.tot _ _ (P.bd (by omega)) (P.bd (by omega)) (fun z=>by have:=P.inj (by omega) (by omega) z;omega) e;exact sH O C P f (n+1) Q (by omega) (by omega) (ha.more O P h1 (by omega) hl) fun m hm=>k m (by omega)
def yK(O:Ord N lt)(C:Cmp N lt cmp s)(P:Plc N p):∀(f n:Nat) (Q:Array Nat×Nat×Nat->Shared->Prop),1<=n->n+f=N->Dsc lt p n->(∀m,n<=m->m<=N->Dsc lt p m->Q (p,m,0) s)->(kas_desc f p n 0).kasWp cmp Q s
 |0,n,Q,h1,hn,ha,k=>k n (Nat.le_refl _) (by omega) ha
 |f+1,n,Q,h1,hn,ha,k=>by
  refine C _ _ _ (P.bd (by omega)) (P.bd (by omega)) ?_;cases e:lt (at_ p n) (at_ p (n-1))with
  |true=>exact yK O C P f (n+1) Q (by omega) (by omega) (ha.more O P h1 (by omega) e) fun m hm=>k m (by omega)
  |false=>have hl:=O.tot _ _ (P.bd (by omega)) (P.bd (by omega)) (fun z=>by have:=P.inj (by omega) (by omega) z;omega) e;refine C _ _ _ (P.bd (by omega)) (P.bd (by omega)) ?_;have e2:lt (p.getD (n-1) 0) (p.getD n 0)=true:=hl;rw[e2];exact k n (Nat.le_refl _) (by omega) ha
def yR(O:Ord N lt)(C:Cmp N lt cmp s)(P:Plc N p)(h2:2<=N)(Q:Nat×Array Nat->Shared->Prop)(k:∀m p',1<=m->m<=N->Plc N p'->Asc lt p' m->Q (m,p') s):(kas_count N p).kasWp cmp Q s:=by
 unfold kas_count;rw[KasT.kasWp_bind];refine sH O C P (N-1) 1 _ (Nat.le_refl _) (by omega) (fun a b _ hb=>by omega) fun n h1 hn ha hs=>?_;by_cases e:n=N
 ·rw[if_pos (by simpa using e)];exact k n p h1 hn P ha
 ·rw[if_neg (by simpa using e)];by_cases hn1:n>1
  ·rw[if_pos hn1];refine C _ _ _ (P.bd (by omega)) (P.bd (by omega)) ?_;have e2:lt (p.getD 0 0) (p.getD (n-1) 0)=true:=ha 0 (n-1) (by omega) (by omega);rw[e2];exact k n p h1 hn P ha
  ·rw[if_neg hn1];obtain rfl:n=1:=by omega
   unfold kas_descPart;rw[KasT.kasWp_bind];refine yK O C P (N-2) 2 _ (by omega) (by omega) (fun a b hab hb=>?_) fun m hm1 hm2 hd=>?_
   ·obtain rfl:a=0:=by omega
    obtain rfl:b=1:=by omega
    exact hs (by omega)
   ·dsimp only;rw[if_neg (Nat.lt_irrefl 0)];obtain⟨ha',P'⟩:=hd.rev P hm2;unfold kas_tail3;rw[KasT.kasWp_bind];exact sH O C P' (N-m) m _ (by omega) (by omega) ha' fun n' h1' hn' ha'' _=>k n' _ (by omega) hn' P' ha''
def lF(O:Ord N lt)(C:Cmp N lt cmp s)(P:Plc N p)(hk:k<N)(ha:Asc lt p k):∀(f l r:Nat) (Q:Nat->Shared->Prop),l<=r->r<=k->r-l<=f->(∀a,a<l->lt (at_ p a) (at_ p k)=true)->(∀a,r<=a->a<k->lt (at_ p k) (at_ p a)=true)->
  (∀m,m<=k->(∀a,a<m->lt (at_ p a) (at_ p k)=true)->(∀a,m<=a->a<k->lt (at_ p k) (at_ p a)=true)->Q m s)->(kas_place p k f l r).kasWp cmp Q s
 |0,l,r,Q,h1,h2,h3,h4,h5,q=>by
  obtain rfl:l=r:=by omega
  exact q l h2 h4 h5
 |f+1,l,r,Q,h1,h2,h3,h4,h5,q=>by
  unfold kas_place;by_cases e:l >= r
  ·rw[if_pos e];obtain rfl:l=r:=by omega
   exact q l h2 h4 h5
  ·rw[if_neg e];have hm:(l+r) / 2<r:=by omega
   have hm2:l <=(l+r) / 2:=by omega
   refine C _ _ _ (P.bd hk) (P.bd (by omega)) ?_;cases e2:lt (at_ p k) (at_ p ((l+r) / 2))with
   |true=>
    refine lF O C P hk ha f l ((l+r) / 2) Q hm2 (by omega) (by omega) h4 (fun a h6 h7=>?_) q;by_cases hae:a=(l+r) / 2
    ·rw[hae];exact e2
    ·exact O.tr _ _ _ (P.bd hk) (P.bd (by omega)) (P.bd (by omega)) e2 (ha _ a (by omega) h7)
   |false=>
    have hl:=O.tot _ _ (P.bd hk) (P.bd (by omega)) (fun z=>by have:=P.inj hk (by omega) z;omega) e2;refine lF O C P hk ha f ((l+r) / 2+1) r Q (by omega) h2 (by omega) (fun a h6=>?_) h5 q;by_cases hae:a=(l+r) / 2
    ·rw[hae];exact hl
    ·exact O.tr _ _ _ (P.bd (by omega)) (P.bd (by omega)) (P.bd hk) (ha a _ (by omega) (by omega)) hl
def yY(O:Ord N lt)(C:Cmp N lt cmp s):∀(f k:Nat) (p:Array Nat) (Q:Array Nat->Shared->Prop),Plc N p->Asc lt p k->k+f=N->(∀p',Plc N p'->Asc lt p' N->Q p' s)->(kas_bin f p k).kasWp cmp Q s
 |0,k,p,Q,P,ha,hk,q=>q p P (by rw[<- hk];exact ha)
 |f+1,k,p,Q,P,ha,hk,q=>by
  unfold kas_bin;rw[KasT.kasWp_bind];refine lF O C P (by omega) ha k 0 k _ (zero_le _) (Nat.le_refl _) (by omega) (fun _ z=>absurd z (Nat.not_lt_zero _)) (fun a h1 h2=>by omega) fun m hm h1 h2=>?_;have P':Plc N (bubble p k (k-m)):=⟨(Array.perm_iff_toList_perm.mp (bubble_perm _ _ _)).trans P.pm⟩
  have ix:=getElem?_bubble (xs:=p) (src:=k) (by rw[P.sz];omega) (k-m) (by omega);have g:∀i,i<k+1->at_ (bubble p k (k-m)) i=if i=m then at_ p k else if m<i then at_ p (i-1)else at_ p i:=fun i hi=>by
   have e:=ix i;rw[P'.get (by omega)]at e;have hkm:k-(k-m)=m:=by omega
   rw[hkm]at e;by_cases c1:i=m
   ·rw[if_pos c1];rw[if_pos c1,P.get (by omega)]at e;exact Option.some.inj e
   ·rw[if_neg c1]at e ⊢;by_cases c2:m<i
    ·rw[if_pos c2];rw[if_pos ⟨c2,by omega⟩,P.get (by omega)]at e;exact Option.some.inj e
    ·rw[if_neg c2];rw[if_neg (fun z=>c2 z.1),P.get (by omega)]at e;exact Option.some.inj e
  refine yY O C f (k+1) _ Q P' (fun a b hab hb=>?_) (by omega) q;rw[g a (by omega),g b hb];by_cases a1:a=m
  ·rw[if_pos a1,if_neg (by omega),if_pos (by omega)];exact h2 (b-1) (by omega) (by omega)
  ·rw[if_neg a1];by_cases a2:m<a
   ·rw[if_pos a2,if_neg (by omega),if_pos (by omega)];exact ha _ _ (by omega) (by omega)
   ·rw[if_neg a2];by_cases b1:b=m
    ·rw[if_pos b1];exact h1 a (by omega)
    ·rw[if_neg b1];by_cases b2:m<b
     ·rw[if_pos b2];by_cases hh:a=b-1
      ·omega
      ·exact ha _ _ (by omega) (by omega)
     ·rw[if_neg b2];exact ha _ _ hab (by omega)
def Ad(O:Ord N lt)(C:Cmp N lt cmp s)(h2:2<=N)(Q:Array Nat->Shared->Prop)(q:∀p,Plc N p->Asc lt p N->Q p s):(kas_sort N).kasWp cmp Q s:=by
 unfold kas_sort;rw[KasT.kasWp_bind];refine yR O C (p:=List.toArray (range N)) ⟨by simp⟩ h2 _ fun m p' h1 hm P ha=>?_;dsimp only;by_cases e:m<N
 ·rw[if_pos e,Nat.max_eq_left h1];exact yY O C (N-m) m p' Q P ha (by omega) q
 ·rw[if_neg e];obtain rfl:m=N:=by omega
  exact q p' P ha
end
end PR
namespace PR
open PySem PySem.Spec L2 PyProof.Rows PySem.W
section
variable{prog:Program}{w:World}{A:Around}{E:JD}{s:Shared}
def lL(vs:JJ)(p:Array Nat):JN:=(p.toList.map fun i=>vs.getD i Value.none).toArray
def uK(N:Nat):Plc N (range N).toArray:=⟨by simp⟩
def kC:lL vs (range vs.length).toArray=vs.toArray:=by unfold lL;congr 1;refine List.ext_getElem (by simp) fun i h1 h2=>?_;simp[h2]
def z6{vs:JJ}(h:vs.length<2):(vs.toArray.zip vs.toArray).map (·.2)=vs.toArray:=by
 cases vs with
 |nil=>simp
 |cons v l=>cases l with
  |nil=>simp
  |cons w l=>simp only[List.length_cons]at h;omega
def va{κ:SortKind}(ho:s.heap.get? a=some (seqObj "list" vs.toArray n))(h64:vs.length<64)
  (hK:2<=vs.length->∀s':Shared,(∀b o,b≠a->s.heap.get? b=some o->s'.heap.get? b=some o)->Ord vs.length lt/\(∀Q:SortKind->Shared->Prop,Q κ s'->wpAny (model prog w) A (keyKind' vs.toArray) Q E s')/\Cmp vs.length lt (kas_ask prog w A κ vs) s')
  (h:∀p,Plc vs.length p->Asc lt p vs.length->P (.done (.ret .none)) {s with heap:=sortedHeap s.heap a vs (lL vs p)}) :
  wpAny (model prog w) A (Builtin.«list.sort» ⟨[.ref a],[]⟩) P E s:=by
 have lo:=lt_size ho;obtain⟨e1,g1⟩:∃e1,(s.heap.update a (Obj.mapSeq fun _=>#[])).get? a=some (seqObj "list" #[] e1):=⟨_,get?_update_seq ho (fun _=>#[])⟩
 have g6:(((s.heap.update a (Obj.mapSeq fun _=>#[])).push (seqObj "tuple" vs.toArray 0)).push (seqObj "list" #[] 0)).get? a=some (seqObj "list" #[] e1):=get?_push_of_some _ (get?_push_of_some _ g1);have kp:∀b o,b≠a->s.heap.get? b=some o->(((s.heap.update a (Obj.mapSeq fun _=>#[])).push (seqObj "tuple" vs.toArray 0)).push (seqObj "list" #[] 0)).get? b=some o:=fun b o hb q=>
  get?_push_of_some _ (get?_push_of_some _ ((Heap.get?_update_ne _ _ _ _ hb).trans q))
 rw[list_sort_plain];refine wpAny_bind (listItems_at ho rfl (wpAny_bind (listUpdate_at ho rfl (wpAny_bind (seqEpoch_at g1 rfl (wpAny_bind (wpAny_newTuple (wpAny_bind (wpAny_newList (wpAny_holding ?_))))))))))<;>try (simp only[size_toArray,sizeLine_eq];omega)
 show wpAny (model prog w) A _ P E {s with heap:=((s.heap.update a (Obj.mapSeq fun _=>#[])).push (seqObj "tuple" vs.toArray 0)).push (seqObj "list" #[] 0)};dsimp only;by_cases h2:vs.toArray.size<2
 ·have h2':vs.length<2:=by simpa using h2
  rw[if_pos h2,if_pos h2];refine wpAny_bind (wpAny_pure ?_);rw[StateT.run_pure];refine wpAny_bind (wpAny_pure ?_);dsimp only;have e3:(arrOf (SortSt.mk' general' (vs.toArray.zip vs.toArray) #[] 7 none)).map (·.2)=lL vs (range vs.length).toArray:=by rw[kC];show(vs.toArray.zip vs.toArray).map (·.2)=vs.toArray;exact z6 h2'
  rw[e3];refine wpAny_bind (seqEpoch_at g6 rfl (wpAny_bind (listUpdate_at g6 rfl ?_ (zero_le _) (by rw[kC];simp only[size_toArray,sizeLine_eq];omega))));simp only[bne_self_eq_false,false_eq_true,if_false];exact wpAny_pure (h _ (uK _) fun x y hxy hy=>by omega)
 ·have h2':2<=vs.length:=by simp at h2;omega
  rw[if_neg h2,if_neg h2];obtain⟨O,hk,C⟩:=hK h2' {s with heap:=((s.heap.update a (Obj.mapSeq fun _=>#[])).push (seqObj "tuple" vs.toArray 0)).push (seqObj "list" #[] 0)} kp;refine wpAny_bind (hk _ ?_);refine wpAny_bind (wpAny_mono (kat_run (κ:=κ) (ks:=vs) (vs:=vs) (Q:=fun st' s'=>∃ p:Array Nat,arrOf st'=p.map (kas_item (vs.toArray.zip vs.toArray))/\failedOf st'=none/\Plc vs.length p/\Asc lt p vs.length/\s'=_) rfl h2' h64
   (fun p st' s' _ a2 a3 a4=>⟨p,a2,a3,a4⟩) (Ad O C h2' _ fun p c1 c2=>⟨c1,c2,rfl⟩)) ?_ fun _ _ e=>e)
  rintro⟨⟨⟩,st'⟩ s' ⟨p,har,hf,c1,c2,rfl⟩;dsimp only;have e3:=kat_snds (ks:=vs) (vs:=vs) rfl har;rw[e3];refine wpAny_bind (seqEpoch_at g6 rfl (wpAny_bind (listUpdate_at g6 rfl ?_ (zero_le _) (by
   rw[size_toArray,length_map,Array.length_toList,c1.sz,sizeLine_eq];omega))))
  rw[hf];simp only[bne_self_eq_false,false_eq_true,if_false];exact wpAny_pure (h _ c1 c2)
def q_{κ:SortKind}(hl:s.heap.IsList l vs.toArray)(h64:vs.length<64)
  (hK:2<=vs.length->∀s':Shared,(∀b o,s.heap.get? b=some o->s'.heap.get? b=some o)->Ord vs.length lt/\(∀(E:JD) (Q:SortKind->Shared->Prop),Q κ s'->wpAny (model prog w) A.in1.in1 (keyKind' vs.toArray) Q E s')/\Cmp vs.length lt (kas_ask prog w A.in1.in1 κ vs) s')
  (h:∀p,Plc vs.length p->Asc lt p vs.length->Q (.ref (s.heap.objs.size+1)) {s with heap:=sortedAll s.heap vs (lL vs p)}) :
  wpAny (model prog w) A (call (.builtin "sorted") [.ref l]) Q E s:=by
 refine Calls.call_function_entry kind_sorted plain_sorted entry_sorted (args_sorted1 _) ?_;unfold Builtin.«sorted»;have sz:((s.heap.push (seqObj "list" #[] 0)).update s.heap.objs.size (Obj.mapSeq (·++vs.toArray))).objs.size=s.heap.objs.size+1:=(Heap.size_update _ _ _).trans (size_push' _ _);refine wpAny_bind (m:=checkCount "sorted" 1 1 _) (wpAny_pure (wpAny_bind (collect_list hl (wpAny_bind (wpAny_newList ?_ (by rw[sizeLine_eq];omega))) (by rw[sizeLine_eq];omega))));have g:(((s.heap.push (seqObj "list" #[] 0)).update s.heap.objs.size (Obj.mapSeq (·++vs.toArray))).push (seqObj "list" vs.toArray 0)).get? (s.heap.objs.size+1)=some (seqObj "list" vs.toArray 0):=sz▸get?_push_size _ rfl;have kp:∀b o,s.heap.get? b=some o->(((s.heap.push (seqObj "list" #[] 0)).update s.heap.objs.size (Obj.mapSeq (·++vs.toArray))).push (seqObj "list" vs.toArray 0)).get? b=some o:=fun b o q=>
  get?_push_of_some _ ((Heap.get?_update_ne _ _ _ _ (Nat.ne_of_lt (lt_size q))).trans (get?_push_of_some _ q))
 show wpAny _ _ _ _ _ {s with heap:=((s.heap.push (seqObj "list" #[] 0)).update s.heap.objs.size (Obj.mapSeq (·++vs.toArray))).push (seqObj "list" vs.toArray 0)};rw[sz];refine wpAny_bind (wpAny_holding (wpAny_call_entry slot_list_sort ⟨_,g,rfl⟩ entry_list_sort ?body (args_list_sort _)));refine va (κ:=κ) (lt:=lt) g h64 (fun h2 s' k'=>?_) fun p c1 c2=>⟨_,rfl,wpAny_pure ⟨_,rfl,h p c1 c2⟩⟩
 obtain⟨O,hk,C⟩:=hK h2 s' fun b o q=>k' b o (Nat.ne_of_lt (Nat.lt_succ_of_lt (lt_size q))) (kp b o q);exact⟨O,fun Q q=>hk _ Q q,C⟩
def fJ(x y:Int×Int):Bool:=decide (x.1<y.1) ||(x.1==y.1&&decide (x.2<y.2))
def jl(h1:fJ x y=true)(h2:fJ y z=true):fJ x z=true:=by simp only[fJ,or_eq_true,and_eq_true,decide_eq_true_eq,beq_iff_eq]at *;omega
def pY(x:Int×Int):fJ x x=false:=by simp[fJ]
def pX(h:x≠y):fJ x y=true\/fJ y x=true:=by
 obtain⟨a,b⟩:=x;obtain⟨c,d⟩:=y;have:a≠c\/b≠d:=by
  by_cases e:a=c
  ·right;intro e2;exact h (by rw[e,e2])
  ·exact .inl e
 simp only[fJ,or_eq_true,and_eq_true,decide_eq_true_eq,beq_iff_eq];omega
def du(h:Heap):JJ->JF->Prop
 | [],[]=>True
 |v::vs,x::ps=>(∃a o n t u,v=.ref a/\h.get? a=some o/\o.cls=.type "tuple" /\ o.data=.seq #[.int x.1 t,.int x.2 u] n)/\du h vs ps
 |_,_=>False
def du.len:∀{vs:JJ}{ps:JF},du h vs ps->vs.length=ps.length
 | [],[],_=>rfl
 |_::_,_::_,q=>by simp[q.2.len]
def du.kept(k:∀b o,h.get? b=some o->h'.get? b=some o):∀{vs:JJ}{ps:JF},du h vs ps->du h' vs ps
 | [],[],_=>trivial
 |_::_,_::_,⟨⟨a,o,n,t,u,e1,e2,e3⟩,q⟩=>⟨⟨a,o,n,t,u,e1,k _ _ e2,e3⟩,q.kept k⟩
def du.at:∀{vs:JJ}{ps:JF},du h vs ps->∀i,i<ps.length->∃a o n t u,vs.getD i Value.none=.ref a/\h.get? a=some o/\o.data=.seq #[.int (ps.getD i (0,0)).1 t,.int (ps.getD i (0,0)).2 u] n
 |_::_,_::_,⟨⟨a,o,n,t,u,e1,e2,e3⟩,q⟩,0,_=>⟨a,o,n,t,u,by simp[e1],e2,by simpa using e3.2⟩
 |v::vs,x::ps,⟨_,q⟩,i+1,hi=>by have:=q.at i (by simpa using hi);simpa using this
 | [],[],_,i,hi=>by simp at hi
def du.firsts:∀{vs:JJ}{ps:JF},du h vs ps->∃fs,KatTups h vs fs/\fs.length=ps.length/\∀v∈fs,∃i t,v=.int i t
 | [],[],_=>⟨[],.nil,rfl,fun v hv=>by cases hv⟩
 |_::_,_::_,⟨⟨a,o,n,t,u,e1,e2,e3,e4⟩,q⟩=>by
  obtain⟨fs,h1,h2,h3⟩:=q.firsts;subst e1;refine⟨_::fs,.cons e2 e3 e4 rfl h1,by simp[h2],fun v hv=>?_⟩;rcases mem_cons.mp hv with rfl|hv
  ·exact⟨_,_,rfl⟩
  ·exact h3 v hv
def uN{ps:JF}(hd:ps.Nodup):Ord ps.length (fun i j=>fJ (ps.getD i (0,0)) (ps.getD j (0,0))):=by
 refine⟨fun i j k _ _ _ h1 h2=>jl h1 h2,fun i j hi hj hn h=>?_,fun i _=>pY _⟩;have:ps.getD i (0,0)≠ ps.getD j (0,0):=by simp only[getD_eq_getElem?_getD,getElem?_eq_getElem hi,getElem?_eq_getElem hj,Option.getD_some];exact fun e=>hn ((getElem_inj hd).mp e)
 rcases pX this with q|q
 ·rw[q]at h;cases h
 ·exact q
def nR(h:Q (decide (x<y)) s):wpAny (model prog w) A (oneLt' b (.int x t) (.int y u)) Q E s:=by
 cases b with
 |true=>exact oneLt_int h
 |false=>exact kat_one _ _ (wpAny_lt_int h)
def uO(hp:du s.heap vs ps):Cmp vs.length (fun i j=>fJ (ps.getD i (0,0)) (ps.getD j (0,0))) (kas_ask prog w A (tuples' true) vs) s:=by
 intro i j C hi hj q;rw[hp.len]at hi hj;obtain⟨a,o,n,t,u,e1,e2,e3⟩:=hp.at i hi;obtain⟨a',o',n',t',u',e1',e2',e3'⟩:=hp.at j hj;unfold kas_ask;rw[e1,e1'];dsimp only at q;generalize ps.getD i (0,0)=x at *;generalize ps.getD j (0,0)=y at *;refine kat_lt e2 e3 e2' e3' (kat_cons (wpAny_eqBool_int (kat_go (fun h1=>kat_yes (kat_cons (wpAny_eqBool_int (kat_go (fun h2=>kat_yes (kat_nil ?_)) fun h2=>kat_no (nR ?_))))) fun h1=>kat_no (nR ?_))))
 ·simp only[beq_iff_eq]at h1 h2;have:fJ x y=false:=by simp[fJ,h1,h2]
  rw[this]at q;exact q
 ·simp only[beq_iff_eq]at h1;have:fJ x y=decide (x.2<y.2):=by simp[fJ,h1]
  rw[this]at q;exact q
 ·have:fJ x y=decide (x.1<y.1):=by simp[fJ,h1]
  rw[this]at q;exact q
def rN(hp:du s.heap vs ps)(h2:2<=vs.length){Q:SortKind->Shared->Prop}(q:Q (tuples' true) s):wpAny (model prog w) A (keyKind' vs.toArray) Q E s:=by obtain⟨fs,h1,hl,hi⟩:=hp.firsts;refine kat_kind (T:=.type "int") h1 (by rw[hl,<- hp.len];omega) (fun v hv=>?_) rfl q;obtain⟨i,t,rfl⟩:=hi v hv;exact Looks.of_pure rfl
def oB(hl:s.heap.IsList l vs.toArray)(h64:vs.length<64)(hp:du s.heap vs ps)(hd:ps.Nodup)
  (h:∀p,Plc vs.length p->Asc (fun i j=>fJ (ps.getD i (0,0)) (ps.getD j (0,0))) p vs.length->Q (.ref (s.heap.objs.size+1)) {s with heap:=sortedAll s.heap vs (lL vs p)}) :
  wpAny (model prog w) A (call (.builtin "sorted") [.ref l]) Q E s:=
 q_ hl h64 (fun h2 s' k=>⟨hp.len▸uN hd,fun E Q q=>rN (hp.kept k) h2 q,uO (hp.kept k)⟩) h
end
end PR
namespace PR
open PySem PySem.Spec L2 PyProof.Rows
def sj(x:Int):JI->JI
 | []=>[x]
 |y::l=>if x<=y then x::y::l else y::sj x l
def jC:JI->JI
 | []=>[]
 |x::l=>sj x (jC l)
def km(x:Int):∀l,(sj x l).Perm (x::l)
 | []=>.refl _
 |y::l=>by
  unfold sj;split
  ·exact .refl _
  ·exact((km x l).cons y).trans (.swap x y l)
def fQ:∀l,(jC l).Perm l
 | []=>.refl _
 |x::l=>(km x _).trans ((fQ l).cons x)
def qj(x:Int):∀{l:JI},l.Pairwise (·<=·)->(sj x l).Pairwise (·<=·)
 | [],_=>by simp[sj]
 |y::l,h=>by
  obtain⟨h1,h2⟩:=pairwise_cons.mp h;unfold sj;split
  ·refine pairwise_cons.mpr ⟨fun z hz=>?_,h⟩;rcases mem_cons.mp hz with rfl|hz
   ·assumption
   ·have:=h1 z hz;omega
  ·refine pairwise_cons.mpr ⟨fun z hz=>?_,qj x h2⟩;rcases mem_cons.mp ((km x l).mem_iff.mp hz)with rfl|hz
   ·omega
   ·exact h1 z hz
def nD:∀l,(jC l).Pairwise (·<=·)
 | []=>.nil
 |x::l=>qj x (nD l)
def rj{l l':JI}(h1:l'.Perm l)(h2:l'.Pairwise (·<=·)):l'=jC l:=
 List.Perm.eq_of_pairwise (fun a b _ _ x y=>Int.le_antisymm x y) h2 (nD l) (h1.trans (fQ l).symm)
def si(x:Int×Int):JF->JF
 | []=>[x]
 |y::l=>if fJ x y then x::y::l else y::si x l
def cP:JF->JF
 | []=>[]
 |x::l=>si x (cP l)
def kj(x:Int×Int):∀l,(si x l).Perm (x::l)
 | []=>.refl _
 |y::l=>by
  unfold si;split
  ·exact .refl _
  ·exact((kj x l).cons y).trans (.swap x y l)
def dw:∀l,(cP l).Perm l
 | []=>.refl _
 |x::l=>(kj x _).trans ((dw l).cons x)
def qi(x:Int×Int):∀{l:JF},x∉l->l.Pairwise (fun a b=>fJ a b=true)->(si x l).Pairwise (fun a b=>fJ a b=true)
 | [],_,_=>by simp[si]
 |y::l,hn,h=>by
  obtain⟨h1,h2⟩:=pairwise_cons.mp h;unfold si;split
  ·refine pairwise_cons.mpr ⟨fun z hz=>?_,h⟩;rcases mem_cons.mp hz with rfl|hz
   ·assumption
   ·exact jl ‹_› (h1 z hz)
  ·refine pairwise_cons.mpr ⟨fun z hz=>?_,qi x (fun z=>hn (mem_cons_of_mem _ z)) h2⟩;rcases mem_cons.mp ((kj x l).mem_iff.mp hz)with rfl|hz
   ·rcases pX (x:=y) (y:=z) (fun e=>hn (e▸mem_cons_self))with q|q
    ·exact q
    ·contradiction
   ·exact h1 z hz
def nC:∀{l:JF},l.Nodup->(cP l).Pairwise (fun a b=>fJ a b=true)
 | [],_=>.nil
 |x::l,h=>by obtain⟨h1,h2⟩:=nodup_cons.mp h;exact qi x (fun z=>h1 ((dw l).mem_iff.mp z)) (nC h2)
def rh(hd:l.Nodup)(h1:l'.Perm l)(h2:l'.Pairwise (fun a b=>fJ a b=true)):l'=cP l:=
 List.Perm.eq_of_pairwise (fun a b _ _ x y=>by
  have:=jl x y;rw[pY]at this;cases this) h2 (nC hd) (h1.trans (dw l).symm)
def uH{α:Type}(l:List α)(d:α):(range l.length).map (fun i=>l.getD i d)=l:=by refine List.ext_getElem (by simp) fun i h1 h2=>?_;simp[h2]
def uJ{ps:JF}{p:Array Nat}(hd:ps.Nodup)(P:Plc ps.length p)(a:Asc (fun i j=>fJ (ps.getD i (0,0)) (ps.getD j (0,0))) p ps.length):p.toList.map (fun i=>ps.getD i (0,0))=cP ps:=by
 refine rh hd (by have:=P.pm.map (fun i=>ps.getD i (0,0));rwa [uH]at this) ?_;refine List.pairwise_iff_getElem.mpr fun i j hi hj hij=>?_;have hs:=P.sz;have hi':i<p.size:=by simpa using hi
 have hj':j<p.size:=by simpa using hj
 have:=a i j hij (by omega);simpa[at_,Array.getD,hi',hj']using this
def PrH(K:PySem.W.Frag)(H:Hp):JO->JF->Prop
 | [],[]=>True
 |v::vs,x::ps=>(∃a,v=.ref a/\SqT K H a [.int x.1,.int x.2])/\PrH K H vs ps
 |_,_=>False
def PrH.len{K:PySem.W.Frag}{H:Hp}:∀{vs:JO}{ps:JF},PrH K H vs ps->vs.length=ps.length
 | [],[],_=>rfl
 |_::_,_::_,q=>by simp[q.2.len]
section
variable{X:Cx}{T:Tb}{W:Nat->L2.St->JP}{Z:Zn}{F F1 B L:JH}{H H1:Hp}{Y:L2.St}{env:En}{fp:Nat->JK}{js:JG}{s:Shared}
def PrH.at(I:L2.Inv X js Y H s):∀{vs:JO}{its:JJ}{ps:JF},PrH X.K H vs ps->aW vs its->du s.heap its ps
 | [],_,[],_,r=>by cases r;trivial
 |_::_,_,_::_,⟨⟨a,e,h⟩,q⟩,r=>by
  cases r with
  |cons h1 h2=>
   subst e;cases h1;refine⟨?_,q.at I h2⟩;obtain⟨its,r,pl,_⟩:=I.tuple h;obtain⟨u,r2,rfl,⟨t,rfl⟩,r3⟩:∃u r2,its=u::r2/\bX _ u/\aW _ r2:=by cases r with|cons a b=>exact⟨_,_,rfl,a,b⟩
   obtain⟨u',rfl,⟨t',rfl⟩⟩:=d4 r3;obtain⟨o,ho,hcl,n,hd⟩:=pl;exact⟨a,o,n,t,t',rfl,ho,hcl,hd⟩
def vS{vs:JO}{its:JJ}(r:aW vs its)(q:List Nat)(hq:∀i∈q,i<vs.length):aW (q.map fun i=>vs.getD i .non) (q.map fun i=>its.getD i Value.none):=by
 induction q with
 |nil=>exact .nil
 |cons i q ih=>
  refine .cons ?_ (ih fun j hj=>hq j (mem_cons_of_mem _ hj));have hi:=hq i mem_cons_self;have:∀{vs:JO}{its:JJ}{i:Nat},aW vs its->i<vs.length->bX (vs.getD i .non) (its.getD i Value.none):=by
   intro vs its i r
   induction r generalizing i with
   |nil=>intro h;simp at h
   |cons a b ih=>
    intro h;cases i with
    |zero=>simpa using a
    |succ i=>simpa using ih (by simpa using h)
  exact this r hi
def o4:∀{ns:JI}{its:JJ},PyProof.Rows.IntsAre its ns->aW (ns.map V.int) its:=by
 intro ns its h
 induction h with
 |nil=>exact .nil
 |cons=>exact .cons ⟨_,rfl⟩ ‹_›
def qE:dR X (.builtin "sorted") (fun xs H Q=>∃ p ys,xs=[.ref p]/\SqL X.K H p ys/\ys.length < 64 /\
    ((∃ ns,ys=ns.map V.int/\∀ l,H l=none->Q (.ref l) (upd H l (.lst ((jC ns).map V.int)))) \/
     (∃ps,PrH X.K H ys ps/\ps.Nodup/\∀l (q:List Nat),H l=none->q.Perm (range ys.length)->q.map (fun i=>ps.getD i (0,0))=cP ps->Q (.ref l) (upd H l (.lst (q.map fun i=>ys.getD i .non)))))):=by
  intro js s Y H xs us Q I rv h;obtain⟨p,ys,rfl,hq,h64,h⟩:=h;obtain⟨u,rfl,rx⟩:=d4 rv;cases rx;obtain⟨its,r,pl,hz⟩:=I.list hq;have hlen:=r.length;have hfr:=I.hok.fresh (le_succ s.heap.objs.size);rcases h with⟨ns,rfl,q⟩ |⟨ps,hp,hd,q⟩
  . refine sorted_ints pl.isList (gW r) (by omega) fun out ns' a1 a2 a3=>?_;obtain⟨c,hc⟩:=sortedAll_at s.heap its out;have e:=rj a2 a3;subst e;refine⟨.ref (s.heap.objs.size+1),_,I.laid (fun b o=>sortedAll_old) (le_succ _) ?_,rfl,q _ hfr⟩;refine⟨?_,out.toList,c,o4 a1,by simpa using hc⟩;rw[sizeLine_eq];simp[(fQ ns).length_eq]at h64 ⊢;omega
  . refine oB pl.isList (by omega) (hp.at I r) hd fun p P a=>?_;obtain⟨c,hc⟩:=sortedAll_at s.heap its (lL its p);have hl:=hp.len;have pm:p.toList.Perm (range ys.length):=by rw[hlen];exact P.pm
    refine⟨.ref (s.heap.objs.size+1),_,I.laid (fun b o=>sortedAll_old) (le_succ _) ?_,rfl,q _ p.toList hfr pm (uJ hd (by rw[<- hl,hlen];exact P) (by rw[<- hl,hlen];exact a))⟩;refine⟨?_,_,c,vS r p.toList (fun i hi=>by simpa using pm.mem_iff.mp hi),hc⟩;rw[sizeLine_eq];simp[P.sz,<- hlen];omega
end
end PR
namespace PR
open PySem PySem.Spec L2
def prV(x:Int×Int):PV:=.tup [.int x.1,.int x.2]
def lI:PV->Option (Int×Int)
 |.tup [.int a,.int b]=>some (a,b)
 |_=>none
def iM:JQ->Option (JF)
 | []=>some []
 |x::xs=>match lI x,iM xs with
  |some y,some ys=>some (y::ys)
  |_,_=>none
def fK:PV->JR
 | .lst _ xs=>if decide (xs.length < 64) then (match bR xs with
  |some ns=>.ok (.lst .own ((jC ns).map .int))
  |none=>match iM xs with
   |some ps=>if decide ps.Nodup then .ok (.lst .own ((cP ps).map prV))else .stuck
   |none=>.stuck)else .stuck
 |_=>.stuck
section
variable{X:Cx}{T:Tb}{W:Nat->St->JP}{Z:Zn}{F F1 B L:JH}{H H1:Hp}{Y:St}{env:En}{fp:Nat->JK}
def uP(e:lI x=some y):x=prV y:=by
 unfold lI at e;split at e
 ·cases e;rfl
 ·cases e
def lH:∀{xs:JQ}{vs:JO}{f:JK}{ps:JF},iM xs=some ps->RelL T F B L H xs vs f->PrH T.K H vs ps/\f=[]
 | [],_,_,_,e,r=>by cases e;unfold RelL at r;obtain⟨rfl,rfl⟩:=r;exact⟨trivial,rfl⟩
 |x::xs,_,_,ps,e,r=>by
  unfold RelL at r;obtain⟨v,ws,f1,f2,rfl,h1,h2,rfl⟩:=r;unfold iM at e;cases e1:lI x with
  |none=>rw[e1]at e;cases e
  |some y=>
   cases e2:iM xs with
   |none=>rw[e1,e2]at e;cases e
   |some ys=>rw[e1,e2]at e;cases e;obtain⟨q,rfl⟩:=lH e2 h2;have:=uP e1;subst this;unfold prV Rel at h1;obtain⟨a,us,rfl,hs,hr⟩:=h1;unfold RelL at hr;obtain⟨v1,w1,g1,g2,rfl,k1,k2,rfl⟩:=hr;obtain⟨v2,rfl,k3⟩:=RelL.one k2;unfold Rel at k1 k3;obtain⟨rfl,rfl⟩:=k1;obtain⟨rfl,rfl⟩:=k3;exact⟨⟨⟨a,rfl,hs⟩,q⟩,rfl⟩
def PrH.rel:∀{vs:JO}{ps:JF},PrH T.K H vs ps->RelL T F B L H (ps.map prV) vs []
 | [],[],_=>gK _ _ _ _
 |_::_,x::ps,⟨⟨a,e,h⟩,q⟩=>by subst e;rw[map_cons];unfold RelL;refine⟨_,_,[],[],rfl,?_,q.rel,rfl⟩;unfold prV Rel;refine⟨a,_,rfl,h,?_⟩;unfold RelL;refine⟨_,_,[],[],rfl,eM,?_,rfl⟩;unfold RelL;exact⟨_,_,[],[],rfl,eM,gK _ _ _ _,rfl⟩
def PrH.get:∀{vs:JO}{ps:JF},PrH K H vs ps->∀i,i<vs.length->∃a,vs.getD i .non=.ref a/\SqT K H a [.int (ps.getD i (0,0)).1,.int (ps.getD i (0,0)).2]
 |_::_,_::_,⟨h,q⟩,0,_=>by simpa using h
 |_::_,_::_,⟨_,q⟩,i+1,hi=>by simpa using q.get i (by simpa using hi)
 | [],[],_,_,hi=>by simp at hi
def PrH.map(h:PrH K H vs ps)(q:List Nat)(hq:∀i∈q,i<vs.length):PrH K H (q.map fun i=>vs.getD i .non) (q.map fun i=>ps.getD i (0,0)):=by
 induction q with
 |nil=>trivial
 |cons i q ih=>exact⟨h.get i (hq i mem_cons_self),ih fun j hj=>hq j (mem_cons_of_mem _ hj)⟩
def sU(ns:JI):RelL T F B L H (ns.map PV.int) (ns.map V.int) []:=by
 induction ns with
 |nil=>exact gK _ _ _ _
 |cons a l ih=>rw[map_cons,map_cons];unfold RelL;exact⟨_,_,[],[],rfl,eM,ih,rfl⟩
def RelL.len2:∀{xs:JQ}{vs:JO}{f:JK},RelL T F B L H xs vs f->xs.length=vs.length
 | [],_,_,r=>by unfold RelL at r;rw[r.1];rfl
 |x::xs,_,_,r=>by unfold RelL at r;obtain⟨v,ws,f1,f2,rfl,_,h2,_⟩:=r;simp[h2.len2]
def rR(hK:X.K=T.K):Mir T W (p1 fK) (fun xs H Q=>∃ p ys,xs=[.ref p]/\SqL X.K H p ys/\ys.length < 64 /\
    ((∃ ns,ys=ns.map V.int/\∀ l,H l=none->Q (.ref l) (upd H l (.lst ((jC ns).map V.int)))) \/
     (∃ps,PrH X.K H ys ps/\ps.Nodup/\∀l (q:List Nat),H l=none->q.Perm (range ys.length)->q.map (fun i=>ps.getD i (0,0))=cP ps->Q (.ref l) (upd H l (.lst (q.map fun i=>ys.getD i .non)))))):=by
  intro B F L Y H Q F' H' xs vs fx g r nf nd new q
  match xs,r,q with
  | [x],r,q=>
    obtain⟨v,rfl,r1⟩:=r.one;simp only[p1]at q;cases x with
    |lst f xs=>
      unfold Rel at r1;obtain⟨a,ws,fp',rfl,hl,hr,_⟩:=r1;simp only[fK]at q;by_cases hn:decide (xs.length<64)=true
      . rw[if_pos hn]at q;refine⟨a,ws,rfl,by rw[hK];exact hl.sq,by rw[<- hr.len2];exact of_decide_eq_true hn,?_⟩;cases e1:bR xs with
        |some ns=>rw[e1]at q;dsimp only at q;exact .inl ⟨ns,cW e1 hr,GE.newL q g (sU _) (fun _ h=>by cases h) .nil (fun _ h=>by cases h)⟩
        |none=>
          rw[e1]at q;dsimp only at q;cases e2:iM xs with
          |none=>rw[e2]at q;exact q.elim
          |some ps=>
            rw[e2]at q;dsimp only at q;by_cases hd:decide ps.Nodup=true
            . rw[if_pos hd]at q;obtain⟨hp,rfl⟩:=lH e2 hr;refine .inr ⟨ps,by rw[hK];exact hp,of_decide_eq_true hd,fun l q' hl' pm e=>?_⟩;have h2:=hp.map q' fun i hi=>by simpa using pm.mem_iff.mp hi
              rw[e]at h2;exact GE.newL q g h2.rel (fun _ h=>by cases h) .nil (fun _ h=>by cases h) l hl'
            . rw[if_neg hd]at q;exact q.elim
      . rw[if_neg hn]at q;exact q.elim
    |_=>exact q.elim
  | [],_,q=>exact q.elim
  |_::_::_,_,q=>simp only[p1]at q;exact q.elim
def vK:bootBuiltins "sorted"=some (.builtin "sorted"):=by decide +kernel
def nG(hK:X.K=T.K)(hg:Gl X "sorted")(hm:X.mg "sorted"=none)(ha:SE X T W e m)(he:starEach [e] X.env=[(false,eval e X.env)]:=by rfl):SE X T W (.Call (.Name "sorted" p) [e] [] pos) (ar (p1 fK) (ad m ak)):=
 fj qE (rR hK) hg hm vK (aa ha af (by rw[he];rfl)) (he:=by rw[he];rfl) (hpl:=rfl)
end
section
variable{X:Cx}{T:Tb}{W:Nat->St->JP}{Z:Zn}{F:JH}{H:Hp}{Y:St}{env:En}{fp:Nat->JK}
def cS(hg:Gl X x)(hm:∃t,X.mg x=some (.int i t))(hd:(x ==("__debug__":Str))=false:=by decide):SE X T W (.Name x pos) (mC (.int i)):=by obtain⟨t,h⟩:=hm;exact wb hg h hd
end
def p0:PV->PV->JR:=eC (fun _ j=>decide (0<=j)) fun i j=>.int (i / 2 ^ j.toNat)
def kA:PV->PV->JR:=jL fun i j=>.int (Builtin.bitAnd i j)
def eA(ns:JI):Bool:=ns.all fun v=>decide (-1000000<=v/\v<=1000000)
def jK:PV->JR:=fun x=>match aM x with
 |some xs=>match bR xs with
  |some ns=>if decide (ns.length<=1000)&&eA ns then .ok (.int ns.sum)else .stuck
  |none=>.stuck
 |none=>.stuck
def oK(ns:JI):∀n,n<=ns.length->preSum (fun i=>ns.getD i 0) n=(ns.take n).sum
 |0,_=>rfl
 |n+1,h=>by have hn:n<ns.length:=h;have e:preSum (fun i=>ns.getD i 0) (n+1)=preSum (fun i=>ns.getD i 0) n+ns.getD n 0:=rfl;rw[e,oK ns n (by omega),take_add_one,getElem?_eq_getElem hn,Option.toList_some,List.sum_append,List.sum_singleton];simp[hn]
def ny:∀{ns:JI},eA ns=true->-(1000000*ns.length:Int)<= ns.sum/\ns.sum<=1000000*ns.length
 | [],_=>by simp
 |n::ns,h=>by simp only[eA,all_cons,and_eq_true,decide_eq_true_eq]at h;have:=ny (ns:=ns) (by simpa[eA]using h.2);simp only[List.sum_cons,length_cons];omega
def rm(h:eA ns=true)(k:Nat):eA (ns.take k)=true:=by simp only[eA,all_eq_true]at h ⊢;exact fun x hx=>h x (List.mem_of_mem_take hx)
section
variable{X:Cx}{T:Tb}{W:Nat->St->JP}{Z:Zn}{F F1 B L:JH}{H H1:Hp}{Y:St}{env:En}{fp:Nat->JK}{js:JG}{s:Shared}{a b:Expr}{ma mb:ME}{pos:Pos}
def rB(ha:SE X T W a ma)(hb:SE X T W b mb):SE X T W (.BinOp a .RShift b pos) (mOp p0 ma mb):=jc Dc (nT (fun _ _ h=>of_decide_eq_true h) fun _ _ _ _ _ _=>eM) ha hb
def oG(ha:SE X T W a ma)(hb:SE X T W b mb):SE X T W (.BinOp a .BitAnd b pos) (mOp kA ma mb):=jc Dl (lP fun _ _ _ _ _ _=>eM) ha hb
def pj(hc:X.calm=true):dR X (.builtin "sum") (fun xs H Q=>∃p ns,xs=[.ref p]/\(SqL X.K H p (ns.map V.int)\/ SqT X.K H p (ns.map V.int))/\ns.length<=1000/\eA ns=true/\Q (.int ns.sum) H):=by
 intro js s Y H xs us Q I rv h;obtain⟨p,ns,rfl,hq,hn,hsm,q⟩:=h;obtain⟨u,rfl,rx⟩:=d4 rv;cases rx;have hh:=I.ok.hd hc;have fit:∀m,m=ns.length->∀j,j<m->InLong (ns.getD j 0)/\InLong (preSum (fun i=>ns.getD i 0) (j+1)):=fun m e j hj=>by
  subst e;have h1:ns.getD j 0∈ns:=by simp[hj]
  simp only[eA,all_eq_true,decide_eq_true_eq]at hsm;have h2:=hsm _ h1;have h3:=ny (rm (k:=j+1) (show eA ns=true by simpa[eA,all_eq_true]using hsm));rw[oK ns (j+1) hj];have h4:(ns.take (j+1)).length<=1000:=by simp;omega
  unfold InLong;omega
 have key:∀{its:JJ},aW (ns.map V.int) its->∀{h':Heap}{tk t':Nat},(∀b o,s.heap.get? b=some o->h'.get? b=some o)->EP X js Y Q (.int (preSum (fun i=>ns.getD i 0) its.toArray.size) t') {s with heap:=h',toks:=tk}:=by
  intro its r h' tk t' k;have hl:its.toArray.size=ns.length:=by have:=r.length;simpa using this.symm
  rw[hl,oK ns _ (Nat.le_refl _),take_length];exact⟨.int _,H,fu I k,⟨t',rfl⟩,q⟩
 rcases hq with hq|hq
 ·obtain⟨its,r,pl,hz⟩:=I.list hq;have hl:its.toArray.size=ns.length:=by have:=r.length;simpa using this.symm
  obtain⟨o,ho,hcl,n,hd⟩:=pl.isList;have hlt:=lt_size ho;refine call_sum_walk (wpAny_pyIter_list pl.isList ?_);refine⟨_,_,_,_,_,_,(fun i=>ns.getD i 0),rfl,Walks.list (A:=X.A.in1) hh _ p (Nat.ne_of_lt hlt) its.toArray,⟨⟨_,get?_push_size _ rfl,rfl,rfl⟩,pl.isList.push _⟩,fun b hb=>?_,dU r,fit _ hl,fun h' tk t' hk=>key r (dN hk)⟩;show b <(s.heap.push _).objs.size;rw[size_push];exact iE hlt rfl b hb
 ·obtain⟨its,r,pl,hz⟩:=I.tuple hq;have hl:its.toArray.size=ns.length:=by have:=r.length;simpa using this.symm
  have pt:s.heap.IsTuple p its.toArray:=pl;obtain⟨o,ho,hcl,n,hd⟩:=pl;have hlt:=lt_size ho;refine call_sum_walk (wpAny_pyIter_tuple pt ?_);refine⟨_,_,_,_,_,_,(fun i=>ns.getD i 0),rfl,Walks.tuple (A:=X.A.in1) hh _ p (Nat.ne_of_lt hlt) its.toArray,⟨⟨_,get?_push_size _ rfl,rfl,rfl⟩,pt.push _⟩,fun b hb=>?_,dU r,fit _ hl,fun h' tk t' hk=>key r (dN hk)⟩;show b <(s.heap.push _).objs.size;rw[size_push];exact iE hlt rfl b hb
def A4(hK:X.K=T.K):Mir T W (p1 jK) (fun xs H Q=>∃p ns,xs=[.ref p]/\(SqL X.K H p (ns.map V.int)\/ SqT X.K H p (ns.map V.int))/\ns.length<=1000/\eA ns=true/\Q (.int ns.sum) H):=by
 intro B F L Y H Q F' H' xs vs fx gr r nf nd new q
 match xs,r,q with
 | [x],r,q=>
  obtain⟨v,rfl,rv⟩:=RelL.one r;simp only[p1,jK]at q;cases e:aM x with
  |none=>rw[e]at q;exact q.elim
  |some ys=>
   rw[e]at q;dsimp only at q;cases e2:bR ys with
   |none=>rw[e2]at q;exact q.elim
   |some ns=>
    rw[e2]at q;dsimp only at q;obtain⟨a,us,fx',rfl,hs,hr,_⟩:=rv.seq e;have hu:=cW e2 hr;subst hu;split at q
    ·rename_i hc
     simp only[and_eq_true,decide_eq_true_eq]at hc;exact⟨a,_,rfl,by rw[hK];exact hs,hc.1,hc.2,q.scal gr eM⟩
    ·exact q.elim
 | [],_,q=>exact q.elim
 |_::_::_,_,q=>simp only[p1]at q;exact q.elim
def E1:bootBuiltins "sum"=some (.builtin "sum"):=by decide +kernel
def lA(hK:X.K=T.K)(hc:X.calm=true)(hg:Gl X "sum")(hm:X.mg "sum"=none)(ha:SE X T W e m)(he:starEach [e] X.env=[(false,eval e X.env)]:=by rfl):SE X T W (.Call (.Name "sum" p) [e] [] pos) (ar (p1 jK) (ad m ak)):=
 fj (pj hc) (A4 hK) hg hm E1 (aa ha af (by rw[he];rfl)) (he:=by rw[he];rfl) (hpl:=rfl)
end
def lK:PV->PV->JR
 |x,.int i=>match aM x with
  |some xs=>match atI xs i with
   |some y=>.ok y
   |none=>.stuck
  |none=>.stuck
 |_,_=>.stuck
section
variable{X:Cx}{T:Tb}{W:Nat->St->JP}
def xr(hK:X.K=T.K):jw T W lK (fun x y H Q=>AF X.K x y H Q \/(AD X.K x y H Q\/AE x y H Q)):=by
 intro B F L Y H Q F' H' x y v u fx fy g rx ry nf nd new q;cases y with
 |int i=>
  simp only[lK]at q;cases e:aM x with
  |none=>rw[e]at q;exact q.elim
  |some xs=>
   rw[e]at q;dsimp only at q;obtain⟨a,ws,fx',rfl,hs,hr,sl⟩:=rx.seq e;cases e2:atI xs i with
   |none=>rw[e2]at q;exact q.elim
   |some z=>
    rw[e2]at q;dsimp only at q;obtain⟨w,f',h1,h2,h3⟩:=uk hr e2;unfold Rel at ry;obtain⟨rfl,rfl⟩:=ry;rw[append_nil]at nf nd new;have s2:=h3.trans sl;have q':Q w H':=q w H' F' f' g h2 (fun a ha=>nf a (s2.subset ha)) (nd.sublist s2) (fun a ha=>new a (s2.subset ha));rcases hs with hs|hs
    ·exact .inl ⟨a,ws,i,w,rfl,rfl,by rw[hK];exact hs,h1,q'⟩
    ·exact .inr (.inl ⟨a,ws,i,w,rfl,rfl,by rw[hK];exact hs,h1,q'⟩)
 |_=>exact q.elim
def sS(hK:X.K=T.K)(ha:SE X T W a ma)(hb:SE X T W b mb)(hs:i6 b):SE X T W (.Subscript a b pos) (mOp lK ma mb):=
 B4 xL (xr hK) ha hb hs
end
structure Sup(K:PySem.W.Frag)(C f:Addr):Prop where
 ga:specialIn K (.ref C) "__getattribute__"=some (some (.builtin "type.__getattribute__"))
 rd:readsIn K C (.type "type")=true
 fc:findCls K (.ref C) (.type "type") "__init__"=some (.val (.ref f))
 kp:PySem.W.keepIn K (.ref f)=true
def ik(m:JQ->JR)(ms:MA):MS:=fun env=>match (env[(0:Nat)]?:Option (Option PV))with
 |some (some (.obj .own c ks vs))=>match ms env with
  |.ok xs=>if hasL Fl.JX xs then .stuck else match m (.obj .own c ks vs::mapL Fl.JT xs)with
   |.ok (.obj fl c' ks' vs')=>if(PV.obj fl c' ks' vs').has Fl.JY then .stuck else .next (env.set 0 (some (.obj fl c' ks' vs')))
   |_=>.stuck
  |.exc c=>.exc c env
  |.stuck=>.stuck
 |_=>.stuck
section
variable{X:Cx}{T:Tb}{W:Nat->St->JP}{Z:Zn}{F F1 F3:JH}{H H1 H3:Hp}{Y:St}{env:En}{fp:Nat->JK}
def aD.sup(S:aD T Z F H Y env fp)(h0:Y[0]?=some (some v0))(hl:0<env.length)
  (nx:∀a∈fx,Z.H0 a=none\/Z.fp0 a) (nj:∀a∈fx,∀i,a∉fp i) (nF:∀a∈fx,¬F a) (cx:∀a∈fx,∃o,H a=some o/\Chg o)
  (hp3:cM T ⟨H,F,(·∈fp 0++fx),B',some v0⟩ F3 H3) (r:Rel T F3 B' NoL H3 o v0 f3) (hb:o.has Fl.JY=false) (nd3:f3.Nodup) (nf3:∀a∈f3,¬F3 a) (new3:∀a∈f3,H a=none\/a∈fp 0++fx)
  (ho:∃fl c ks xs,o=.obj fl c ks xs):aD T Z F3 H3 Y (env.set 0 (some o)) (cO fp 0 f3):=by
 have zfree:∀a,H a=none->Z.H0 a=none\/Z.fp0 a:=fun a z=>by
  by_cases q:Z.fp0 a
  ·exact .inr q
  ·refine .inl ?_;cases w:Z.H0 a with
   |none=>rfl
   |some o=>rw[S.hp.keep a o w q]at z;exact(nomatch z)
 have inn:∀a∈fp 0++fx,Z.H0 a=none\/Z.fp0 a:=fun a h=>by
  rcases mem_append.mp h with h|h
  ·exact S.new 0 a h
  ·exact nx a h
 have jn:∀j,j≠0->∀a∈fp j,a∉fp 0++fx:=fun j hj a ha z=>by
  rcases mem_append.mp z with z|z
  ·exact S.dj j 0 hj a ha z
  ·exact nj a z j ha
 have chgn:∀a∈fp 0++fx,∃o,H a=some o/\Chg o:=fun a h=>by
  rcases mem_append.mp h with h|h
  ·exact S.ch 0 a h
  ·exact cx a h
 have rel':Rel T F3 Z.B NoL H3 o v0 f3:=Rel.noB hb r;refine⟨⟨S.hp.bo,fun a u e n=>hp3.keep a u (S.hp.keep a u e n) fun z=>?_,fun a h=>hp3.f0 a (S.hp.f0 a h),fun a h=>?_,hp3.ft⟩,by rw[length_set,S.len],fun j pv e=>?_,fun j=>?_,fun j k hjk b hb=>?_,fun j b hb=>?_,fun j b hb=>?_,fun j b hb=>?_,fun w hw=>?_⟩
 ·rcases inn a z with q|q
  ·rw[e]at q;cases q
  ·exact n q
 ·rcases hp3.fn a h with z|z|z
  ·exact S.hp.fn a z
  ·exact .inr (zfree a z)
  ·exact .inr (inn a z)
 ·by_cases hj:j=0
  ·subst hj;rw[getElem?_set_self hl]at e;cases e;refine⟨v0,h0,?_⟩;unfold cO;rw[if_pos rfl];exact rel'
  ·rw[getElem?_set_ne (Ne.symm hj)]at e;obtain⟨w,h1,h2⟩:=S.rel j pv e;refine⟨w,h1,?_⟩;unfold cO;rw[if_neg hj];refine Rel.tr (fun a h=>hp3.f0 a h) (fun _ h=>h) (fun _ h=>h) (fun b u q h=>hp3.keep b u q fun z=>?_) (fun b hb u q=>hp3.keep b u q (jn j hj b hb)) h2;rcases h with h|h|h|h
   ·rcases mem_append.mp z with z|z
    ·exact(S.dis 0 b z).1 h
    ·exact nF b z h
   ·obtain⟨⟨o',e1⟩,e2⟩:=S.hp.bo.1 b h;rcases inn b z with q'|q'
    ·rw[e1]at q';cases q'
    ·exact e2 q'
   ·exact h
   ·obtain⟨o',e1,e2⟩:=chgn b z;have q1:H b=some u:=q;rw[q1]at e1;cases e1;cases u with
    |lst _|ins _ _ _=>exact h
    |_=>exact e2
 ·unfold cO;split
  ·exact nd3
  ·exact S.nd j
 ·grind[cO,aD,cM,Gr]
 ·unfold cO at hb;by_cases h1:j=0
  ·rw[if_pos h1]at hb;exact⟨nf3 b hb,r.there b hb⟩
  ·rw[if_neg h1]at hb;obtain⟨n,u,e⟩:=S.dis j b hb;refine⟨fun z=>?_,u,hp3.keep b u e (jn j h1 b hb)⟩;rcases hp3.fn b z with q|q|q
   ·exact n q
   ·have q':H b=none:=q;rw[e]at q';cases q'
   ·exact jn j h1 b hb q
 ·unfold cO at hb;by_cases h1:j=0
  ·rw[if_pos h1]at hb;rcases new3 b hb with q|q
   ·exact zfree b q
   ·exact inn b q
  ·rw[if_neg h1]at hb;exact S.new j b hb
 ·unfold cO at hb;by_cases h1:j=0
  ·rw[if_pos h1]at hb;exact r.chg b hb
  ·rw[if_neg h1]at hb;obtain⟨u,e,c⟩:=S.ch j b hb;exact⟨u,hp3.keep b u e (jn j h1 b hb),c⟩
 ·obtain⟨h1,h2⟩:=S.pn w hw;refine⟨h1,?_⟩;obtain⟨fl,c,ks,xs,e⟩:=ho;subst e;unfold dY;rw[getElem?_set_self hl]
def Cv
  (cx:Ctx X T W kk) (U:Sup X.K C f) (G:dG X.prog X.w X.K X.mg X.base (CXP X.prog X.w) k f fd ps (spI T ps.length m)) (hk:k<=kk) (hg:Gl X x) (hm:X.mg x=some (.ref C)) (hb:fA X.K fd ps [])
  (hN:X.N[0]?=some y) (hv:Vis X.env.scope y) (hn:iA ms n) (hps:n+1=ps.length) (ha:SA X T W es ms)
  (hdb:(x ==("__debug__":Str))=false:=by decide) (hdy:(y ==("__debug__":Str))=false:=by decide) (hcy:(y ==("__classdict__":Str))=false:=by decide)
  (hst:starEach (.Name y px::es) X.env=(false,eval (.Name y px) X.env)::starEach es X.env:=by rfl) (hpl:(backTo pos (starEach es X.env)).any (·.1)=false:=by rfl)
  (ht:eval (.Call (.Attribute (.Name x p) "__init__" apos) (.Name y px::es) [] pos) X.env=(do
   let ov <- eval (.Name x p) X.env
   standAt apos.atName
   let(f,first) <- holding [ov] (getMethod ov "__init__" pl)
   callWith pos f first (backTo pos (starEach (.Name y px::es) X.env)) (backToKw pos (keywordEach [] X.env))):=by rfl)
  (hs:swapsWith (.Call (.Attribute (.Name x p) "__init__" apos) (.Name y px::es) [] pos) none pos'.line X.env=pure false:=by rfl) :
  SS X T W (.Expr (.Call (.Attribute (.Name x p) "__init__" apos) (.Name y px::es) [] pos) pos') (ik m ms):=by
 have pe:PE X (.Call (.Attribute (.Name x p) "__init__" apos) (.Name y px::es) [] pos) (fun Y H Q=>∃ Z F env fp,aD T Z F H Y env fp/\(match ik m ms env with
   |.next e=>∀F' H' fp',aD T Z F' H' Y e fp'->Q .non H'
   |.exc c e=>∀F' H' fp',aD T Z F' H' Y e fp'->W c Y H'
   |_=>False)):=by
  intro js s Y H Q I h;obtain⟨Z,F,env,fp,S,q⟩:=h;refine methodCall_KW (pl:=pl) (iZ I hg hm ?_ hdb) ht;refine PySem.W.method_cls I.kIn U.ga (PySem.W.cls_value I.kIn U.rd U.fc rfl ?_);have I':=I.tok (s.toks+1);unfold ik at q;cases e0:env[0]? with
  |none=>rw[e0]at q;exact q.elim
  |some o0=>
  cases o0 with
  |none=>rw[e0]at q;exact q.elim
  |some ov=>
  obtain⟨v0,hv0,r0⟩:=S.rel 0 ov e0;have hl0:0<env.length:=(List.getElem?_eq_some_iff.mp e0).1;rw[e0]at q;by_cases hob:∃c ks vs,ov=.obj .own c ks vs
  case neg=>
   exfalso;cases ov with
   |obj fl c ks vs=>
    cases fl with
    |own=>exact hob ⟨_,_,_,rfl⟩
    |_=>exact q
   |_=>exact q
  obtain⟨c,ks,vs0,rfl⟩:=hob;dsimp only at q;have pa:=cR (X:=X) (hZ (pos:=px) hN hv hdy hcy) ha hst;refine callWith_K (first:=[]) (h₀:=X.base) I'.ok.mod.kin U.kp (thn (pa pos js _ Y H (fun vs H1=>∀ us s1,L2.Inv X js Y H1 s1->aW vs us->wpAny (model X.prog X.w) X.A (call (.ref f) us) (EP X js Y Q) X.xe s1) I'
   ⟨v0,hv0,tA.bind S (fun c e=>?_) (fun e=>by rw[e]at q;exact q) fun xs vs H1 F1 f1 e1 g1 r1 n1 d1 w1 us s1 I1 rv=>?_⟩) fun us s1 ⟨vs,H1,I1,r,q1⟩=>⟨I1.kIn,q1 us s1 I1 r⟩) hst hpl
  ·rw[e]at q;exact fun H' x=>q F H' fp (S.grow (Gr.same S.hp.ft x))
  rw[e1]at q;dsimp only at q;by_cases hln:hasL Fl.JX xs=true
  ·rw[if_pos hln]at q;exact q.elim
  rw[if_neg hln]at q;have hln':hasL Fl.JX xs=false:=by simpa using hln
  have S1:=S.grow g1;obtain⟨v0',hv0',r0'⟩:=S1.rel 0 _ e0;rw[hv0]at hv0';cases hv0';have xn:∀a∈f1,∀i,a∉fp i:=fun a ha i hi=>by obtain⟨_,o,e⟩:=S.dis i a hi;rw[w1 a ha]at e;cases e
  have xz:∀a∈f1,Z.H0 a=none\/Z.fp0 a:=fun a ha=>by
   by_cases q:Z.fp0 a
   ·exact .inr q
   ·refine .inl ?_;cases w:Z.H0 a with
    |none=>rfl
    |some o=>have:=w1 a ha;rw[S.hp.keep a o w q]at this;cases this
  have hBo:∀a,Z.B a->(∃o,H1 a=some o)/\a∉fp 0++f1:=fun a h=>by
   obtain⟨⟨o,h1⟩,h2⟩:=S.hp.bo.1 a h;have h3:=S.hp.keep a o h1 h2;refine⟨⟨o,g1.ext a o h3⟩,fun z=>?_⟩;rcases mem_append.mp z with z|z
   ·exact S.bow a h ⟨0,z⟩
   ·rw[w1 a z]at h3;cases h3
  have R:sL T F1 (fun a=>(∃o,H1 a=some o)/\a∉fp 0++f1) H1 (.obj .own c ks vs0::mapL Fl.JT xs) (v0::vs) (fp 0++f1):=by
   refine⟨?_,nodup_append.mpr ⟨S.nd 0,d1,fun a ha b hb z=>by subst z;exact xn a hb 0 ha⟩,fun a ha=>?_,⟨fun a h=>h,S.tbo g1.ext fun a z=>(mem_append.mp z).elim (fun z=>.inr ⟨0,z⟩) fun z=>.inl (w1 a z)⟩,g1.dom⟩
   ·unfold RelL;refine⟨v0,vs,fp 0,f1,rfl,Rel.tr (fun _ h=>h) hBo (fun _ h=>h) (fun _ _ q _=>q) (fun _ _ _ q=>q) r0',?_,rfl⟩;exact RelL.JT hBo (fun _ h=>h.elim) (RelL.noL (L':=NoL) hln' r1)
   ·rcases mem_append.mp ha with ha|ha
    ·exact(S1.dis 0 a ha).1
    ·exact n1 a ha
  have r2:aW (v0::vs) us:=rv;have hl:us.length=ps.length:=by rw[<- r2.length,length_cons,<- r1.length,hn env xs e1];exact hps
  refine wpAny_call (codeAny_mono (G.run X.A X.stack s1 H1 ⟨us,[]⟩ us (v0::vs) Q (fun cls _ H'=>∃ c,cls=.ref (T.xcl c)/\W c Y H') (cx.room.mono hk) I1.env0 (by simpa using hb s1 us I1.kIn (by simpa using hl)) r2
   ⟨by rw[r2.length,hl],v0,_,F1,_,_,rfl,R,⟨.own,c,ks,vs0,rfl⟩,?_⟩) fun rs s' hq=>?_)
  ·cases e:m (.obj .own c ks vs0::mapL Fl.JT xs)with
   |ok o=>
    rw[e]at q;cases o with
    |obj fl c' ks' vs'=>
     dsimp only at q;by_cases hbr:(PV.obj fl c' ks' vs').has Fl.JY=true
     ·rw[if_pos hbr]at q;exact q.elim
     ·rw[if_neg hbr]at q;dsimp only at q;have hbr':(PV.obj fl c' ks' vs').has Fl.JY=false:=by simpa using hbr
      intro F3 H3 f3 hp3 r3 nd3 nf3 new3;exact q F3 H3 _ (S1.sup hv0 hl0 xz xn n1 r1.chg hp3 r3 hbr' nd3 nf3 new3 ⟨_,_,_,_,rfl⟩)
    |_=>exact q.elim
   |exc c|stuck=>rw[e]at q;exact q.elim
  ·cases rs with
   |error e=>obtain⟨cls,H',fl,c,rfl,hw⟩:=hq;exact cx.xf js Y H1 s1 c H' e s' I1 fl hw
   |ok fl=>
    cases fl with
    |ret u=>exact I1.after hq
    |next|brk|cont=>exact False.elim hq
 exact PS.wk (oJ (pos:=pos') pe hs) fun D Y H hz1=>by
  obtain⟨Z,F,env,fp,S,q⟩:=hz1;refine⟨Z,F,env,fp,S,?_⟩;cases e:ik m ms env with
  |next e'|exc c e'=>rw[e]at q;exact fun F' H' fp' S'=>q F' H' Y fp' S'
  |ret v=>
   exfalso;revert e;unfold ik;split
   ·split
    ·split
     ·simp
     ·split
      ·split<;>simp
      ·simp
    ·simp
    ·simp
   ·simp
  |brk e'=>
   exfalso;revert e;unfold ik;split
   ·split
    ·split
     ·simp
     ·split
      ·split<;>simp
      ·simp
    ·simp
    ·simp
   ·simp
  |cont e'=>
   exfalso;revert e;unfold ik;split
   ·split
    ·split
     ·simp
     ·split
      ·split<;>simp
      ·simp
    ·simp
    ·simp
   ·simp
  |stuck=>rw[e]at q;exact q
end
end PR
namespace PR
open PySem PySem.Spec L2 PyProof.Rows
section
variable{X:Cx}{T:Tb}{W:Nat->L2.St->JP}{Z:Zn}{F F1 B L:JH}{H H1:Hp}{Y:L2.St}{env:En}{fp:Nat->JK}{D:Ends}
def wM:PV->PV->JR:=eC (fun i j=>decide (0<=j/\j<=1000000/\i.natAbs<2 ^ 64)) fun i j=>.int (i*2 ^ j.toNat)
def CF(ha:SE X T W a ma)(hb:SE X T W b mb):SE X T W (.BinOp a .LShift b pos) (mOp wM ma mb):=jc De (nT (fun i j h=>(by simpa using h:0<=j/\j<=1000000/\i.natAbs<2 ^ 64)) fun _ _ _ _ _ _=>eM) ha hb
end
end PR
namespace PR
open PySem PySem.Spec L2
def whL(c:MT)(b:MS):Nat->MS
 |0,_=>.stuck
 |k+1,env=>match c env with
  |.ok true=>match b env with
   |.next e|.cont e=>whL c b k e
   |.brk e=>.next e
   |.ret v=>.ret v
   |.exc x e=>.exc x e
   |.stuck=>.stuck
  |.ok false=>.next env
  |.exc x=>.exc x env
  |.stuck=>.stuck
def ij(c:MT)(b:MS):MS:=whL c b 100000
section
variable{X:Cx}{T:Tb}{W:Nat->St->JP}
def jA(hp:PassesOwn (model X.prog X.w) X.A X.env X.xe)(hc:ST X T W c mc)(hb:SSs X T W body mb):SS X T W (.While c body [] pos) (ij mc mb):=
 PS.wk (wy (pos:=pos) hp hc hb) fun D Y H hz1=>by
  obtain⟨Z,F,env,fp,S,q⟩:=hz1;unfold ij at q;refine⟨fun m σ' H'=>∃F' env' fp',aD T Z F' H' σ' env' fp'/\GS T W Z D (whL mc mb m env'),⟨100000,F,env,fp,S,q⟩,?_⟩;rintro m σ' H' ⟨F',env',fp',S',q'⟩;cases m with
  |zero=>exact q'.elim
  |succ k=>
   unfold whL at q';refine tT.bind S' (fun c e H2 x=>?_) (fun e=>by rw[e]at q';exact q') fun b H1 F1 e g=>?_
   ·rw[e]at q';exact q' F' H2 σ' fp' (S'.grow (Gr.same S'.hp.ft x))
   ·cases b with
    |false=>rw[e]at q';exact(if_neg (by decide)).mpr (q' F1 H1 σ' fp' (S'.grow g))
    |true=>
     rw[e]at q';dsimp only at q';refine(if_pos rfl).mpr ⟨fun σ2 H2=>∃F2 env2 fp2,aD T Z F2 H2 σ2 env2 fp2/\GS T W Z D (whL mc mb k env2),fun σ2 H2 h=>⟨k,Nat.lt_succ_self k,h⟩,Z,F1,env',fp',S'.grow g,?_⟩;cases eb:mb env' with
     |next e2|cont e2=>rw[eb]at q';exact fun F3 H3 σ3 fp3 S3=>⟨F3,e2,fp3,S3,q'⟩
     |brk e2|ret v|exc c e2|stuck=>rw[eb]at q';exact q'
end
def fw:JQ->Option (List Bool)
 | []=>some []
 |.bl b::xs=>(fw xs).map (b::·)
 |_=>none
def mU(f:List Bool->Bool):PV->JR
 |.lst _ xs=>match fw xs with
  |some bs=>.ok (.bl (f bs))
  |none=>.stuck
 |_=>.stuck
def pG(bs:List Bool):Bool:=bs.all id
def pF(bs:List Bool):Bool:=bs.any id
section
variable{X:Cx}{T:Tb}{W:Nat->St->JP}{Z:Zn}{F F1 B L:JH}{H H1:Hp}{Y:St}{env:En}{fp:Nat->JK}{js:JG}{s:Shared}
def om:∀{xs:JQ}{vs:JO}{f:JK}{bs:List Bool},fw xs=some bs->RelL T F B L H xs vs f->vs=bs.map V.bl
 | [],_,_,_,e,h=>by simp only[fw,Option.some.injEq]at e;subst e;unfold RelL at h;rw[h.1];rfl
 |.bl b::xs,_,_,bs,e,h=>by
  simp only[fw]at e;cases e2:fw xs with
  |none=>rw[e2]at e;cases e
  |some ms=>rw[e2]at e;cases e;unfold RelL at h;obtain⟨v,ws,f1,f2,rfl,h1,h2,_⟩:=h;unfold Rel at h1;rw[h1.1,om e2 h2];rfl
 |.non::_,_,_,_,e,_|.int _::_,_,_,_,e,_|.str _::_,_,_,_,e,_|.lst _ _::_,_,_,_,e,_|.tup _::_,_,_,_,e,_|.obj _ _ _ _::_,_,_,_,e,_|.exc _::_,_,_,_,e,_|.box _ _::_,_,_,_,e,_=>by simp[fw]at e
def yX:∀{bs:List Bool}{its:JJ},aW (bs.map V.bl) its->∀(i:Nat) (v:Value),its.toArray[i]?=some v->v=.bool (bs.getD i false)
 | [],_,r,i,v,e=>by cases r;simp at e
 |b::bs,_,r,i,v,e=>by
  cases r with
  |cons r1 r2=>
   cases i with
   |zero=>simp at e;subst e;exact r1
   |succ i=>exact yX r2 i v (by simpa using e)
def Ay(bs:List Bool)(n:Nat)(h:n=bs.length):(range n).all (fun i=>bs.getD i false)=pG bs:=by
 subst h;unfold pG;rw[Bool.eq_iff_iff,all_eq_true,all_eq_true];refine⟨fun z x hx=>?_,fun z i hi=>?_⟩
 ·obtain⟨i,hi,e⟩:=getElem_of_mem hx;have:=z i (mem_range.mpr hi);rw[<- e];simpa[hi]using this
 ·have hi':=mem_range.mp hi;have:=z bs[i] (getElem_mem hi');simpa[hi']using this
def Ax(bs:List Bool)(n:Nat)(h:n=bs.length):(range n).any (fun i=>bs.getD i false)=pF bs:=by
 subst h;unfold pF;rw[Bool.eq_iff_iff,any_eq_true,any_eq_true];refine⟨fun⟨i,hi,z⟩=>?_,fun⟨x,hx,z⟩=>?_⟩
 ·have hi':=mem_range.mp hi;exact⟨bs[i],getElem_mem hi',by simpa[hi']using z⟩
 ·obtain⟨i,hi,e⟩:=getElem_of_mem hx;exact⟨i,mem_range.mpr hi,by rw[<- e]at z;simpa[hi]using z⟩
def oj{bs:List Bool}{its:JJ}(r:aW (bs.map V.bl) its):TruthOf X.prog X.w A (fun i v=>its.toArray[i]?=some v) (fun i=>bs.getD i false):=fun i v s Q E hP hQ=>by rw[yX r i v hP];exact wpAny_truthy_bool hQ
def pC(hc:X.calm=true):dR X (.builtin "all") (fun xs H Q=>∃p bs,xs=[.ref p]/\SqL X.K H p (bs.map V.bl)/\Q (.bl (pG bs)) H):=by
 intro js s Y H xs us Q I rv h;obtain⟨p,bs,rfl,hq,q⟩:=h;obtain⟨u,rfl,rx⟩:=d4 rv;cases rx;have hh:=I.ok.hd hc;obtain⟨its,r,pl,hz⟩:=I.list hq;have hl:its.toArray.size=bs.length:=by have:=r.length;simpa using this.symm
 obtain⟨o,ho,hcl,n,hd⟩:=pl.isList;have hlt:=lt_size ho;have key:∀{h':Heap}{tk:Nat},(∀b o,s.heap.get? b=some o->h'.get? b=some o)->EP X js Y Q (.bool (pG bs)) {s with heap:=h',toks:=tk}:=fun k=>⟨.bl _,H,fu I k,rfl,q⟩
 refine call_all_walk (wpAny_pyIter_list pl.isList ?_);refine⟨_,_,_,_,_,_,(fun i=>bs.getD i false),rfl,Walks.list (A:=X.A.in1) hh _ p (Nat.ne_of_lt hlt) its.toArray,⟨⟨_,get?_push_size _ rfl,rfl,rfl⟩,pl.isList.push _⟩,oj r,fun h' tk hk=>?_⟩;rw[Ay bs _ hl];exact key (dN hk)
def pB(hc:X.calm=true):dR X (.builtin "any") (fun xs H Q=>∃p bs,xs=[.ref p]/\SqL X.K H p (bs.map V.bl)/\Q (.bl (pF bs)) H):=by
 intro js s Y H xs us Q I rv h;obtain⟨p,bs,rfl,hq,q⟩:=h;obtain⟨u,rfl,rx⟩:=d4 rv;cases rx;have hh:=I.ok.hd hc;obtain⟨its,r,pl,hz⟩:=I.list hq;have hl:its.toArray.size=bs.length:=by have:=r.length;simpa using this.symm
 obtain⟨o,ho,hcl,n,hd⟩:=pl.isList;have hlt:=lt_size ho;have key:∀{h':Heap}{tk:Nat},(∀b o,s.heap.get? b=some o->h'.get? b=some o)->EP X js Y Q (.bool (pF bs)) {s with heap:=h',toks:=tk}:=fun k=>⟨.bl _,H,fu I k,rfl,q⟩
 refine call_any_walk (wpAny_pyIter_list pl.isList ?_);refine⟨_,_,_,_,_,_,(fun i=>bs.getD i false),rfl,Walks.list (A:=X.A.in1) hh _ p (Nat.ne_of_lt hlt) its.toArray,⟨⟨_,get?_push_size _ rfl,rfl,rfl⟩,pl.isList.push _⟩,oj r,fun h' tk hk=>?_⟩;rw[Ax bs _ hl];exact key (dN hk)
def tJ(hK:X.K=T.K)(f:List Bool->Bool):Mir T W (p1 (mU f)) (fun xs H Q=>∃p bs,xs=[.ref p]/\SqL X.K H p (bs.map V.bl)/\Q (.bl (f bs)) H):=by
 intro B F L Y H Q F' H' xs vs fx gr r nf nd new q
 match xs,r,q with
 | [x],r,q=>
  obtain⟨v,rfl,rv⟩:=RelL.one r;simp only[p1]at q;cases x with
  |lst fl ys=>
   simp only[mU]at q;cases e2:fw ys with
   |none=>rw[e2]at q;exact q.elim
   |some bs=>rw[e2]at q;dsimp only at q;unfold Rel at rv;obtain⟨a,us,fp',rfl,hl,hr,_⟩:=rv;have hu:=om e2 hr;subst hu;exact⟨a,_,rfl,by rw[hK];exact hl.sq,q.scal gr jk⟩
  |_=>exact q.elim
 | [],_,q=>exact q.elim
 |_::_::_,_,q=>simp only[p1]at q;exact q.elim
def E6:bootBuiltins "all"=some (.builtin "all"):=by decide +kernel
def E5:bootBuiltins "any"=some (.builtin "any"):=by decide +kernel
def CM(hK:X.K=T.K)(hc:X.calm=true)(hg:Gl X "all")(hm:X.mg "all"=none)(ha:SE X T W e m)(he:starEach [e] X.env=[(false,eval e X.env)]:=by rfl):SE X T W (.Call (.Name "all" p) [e] [] pos) (ar (p1 (mU pG)) (ad m ak)):=
 fj (pC hc) (tJ hK pG) hg hm E6 (aa ha af (by rw[he];rfl)) (he:=by rw[he];rfl) (hpl:=rfl)
def CL(hK:X.K=T.K)(hc:X.calm=true)(hg:Gl X "any")(hm:X.mg "any"=none)(ha:SE X T W e m)(he:starEach [e] X.env=[(false,eval e X.env)]:=by rfl):SE X T W (.Call (.Name "any" p) [e] [] pos) (ar (p1 (mU pF)) (ad m ak)):=
 fj (pB hc) (tJ hK pF) hg hm E5 (aa ha af (by rw[he];rfl)) (he:=by rw[he];rfl) (hpl:=rfl)
end
end PR
namespace PR
open PySem PySem.Spec L2
def j9:PV->JR
 |.bl b=>.ok (.int (if b then 1 else 0))
 |.int i=>.ok (.int i)
 |_=>.stuck
section
variable{X:Cx}{T:Tb}{W:Nat->St->JP}
def qF:dR X (.type "int") (fun xs H Q=>(∃b,xs=[.bl b]/\Q (.int (if b then 1 else 0)) H)\/ ∃i,xs=[.int i]/\Q (.int i) H):=by
 intro js s Y H xs us Q I rv h;rcases h with⟨b,rfl,q⟩ |⟨i,rfl,q⟩
 ·obtain⟨u,rfl,rx⟩:=d4 rv;cases rx;exact PySem.call_int_bool ⟨.int _,H,fu I fun _ _ e=>e,⟨_,rfl⟩,q⟩
 ·obtain⟨u,rfl,rx⟩:=d4 rv;obtain⟨t,rfl⟩:=rx;exact PySem.call_int_int ⟨.int _,H,I,⟨_,rfl⟩,q⟩
def uZ:Mir T W (p1 j9) (fun xs H Q=>(∃b,xs=[.bl b]/\Q (.int (if b then 1 else 0)) H)\/ ∃i,xs=[.int i]/\Q (.int i) H):=by
 intro B F L Y H Q F' H' xs vs fx g r nf nd new q
 match xs,r,q with
 | [x],r,q=>
  obtain⟨v,rfl,r1⟩:=r.one;cases x with
  |bl b=>unfold Rel at r1;obtain⟨rfl,_⟩:=r1;exact .inl ⟨b,rfl,q.scal g eM⟩
  |int i=>unfold Rel at r1;obtain⟨rfl,_⟩:=r1;exact .inr ⟨i,rfl,q.scal g eM⟩
  |_=>exact q.elim
 | [],_,q|_::_::_,_,q=>exact q.elim
def v_(hg:Gl X "int")(hm:X.mg "int"=none)(ha:SE X T W e m)(he:starEach [e] X.env=[(false,eval e X.env)]:=by rfl):SE X T W (.Call (.Name "int" p) [e] [] pos) (ar (p1 j9) (ad m ak)):=
 j1 qF uZ hg hm y0 (aa ha af he) (he:=he)
end
open AutoSeq1 (wpAny_loadPart')
section
variable{prog:Program}{w:World}{A:Around}{E:JD}{s:Shared}
def oi(ft:TypeCalled T nI iI)
  (c1:checkTypeCall T ⟨us,kw⟩=pure ()) (c2:checkBuiltinCall nI ⟨.type T::us,kw⟩=pure ()) (eN:entryFor table nI=some Bn) (eI:entryFor table iI=some Bi) (g:Meets (Bn ⟨.type T::us,kw⟩) S)
  (h:S A.in1 (wants Q1 E) s) (nx:∀ob s1,Q1 ob s1->s1.TypeIs ob T/\argsOk iI ⟨ob::us,kw⟩/\∃Si,Meets (Bi ⟨ob::us,kw⟩) Si/\Si A.in1 (wants (fun r s2=>r=.none/\Q ob s2) E) s1) :
  wpAny (model prog w) A (call (.type T) us kw) Q E s:=by
 obtain⟨cc,tt,hmro⟩:=ft.mro;have hmade:=ft.made;have hsub:=ft.sub;have h1:=ft.notType;have h2:=ft.canCreate;refine wpAny_call (codeAny_of_tree (show wpAny _ _ (callAny (.type T) _) _ _ _ from wpAny_pure ⟨Code.quiet_builtin _ (by decide +kernel),codeAny_builtin F.entry_type_call ?_⟩));rw[Around.under_plain (weight_type_call_type T us kw) (units_type_call_type T us kw)]
 repeat (any_goals (first|assumption|wp_step|fail))
 refine codeAny_mono (codeAny_call_builtin ft.plain eN (wpAny_of_eq c2 (g prog w A.in1 _ s h))) fun r s1 hr=>?_;cases r with
 |error e=>exact hr
 |ok fl=>
  cases fl with
  |ret ob=>
   obtain⟨hT,hok,Si,gi,hsi⟩:=nx _ _ hr;have hli:=ft.init.lookup;have hbi:=ft.init.bind ob
   repeat (any_goals (first|assumption|wp_step|fail))
   refine codeAny_mono (codeAny_call_builtin ft.init.plain eI (ft.init.check _ _ _ _ _ _ _ _ hT hok (gi prog w A.in1 _ s1 hsi))) fun r2 s2 hr2=>?_;cases r2 with
   |error e=>exact hr2
   |ok fl2=>
    cases fl2 with
    |ret r=>
     obtain⟨rfl,hq⟩:=hr2
     repeat (any_goals (first|assumption|wp_step|fail))
    |_=>exact hr2.elim
  |_=>exact hr.elim
def HB(hl:typeLookup (.type T) "__init__"=pure (some (.builtin "object.__init__")))(hm:Bind.madeBy (.type T)=pure (some nI))(hne:(some nI != some "object.__new__")=true) :
  Meets (Builtin.«object.__init__» ⟨[self,a],kw⟩) (fun _ R s=>s.TypeIs self T/\R (.ok (.ret .none)) s):=by
 refine Meets.of_wp fun pr w A R s0 hs=>?_;obtain⟨hT,hq⟩:=hs
 repeat (any_goals (first|assumption|wp_step|fail))
 exact⟨_,rfl,hq⟩
def cK1(a v:Value):checkTypeCall "enumerate" ⟨[a],[("start",v)]⟩=pure ():=by kernel_rfl
def cK2(a v:Value):checkBuiltinCall "enumerate.__new__" ⟨[.type "enumerate",a],[("start",v)]⟩=pure ():=by kernel_rfl
def cK3(a b v:Value):argsOk "object.__init__" ⟨[a,b],[("start",v)]⟩:=by
 unfold argsOk;rw[signature?_of (id:="object.__init__") (n:=['_','_','t','i','n','i','_','_']) (o:=['t','c','e','j','b','o']) (by kernel_rfl) F.owner_object]
 kernel_rfl
abbrev itO(n:String)(l:Addr):Obj:={cls:=.type n,data:=.fields #[.ref l,.int 0 0]}
abbrev enO(it:Addr)(i:Int):Obj:={cls:=.type "enumerate",data:=.fields #[.none,.bool false,.ref it,rawInt i,.none,.none]}
def zW(n:String)(l:Addr)(s:Shared):Prop:=∀(pr:Program) (w:World) (A:Around) (Q:JD) (E:JD),Q (.ref s.heap.objs.size) {s with heap:=s.heap.push (itO n l)}->wpAny (model pr w) A (pyIter (.ref l)) Q E s
def HM(n:String)(l:Addr)(t:Tok) :
  Meets (Builtin.«enumerate.__new__» ⟨[.type "enumerate",.ref l],[("start",.int 1 t)]⟩) (fun _ R s=>zW n l s/\R (.ok (.ret (.ref (s.heap.push (itO n l)).objs.size))) {s with heap:=(s.heap.push (itO n l)).push (enO s.heap.objs.size 1)}):=
 .of_wp fun pr w A R s0 h=>by
  obtain⟨hp,g,d,tk,os⟩:=s0;obtain⟨hI,h⟩:=h;have hsub:=sub_enumerate;have hJ:∀{Q:JD}{E:JD},Q (.ref hp.objs.size) ⟨hp.push (itO n l),g,d,tk,os⟩->wpAny (model pr w) A.in1 (pyIter (.ref l)) Q E ⟨hp,g,d,tk,os⟩:=fun {Q E} q=>hI pr w A.in1 Q E q;have hJ':∀{Q:JD}{E:JD},Q (.ref hp.objs.size) ⟨hp.push (itO n l),g,d,tk,os⟩->wpAny (model pr w) A (pyIter (.ref l)) Q E ⟨hp,g,d,tk,os⟩:=fun {Q E} q=>hI pr w A Q E q
  wp_walk
  refine wpAny_stack_any fun st=>wpAny_pure ?_;split<;>try (rename_i c _ _ _ _ _;cases(c==Value.type "enumerate"))
  all_goals (wp_walk using hJ,hJ')
  all_goals exact⟨_,rfl,h⟩
def EV(hI:zW n l s)(h:Q (.ref (s.heap.objs.size+1)) {s with heap:=(s.heap.push (itO n l)).push (enO s.heap.objs.size 1)}) :
  wpAny (model prog w) A (call (.type "enumerate") [.ref l] [("start",.int 1 t)]) Q E s:=by
 have hz:(s.heap.push (itO n l)).objs.size=s.heap.objs.size+1:=size_push ..
 refine oi (Q1:=fun ob s1=>s1.TypeIs ob "enumerate" /\ Q ob s1) F.called_enumerate (cK1 _ _) (cK2 _ _) F.entry_enumerate_new F.entry_object_init (HM n l t) ⟨hI,?_⟩ fun ob s1 hq=>⟨hq.1,cK3 ob _ _,_,HB F.called_enumerate.init.lookup F.called_enumerate.made (by decide),hq.1,rfl,hq.2⟩
 show _/\_;rw[hz];have:=get?_push_size (s.heap.push (itO n l)) (o:=enO s.heap.objs.size 1) rfl;rw[hz]at this;exact⟨⟨_,this,rfl⟩,h⟩
def pV(t:Addr):¬((Value.ref t==Value.none)=true):=Bool.false_ne_true
def w_(hit:s.heap.IsTupleIter it t i)(ht:s.heap.IsTuple t items)(hx:items[i]?=some x)
  (hQ:∀h',h'.IsTupleIter it t (i+1)->SameBut it s.heap h'->Q x {s with heap:=h'}):wpAny (model prog w) A (Builtin.SmallTypes.nextOf (.ref it)) Q E s:=by
 obtain⟨o,ho,hc,hd⟩:=id hit;obtain⟨o2,ho2,_,n2,hd2⟩:=ht;unfold Builtin.SmallTypes.nextOf;refine wpAny_bind (wpAny_callSpecial?_slot (name:=Str.ofString "__next__") hit.typeIs F.slot_tuple_iterator_next (wpAny_call_entry F.slot_tuple_iterator_next hit.typeIs F.entry_tuple_iterator_next ?_ (F.args_tuple_iterator_next_1 _)));refine(show wpAny _ _ (field (.ref it) 0 >>= _) _ _ s from wpAny_bind (wpAny_field ho hd (x:=.ref t) rfl ?_));refine(show wpAny _ _ (if(Value.ref t==Value.none)=true then _ else _) _ _ s from ?_);rw[if_neg (pV t)];refine(show wpAny _ _ (field (.ref it) 1 >>= _) _ _ s from wpAny_bind (wpAny_field ho hd (x:=.int i 0) rfl ?_));refine(show wpAny _ _ (seqItems? (.ref t) >>= _) _ _ s from wpAny_bind (wpAny_seqItems ho2 hd2 ?_));simp only[toNat_natCast,hx];refine wpAny_bind (wpAny_setField ho hd (by simp) (wpAny_pure ⟨x,rfl,wpAny_pure (hQ _ ⟨_,get?_update_self _ ho (Obj.isFreed_of_fields (Obj.data_mapFields hd _)),(Obj.cls_mapFields ..).trans hc,by rw[Obj.data_mapFields hd];simp[rawInt]⟩ (SameBut.update ..))⟩))
def A2(hh:A.handled=none)(hit:s.heap.IsTupleIter it t i)(ht:s.heap.IsTuple t items)(hx:items[i]?=none)
  (hE:∀h' e,ExtBut it s.heap h'->(∃o,h'.get? e=some o/\o.cls=.type "StopIteration")->E (.ref e) {s with heap:=h'}):wpAny (model prog w) A (Builtin.SmallTypes.nextOf (.ref it)) Q E s:=by
 obtain⟨o,ho,hc,hd⟩:=id hit;obtain⟨o2,ho2,_,n2,hd2⟩:=ht;unfold Builtin.SmallTypes.nextOf;refine wpAny_bind (wpAny_callSpecial?_slot (name:=Str.ofString "__next__") hit.typeIs F.slot_tuple_iterator_next (wpAny_call_entry F.slot_tuple_iterator_next hit.typeIs F.entry_tuple_iterator_next ?_ (F.args_tuple_iterator_next_1 _)));refine(show wpAny _ _ (field (.ref it) 0 >>= _) _ _ s from wpAny_bind (wpAny_field ho hd (x:=.ref t) rfl ?_));refine(show wpAny _ _ (if(Value.ref t==Value.none)=true then _ else _) _ _ s from ?_);rw[if_neg (pV t)];refine(show wpAny _ _ (field (.ref it) 1 >>= _) _ _ s from wpAny_bind (wpAny_field ho hd (x:=.int i 0) rfl ?_));refine(show wpAny _ _ (seqItems? (.ref t) >>= _) _ _ s from wpAny_bind (wpAny_seqItems ho2 hd2 ?_));simp only[toNat_natCast,hx];refine wpAny_bind (wpAny_rule (wpAny_bind (wpAny_setField ho hd (by simp) (show wpAny _ _ (newExc (.type "StopIteration") [] >>= _) _ _ _ from wpAny_bind ?_))));simp only[newExc,newTuple];refine wpAny_bind (wpAny_newObj_type (wpAny_bind (m:=firstArgMember _ _) (wpAny_of_eq (a:=Value.none) (by first|rfl |(simp only[firstArgMember];rfl)) (wpAny_newObj_type ?_ (by size_fits)))) (by size_fits));simp only[raiseNew];refine wpAny_bind (wpAny_handled ?_)
 first|rw[show A.in1.handled=none from hh]|rw[hh]|skip
 exact wpAny_bind (wpAny_pure (wpAny_throw (hE _ _ (((SameBut.update ..).extBut.push _).push _) ⟨_,get?_push_size _ rfl,rfl⟩)))
inductive jx(h:Heap)(it l:Addr)(its:JN)(i:Nat):Prop
 |lst (a:h.IsListIter it l i) (b:h.IsList l its)
 |tup (a:h.IsTupleIter it l i) (b:h.IsTuple l its)
def jx.at(x:jx h it l its i)(k1:∀o,h.get? it=some o->h'.get? it=some o)(k2:∀o,h.get? l=some o->h'.get? l=some o):jx h' it l its i:=by
 rcases x with⟨⟨o,e,r⟩,⟨o2,e2,r2⟩⟩ |⟨⟨o,e,r⟩,⟨o2,e2,r2⟩⟩
 ·exact .lst ⟨o,k1 o e,r⟩ ⟨o2,k2 o2 e2,r2⟩
 ·exact .tup ⟨o,k1 o e,r⟩ ⟨o2,k2 o2 e2,r2⟩
def jx.obj(x:jx h it l its i):∃o,h.get? it=some o/\∀v,o.data≠.cell v:=by
 rcases x with⟨⟨o,e,_,d⟩,_⟩ |⟨⟨o,e,_,d⟩,_⟩
 ·exact⟨o,e,fun v z=>by rw[d]at z;cases z⟩
 ·exact⟨o,e,fun v z=>by rw[d]at z;cases z⟩
def A1(hi:jx s.heap it l its i)(hne:l≠it)(hx:its[i]?=some x)(hQ:∀h',jx h' it l its (i+1)->SameBut it s.heap h'->Q x {s with heap:=h'}) :
  wpAny (model prog w) A (Builtin.SmallTypes.nextOf (.ref it)) Q E s:=by
 rcases hi with⟨a,b⟩ |⟨a,b⟩
 ·exact wpAny_nextOf_list_item a b hx fun h' q sb=>hQ h' (.lst q (b.extBut sb.extBut hne)) sb
 ·exact w_ a b hx fun h' q sb=>hQ h' (.tup q (b.extBut sb.extBut hne)) sb
def D5(hh:A.handled=none)(hi:jx s.heap it l its i)(hx:its[i]?=none)
  (hE:∀h' e,ExtBut it s.heap h'->(∃o,h'.get? e=some o/\o.cls=.type "StopIteration")->E (.ref e) {s with heap:=h'}):wpAny (model prog w) A (Builtin.SmallTypes.nextOf (.ref it)) Q E s:=by
 rcases hi with⟨a,b⟩ |⟨a,b⟩
 ·exact wpAny_nextOf_list_end hh a b hx hE
 ·exact A2 hh a b hx hE
def BI{Q:JD}(he:IsEnum s.heap e it k old)(hi:jx s.heap it l its i)(hne:e≠it)(hli:l≠it)(hle:l≠e)(hx:its[i]?=some x)
  (hQ:∀ h',IsEnumOut h' e it (k+1) x s.heap.objs.size->jx h' it l its (i+1)->h'.get? s.heap.objs.size=some { cls:=.type "tuple", data:=.seq #[.int k s.toks,x] }->h'.objs.size=s.heap.objs.size+1 ->
   (∀b o,b≠e->b≠it->s.heap.get? b=some o->h'.get? b=some o)->Q (.ref s.heap.objs.size) {s with heap:=h',toks:=s.toks+1}) :
  wpAny (model prog w) A (Builtin.«enumerate.__next__» ⟨[.ref e],[]⟩) (fun fin s'=>∃v,fin=.done (.ret v)/\Q v s') E s:=by
 obtain⟨hp,g,d,tk,os⟩:=s;refine(show wpAny _ _ (field (.ref e) 2 >>= _) _ _ _ from wpAny_bind (wpAny_field he rfl (x:=.ref it) rfl ?_));refine wpAny_bind (A1 hi hli hx fun h1 i1 s1=>?_)
 replace s1:SameBut it hp h1:=s1
 have e1:IsEnum h1 e it k old:=(s1.2 e hne).trans he;refine(show wpAny _ _ (field (.ref e) 3 >>= _) _ _ ⟨h1,g,d,tk,os⟩from wpAny_bind (wpAny_field e1 rfl (x:=rawInt k) rfl ?_));refine(show wpAny _ _ (field (.ref e) 4 >>= _) _ _ ⟨h1,g,d,tk,os⟩from wpAny_bind (wpAny_field e1 rfl (x:=.none) rfl ?_));refine(show wpAny _ _ (mkInt k >>= _) _ _ ⟨h1,g,d,tk,os⟩from wpAny_bind (wpAny_mkInt ?_));refine(show wpAny _ _ (setField (.ref e) 3 (rawInt (k+1)) >>= _) _ _ ⟨h1,g,d,tk+1,os⟩from wpAny_bind (wpAny_setField_rec e1 (by simp) fun h2 e2 s2=>?_))
 replace s2:SameBut e h1 h2:=s2
 replace e2:IsEnum h2 e it (k+1) old:=e2
 refine(show wpAny _ _ (setField (.ref e) 4 .none >>= _) _ _ ⟨h2,g,d,tk+1,os⟩from wpAny_bind (wpAny_setField_rec e2 (by simp) fun h3 e3 s3=>?_))
 replace s3:SameBut e h2 h3:=s3
 replace e3:IsEnum h3 e it (k+1) old:=e3
 refine(show wpAny _ _ (newTuple [.int k tk,x] >>= _) _ _ ⟨h3,g,d,tk+1,os⟩from wpAny_bind (wpAny_newTuple ?_));have e4:IsEnum (h3.push {cls:=.type "tuple",data:=.seq #[.int k tk,x]}) e it (k+1) old:=get?_push_of_some _ e3;generalize hh4:h3.push {cls:=.type "tuple",data:=.seq #[.int k tk,x]}=h4 at e4;have z3:h3.objs.size=hp.objs.size:=by rw[s3.1,s2.1,s1.1]
 have lte:e<hp.objs.size:=lt_size he;have t4:h4.get? hp.objs.size=some {cls:=.type "tuple",data:=.seq #[.int k tk,x]}:=by rw[<- hh4,<- z3];exact get?_push_size _ rfl
 have z4:h4.objs.size=hp.objs.size+1:=by rw[<- hh4,size_push,z3]
 have k4:∀b o,b≠e->h1.get? b=some o->h4.get? b=some o:=fun b o hb q=>by rw[<- hh4];exact get?_push_of_some _ (s3.extBut b o hb (s2.extBut b o hb q))
 refine(show wpAny _ _ (Builtin.SmallTypes.ownedTupleIsFree (.ref e) >>= _) _ _ ⟨h4,g,d,tk+1,os⟩from ?_);rw[z3];refine wpAny_bind ?_;unfold Builtin.SmallTypes.ownedTupleIsFree;refine wpAny_bind (wpAny_field e4 rfl (x:=.none) rfl (wpAny_pure ?_));simp only[if_true];refine wpAny_bind (wpAny_rule (wpAny_bind (wpAny_field e4 rfl (x:=old) rfl (wpAny_bind (wpAny_setField_rec e4 (by simp) fun h5 e5 s5=>?_)))))
 replace s5:SameBut e h4 h5:=s5
 replace e5:IsEnum h5 e it (k+1) x:=e5
 refine(show wpAny _ _ (Builtin.SmallTypes.ownedTupleHandOut (.ref e) (.ref hp.objs.size) >>= _) _ _ ⟨h5,g,d,tk+1,os⟩from wpAny_bind ?_);unfold Builtin.SmallTypes.ownedTupleHandOut;refine wpAny_bind (wpAny_setField_rec e5 (by simp) fun h6 e6 s6=>?_)
 replace s6:SameBut e h5 h6:=s6
 replace e6:IsEnumOut h6 e it (k+1) x hp.objs.size:=e6
 refine wpAny_setField_rec e6 (by simp) fun h7 e7 s7=>?_
 replace s7:SameBut e h6 h7:=s7
 replace e7:IsEnumOut h7 e it (k+1) x hp.objs.size:=e7
 have up:∀b o,b≠e->h4.get? b=some o->h7.get? b=some o:=fun b o hb q=>s7.extBut b o hb (s6.extBut b o hb (s5.extBut b o hb q));refine wpAny_bind (wpAny_letGo (wpAny_pure ⟨_,rfl,hQ h7 e7 (i1.at (fun o q=>up it o hne.symm (k4 it o hne.symm q)) fun o q=>up l o hle (k4 l o hle q)) (up _ _ (Nat.ne_of_gt lte) t4) (by rw[s7.1,s6.1,s5.1,z4]) fun b o hb hb2 q=>up b o hb (k4 b o hb (s1.extBut b o hb2 q))⟩))
def AO(he:IsEnum s.heap e it k old)(hi:jx s.heap it l its i)(hne:e≠it)(hli:l≠it)(hle:l≠e)(hx:its[i]?=some x)
  (hQ:∀ h',IsEnumOut h' e it (k+1) x s.heap.objs.size->jx h' it l its (i+1)->h'.get? s.heap.objs.size=some { cls:=.type "tuple", data:=.seq #[.int k s.toks,x] }->h'.objs.size=s.heap.objs.size+1 ->
   (∀b o,b≠e->b≠it->s.heap.get? b=some o->h'.get? b=some o)->Q (some (.ref s.heap.objs.size)) {s with heap:=h',toks:=s.toks+1}):wpAny (model prog w) A (pyNext (.ref e)) Q E s:=by
 have hT:s.TypeIs (.ref e) "enumerate":=⟨_,he,rfl⟩
 unfold pyNext;exact wpAny_bind (wpAny_attempt (wpAny_callSpecial?_slot (name:=Str.ofString "__next__") hT F.slot_enumerate_next (wpAny_call_entry F.slot_enumerate_next hT F.entry_enumerate_next (BI he hi hne hli hle hx fun h' a b c d q=>wpAny_pure (hQ h' a b c d q)) (F.args_enumerate_next_1 _))))
def C2(hh:A.handled=none)(he:IsEnum s.heap e it k old)(hi:jx s.heap it l its i)(hx:its[i]?=none)
  (hQ:∀h',ExtBut it s.heap h'->Q none {s with heap:=h'}):wpAny (model prog w) A (pyNext (.ref e)) Q E s:=by
 have hT:s.TypeIs (.ref e) "enumerate":=⟨_,he,rfl⟩
 unfold pyNext;refine wpAny_bind (wpAny_attempt (wpAny_callSpecial?_slot (name:=Str.ofString "__next__") hT F.slot_enumerate_next (wpAny_call_entry F.slot_enumerate_next hT F.entry_enumerate_next ?_ (F.args_enumerate_next_1 _))));refine(show wpAny _ _ (field (.ref e) 2 >>= _) _ _ _ from wpAny_bind (wpAny_field he rfl (x:=.ref it) rfl ?_));refine wpAny_bind (D5 hh hi hx fun h' y q ⟨o,ho,hc⟩=>?_);exact wpAny_bind (wpAny_isInstance (T:="StopIteration") (b:=true) ⟨o,ho,hc⟩ isSubtype_stop (wpAny_pure (hQ _ q)))
end
section
variable{X:Cx}{T:Tb}{W:Nat->St->JP}{Z:Zn}{F F1 B L:JH}{H H1:Hp}{Y:St}{env:En}{js:JG}{s:Shared}
def nX{fp:JK}{vs:JO}(I:L2.Inv X js Y H s)(hf:∀b∈fp,mQ X js H b)(k:∀b o,b∉fp->s.heap.get? b=some o->h'.get? b=some o)(hp:s.heap.objs.size<=a)(new:cU X.prog X.w (upd H a (.tup vs)) h' a (.tup vs)) :
  L2.Inv X js Y (upd H a (.tup vs)) {s with heap:=h',toks:=t'}:=by
 have hn:H a=none:=I.hok.fresh hp;have nit:∀b u,H b=some u->b∉fp:=fun b u e z=>by rw[(hf b z).1]at e;cases e
 refine I.step (g':=s.gens) (d':=s.drawn) (ch:=fp) (fun b hb=>?_) (fun b o _ _ hc e _=>k b o hc e) (fun b o _ _ hc e _=>⟨o.slots,k b o hc e⟩) (fun b o _ e n=>?_) (fun b o hc e=>⟨o,k b o hc e⟩)
  (fun b xs e=>by rw[aJ (bP e hn)];exact e) (fun b o u e=>by rw[aJ (bP e hn)];exact e) (fun b ps e=>⟨#[],by rw[aJ (bP e hn),e];simp⟩) (fun m hm=>?_) (fun b u e=>?_) I.bare
 ·obtain⟨_,q1,_,q3,q4,q5⟩:=hf b hb;exact⟨q3,q1,q4,q5⟩
 ·rw[aJ (Nat.ne_of_lt (Nat.lt_of_lt_of_le (lt_size e) hp))];exact n
 ·obtain⟨o,es,ep,ho,r⟩:=hm;exact⟨o,es,ep,k _ o (fun z=>(hf _ z).2.1 rfl) ho,r⟩
 ·by_cases hb:b=a
  ·subst hb;rw[bz]at e;cases e;exact new
  ·rw[aJ hb]at e;refine(I.hok b u e).stay (fun c v hc q=>k c v ?_ q) (fun c q=>by rw[aJ (bP q hn)];exact q) fun c xs _ q=>by rw[aJ (bP q hn)];exact q
   rcases hc with z|z
   ·rw[z];exact nit b u e
   ·exact nit c _ z
def Sq(tp:Bool)(K:PySem.W.Frag)(H:Hp)(l:Addr)(xs:JO):Prop:=match tp with
 |true=>SqT K H l xs
 |false=>SqL K H l xs
def BY(tp:Bool)(h:Heap)(it l:Addr)(i:Nat):Prop:=match tp with
 |true=>h.IsTupleIter it l i
 |false=>h.IsListIter it l i
def Ite(tp:Bool)(K:PySem.W.Frag)(st:Int)(l:Addr):It:=
 ⟨fun i H=>∃xs x,Sq tp K H l xs/\xs[i]?=some x,fun i H v H'=>∃p y,H p=none/\v=.ref p/\H'=upd H p (.tup [.int (st+i),y])/\∀xs,Sq tp K H l xs->xs[i]?=some y,fun i H=>∃xs,Sq tp K H l xs/\xs.length<=i⟩
def B2(I:L2.Inv X js Y H s)(hq:Sq tp X.K H l xs)(ha:BY tp s.heap it l i):∃its:JJ,aW xs its/\jx s.heap it l its.toArray i/\l≠it/\∀e k old,IsEnum s.heap e it k old->e≠it/\l≠e:=by
 cases tp with
 |false=>
  obtain⟨its,rv,p,_⟩:=I.list hq;obtain⟨o,ho,hc,_⟩:=id p.isList;obtain⟨o2,ho2,hc2,_⟩:=id (show s.heap.IsListIter it l i from ha);refine⟨its,rv,.lst ha p.isList,fun z=>?_,fun e k old he=>⟨fun z=>?_,fun z=>?_⟩⟩
  ·rw[z,ho2]at ho;cases ho;rw[hc2]at hc;exact absurd hc (by decide)
  ·grind
  grind
 |true=>
  obtain⟨its,rv,p,_⟩:=I.tuple hq;have p':s.heap.IsTuple l its.toArray:=p;obtain⟨o,ho,hc,_⟩:=id p';obtain⟨o2,ho2,hc2,_⟩:=id (show s.heap.IsTupleIter it l i from ha);refine⟨its,rv,.tup ha p',fun z=>?_,fun e k old he=>⟨fun z=>?_,fun z=>?_⟩⟩
  ·rw[z,ho2]at ho;cases ho;rw[hc2]at hc;exact absurd hc (by decide)
  ·grind
  grind
def Cz(I:L2.Inv X js Y H s)(h1:Sq tp X.K H l xs)(h2:Sq tp X.K H l ys):xs=ys:=by
 cases tp with
 |false=>exact I.list_inj h1 h2
 |true=>exact I.tuple_inj h1 h2
def Hw(x:jx h it l its i)(hl:tp=true->∃o,h.get? l=some o/\o.cls=.type "tuple")(hl2:tp=false->∃o,h.get? l=some o/\o.cls=.type "list"):BY tp h it l i:=by
 cases tp with
 |false=>
  obtain⟨o,ho,hc⟩:=hl2 rfl;rcases x with⟨a,b⟩ |⟨a,⟨o2,ho2,hc2,_⟩⟩
  ·exact a
  ·rw[ho]at ho2;cases ho2;rw[hc]at hc2;exact absurd hc2 (by decide)
 |true=>
  obtain⟨o,ho,hc⟩:=hl rfl;rcases x with⟨a,⟨o2,ho2,hc2,_⟩⟩ |⟨a,b⟩
  ·rw[ho]at ho2;cases ho2;rw[hc]at hc2;exact absurd hc2 (by decide)
  ·exact a
def um{els:List Expr}{x1}(tp:Bool)(st:Int)(l e it:Addr) :
  vN P w K (.Tuple els x1 tpos) (Ite tp K st l) [e,it] e (fun i h=>(∃old,IsEnum h e it (st+i) old)/\BY tp h it l i) where
 mem:=by simp
 obj:=fun i h st b hb=>by
  obtain⟨⟨old,he⟩,ha⟩:=st;simp only[mem_cons,not_mem_nil,or_false]at hb;rcases hb with rfl|rfl
  ·exact⟨_,he,fun v z=>by cases z⟩
  ·cases tp with
   |false=>obtain⟨o,e,c,d⟩:=id (show h.IsListIter b l i from ha);exact⟨o,e,fun v z=>by rw[d]at z;cases z⟩
   |true=>obtain⟨o,e,c,d⟩:=id (show h.IsTupleIter b l i from ha);exact⟨o,e,fun v z=>by rw[d]at z;cases z⟩
 keep:=fun i h h' st k=>by
  obtain⟨⟨old,he⟩,ha⟩:=st;refine⟨⟨old,k e (by simp) _ he⟩,?_⟩;cases tp with
  |false=>obtain⟨o,e,r⟩:=id (show h.IsListIter it l i from ha);exact⟨o,k it (by simp) o e,r⟩
  |true=>obtain⟨o,e,r⟩:=id (show h.IsTupleIter it l i from ha);exact⟨o,k it (by simp) o e,r⟩
 item:=by
  intro X hP hw hK hc i js s Y H E I hf stt hg;subst hP hw hK;obtain⟨⟨old,he⟩,ha⟩:=stt;obtain⟨xs,x,hq,hx⟩:=hg;obtain⟨its,rv,hi,hli,hen⟩:=B2 I hq ha;obtain⟨hne,hle⟩:=hen e _ old he;obtain⟨u,hu,ru⟩:=rv.get hx;refine AO he hi hne hli hle (x:=u) (by simpa using hu) fun h1 eo in1 tu sz kp=>?_;refine⟨_,rfl,wpAny_letOwnedTupleGo_enum eo fun h2 e2 s2=>?_⟩
  replace s2:SameBut e h1 h2:=s2
  have lte:e<s.heap.objs.size:=lt_size he;have kp2:∀b o,b∉[e,it]->s.heap.get? b=some o->h2.get? b=some o:=fun b o hb q=>by simp only[mem_cons,not_mem_nil,or_false,not_or]at hb;exact s2.extBut b o hb.1 (kp b o hb.1 hb.2 q)
  have tu2:h2.get? s.heap.objs.size=some {cls:=.type "tuple",data:=.seq #[.int (st+i) s.toks,u]}:=s2.extBut _ _ (Nat.ne_of_gt lte) tu;refine⟨.ref s.heap.objs.size,upd H s.heap.objs.size (.tup [.int (st+i),x]),(nX (h':=h2) (t':=s.toks+1) (vs:=[.int (st+i),x]) I hf kp2 (Nat.le_refl _) ⟨by rw[sizeLine_eq];simp,[.int (st+i) s.toks,u],.cons ⟨_,rfl⟩ (.cons ru .nil),⟨_,tu2,rfl,_,rfl⟩⟩ :),rfl,⟨_,x,I.hok.fresh (Nat.le_refl _),rfl,rfl,fun ys hy=>by rw[Cz I hy hq];exact hx⟩,⟨⟨u,?_⟩,?_⟩,fun b hb=>?_⟩
  ·have:st+((i+1:Nat):Int)=st+i+1:=by omega
   rw[this];exact e2
  ·have in2:=in1.at (fun o q=>s2.extBut it o hne.symm q) fun o q=>s2.extBut l o hle q;refine Hw in2 (fun z=>?_) fun z=>?_
   ·subst z;obtain⟨_,_,p,_⟩:=I.tuple hq;obtain⟨o,ho,hc,_⟩:=id (show s.heap.IsTuple l _ from p);exact⟨o,kp2 l o (by simp[hle,hli]) ho,hc⟩
   ·subst z;obtain⟨_,_,p,_⟩:=I.list hq;obtain⟨o,ho,hc,_⟩:=id p.isList;exact⟨o,kp2 l o (by simp[hle,hli]) ho,hc⟩
  ·have:b<s.heap.objs.size:=by
    simp only[mem_cons,not_mem_nil,or_false]at hb;rcases hb with rfl|rfl
    ·exact lte
    ·obtain⟨o,ho,_⟩:=hi.obj;exact lt_size ho
   rw[aJ (Nat.ne_of_lt this)];exact(hf b hb).1
 done:=by intro X hP hw hK hc i js s Y H E I hf stt hg;subst hP hw hK;obtain⟨⟨old,he⟩,ha⟩:=stt;obtain⟨xs,hq,hx⟩:=hg;obtain⟨its,rv,hi,hli,hen⟩:=B2 I hq ha;obtain⟨f0,f1,f2,f3,f4,f5⟩:=hf it (by simp);have hl:=rv.length;exact C2 (I.ok.hd hc) he hi (by simp;omega) fun h' eb=>⟨rfl,I.turned (t':=s.toks) (fun b o hb e=>eb b o hb e) f0 f1 f3 f4 f5⟩
 self:=fun _ _ _ _ _ st h=>by obtain⟨⟨old,he⟩,_⟩:=st;exact wpAny_pyIter_enum he h
def pD{M:Model}{A:Around}{E:JD}{s:Shared}{env:Env}{Ty:String}{bU:List Expr}{kws:List Keyword}{Q:JD}
  (h:wpAny M A (spliced (backTo pos (starEach (e::bU) env))) (fun vs s1=>wpAny M A (evalAll ((backToKw pos (keywordEach kws env)).map (·.2))) (fun ks s2=>wpAny M A (call (.type Ty) vs (((backToKw pos (keywordEach kws env)).filterMap (·.1)).zip ks)) Q E s2) E s1) E s)
  (hall:(backToKw pos (keywordEach kws env)).all (·.1.isSome)=true:=by rfl) (hkw:(backToKw pos (keywordEach kws env)).any (·.1.isNone)=false:=by rfl)
  (he:starEach (e::bU) env=(false,eval e env)::starEach bU env:=by rfl) (hpl:(backTo pos (starEach (e::bU) env)).any (·.1)=false:=by rfl) :
  wpAny M A (callWith pos (.type Ty) [] (backTo pos (starEach (e::bU) env)) (backToKw pos (keywordEach kws env))) Q E s:=by
 unfold callWith;refine wpAny_bind (wpAny_holding (wpAny_mono (evalArgs_kw2 (Q:=fun a s1=>wpAny M A (call (.type Ty) ([]++ a.pos) a.kw) Q E s1) hall h he) (fun a s1 h1=>wpAny_bind (wpAny_standAt ?_)) fun _ _ x=>x));simp only[hpl,hkw,Bool.or_false];exact wpAny_bind (wpAny_pure (wpAny_bind (wpAny_mono h1 (fun r s2 hr=>wpAny_bind (wpAny_holding (wpAny_point (wpAny_pure hr)))) fun _ _ x=>x)))
def BS:bootBuiltins "enumerate"=some (.type "enumerate"):=by decide +kernel
abbrev enE(l:Expr)(p pos kp cp:Pos)(j:Nat):Expr:=.Call (.Name "enumerate" p) [l] [⟨some "start",.Constant (.int 1) j cp,kp⟩] pos
def tj{x1}(hg:Gl X "enumerate")(hm:X.mg "enumerate"=none)(hl:PE X l tl)(hs:starEach [l] X.env=[(false,eval l X.env)]:=by rfl) :
  PI X (.Tuple els x1 tpos) (enE l p pos kp cp j) (fun Y H R=>tl Y H fun x H1=>∃a tp xs,[x]=[V.ref a]/\Sq tp X.K H1 a xs/\R (Ite tp X.K 1 a) H1):=by
 intro js s Y H R I h;refine wpAny_Call_Name_kw (gG I hg hm BS ?_ (by decide) (by decide));refine pD ?_ rfl rfl hs (by rw[hs];rfl);refine thn (cR (te:=tl) hl fT (by rw[hs];rfl) pos js s Y H (fun vs H1=>∃a tp xs,vs=[.ref a]/\Sq tp X.K H1 a xs/\R (Ite tp X.K 1 a) H1) I h) fun us s1 hz1=>?_;obtain⟨vs,H1,I1,r1,a,tp,xs,ev,hq,q⟩:=hz1;subst ev;obtain⟨u,rfl,rx⟩:=d4 r1;cases rx;refine thn (s_ (nm:=some "start") (kpos:=kp) (wJ (i:=1) (j:=j) (pos:=cp)) wB pos js s1 Y H1 (fun zs H2=>zs=[.int 1]/\H2=H1) I1 ⟨rfl,rfl⟩) fun ws s2 hz1=>?_;obtain⟨zs,H2,I2,r2,ez,eh⟩:=hz1;subst ez;rw[eh]at I2;clear eh;obtain⟨u2,rfl,rx2⟩:=d4 r2;obtain⟨t,rfl⟩:=rx2;have hI:∃n,zW n a s2/\∀h',h'.get? s2.heap.objs.size=some (itO n a)->BY tp h' s2.heap.objs.size a 0:=by
  cases tp with
  |false=>obtain⟨its,rv,pl,_⟩:=I2.list hq;exact⟨"list_iterator",fun _ _ _ _ _ q=>wpAny_pyIter_list pl.isList q,fun h' e=>⟨_,e,rfl,rfl⟩⟩
  |true=>obtain⟨its,rv,pl,_⟩:=I2.tuple hq;exact⟨"tuple_iterator",fun _ _ _ _ _ q=>wpAny_pyIter_tuple (show s2.heap.IsTuple a its.toArray from pl) q,fun h' e=>⟨_,e,rfl,rfl⟩⟩
 obtain⟨n,hI,hA⟩:=hI;have hz:(s2.heap.push (itO n a)).objs.size=s2.heap.objs.size+1:=size_push ..
 have he:((s2.heap.push (itO n a)).push (enO s2.heap.objs.size 1)).get? (s2.heap.objs.size+1)=some (enO s2.heap.objs.size 1):=by have:=get?_push_size (s2.heap.push (itO n a)) (o:=enO s2.heap.objs.size 1) rfl;rw[hz]at this;exact this
 refine EV hI (wpAny_pyIter_enum (i:=1) (old:=.none) he ?_);refine⟨s2.heap.objs.size+1,[s2.heap.objs.size+1,s2.heap.objs.size],_,_,H1,rfl,I2.kept (t':=s2.toks) fun b o e=>get?_push_of_some _ (get?_push_of_some _ e),um tp 1 a _ _,⟨⟨.none,by simpa using he⟩,hA _ (get?_push_of_some _ (get?_push_size _ rfl))⟩,fun b hb=>?_,q⟩;simp only[mem_cons,not_mem_nil,or_false]at hb;rcases hb with rfl|rfl
 ·exact I2.fpOk (le_succ _) (I2.hok.fresh (le_succ _))
 ·exact I2.fpOk (Nat.le_refl _) (I2.hok.fresh (Nat.le_refl _))
end
def enP(k:Int):JQ->JQ
 | []=>[]
 |x::xs=>.tup [.int k,x]::enP (k+1) xs
def lh:∀(k:Int) (xs:JQ) (i:Nat),(enP k xs)[i]?=(xs[i]?).map fun x=>.tup [.int (k+i),x]
 |_,[],i|k,x::xs,0=>by simp[enP]
 |k,x::xs,i+1=>by simp only[enP,getElem?_cons_succ,lh (k+1) xs i];congr 1;funext y;congr 3;omega
def lf:∀(k:Int) (xs:JQ),(enP k xs).length=xs.length
 |_,[]=>rfl
 |k,_::xs=>by simp[enP,lf (k+1) xs]
def u_(m:ME):MI:=fun env=>(m env).bind fun x=>match x with
 |.lst f xs=>if !f.JX&&dI xs then .ok (enP 1 xs)else .stuck
 |.tup xs=>if dI xs then .ok (enP 1 xs)else .stuck
 |_=>.stuck
def Ba(m:ME):MI:=fun env=>(m env).bind fun x=>match aM x with
 |some xs=>.ok (enP 1 xs)
 |none=>.stuck
section
variable{X:Cx}{T:Tb}{W:Nat->St->JP}{Z:Zn}{F F1 B L:JH}{H H1:Hp}{Y:St}{env:En}{fp:Nat->JK}
def pU(hp:H2 p=none)(r:Rel T F B L H2 x v f):Rel T F B L (upd H2 p (.tup [.int k,v])) (.tup [.int k,x]) (.ref p) f:=by unfold Rel;refine⟨p,_,rfl,SqT.of bz,?_⟩;have r2:Rel T F B L (upd H2 p (.tup [.int k,v])) x v f:=r.ext (Ext.upd hp) fun _ h=>h;unfold RelL;refine⟨.int k,[v],[],f,rfl,eM,?_,rfl⟩;unfold RelL;exact⟨v,[],f,[],rfl,r2,by unfold RelL;exact⟨rfl,rfl⟩,by simp⟩
def Af{x1}(hK:X.K=T.K)(hg:Gl X "enumerate")(hm:X.mg "enumerate"=none)(he:SE X T W e m)(hs:starEach [e] X.env=[(false,eval e X.env)]:=by rfl) :
  SI X T W (.Tuple els x1 tpos) (enE e p pos kp cp j) (u_ m):=fun js s Y H R I h=>tj hg hm he hs js s Y H R I (by
 obtain⟨Z,F,env,fp,S,q⟩:=h;unfold u_ at q;refine tE.bq S fun x v H1 F1 f1 e1 g1 r1 n1 d1 w1=>?_;rw[e1]at q;simp only[Res.J2]at q;have S1:=S.grow g1;rw[hK];have key:∀(tp:Bool) (a:Addr) (xs:JQ) (vs:JO),RelL T F1 Z.B NoL H1 xs vs []->(∀H2,(∀a o,H1 a=some o->¬Own fp a->H2 a=some o)->Sq tp T.K H2 a vs)->ItR T F1 Z.B (Own fp) H1 (Ite tp T.K 1 a) (enP 1 xs):=by intro tp a xs vs hr hq H2 hk;have hq2:=hq H2 hk;refine⟨fun i x ex=>?_,⟨vs,hq2,by rw[lf,hr.length];exact Nat.le_refl _⟩⟩;rw[lh]at ex;obtain⟨y,ey,rfl⟩:=map_eq_some_iff.mp ex;obtain⟨v,_,ev,_,_⟩:=hr.get ey;refine⟨⟨vs,v,hq2,ev⟩,fun w H3 hy=>?_⟩;obtain⟨p,y',hp,rfl,rfl,hall⟩:=hy;have:=hall vs hq2;rw[ev]at this;cases this;exact⟨Ext.upd hp,pU hp (jq S1.fow S1.bow S1.oow hk hr ey ev)⟩
 cases x with
 |lst f xs=>
  dsimp only at q;by_cases hc:(!f.JX&&dI xs)=true
  ·rw[if_pos hc]at q;rw[and_eq_true]at hc;unfold Rel at r1;obtain⟨a,vs,fp',rfl,hl,hr,hf⟩:=r1;obtain⟨rfl,hr'⟩:=eF hc.2 hr;refine⟨a,false,vs,rfl,hl.sq,q _ H1 F1 g1 (key false a xs vs hr' fun H2 hk=>?_)⟩;have na:f≠.mod->∀o,H1 a=some o->H2 a=some o:=fun hn o ho=>by
    refine hk a o ho ?_;cases f with
    |own=>rintro⟨i,hi⟩;obtain⟨_,o',ho'⟩:=S.dis i a hi;obtain rfl:f1=[a]:=hf;rw[w1 a mem_cons_self]at ho';cases ho'
    |frz=>exact S1.fow a hl.1
    |bor=>exact S1.bow a hl.1
    |lnt=>exact absurd hc.1 (by decide)
    |mod=>exact absurd rfl hn
   show SqL T.K H2 a vs;by_cases hn:f=.mod
   ·subst hn;exact .inr hl
   ·exact .inl (Rd.tr (na hn) (hl.rd hn))
  ·rw[if_neg hc]at q;exact q.elim
 |tup xs=>
  dsimp only at q;by_cases hc:dI xs=true
  ·rw[if_pos hc]at q;unfold Rel at r1;obtain⟨a,vs,rfl,hl,hr⟩:=r1;obtain⟨rfl,hr'⟩:=eF hc hr;refine⟨a,true,vs,rfl,hl,q _ H1 F1 g1 (key true a xs vs hr' fun H2 hk=>?_)⟩;exact SqT.tr (fun o ho hfx=>hk a o ho fun z=>by
    have:=S1.oow a o z ho;cases o with
    |lst _|ins _ _ _=>exact hfx
    |_=>exact this) hl
  ·rw[if_neg hc]at q;exact q.elim
 |_=>exact q.elim)
def v8{x1}(hK:X.K=T.K)(hg:Gl X "enumerate")(hm:X.mg "enumerate"=none)(he:SE X T W e m)(hs:starEach [e] X.env=[(false,eval e X.env)]:=by rfl) :
  SIc X T W (.Tuple els x1 tpos) (enE e p pos kp cp j) (Ba m):=fun js s Y H R I h=>tj hg hm he hs js s Y H R I (by
 obtain⟨Z,F,env,fp,S,q⟩:=h;unfold Ba at q;refine tE.bq S fun x v H1 F1 f1 e1 g1 r1 n1 d1 w1=>?_;rw[e1]at q;simp only[Res.J2]at q;cases es:aM x with
 |none=>rw[es]at q;exact q.elim
 |some xs=>
  rw[es]at q;obtain⟨a,vs,f',rfl,hs,hr,_⟩:=r1.seq es;rw[hK];have key:∀(tp:Bool),Sq tp T.K H1 a vs->(∀H2,Ext H1 H2->Sq tp T.K H2 a vs)->ItC T F1 Z.B (Own fp) H1 (Ite tp T.K 1 a) (enP 1 xs):=by intro tp _ hq H2 hx;have hq2:=hq H2 hx;refine⟨fun i x ex=>?_,⟨vs,hq2,by rw[lf,hr.length];exact Nat.le_refl _⟩⟩;rw[lh]at ex;obtain⟨y,ey,rfl⟩:=map_eq_some_iff.mp ex;obtain⟨v,f,ev,rv,_⟩:=hr.get ey;refine⟨⟨vs,v,hq2,ev⟩,fun w H3 hy=>?_⟩;obtain⟨p,y',hp,rfl,rfl,hall⟩:=hy;have:=hall vs hq2;rw[ev]at this;cases this;exact⟨Ext.upd hp,f,fun b hb=>rv.there b hb,pU hp (rv.ext hx fun _ h=>h)⟩
  rcases hs with hs|hs
  ·refine⟨a,false,vs,rfl,hs,q _ H1 F1 g1 (key false hs fun H2 hx=>?_)⟩;rcases hs with z|z
   ·exact .inl (Rd.tr (fun o q=>hx a o q) z)
   ·exact .inr z
  ·exact⟨a,true,vs,rfl,hs,q _ H1 F1 g1 (key true hs fun H2 hx=>SqT.tr (fun o q _=>hx a o q) hs)⟩)
end
open AutoSeq1 (wpAny_loadPart')
section
variable{prog:Program}{w:World}{A:Around}{E:JD}{s:Shared}
abbrev zTI(n:Addr):Obj:={cls:=.type "tuple",data:=.seq #[.ref n,.ref (n+1)]}
abbrev zTO:Obj:={cls:=.type "tuple",data:=.seq #[.none,.none]}
abbrev zO(n:Addr):Obj:={cls:=.type "zip",data:=.fields #[.none,.bool false,.bool false,.ref (n+2),.ref (n+3)]}
abbrev B1(h:Heap)(l1 l2:Addr):Heap:=((((h.push (itO "list_iterator" l1)).push (itO "list_iterator" l2)).push (zTI h.objs.size)).push zTO).push (zO h.objs.size)
def F_(hl:typeLookup (.type T) "__init__"=pure (some (.builtin "object.__init__")))(hm:Bind.madeBy (.type T)=pure (some nI))(hne:(some nI != some "object.__new__")=true) :
  Meets (Builtin.«object.__init__» ⟨[self,a,b],[]⟩) (fun _ R s=>s.TypeIs self T/\R (.ok (.ret .none)) s):=by
 refine Meets.of_wp fun pr w A R s0 hs=>?_;obtain⟨hT,hq⟩:=hs
 repeat (any_goals (first|assumption|wp_step|fail))
 exact⟨_,rfl,hq⟩
def IF(l1 l2:Addr)(xs ys:JN) :
  Meets (Builtin.«zip.__new__» ⟨[.type "zip",.ref l1,.ref l2],[]⟩) (fun _ R s=>s.heap.IsList l1 xs/\s.heap.IsList l2 ys/\R (.ok (.ret (.ref (s.heap.objs.size+4)))) {s with heap:=B1 s.heap l1 l2}):=
 .of_wp fun pr w A R s0 h=>by
  obtain⟨hp,g,d,tk,os⟩:=s0;obtain⟨h1,h2,h⟩:=h;have hsub:=sub_zip;have h2':(hp.push (itO "list_iterator" l1)).IsList l2 ys:=by obtain⟨o,e,r⟩:=h2;exact⟨o,get?_push_of_some _ e,r⟩
  have hz1:(hp.push (itO "list_iterator" l1)).objs.size=hp.objs.size+1:=size_push ..
  have hJ1:∀{Q:JD}{E:JD},Q (.ref hp.objs.size) ⟨hp.push (itO "list_iterator" l1),g,d,tk,os⟩->wpAny (model pr w) A.in1 (pyIter (.ref l1)) Q E ⟨hp,g,d,tk,os⟩:=fun {Q E} q=>wpAny_pyIter_list h1 q;have hJ2:∀{Q:JD}{E:JD},Q (.ref (hp.push (itO "list_iterator" l1)).objs.size) ⟨(hp.push (itO "list_iterator" l1)).push (itO "list_iterator" l2),g,d,tk,os⟩->wpAny (model pr w) A.in1 (pyIter (.ref l2)) Q E ⟨hp.push (itO "list_iterator" l1),g,d,tk,os⟩:=fun {Q E} q=>wpAny_pyIter_list h2' q
  wp_walk using hJ1,hJ2
  refine⟨_,rfl,?_⟩;simp only[size_push];exact h
def BQ(h1:s.heap.IsList l1 xs)(h2:s.heap.IsList l2 ys)(h:Q (.ref (s.heap.objs.size+4)) {s with heap:=B1 s.heap l1 l2}) :
  wpAny (model prog w) A (call (.type "zip") [.ref l1,.ref l2] []) Q E s:=by
 have hz:((((s.heap.push (itO "list_iterator" l1)).push (itO "list_iterator" l2)).push (zTI s.heap.objs.size)).push zTO).objs.size=s.heap.objs.size+4:=by simp only[size_push]
 refine oi (Q1:=fun ob s1=>s1.TypeIs ob "zip" /\ Q ob s1) F.called_zip (F.typeCall_zip_2 _ _) (F.newCall_zip_2 _ _) F.entry_zip_new F.entry_object_init (IF l1 l2 xs ys) ⟨h1,h2,?_⟩ fun ob s1 hq=>⟨hq.1,?_,_,F_ F.called_zip.init.lookup F.called_zip.made (by decide),hq.1,rfl,hq.2⟩
 ·have:=get?_push_size ((((s.heap.push (itO "list_iterator" l1)).push (itO "list_iterator" l2)).push (zTI s.heap.objs.size)).push zTO) (o:=zO s.heap.objs.size) rfl;rw[hz]at this;exact⟨⟨_,this,rfl⟩,h⟩
 ·exact F.args_object_init_3 _ _ _
end
section
variable{X:Cx}{T:Tb}{W:Nat->St->JP}{Z:Zn}{F F1 B L:JH}{H H1:Hp}{Y:St}{env:En}{js:JG}{s:Shared}
def vk{fp:JK}(I:L2.Inv X js Y H s)(hf:∀b∈fp,mQ X js H b)(k:∀b o,b∉fp->s.heap.get? b=some o->h'.get? b=some o) :
  L2.Inv X js Y H {s with heap:=h',toks:=t'}:=by
 have nit:∀b u,H b=some u->b∉fp:=fun b u e z=>by rw[(hf b z).1]at e;cases e
 refine I.step (g':=s.gens) (d':=s.drawn) (ch:=fp) (fun b hb=>?_) (fun b o _ _ hc e _=>k b o hc e) (fun b o _ _ hc e _=>⟨o.slots,k b o hc e⟩) (fun _ _ _ _ n=>n) (fun b o hc e=>⟨o,k b o hc e⟩)
  (fun _ _ e=>e) (fun _ _ _ e=>e) (fun b ps e=>⟨#[],by rw[e];simp⟩) (fun m hm=>?_) (fun b u e=>?_) I.bare
 ·obtain⟨_,q1,_,q3,q4,q5⟩:=hf b hb;exact⟨q3,q1,q4,q5⟩
 ·obtain⟨o,es,ep,ho,r⟩:=hm;exact⟨o,es,ep,k _ o (fun z=>(hf _ z).2.1 rfl) ho,r⟩
 ·refine(I.hok b u e).stay (fun c v hc q=>k c v ?_ q) (fun _ q=>q) fun _ _ _ q=>q;rcases hc with z|z
  ·rw[z];exact nit b u e
  ·exact nit c _ z
def Itz(K:PySem.W.Frag)(l1 l2:Addr):It:=
  ⟨fun i H=>∃ xs ys x y,SqL K H l1 xs/\SqL K H l2 ys/\xs[i]?=some x/\ys[i]?=some y,
   fun i H v H'=>∃p x y,H p=none/\v=.ref p/\H'=upd H p (.tup [x,y])/\(∀xs,SqL K H l1 xs->xs[i]?=some x)/\∀ys,SqL K H l2 ys->ys[i]?=some y,
   fun i H=>∃xs ys,SqL K H l1 xs/\SqL K H l2 ys/\(xs.length<=i\/ys.length<=i)⟩
def jQ{h h':Heap}{it l:Addr}{i:Nat}(a:h.IsListIter it l i)(k:∀o,h.get? it=some o->h'.get? it=some o):h'.IsListIter it l i:=by obtain⟨o,e,r⟩:=a;exact⟨o,k o e,r⟩
def vV{P:Program}{w:World}{K:PySem.W.Frag}{els:List Expr}{x1}(l1 l2 z ti to i1 i2:Addr)(D:ZipApart z ti to i1 i2 l1 l2) :
  vN P w K (.Tuple els x1 tpos) (Itz K l1 l2) [z,ti,to,i1,i2] z (fun i h=>IsZip h z ti to .none/\IsPair h ti (.ref i1) (.ref i2)/\(∃a b,IsPair h to a b)/\h.IsListIter i1 l1 i/\h.IsListIter i2 l2 i) where
 mem:=by simp
 obj:=fun i h st b hb=>by
  obtain⟨hz,ht,⟨a',b',ho⟩,h1,h2⟩:=st;simp only[mem_cons,not_mem_nil,or_false]at hb;rcases hb with rfl|rfl|rfl|rfl|rfl
  ·exact⟨_,hz,fun v z=>by cases z⟩
  ·exact⟨_,ht,fun v z=>by cases z⟩
  ·exact⟨_,ho,fun v z=>by cases z⟩
  ·obtain⟨o,e,c,d⟩:=id h1;exact⟨o,e,fun v z=>by rw[d]at z;cases z⟩
  ·obtain⟨o,e,c,d⟩:=id h2;exact⟨o,e,fun v z=>by rw[d]at z;cases z⟩
 keep:=fun i h h' st k=>by obtain⟨hz,ht,⟨a',b',ho⟩,h1,h2⟩:=st;exact⟨k z (by simp) _ hz,k ti (by simp) _ ht,⟨a',b',k to (by simp) _ ho⟩,jQ h1 (k i1 (by simp)),jQ h2 (k i2 (by simp))⟩
 item:=by
  intro X hP hw hK hc i js s Y H E I hf stt hg;subst hP hw hK;obtain⟨hz,ht,⟨a',b',ho⟩,h1,h2⟩:=stt;obtain⟨xs,ys,x,y,hq1,hq2,hx,hy⟩:=hg;obtain⟨its1,rv1,pl1,_⟩:=I.list hq1;obtain⟨its2,rv2,pl2,_⟩:=I.list hq2;obtain⟨u1,hu1,ru1⟩:=rv1.get hx;obtain⟨u2,hu2,ru2⟩:=rv2.get hy;refine wpAny_pyNext_zip_item D hz ht ho h1 h2 pl1.isList pl2.isList (x:=u1) (y:=u2) (by simpa using hu1) (by simpa using hu2) fun h' z' to' i1' i2' pr sz kp=>?_;refine⟨_,rfl,wpAny_letOwnedTupleGo_zip z' fun h3 z3 s3=>?_⟩
  replace s3:SameBut z h' h3:=s3
  have ltz:z<s.heap.objs.size:=lt_size hz;have kp2:∀b o,b∉[z,ti,to,i1,i2]->s.heap.get? b=some o->h3.get? b=some o:=fun b o hb q=>by simp only[mem_cons,not_mem_nil,or_false,not_or]at hb;exact s3.extBut b o hb.1 (kp b o hb.1 hb.2.2.1 hb.2.2.2.1 hb.2.2.2.2 q)
  have tu2:h3.get? s.heap.objs.size=some {cls:=.type "tuple",data:=.seq #[u1,u2]}:=s3.extBut _ _ (Nat.ne_of_gt ltz) pr;refine⟨.ref s.heap.objs.size,upd H s.heap.objs.size (.tup [x,y]),(nX (h':=h3) (t':=s.toks) (vs:=[x,y]) I hf kp2 (Nat.le_refl _) ⟨by rw[sizeLine_eq];simp,[u1,u2],.cons ru1 (.cons ru2 .nil),⟨_,tu2,rfl,_,rfl⟩⟩ :),rfl,⟨_,x,y,I.hok.fresh (Nat.le_refl _),rfl,rfl,fun zs hz=>by rw[I.list_inj hz hq1];exact hx,fun zs hz=>by rw[I.list_inj hz hq2];exact hy⟩,⟨z3,s3.extBut ti _ D.TIz (kp ti _ D.TIz D.TITO D.TIi1 D.TIi2 ht),⟨_,_,s3.extBut to _ D.TOz to'⟩,jQ i1' fun o q=>s3.extBut i1 o D.i1z q,jQ i2' fun o q=>s3.extBut i2 o D.i2z q⟩,fun b hb=>?_⟩;have:b<s.heap.objs.size:=by
   simp only[mem_cons,not_mem_nil,or_false]at hb;rcases hb with rfl|rfl|rfl|rfl|rfl
   ·exact ltz
   ·exact lt_size ht
   ·exact lt_size ho
   ·obtain⟨o,e,_⟩:=id h1;exact lt_size e
   ·obtain⟨o,e,_⟩:=id h2;exact lt_size e
  rw[aJ (Nat.ne_of_lt this)];exact(hf b hb).1
 done:=by
  intro X hP hw hK hc i js s Y H E I hf stt hg;subst hP hw hK;obtain⟨hz,ht,⟨a',b',ho⟩,h1,h2⟩:=stt;obtain⟨xs,ys,hq1,hq2,hx⟩:=hg;obtain⟨its1,rv1,pl1,_⟩:=I.list hq1;obtain⟨its2,rv2,pl2,_⟩:=I.list hq2;have l1':=rv1.length;have l2':=rv2.length;refine wpAny_pyNext_zip_end (I.ok.hd hc) D hz ht ho h1 h2 pl1.isList pl2.isList (by simp;omega) fun h' kp=>⟨rfl,vk (t':=s.toks) I hf fun b o hb q=>?_⟩
  grind
 self:=fun _ _ _ _ _ st h=>wpAny_pyIter_zip st.1 h
def E0:bootBuiltins "zip"=some (.type "zip"):=by decide +kernel
def C3{x1}(hg:Gl X "zip")(hm:X.mg "zip"=none)(ha:PA X [a,b] ta)(hs:starEach [a,b] X.env=[(false,eval a X.env),(false,eval b X.env)]:=by rfl)(hs2:starEach [b] X.env=[(false,eval b X.env)]:=by rfl) :
  PI X (.Tuple els x1 tpos) (.Call (.Name "zip" p) [a,b] [] pos) (fun Y H R=>ta Y H fun vs H1=>∃l1 l2 xs ys,vs=[V.ref l1,V.ref l2]/\SqL X.K H1 l1 xs/\SqL X.K H1 l2 ys/\R (Itz X.K l1 l2) H1):=by
 intro js s Y H R I h;refine PyProof.Rows.Call_ (gG I hg hm E0 (PyProof.Rows.callWith_type1 (thn (ha pos js s Y H _ I h) fun us s1 zz=>?_) (by rw[hs,hs2]) (by rw[hs2];rfl)));obtain⟨vs,H1,I1,r1,q1⟩:=zz;obtain⟨l1,l2,xs,ys,e,hq1,hq2,q⟩:=q1;subst e;cases r1 with
 |cons r rr=>
  cases rr with
  |cons r' rr=>
   cases rr;cases r;cases r';obtain⟨its1,rv1,pl1,_⟩:=I1.list hq1;obtain⟨its2,rv2,pl2,_⟩:=I1.list hq2;have hl1:l1<s1.heap.objs.size:=by obtain⟨o,e,_⟩:=id pl1.isList;exact lt_size e
   have hl2:l2<s1.heap.objs.size:=by obtain⟨o,e,_⟩:=id pl2.isList;exact lt_size e
   have z1:(s1.heap.push (itO "list_iterator" l1)).objs.size=s1.heap.objs.size+1:=size_push ..
   have z2:((s1.heap.push (itO "list_iterator" l1)).push (itO "list_iterator" l2)).objs.size=s1.heap.objs.size+2:=by simp only[size_push]
   have z3:(((s1.heap.push (itO "list_iterator" l1)).push (itO "list_iterator" l2)).push (zTI s1.heap.objs.size)).objs.size=s1.heap.objs.size+3:=by simp only[size_push]
   have z4:((((s1.heap.push (itO "list_iterator" l1)).push (itO "list_iterator" l2)).push (zTI s1.heap.objs.size)).push zTO).objs.size=s1.heap.objs.size+4:=by simp only[size_push]
   have e4:=get?_push_size ((((s1.heap.push (itO "list_iterator" l1)).push (itO "list_iterator" l2)).push (zTI s1.heap.objs.size)).push zTO) (o:=zO s1.heap.objs.size) rfl;have e3:=get?_push_size (((s1.heap.push (itO "list_iterator" l1)).push (itO "list_iterator" l2)).push (zTI s1.heap.objs.size)) (o:=zTO) rfl;have e2:=get?_push_size ((s1.heap.push (itO "list_iterator" l1)).push (itO "list_iterator" l2)) (o:=zTI s1.heap.objs.size) rfl;have e1:=get?_push_size (s1.heap.push (itO "list_iterator" l1)) (o:=itO "list_iterator" l2) rfl;have e0:=get?_push_size s1.heap (o:=itO "list_iterator" l1) rfl;rw[z4]at e4;rw[z3]at e3;rw[z2]at e2;rw[z1]at e1;refine BQ pl1.isList pl2.isList (wpAny_pyIter_zip (f0:=.none) e4 ?_);refine⟨s1.heap.objs.size+4,[s1.heap.objs.size+4,s1.heap.objs.size+2,s1.heap.objs.size+3,s1.heap.objs.size,s1.heap.objs.size+1],_,_,H1,rfl,I1.kept (t':=s1.toks) fun b o e=>get?_push_of_some _ (get?_push_of_some _ (get?_push_of_some _ (get?_push_of_some _ (get?_push_of_some _ e)))),vV l1 l2 _ _ _ _ _ (PyProof.Rows.zipApart_new hl1 hl2),⟨e4,get?_push_of_some _ (get?_push_of_some _ e2),⟨.none,.none,get?_push_of_some _ e3⟩,⟨_,get?_push_of_some _ (get?_push_of_some _ (get?_push_of_some _ (get?_push_of_some _ e0))),rfl,rfl⟩,⟨_,get?_push_of_some _ (get?_push_of_some _ (get?_push_of_some _ e1)),rfl,rfl⟩⟩,fun b hb=>?_,q⟩;simp only[mem_cons,not_mem_nil,or_false]at hb;have hb':s1.heap.objs.size<=b:=by rcases hb with rfl|rfl|rfl|rfl|rfl<;>omega
   exact I1.fpOk hb' (I1.hok.fresh hb')
end
def iD:JQ->JQ->JQ
 |x::xs,y::ys=>.tup [x,y]::iD xs ys
 |_,_=>[]
def pL:∀(xs ys:JQ) (i:Nat) {p:PV},(iD xs ys)[i]?=some p->∃x y,xs[i]?=some x/\ys[i]?=some y/\p=.tup [x,y]
 | [],_,i,_,h|_::_,[],i,_,h=>by simp[iD]at h
 |x::xs,y::ys,0,p,h=>by simp only[iD,getElem?_cons_zero]at h;exact⟨x,y,rfl,rfl,(Option.some.inj h).symm⟩
 |x::xs,y::ys,i+1,p,h=>by simp only[iD,getElem?_cons_succ]at h;exact pL xs ys i h
def pK:∀(xs ys:JQ),(iD xs ys).length=min xs.length ys.length
 | [],_|_::_,[]=>by simp[iD]
 |_::xs,_::ys=>by simp only[iD,length_cons,pK xs ys];omega
def jO(ms:MA):MI:=fun env=>(ms env).bind fun zs=>match zs with
 | [.lst _ xs,.lst _ ys]=>if dI xs&&dI ys then .ok (iD xs ys)else .stuck
 |_=>.stuck
section
variable{X:Cx}{T:Tb}{W:Nat->St->JP}{Z:Zn}{F F1 B L:JH}{H H1:Hp}{Y:St}{env:En}{fp:Nat->JK}
def uE(hp:H2 p=none)(r:Rel T F B L H2 x v [])(r':Rel T F B L H2 y u []):Rel T F B L (upd H2 p (.tup [v,u])) (.tup [x,y]) (.ref p) []:=by unfold Rel;refine⟨p,_,rfl,SqT.of bz,?_⟩;have r1:Rel T F B L (upd H2 p (.tup [v,u])) x v []:=r.ext (Ext.upd hp) fun _ h=>h;have r2:Rel T F B L (upd H2 p (.tup [v,u])) y u []:=r'.ext (Ext.upd hp) fun _ h=>h;unfold RelL;refine⟨v,[u],[],[],rfl,r1,?_,rfl⟩;unfold RelL;exact⟨u,[],[],[],rfl,r2,by unfold RelL;exact⟨rfl,rfl⟩,by simp⟩
def tV{xs:JQ}{vs:JO}{i:Nat}{x:PV}(h:RelL T F B L H xs vs [])(e:xs[i]?=some x):∃v,vs[i]?=some v/\Rel T F B L H x v []:=by obtain⟨v,f,ev,rv,sl⟩:=h.get e;have:f=[]:=List.eq_nil_of_sublist_nil sl;subst this;exact⟨v,ev,rv⟩
def oE{els:List Expr}{x1}(hK:X.K=T.K)(hg:Gl X "zip")(hm:X.mg "zip"=none)(ha:SA X T W [a,b] ms)(hs:starEach [a,b] X.env=[(false,eval a X.env),(false,eval b X.env)]:=by rfl)(hs2:starEach [b] X.env=[(false,eval b X.env)]:=by rfl) :
  SIc X T W (.Tuple els x1 tpos) (.Call (.Name "zip" p) [a,b] [] pos) (jO ms):=fun js s Y H R I h=>C3 hg hm ha hs hs2 js s Y H R I (by
 obtain⟨Z,F,env,fp,S,q⟩:=h;unfold jO at q;refine tA.bq S fun zs vs H1 F1 f1 e1 g1 r1 n1 d1 w1=>?_;rw[e1]at q;simp only[Res.J2]at q;split at q
 ·rename_i f xs g ys
  split at q
  ·rename_i hc
   rw[and_eq_true]at hc;unfold RelL at r1;obtain⟨v1,ws,f2,f3,rfl,ra,rb,_⟩:=r1;obtain⟨v2,rfl,rc⟩:=rb.one;unfold Rel at ra rc;obtain⟨a1,us,fp1,rfl,hl1,hr1,_⟩:=ra;obtain⟨a2,ws,fp2,rfl,hl2,hr2,_⟩:=rc;obtain⟨rfl,_⟩:=eF hc.1 hr1;obtain⟨rfl,_⟩:=eF hc.2 hr2;rw[hK];refine⟨a1,a2,us,ws,rfl,hl1.sq,hl2.sq,q _ H1 F1 g1 fun H2 hx=>?_⟩;have up:∀{a:Addr}{us:JO},SqL T.K H1 a us->SqL T.K H2 a us:=fun {a us} hs=>by
    rcases hs with z|z
    ·exact .inl (Rd.tr (fun o q=>hx a o q) z)
    ·exact .inr z
   have s1:=up hl1.sq;have s2:=up hl2.sq;have ln1:=hr1.length;have ln2:=hr2.length;refine⟨fun i x ex=>?_,⟨us,ws,s1,s2,by rw[pK];omega⟩⟩;obtain⟨x1,y1,ex1,ey1,rfl⟩:=pL xs ys i ex;obtain⟨v,ev,rv⟩:=tV hr1 ex1;obtain⟨u,eu,ru⟩:=tV hr2 ey1;refine⟨⟨us,ws,v,u,s1,s2,ev,eu⟩,fun w H3 hy=>?_⟩;obtain⟨p,v',u',hp,rfl,rfl,hall1,hall2⟩:=hy;have q1:=hall1 us s1;have q2:=hall2 ws s2;rw[ev]at q1;rw[eu]at q2;cases q1;cases q2;exact⟨Ext.upd hp,[],fun b hb=>(nomatch hb),uE hp (rv.ext hx fun _ h=>h) (ru.ext hx fun _ h=>h)⟩
  ·exact q.elim
 ·exact q.elim)
end
section
variable{X:Cx}{T:Tb}{W:Nat->St->JP}{F B L:JH}{H:Hp}
def uD{α:Type}(k:Nat)(xs:List α):List α:=(replicate k xs).flatten
def RelL.rep(r:RelL T F B L H xs vs []):∀k:Nat,RelL T F B L H (uD k xs) (uD k vs) []
 |0=>gK F B L H
 |k+1=>by have:=RelL.append r (RelL.rep r k);simpa[uD,replicate_succ]using this
end
section
variable{prog:Program}{w:World}{A:Around}{R:Result->Shared->Prop}{ia:Addr}{fps wrs:JK}{len:Nat}{Pv:Nat->Value->Prop}{Sv:Nat->Heap->Prop}
abbrev Aj(xs:JN)(c:Nat):Obj:={cls:=.type "list",dict:=none,data:=.seq xs c,slots:=#[]}
def jP:(toString "min"++toString ".loop":String)= "min.loop":=by decide
def rV(kw:List (Str×Value))(Wk:Walks prog w A.in1 ia fps wrs len Pv Sv)(lt:Nat->Nat->Bool)(hc:CmpOf prog w A.in1 .Lt Pv lt)(best:Addr)(nb:best∉fps) :
  ∀(left j:Nat) (sh:Shared) (u:Value) (cap:Nat),len-(j+1)=left->j+1<=len->Sv (j+1) sh.heap->Pv (argBest lt j) u->sh.heap.get? best=some (Aj #[u,u] cap)->
   (∀v h' tk,Pv (argBest lt (len-1)) v->(∀b o,b∉wrs->b≠best->sh.heap.get? b=some o->h'.get? b=some o)->R (.ok (.ret v)) {sh with heap:=h',toks:=tk})->codeAny (model prog w) A (.builtin "min.loop" ⟨[.ref ia,.none,.ref best],kw⟩) R sh
 |0,j,sh,u,cap,e1,e2,st,pu,ob,fin=>by
  have nw:best∉wrs:=fun z=>nb (Wk.sub _ z);have ej:j+1=len:=by omega
  refine codeAny_builtin F.entry_min_loop ?_;rw[Around.under_plainId F.plain_min_loop _];refine(show wpAny _ A.in1 (seqItems? (.ref best) >>= _) _ _ sh from wpAny_bind (wpAny_seqItems ob rfl ?_));refine(show wpAny _ A.in1 (tryCatch (pyNext (.ref ia)) _ >>= _) _ _ sh from wpAny_bind (wpAny_tryCatch (Wk.done sh _ _ (ej▸st) fun h' tk kp=>?_)));refine(show wpAny _ A.in1 (updateSeq best (fun _=>#[]) >>= _) _ _ _ from wpAny_bind (wpAny_updateSeq (kp best _ nw ob) rfl (wpAny_bind (wpAny_letGo (wpAny_pure ?_)))));exact fin u _ tk (by rw[<- ej];exact pu) fun b o q1 q2 e=>(get?_update_other _ _ (Ne.symm q2)).trans (kp b o q1 e)
 |left+1,j,sh,u,cap,e1,e2,st,pu,ob,fin=>by
  have nw:best∉wrs:=fun z=>nb (Wk.sub _ z);have lj:j+1<len:=by omega
  refine codeAny_builtin F.entry_min_loop ?_;rw[Around.under_plainId F.plain_min_loop _];refine(show wpAny _ A.in1 (seqItems? (.ref best) >>= _) _ _ sh from wpAny_bind (wpAny_seqItems ob rfl ?_));refine(show wpAny _ A.in1 (tryCatch (pyNext (.ref ia)) _ >>= _) _ _ sh from wpAny_bind (wpAny_tryCatch (Wk.item (j+1) sh _ _ lj st fun v h' tk pv st' kp=>?_)));have ob':=kp best _ nw ob;refine(show wpAny _ A.in1 (tryCatch (holding [v,v] (richCompare .Lt v u >>= _)) _ >>= _) _ _ _ from wpAny_bind (wpAny_tryCatch (wpAny_holding (wpAny_bind (hc (j+1) (argBest lt j) v u _ _ _ pv pu (wpAny_bind (wpAny_holding (wpAny_truthy_bool (wpAny_bind (wpAny_letGo (wpAny_pure ?_)))))))))));by_cases yes:lt (j+1) (argBest lt j)=true
  ·rw[yes];simp only[if_true];refine wpAny_bind (wpAny_updateSeq ob' rfl (wpAny_bind (wpAny_letGo ?_)));rw[jP];refine wpAny_pure ⟨plainId_quiet F.plain_min_loop _,rV kw Wk lt hc best nb left (j+1) _ v _ (by omega) lj (Wk.frame _ _ _ st' fun b hb o e=>(get?_update_other _ _ (fun z:best=b=>nb (z▸hb))).trans e) (by simp only[argBest,yes,if_true];exact pv) (get?_update_self _ ob' rfl) fun v' h2 t2 pv' kp2=>?_⟩;exact fin v' h2 t2 pv' fun b o q1 q2 e=>kp2 b o q1 q2 ((get?_update_other _ _ (Ne.symm q2)).trans (kp b o q1 e))
  ·have no:lt (j+1) (argBest lt j)=false:=by simpa using yes
   rw[no];simp only[false_eq_true,if_false];refine wpAny_bind (wpAny_letGo ?_);rw[jP];refine wpAny_pure ⟨plainId_quiet F.plain_min_loop _,rV kw Wk lt hc best nb left (j+1) _ u cap (by omega) lj st' (by simp only[argBest,no,false_eq_true,if_false];exact pu) ob' fun v' h2 t2 pv' kp2=>?_⟩;exact fin v' h2 t2 pv' fun b o q1 q2 e=>kp2 b o q1 q2 (kp b o q1 e)
def A9(kw:List (Str×Value))(Wk:Walks prog w A.in1 ia fps wrs len Pv Sv)(lt:Nat->Nat->Bool)(hc:CmpOf prog w A.in1 .Lt Pv lt)(best:Addr)(nb:best∉fps)(pos:0<len)(st:Sv 0 sh.heap)(ob:sh.heap.get? best=some (Aj #[] cap))
  (fin:∀v h' tk,Pv (argBest lt (len-1)) v->(∀b o,b∉wrs->b≠best->sh.heap.get? b=some o->h'.get? b=some o)->R (.ok (.ret v)) {sh with heap:=h',toks:=tk}):codeAny (model prog w) A (.builtin "min.loop" ⟨[.ref ia,.none,.ref best],kw⟩) R sh:=by
 have nw:best∉wrs:=fun z=>nb (Wk.sub _ z);refine codeAny_builtin F.entry_min_loop ?_;rw[Around.under_plainId F.plain_min_loop _];refine(show wpAny _ A.in1 (seqItems? (.ref best) >>= _) _ _ sh from wpAny_bind (wpAny_seqItems ob rfl ?_));refine(show wpAny _ A.in1 (tryCatch (pyNext (.ref ia)) _ >>= _) _ _ sh from wpAny_bind (wpAny_tryCatch (Wk.item 0 sh _ _ pos st fun v h' tk pv st' kp=>?_)));have ob':=kp best _ nw ob;refine(show wpAny _ A.in1 (updateSeq best (fun _=>#[v,v]) >>= _) _ _ _ from wpAny_bind (wpAny_updateSeq ob' rfl ?_));rw[jP];refine wpAny_pure ⟨plainId_quiet F.plain_min_loop _,rV kw Wk lt hc best nb _ 0 _ v _ rfl pos (Wk.frame _ _ _ st' fun b hb o e=>(get?_update_other _ _ (fun z:best=b=>nb (z▸hb))).trans e) pv (get?_update_self _ ob' rfl) fun v' h2 t2 pv' kp2=>?_⟩;exact fin v' h2 t2 pv' fun b o q1 q2 e=>kp2 b o q1 q2 ((get?_update_other _ _ (Ne.symm q2)).trans (kp b o q1 e))
def D9(Wk:Walks prog w A.in1 ia fps wrs 0 Pv Sv)(best:Addr)(nb:best∉fps)(st:Sv 0 sh.heap)(ob:sh.heap.get? best=some (Aj #[] cap))
  (fin:∀h' tk,(∀b o,b∉wrs->sh.heap.get? b=some o->h'.get? b=some o)->R (.ok (.ret d)) {sh with heap:=h',toks:=tk}):codeAny (model prog w) A (.builtin "min.loop" ⟨[.ref ia,.none,.ref best],[(dn,d)]⟩) R sh:=by
 refine codeAny_builtin F.entry_min_loop ?_;rw[Around.under_plainId F.plain_min_loop _];refine(show wpAny _ A.in1 (seqItems? (.ref best) >>= _) _ _ sh from wpAny_bind (wpAny_seqItems ob rfl ?_));refine(show wpAny _ A.in1 (tryCatch (pyNext (.ref ia)) _ >>= _) _ _ sh from wpAny_bind (wpAny_tryCatch (Wk.done sh _ _ st fun h' tk kp=>?_)));exact wpAny_bind (wpAny_rule (wpAny_pure (fin h' tk kp)))
end
section
variable{prog:Program}{w:World}{A:Around}{E:JD}{s:Shared}
def zS(y d:Value):argsOk "min" ⟨[y],[(Str.ofString "default",d)]⟩:=by
 unfold argsOk
 kernel_rfl
def qH
  (h:wpAny (model prog w) A.in1 (pyIter x) (fun it s2=>∃ ia fps wrs len Pv Sv lt,it=.ref ia/\Walks prog w A.in1 ia fps wrs len Pv Sv/\Sv 0 s2.heap/\(∀ b ∈ fps,b < s2.heap.objs.size)/\CmpOf prog w A.in1 .Lt Pv lt /\
   ∀v h' tk,(len=0/\v=d\/0<len/\Pv (argBest lt (len-1)) v)->(∀b o,b∉wrs->s2.heap.get? b=some o->h'.get? b=some o)->Q v {s2 with heap:=h',toks:=tk}) E s) :
  wpAny (model prog w) A (call (.builtin "min") [x] [(Str.ofString "default",d)]) Q E s:=by
 refine PyProof.Rows.kmk_tree F.kind_min F.plain_min F.entry_min (zS _ _) ?_;refine(show wpAny _ A.in1 (Builtin.Builtins.bindParams "min" ["key","default"] 0 ⟨[],[(Str.ofString "default",d)]⟩ >>= _) _ _ s from wpAny_bind (wpAny_of_eq (a:=[none,some d]) (by kernel_rfl) (wpAny_bind (wpAny_pure (wpAny_bind (wpAny_mono h (fun it s2 q=>?_) fun _ _ e=>e))))));obtain⟨ia,fps,wrs,len,Pv,Sv,lt,rfl,Wk,st,hf,hc,fin⟩:=q;refine wpAny_bind (wpAny_newObj_type ?_);rw[jP];have nb:s2.heap.objs.size∉fps:=fun z=>Nat.lt_irrefl _ (hf _ z);have st':=Wk.frame _ _ (s2.heap.push (Aj #[] 0)) st fun b _ o e=>get?_push_of_some _ e;refine wpAny_pure ⟨plainId_quiet F.plain_min_loop _,?_⟩;by_cases pos:0<len
 ·exact A9 _ Wk lt hc s2.heap.objs.size nb pos st' (get?_push_size _ rfl) fun v h' tk pv kp=>fin v h' tk (.inr ⟨pos,pv⟩) fun b o q e=>kp b o q (Nat.ne_of_lt (lt_size e)) (get?_push_of_some _ e)
 ·have z:len=0:=by omega
  subst z;exact D9 Wk s2.heap.objs.size nb st' (get?_push_size _ rfl) fun h' tk kp=>fin d h' tk (.inl ⟨rfl,rfl⟩) fun b o q e=>kp b o q (get?_push_of_some _ e)
end
section
variable{X:Cx}{T:Tb}{W:Nat->St->JP}{Z:Zn}{F F1 B L:JH}{H H1:Hp}{Y:St}{env:En}{fp:Nat->JK}{js:JG}{s:Shared}
def qG{M:Model}{A:Around}{E:JD}{s:Shared}{env:Env}{id:String}{bU:List Expr}{kws:List Keyword}{Q:JD}
  (h:wpAny M A (spliced (backTo pos (starEach (e::bU) env))) (fun vs s1=>wpAny M A (evalAll ((backToKw pos (keywordEach kws env)).map (·.2))) (fun ks s2=>wpAny M A (call (.builtin id) vs (((backToKw pos (keywordEach kws env)).filterMap (·.1)).zip ks)) Q E s2) E s1) E s)
  (hall:(backToKw pos (keywordEach kws env)).all (·.1.isSome)=true:=by rfl) (hkw:(backToKw pos (keywordEach kws env)).any (·.1.isNone)=false:=by rfl)
  (he:starEach (e::bU) env=(false,eval e env)::starEach bU env:=by rfl) (hpl:(backTo pos (starEach (e::bU) env)).any (·.1)=false:=by rfl) :
  wpAny M A (callWith pos (.builtin id) [] (backTo pos (starEach (e::bU) env)) (backToKw pos (keywordEach kws env))) Q E s:=by
 unfold callWith;refine wpAny_bind (wpAny_holding (wpAny_mono (evalArgs_kw2 (Q:=fun a s1=>wpAny M A (call (.builtin id) ([]++ a.pos) a.kw) Q E s1) hall h he) (fun a s1 h1=>wpAny_bind (wpAny_standAt ?_)) fun _ _ x=>x));simp only[hpl,hkw,Bool.or_false];exact wpAny_bind (wpAny_pure (wpAny_bind (wpAny_mono h1 (fun r s2 hr=>wpAny_bind (wpAny_holding (wpAny_point (wpAny_pure hr)))) fun _ _ x=>x)))
def Dp(vs:JO)(P:V->Prop):Prop:=match vs with
 | [v]=>P v
 |_=>False
def tz(h:Dp vs P):∃v,vs=[v]/\P v:=by
 match vs,h with
 | [v],h=>exact⟨v,rfl,h⟩
def xu(ns:JI):V:=if ns.isEmpty then .non else .int (gE ns)
def wu(K:PySem.W.Frag):V->Hp->VK->Prop:=fun v H Q=>∃p ns,v=.ref p/\(SqL K H p (ns.map V.int)\/ SqT K H p (ns.map V.int))/\Q (xu ns) H
def vH(hc:X.calm=true)(I:L2.Inv X js Y H s)(hq:SqL X.K H p (ns.map V.int)\/ SqT X.K H p (ns.map V.int))(q:Q (xu ns) H):wpAny (model X.prog X.w) X.A (call (.builtin "min") [.ref p] [(Str.ofString "default",.none)]) (EP X js Y Q) X.xe s:=by
 have hh:=I.ok.hd hc;have key:∀{its:JJ},aW (ns.map V.int) its->∀{v:Value}{h':Heap}{tk:Nat},(its.toArray.size=0/\v=.none\/0<its.toArray.size/\its.toArray[argBest (fun i j=>decide (ns.getD i 0<ns.getD j 0)) (its.toArray.size-1)]?=some v)->(∀b o,s.heap.get? b=some o->h'.get? b=some o)->EP X js Y Q v {s with heap:=h',toks:=tk}:=by
  intro its r v h' tk hv k;have hl:its.toArray.size=ns.length:=by have:=r.length;simpa using this.symm
  rw[hl]at hv;rcases hv with⟨h0,rfl⟩ |⟨hn,hv⟩
  ·have e:ns=[]:=List.length_eq_zero_iff.mp h0;subst e;exact⟨.non,H,fu I k,rfl,q⟩
  ·obtain⟨t,rfl⟩:=dU r _ _ hv;rw[qJ hn];have e:xu ns=.int (gE ns):=by
    unfold xu;rw[if_neg];intro z;have:ns=[]:=by simpa using z
    rw[this]at hn;exact absurd hn (by decide)
   rw[e]at q;exact⟨.int _,H,fu I k,⟨t,rfl⟩,q⟩
 rcases hq with hq|hq
 ·obtain⟨its,r,pl,hz⟩:=I.list hq;obtain⟨o,ho,hcl,n,hd⟩:=pl.isList;have hlt:=lt_size ho;refine qH (wpAny_pyIter_list pl.isList ?_);refine⟨_,_,_,_,_,_,_,rfl,Walks.list (A:=X.A.in1) hh _ p (Nat.ne_of_lt hlt) its.toArray,⟨⟨_,get?_push_size _ rfl,rfl,rfl⟩,pl.isList.push _⟩,fun b hb=>?_,CmpOf.ints_lt (fun i=>ns.getD i 0) (dU r),fun v h' tk hP hk=>key r hP (dN hk)⟩;show b <(s.heap.push _).objs.size;rw[size_push];exact iE hlt rfl b hb
 ·obtain⟨its,r,pl,hz⟩:=I.tuple hq;have pt:s.heap.IsTuple p its.toArray:=pl;obtain⟨o,ho,hcl,n,hd⟩:=pl;have hlt:=lt_size ho;refine qH (wpAny_pyIter_tuple pt ?_);refine⟨_,_,_,_,_,_,_,rfl,Walks.tuple (A:=X.A.in1) hh _ p (Nat.ne_of_lt hlt) its.toArray,⟨⟨_,get?_push_size _ rfl,rfl,rfl⟩,pt.push _⟩,fun b hb=>?_,CmpOf.ints_lt (fun i=>ns.getD i 0) (dU r),fun v h' tk hP hk=>key r hP (dN hk)⟩;show b <(s.heap.push _).objs.size;rw[size_push];exact iE hlt rfl b hb
abbrev mdE(e:Expr)(p pos kp cp:Pos)(j:Nat):Expr:=.Call (.Name "min" p) [e] [⟨some "default",.Constant .none j cp,kp⟩] pos
def AS(hc:X.calm=true)(hg:Gl X "min")(hm:X.mg "min"=none)(he:PE X e te)(hs:starEach [e] X.env=[(false,eval e X.env)]:=by rfl):PE X (mdE e p pos kp cp j) (tUn (wu X.K) te):=by intro js s Y H Q I h;refine wpAny_Call_Name_kw (gG I hg hm sG ?_ (by decide) (by decide));refine qG ?_ rfl rfl hs (by rw[hs];rfl);refine thn (cR (te:=te) he fT (by rw[hs];rfl) pos js s Y H (fun vs H1=>Dp vs fun v=>wu X.K v H1 Q) I h) fun us s1 hz1=>?_;obtain⟨vs,H1,I1,r1,q1⟩:=hz1;obtain⟨v,rfl,a,ns,rfl,hq,q⟩:=tz q1;obtain⟨u,rfl,rx⟩:=d4 r1;cases rx;refine thn (s_ (nm:=some "default") (kpos:=kp) (wI (j:=j) (pos:=cp)) wB pos js s1 Y H1 (fun zs H2=>zs=[.non]/\H2=H1) I1 ⟨rfl,rfl⟩) fun ws s2 hz1=>?_;obtain⟨zs,H2,I2,r2,ez,eh⟩:=hz1;subst ez;rw[eh]at I2;clear eh;obtain⟨u2,rfl,rx2⟩:=d4 r2;cases rx2;exact vH hc I2 hq q
def nQ(x:PV):JR:=match aM x with
 | some xs=>(match bR xs with
  |some ns=>.ok (if ns.isEmpty then .non else .int (gE ns))
  |none=>.stuck)
 |none=>.stuck
def xp(hK:X.K=T.K):zU T W nQ (wu X.K):=by
 intro B F L Y H Q F' H' x v fx g rx nf nd new q;unfold nQ at q;cases e:aM x with
 |none=>rw[e]at q;exact q.elim
 |some xs=>
  rw[e]at q;dsimp only at q;cases e2:bR xs with
  |none=>rw[e2]at q;exact q.elim
  |some ns=>
   rw[e2]at q;dsimp only at q;obtain⟨a,us,fx',rfl,hs,hr,_⟩:=rx.seq e;have hu:=cW e2 hr;subst hu;refine⟨a,ns,rfl,by rw[hK];exact hs,q.scal g ?_⟩;unfold xu;split
   ·unfold Rel;exact⟨rfl,rfl⟩
   ·exact eM
def Al(hK:X.K=T.K)(hc:X.calm=true)(hg:Gl X "min")(hm:X.mg "min"=none)(he:SE X T W e m)(hs:starEach [e] X.env=[(false,eval e X.env)]:=by rfl):SE X T W (mdE e p pos kp cp j) (mUn nQ m):=
 PE.wk (AS hc hg hm he hs) fun _ _ _ h=>tE.mir1 (xp hK) h
end
def wO(x y:PV):JR:=match x,y with
 | .tup xs,.tup ys=>(match bR xs,bR ys with
  |some ns,some ms=>.ok (.bl (HT.lexLt ns ms))
  |_,_=>.stuck)
 |_,_=>.stuck
section
variable{X:Cx}{T:Tb}{W:Nat->St->JP}{Z:Zn}{F F1 B L:JH}{H H1:Hp}{Y:St}{env:En}{fp:Nat->JK}{D:Ends}
def A5(hK:X.K=T.K):jw T W wO (Gy X.K):=by
 intro B F L Y H Q F' H' x y v u fx fy gr rx ry _ _ _ q;unfold wO at q;split at q
 case h_2=>exact q.elim
 rename_i xs ys
 split at q
 case h_2=>exact q.elim
 rename_i ns ms e1 e2
 unfold Rel at rx ry;obtain⟨a,vs,rfl,hs,hr⟩:=rx;obtain⟨b,us,rfl,ht,hq⟩:=ry;have z1:=cW e1 hr;have z2:=cW e2 hq;subst z1 z2;exact⟨a,b,ns,ms,rfl,rfl,by rw[hK];exact hs,by rw[hK];exact ht,q.scal gr jk⟩
def Cs(hK:X.K=T.K)(hu:X.A.units+64<cLine)(ha:SE X T W a ma)(hb:SE X T W b mb):ST X T W (.Compare a [.Lt] [b] pos) (aw (mOp wO ma mb)):=gX (Dk (by omega)) (A5 hK) ha hb (ig _)
end
open AutoSeq1 (wpAny_loadPart')
def qw(P:Params):List DictEntry->List (Str×Int)->Prop
 | [],[]=>True
 |e::es,kv::kvs=>(∃t u,e=⟨PyData.keyHash P kv.1,.str kv.1 t,.int kv.2 u⟩)/\qw P es kvs
 |_,_=>False
structure kJ(w:World)(K:PySem.W.Frag)(d:Addr)(kvs:List (Str×Int)):Prop where
 ne:(d==sysModules)=false
 ex:∃(es:List DictEntry) (ep:Nat),K.lookup d=some {cls:=.type "dict",dict:=none,data:=.dict es.toArray ep,slots:=#[]}/\qw w.params es kvs
def look(kvs:List (Str×Int))(k:Str):JM:=(kvs.find? fun p=>p.1==k).map (·.2)
def HW(f:JE)(kvs:List (Str×Int)):Prop:=∀k,match look kvs k with
 |some i=>∃u,f k=some (.int i u)
 |none=>f k=none
def qu:∀{es:List DictEntry}{kvs:List (Str×Int)},qw P es kvs->HW (fun k=>(es.find? fun e=>Value.isStrOf k e.key).map (·.val)) kvs
 | [],[],_=>fun k=>rfl
 | [],_::_,h|_::_,[],h=>h.elim
 |e::es,kv::kvs,h=>fun k=>by
  obtain⟨⟨t,u,rfl⟩,h2⟩:=h;have ih:=qu h2 k;simp only[look,List.find?_cons,Value.isStrOf]at ih ⊢;by_cases q:(kv.1==k)=true
  ·simp only[q,Option.map_some];exact⟨u,rfl⟩
  ·simp only[q];exact ih
def qv:∀{es:List DictEntry}{kvs:List (Str×Int)},qw P es kvs->∀e∈es,∃k t,e.key=.str k t/\e.hash=PyData.keyHash P k
 | [],_,_=>fun e he=>nomatch he
 |_::_,[],h=>h.elim
 |e::es,kv::kvs,h=>fun e' he=>by
  obtain⟨⟨t,u,rfl⟩,h2⟩:=h;rcases mem_cons.mp he with rfl|he
  ·exact⟨kv.1,t,rfl,rfl⟩
  ·exact qv h2 e' he
def kJ.map(hD:kJ w K d kvs)(hI:K.In h):∃f,h.MapOf (strKind prog w) d f/\HW f kvs:=by
 obtain⟨es,ep,hl,he⟩:=hD.ex;refine⟨_,⟨_,es.toArray,ep,hI _ _ hl,⟨rfl,rfl,rfl⟩,rfl,fun e hm=>?_,fun k=>rfl⟩,?_⟩
 ·obtain⟨k,t,h1,h2⟩:=qv he e (by simpa using hm);refine⟨k,?_,h2⟩;rw[h1];show(k==k)=true;simp
 ·intro k;have:=qu he k;simpa[findBy,strKind]using this
section
variable{X:Cx}{T:Tb}{W:Nat->St->JP}{Z:Zn}{F F1 B L:JH}{H H1:Hp}{Y:St}{env:En}{fp:Nat->JK}{d:Addr}{kvs:List (Str×Int)}
def sW(d:Addr)(kvs:List (Str×Int)):R2:=fun x y H Q=>∃k,x=.str k/\y=.ref d/\Q (.bl (!(look kvs k).isSome)) H
def Dh(hD:kJ X.w X.K d kvs):OpR X (compareOp .NotIn) (sW d kvs):=by
 intro js s Y H x y v u Q I rx ry h;obtain⟨k,rfl,rfl,q⟩:=h;obtain⟨t,rfl⟩:=rx;cases ry;obtain⟨f,hm,hf⟩:=hD.map (prog:=X.prog) I.kIn;refine wpAny_notIn_of (knd:=strKind X.prog X.w) (k:=k) (by show(k==k)=true;simp) hD.ne hm ⟨.bl (!(look kvs k).isSome),H,I.tok _,?_,q⟩;have:=hf k;cases e:look kvs k with
 |none=>rw[e]at this;rw[show f k=none from this];rfl
 |some i=>rw[e]at this;obtain⟨u,hu⟩:=this;rw[hu];rfl
def B6(d:Addr)(kvs:List (Str×Int)):R2:=fun x y H Q=>∃k i,x=.ref d/\y=.str k/\look kvs k=some i/\Q (.int i) H
def Bp(hD:kJ X.w X.K d kvs):IxR X (B6 d kvs):=by
 intro value slice js s Y H x y v u Q I rx ry h hs;obtain⟨k,i,rfl,rfl,e,q⟩:=h;cases rx;obtain⟨t,rfl⟩:=ry;obtain⟨f,hm,hf⟩:=hD.map (prog:=X.prog) I.kIn;have:=hf k;rw[e]at this;obtain⟨u,hu⟩:=this;exact PyProof.Rows.subscriptTail_builtinR (x:=.int i u) hm.typeIs PySem.F.slot_dict_getitem.lookup
  (wpAny_getItem_of (knd:=strKind X.prog X.w) (k:=k) (Q:=fun r s'=>r=.int i u/\EP X js Y Q r s') (by show(k==k)=true;simp) hm hu ⟨rfl,.int i,H,I.tok _,⟨u,rfl⟩,q⟩) hs
def kW(kvs:List (Str×Int)):PV->JR
 |.str k=>.ok (.bl (!(look kvs k).isSome))
 |_=>.stuck
def p4(kvs:List (Str×Int)):PV->JR
 | .str k=>(match look kvs k with
  |some i=>.ok (.int i)
  |none=>.stuck)
 |_=>.stuck
def rS:zU T W (kW kvs) (fun x H Q=>sW d kvs x (.ref d) H Q):=by
 intro B F L Y H Q F' H' x v fx g rx nf nd new q;cases x with
 |str k=>unfold Rel at rx;exact⟨k,rx.1,rfl,q.scal g jk⟩
 |_=>exact q.elim
def xt:zU T W (p4 kvs) (fun x H Q=>B6 d kvs (.ref d) x H Q):=by
 intro B F L Y H Q F' H' x v fx g rx nf nd new q;cases x with
 |str k=>
  unfold Rel at rx;unfold p4 at q;dsimp only at q;cases e:look kvs k with
  |none=>rw[e]at q;exact q.elim
  |some i=>rw[e]at q;exact⟨k,i,rfl,rx.1,e,q.scal g eM⟩
 |_=>exact q.elim
def Aq(hg:Gl X x)(hm:X.mg x=some (.ref d))(hD:kJ X.w X.K d kvs)(he:SE X T W e m)(hs:i6 e)(hd:(x ==("__debug__":Str))=false:=by decide):SE X T W (.Subscript (.Name x px) e pos) (mUn (p4 kvs) m):=
 PE.wk (B8 (pos:=pos) (Bp hD) (jJ (v:=.ref d) (pos:=px) hg hm rfl hd) he hs) fun _ _ _ h=>tE.mir1 xt h
def uq(hg:Gl X x)(hm:X.mg x=some (.ref d))(hD:kJ X.w X.K d kvs)(he:SE X T W e m)(hd:(x ==("__debug__":Str))=false:=by decide):ST X T W (.Compare e [.NotIn] [.Name x px] pos) (aw (mUn (kW kvs) m)):=
 PT.wk (sX (pos:=pos) (Dh hD) he (jJ (v:=.ref d) (pos:=px) hg hm rfl hd) rfl) fun Y H Q h=>by obtain⟨Z,F,env,fp,S,q⟩:=tT.test h;exact tE.mir1 rS ⟨Z,F,env,fp,S,q⟩
end
def rZ(i j:Nat):MS:=fun env=>match env[i]?,env[j]? with
 |some (some v),some (some w)=>if i=j then .stuck else .ret (.tup [v,w])
 |_,_=>.stuck
section
variable{X:Cx}{T:Tb}{W:Nat->St->JP}{Z:Zn}{F F1 B L:JH}{H H1:Hp}{Y:St}{env:En}{fp:Nat->JK}{D:Ends}
def v5{x1}(hN:X.N[i]?=some x)(hv:Vis X.env.scope x)(hN2:X.N[j]?=some y)(hv2:Vis X.env.scope y)(hd:(x ==("__debug__":Str))=false:=by decide)(hcd:(x ==("__classdict__":Str))=false:=by decide)(hd2:(y ==("__debug__":Str))=false:=by decide)(hcd2:(y ==("__classdict__":Str))=false:=by decide) :
  SS X T W (.Return (some (.Tuple [.Name x px,.Name y py] x1 tpos)) pos) (rZ i j):=
 PS.wk (rL (pos:=pos) (wG (pos:=tpos) (cR (te:=Cr i) (hZ (pos:=px) hN hv hd hcd) (cR (te:=Cr j) (hZ (pos:=py) hN2 hv2 hd2 hcd2) fT)))) fun D Y H hz1=>by
  obtain⟨Z,F,env,fp,S,q⟩:=hz1;unfold rZ at q;split at q
  case h_2=>exact q.elim
  rename_i pv pw ei ej
  split at q
  case isTrue=>exact q.elim
  rename_i hij
  obtain⟨v,e1,r1⟩:=S.rel i pv ei;obtain⟨w,e2,r2⟩:=S.rel j pw ej;refine⟨v,e1,w,e2,small (by simp),fun p hp=>?_⟩;have g:Gr F H F (upd H p (.tup [v,w])):=Gr.same S.hp.ft (Ext.upd hp);have S2:=S.grow g;obtain⟨v',e1',r1'⟩:=S2.rel i pv ei;obtain⟨w',e2',r2'⟩:=S2.rel j pw ej;rw[e1]at e1';cases e1';rw[e2]at e2';cases e2';refine q F (upd H p (.tup [v,w])) (.ref p) (fp i++fp j) S2.hp ?_ (nodup_append.mpr ⟨S.nd i,S.nd j,fun a ha b hb z=>?_⟩) (fun a ha=>?_) (fun a ha=>?_)
  ·unfold Rel;refine⟨p,_,rfl,SqT.of bz,?_⟩;unfold RelL;refine⟨v,[w],fp i,fp j,rfl,r1',?_,rfl⟩;unfold RelL;exact⟨w,[],fp j,[],rfl,r2',by unfold RelL;exact⟨rfl,rfl⟩,by simp⟩
  ·subst z;exact S.dj i j hij a ha hb
  ·rcases mem_append.mp ha with h|h
   ·exact(S2.dis i a h).1
   ·exact(S2.dis j a h).1
  ·rcases mem_append.mp ha with h|h
   ·exact S.new i a h
   ·exact S.new j a h
end
section
variable{P:Program}{w:World}{mg:JE}{base:Heap}{T:Tb}
def Er(F:Fun T.K x qual st f fd)(S:dF N ps (aH st))
  (body:∀ (cdv:Value) (A:Around) (outer:List Env) (s:Shared) (H:Hp) (E:XK),Ctx (dQ (CXP P w) P w T.K mg base N qual (aH st) f cdv A outer s H E) T (WD T E) k ->
   SSs (dQ (CXP P w) P w T.K mg base N qual (aH st) f cdv A outer s H E) T (WD T E) (bQ st) m):dG P w T.K mg base (CXP P w) (k+1) f fd ps (spM T ps.length (a_ N.length m)):=
 HJ F S fun cdv A outer s H E hr=>body cdv A outer s H E (o_ hr)
def By(F:Fun T.K x qual st f fd)(S:dF N ps (aH st))
  (body:∀ (cdv:Value) (A:Around) (outer:List Env) (s:Shared) (H:Hp) (E:XK),Ctx (dQ (CXP P w) P w T.K mg base N qual (aH st) f cdv A outer s H E) T (WD T E) k ->
   SSs (dQ (CXP P w) P w T.K mg base N qual (aH st) f cdv A outer s H E) T (WD T E) (bQ st) m):dG P w T.K mg base (CXP P w) (k+1) f fd ps (spI T ps.length (iG N.length m)):=
 Es F S fun cdv A outer s H E hr=>body cdv A outer s H E (o_ hr)
end
section
variable{prog:Program}{w:World}{A:Around}{E:JD}{s:Shared}
abbrev emL(c:Nat):Obj:={cls:=.type "list",data:=.seq #[] c}
abbrev fuL(xs:JN)(c:Nat):Obj:={cls:=.type "list",dict:=none,data:=.seq xs c,slots:=#[]}
def xC:typeLookup (.type "list_reverseiterator") "__len__"=pure none:=by rw[typeLookup_type,builtinLookup_eq_fast];kernel_rfl
def Bb:typeLookup (.type "list_reverseiterator") "__length_hint__"=pure (some (.builtin "list_reverseiterator.__length_hint__")):=by rw[typeLookup_type,builtinLookup_eq_fast];kernel_rfl
def B0(items:JN)(i:Nat)(v:Value):Prop:=items[items.size-1-i]?=some v
def EM(hh:A.handled=none)(hS:s.heap.get? S=some (emL c₀))(hit:s.heap.IsRevIter it l ((items.size:Int)-1))(hl:s.heap.IsList l items)(hne:l≠it)(hSi:S≠it)(hSl:S≠l)(hz:items.size<=1000000)
  (hR:∀h' tk acc c,(∀b o,b≠S->b≠it->s.heap.get? b=some o->h'.get? b=some o)->h'.get? S=some (fuL acc c)->ItemsOf (B0 items) acc items.size->R (.ok (.ret .none)) {s with heap:=h',toks:=tk}) :
  wpAny (model prog w) A.in1 (Builtin.List.listExtendWith (.ref S) (.ref it) .none)
   (fun fin s'=>match fin with|.done f=>R (.ok f) s'|.again c'=>c'.quiet=true/\codeAny (model prog w) A c' R s') (fun e s'=>R (.error e) s') s:=by
 have W:=(Walks.listRev (prog:=prog) (w:=w) (A:=A.in1) hh it l hne items).toS;have n1:Builtin.List.listSameRef (.ref S) (.ref it)=false:=by simp[Builtin.List.listSameRef,hSi]
 unfold Builtin.List.listExtendWith;refine wpAny_bind (wpAny_typeOf hit.typeIs ?_);rw[if_neg (by rw[n1];decide)];refine wpAny_bind (wpAny_pyIter_revIter hit (wpAny_bind (wpAny_holding ?_)));unfold Builtin.List.listLengthHint;refine wpAny_bind (wpAny_specialOf hit.typeIs xC ?_);show wpAny _ _ (specialOf (.ref it) (Str.ofString "__length_hint__") >>= _) _ _ s;refine wpAny_bind (wpAny_specialOf hit.typeIs Bb ?_);generalize hid:("list_reverseiterator.__length_hint__":String)=id0
 wp_delta
 rw[show splitId id0=some ("list_reverseiterator","__length_hint__")from by subst hid;decide +kernel];subst hid;refine wpAny_bind (wpAny_isInstance (b:=true) hit.typeIs (by rw[isSubtype_type];kernel_rfl) (wpAny_pure ?_));rw[if_neg (by decide)];refine wpAny_pure ⟨plainId_quiet F.plain_extend_loop _,codeAny_extend_loopS W (by rw[sizeLine_eq];omega) S (by simp[hSi,hSl]) .none items.size 0 s #[] c₀ rfl (zero_le _) ⟨zero_le _,by simpa using hit,hl⟩ hS (ItemsOf.nil _) fun s' acc c hm hS' ha=>?_⟩;rw[Moved.eq_with hm];exact hR s'.heap s'.toks acc c (fun b o h1 h2 e=>hm.heap b o (by simp[h1,h2]) e) hS' ha
def qI(hh:A.handled=none)(hit:s.heap.IsRevIter it l ((items.size:Int)-1))(hl:s.heap.IsList l items)(hne:l≠it)(hz:items.size<=1000000)
  (hQ:∀h' tk acc c,(∀b o,b≠it->s.heap.get? b=some o->h'.get? b=some o)->h'.get? s.heap.objs.size=some (fuL acc c)->ItemsOf (B0 items) acc items.size->Q (.ref s.heap.objs.size) {s with heap:=h',toks:=tk}) :
  wpAny (model prog w) A (call (.type "list") [.ref it]) Q E s:=by
 have lt1:it<s.heap.objs.size:=by obtain⟨o,e,_⟩:=id hit;exact lt_size e
 have lt2:l<s.heap.objs.size:=by obtain⟨o,e,_⟩:=id hl;exact lt_size e
 refine callType_codes (Q₁:=fun ob s1=>ob=.ref s.heap.objs.size/\s1={s with heap:=s.heap.push (emL 0)}) F.called_list (F.typeCall_list_1 _) F.entry_list_init (code_list_new _ ⟨rfl,rfl⟩) fun ob s1 hq=>?_;obtain⟨rfl,rfl⟩:=hq;have hS:(s.heap.push (emL 0)).get? s.heap.objs.size=some (emL 0):=get?_push_size _ rfl;refine⟨⟨_,hS,rfl⟩,F.args_list_init_2 _ _,?_⟩;show wpAny _ A.in1.in1 (Builtin.List.listItems (.ref s.heap.objs.size) >>= fun old=>Builtin.List.listUpdate (.ref s.heap.objs.size) (fun _=>#[]) >>= fun _=>letGo old.toList.reverse >>= fun _=>Builtin.List.listExtendWith (.ref s.heap.objs.size) (.ref it) .none) _ _ _;refine wpAny_bind ?_;unfold Builtin.List.listItems;refine wpAny_bind (wpAny_seqItems hS rfl (wpAny_pure (wpAny_bind ?_)));show wpAny _ A.in1.in1 (updateSeq s.heap.objs.size (fun _=>#[])) _ _ _;refine wpAny_updateSeq hS rfl (wpAny_bind (wpAny_letGo ?_));have hS2:=get?_update_self (Obj.mapSeq (fun _=>(#[]:JN))) hS rfl;have ot:∀b o,b≠s.heap.objs.size->s.heap.get? b=some o->((s.heap.push (emL 0)).update s.heap.objs.size (Obj.mapSeq (fun _=>(#[]:JN)))).get? b=some o:=fun b o hb e=>(get?_update_other _ _ (Ne.symm hb)).trans (get?_push_of_some _ e);refine EM (A:=A.in1) (c₀:=0) hh hS2 (hit.at fun o e=>ot _ o (Nat.ne_of_lt lt1) e) (hl.at fun o e=>ot _ o (Nat.ne_of_lt lt2) e) hne (Ne.symm (Nat.ne_of_lt lt1)) (Ne.symm (Nat.ne_of_lt lt2)) hz fun h' tk acc c kp e1 e2=>?_;exact⟨rfl,hQ h' tk acc c (fun b o hb e=>kp b o (Nat.ne_of_lt (lt_size e)) hb (ot b o (Nat.ne_of_lt (lt_size e)) e)) e1 e2⟩
end
section
variable{X:Cx}{T:Tb}{W:Nat->St->JP}{Z:Zn}{F F1 B L:JH}{H H1:Hp}{Y:St}{env:En}{fp:Nat->JK}{js:JG}{s:Shared}
def rLR(K:PySem.W.Frag):V->Hp->VK->Prop:=fun v H Q=>∃(p:Addr) (ns:JI),v=.ref p/\SqL K H p (ns.map V.int)/\ns.length<=1000000/\∀l,H l=none->Q (.ref l) (upd H l (.lst (ns.reverse.map V.int)))
def E3:bootBuiltins "reversed"=some (.type "reversed"):=by decide +kernel
def vL{ns:JI}{its:JJ}(r:aW (ns.map V.int) its)(ha:ItemsOf (B0 its.toArray) acc its.toArray.size):aW (ns.reverse.map V.int) acc.toList:=by
 have hl:its.length=ns.length:=by simpa using r.length.symm
 have hz:acc.size=ns.length:=by rw[ha.1];simpa using hl
 refine oA _ _ (by simp[hz]) fun i x y e1 e2=>?_;have hi:i<ns.length:=by have:=(List.getElem?_eq_some_iff.mp e1).1;simpa using this
 have:=ha.2 i y (by simpa using e2);unfold B0 at this;obtain⟨t,rfl⟩:=dU r _ _ this;rw[getElem?_map,List.getElem?_reverse hi]at e1;have hk:ns.length-1-i<ns.length:=by omega
 rw[getElem?_eq_getElem hk]at e1;cases e1;refine⟨t,?_⟩;have hs:its.toArray.size-1-i=ns.length-1-i:=by simp[hl]
 rw[hs];simp[hk]
def rM(hc:X.calm=true)(hg:Gl X "list")(hm:X.mg "list"=none)(hg2:Gl X "reversed")(hm2:X.mg "reversed"=none)(he:PE X e te)(hs:starEach [e] X.env=[(false,eval e X.env)]:=by rfl)
  (hs2:starEach [.Call (.Name "reversed" p2) [e] [] pos2] X.env=[(false,eval (.Call (.Name "reversed" p2) [e] [] pos2) X.env)]:=by rfl):PE X (.Call (.Name "list" p) [.Call (.Name "reversed" p2) [e] [] pos2] [] pos) (tUn (rLR X.K) te):=by
 intro js s Y H Q I h;refine PyProof.Rows.Call_ (gG I hg hm ck (PyProof.Rows.callWith_type1 ?_ (by rw[hs2];rfl) rfl));rw[hs2];refine Calls.spliced_cons (PyProof.Rows.Call_ (gG I hg2 hm2 E3 (PyProof.Rows.callWith_type1 (thn (cR (te:=te) he fT (by rw[hs];rfl) pos2 js s Y H (fun vs H1=>Dp vs fun v=>rLR X.K v H1 Q) I h) fun us s1 ⟨vs,H1,I1,r1,q1⟩=>?_) (by rw[hs];rfl) rfl)));obtain⟨v,rfl,a,ns,rfl,hq,hz,q⟩:=tz q1;obtain⟨u,rfl,rx⟩:=d4 r1;cases rx;obtain⟨its,rv,pl,_⟩:=I1.list hq;have hl:its.length=ns.length:=by simpa using rv.length.symm
 have lt:a<s1.heap.objs.size:=by obtain⟨o,e,_⟩:=id pl.isList;exact lt_size e
 refine call_reversed_list pl.isList (Calls.spliced_nil ?_);have hsz:(s1.heap.push (revObj a ((its.toArray.size:Int)-1))).objs.size=s1.heap.objs.size+1:=size_push ..
 refine qI (it:=s1.heap.objs.size) (l:=a) (items:=its.toArray) (I1.ok.hd hc) ⟨_,get?_push_size _ rfl,rfl,rfl⟩ (pl.isList.push _) (Nat.ne_of_lt lt) (by simp[hl];omega) fun h' tk acc c kp e1 e2=>?_;rw[hsz]at e1 ⊢;refine⟨.ref (s1.heap.objs.size+1),_,I1.laid (t':=tk) (fun b o e=>kp b o (Nat.ne_of_lt (lt_size e)) (get?_push_of_some _ e)) (le_succ _) ?_,rfl,q _ (I1.hok.fresh (le_succ _))⟩;exact⟨by rw[sizeLine_eq];simp;omega,acc.toList,c,vL rv e2,by simpa using e1⟩
def fU:PV->JR
 | .lst _ xs=>(match bR xs with
  |some ns=>if ns.length<=1000000 then .ok (.lst .own (ns.reverse.map .int))else .stuck
  |none=>.stuck)
 |_=>.stuck
def p8(hK:X.K=T.K):zU T W fU (rLR X.K):=by
 intro B F L Y H Q F' H' x v fx g rx nf nd new q;cases x with
 |lst f xs=>
  unfold fU at q;dsimp only at q;cases e:bR xs with
  |none=>rw[e]at q;exact q.elim
  |some ns=>
   rw[e]at q;dsimp only at q;split at q
   case isFalse=>exact q.elim
   rename_i hz
   unfold Rel at rx;obtain⟨a,vs,fp',rfl,hl,hr,hf⟩:=rx;have hu:=cW e hr;subst hu;exact⟨a,ns,rfl,by rw[hK];exact hl.sq,hz,GE.newL q g (sU _) (fun _ h=>by cases h) .nil (fun _ h=>by cases h)⟩
 |_=>exact q.elim
def rD(hK:X.K=T.K)(hc:X.calm=true)(hg:Gl X "list")(hm:X.mg "list"=none)(hg2:Gl X "reversed")(hm2:X.mg "reversed"=none)(he:SE X T W e m)(hs:starEach [e] X.env=[(false,eval e X.env)]:=by rfl)
  (hs2:starEach [.Call (.Name "reversed" p2) [e] [] pos2] X.env=[(false,eval (.Call (.Name "reversed" p2) [e] [] pos2) X.env)]:=by rfl):SE X T W (.Call (.Name "list" p) [.Call (.Name "reversed" p2) [e] [] pos2] [] pos) (mUn fU m):=
 PE.wk (rM hc hg hm hg2 hm2 he hs hs2) fun _ _ _ h=>tE.mir1 (p8 hK) h
end
section
variable{X:Cx}{T:Tb}{W:Nat->St->JP}{Z:Zn}{F F1 B L:JH}{H H1:Hp}{Y:St}{env:En}{fp:Nat->JK}
def Jq(K:PySem.W.Frag)(d:Addr)(xs:JL):Prop:=
 ∃(dd:Option Addr) (l:List (Str×Tok)) (n:Nat) (sl:Array (Option Value)),K.lookup d=some ⟨.type "tuple",dd,.seq (strValues l).toArray n,sl⟩/\l.map (·.1)=xs
variable{d:Addr}{kvs:List (Str×Int)}
end
end PR
namespace PR
open PySem PySem.Spec L2
open AutoSeq1 (wpAny_loadPart')
structure BZ(K:PySem.W.Frag)(x qual:Str)(st:Stmt)(f:Addr)(fd:FuncData)(dT:Addr)(ds:JJ):Prop where
 ex:∃(oc:Value) (od:Option Addr) (kV doc pm:Value) (an:Option Addr) (cdv ct:Value) (osl:Array (Option Value)),
  fd=PySem.W.fnOf x qual (cZ st) (bQ st) (aH st) (.ref dT) kV doc pm an cdv ct/\K.lookup f=some ⟨oc,od,.func fd,osl⟩/\PySem.W.codeIn K cdv qual=true
 kp:PySem.W.keepIn K (.ref f)=true
 dl:∃(o:Obj) (n:Nat),K.lookup dT=some o/\o.data=.seq ds.toArray n
section
variable{P:Program}{w:World}{mg:JE}{base:Heap}{T:Tb}
def BZ.binds(F:BZ K x qual st f fd dT ds)
  (h:∀(kV doc pm:Value) (an:Option Addr) (cdv ct:Value) (us:JJ),(us++es).length=ps.length->∃k:Option (JN)->Sem (List (Str×Value)),bindArgs (PySem.W.fnOf x qual (cZ st) (bQ st) (aH st) (.ref dT) kV doc pm an cdv ct) ⟨us,[]⟩=seqItems? (.ref dT) >>= k/\k (some ds.toArray)=pure (ps.zip (us++es))):fA K fd ps es:=by
 obtain⟨oc,od,kV,doc,pm,an,cdv,ct,osl,rfl,lk,hcd⟩:=F.ex;obtain⟨o,n,lo,hd⟩:=F.dl;intro s us KI hl;obtain⟨k,h1,h2⟩:=h kV doc pm an cdv ct us hl;exact BindsTo.of_defaults rfl (KI _ _ lo) hd h1 h2
end
section
variable{X:Cx}{T:Tb}{W:Nat->St->JP}{Z:Zn}{F F1 B L:JH}{H H1:Hp}{Y:St}{env:En}{fp:Nat->JK}
def mFz(m:ME):ME:=fun env=>(m env).bind fun v=>.ok (v.J0 Fl.JU)
def wc(he:SE X T W e m):SE X T W e (mFz m):=PE.wk he fun Y H Q hz1=>by
 obtain⟨Z,F,env,fp,S,q⟩:=hz1;unfold mFz at q;refine⟨Z,F,env,fp,S,?_⟩;cases em:m env with
 |stuck|exc c=>rw[em]at q;exact q
 |ok pv=>rw[em]at q;simp only[Res.J2]at q;intro v H' F' f g r nf nd new;refine q v H' (fun a=>F' a\/a∈f) [] ⟨g.ext,fun a h=>.inl (g.mono a h),fun a h=>h.elim (g.only a) fun z=>.inr (new a z),fun a h=>h.elim (g.dom a) fun z=>r.there a z⟩ (Rel.JU (fun _ h=>.inl h) (fun a h=>.inr h) r) (fun _ h=>nomatch h) nodup_nil fun _ h=>nomatch h
end
open PySem.W (findIn fnOf keepIn nsIn codeIn isFn Frag)
structure FS where
 q:Str
 s:Stmt
 k:Nat
 N:JL
 c:Option Nat
def bJ(s:Stmt):Str:=match s with
 |.FunctionDef n _ _ _ _ _ _ _ _ _=>n
 |_=>""
structure Clo(H:Hp)(fr:JL)(cl:List (Str×Addr))(cvs:JO):Prop where
 inj:∀x y c,cl.lookup x=some c->cl.lookup y=some c->x=y
 sub:∀x c,cl.lookup x=some c->x∈fr
 len:cvs.length=fr.length
 val:∀(i:Nat) x v,fr[i]?=some x->cvs[i]?=some v->∃c o u z,cl.lookup x=some c/\H c=some (.frz o u)/\o.data=.cell (some z)/\bX v z
def Clo.tr(C:Clo H fr cl cvs)(h:∀b o u,H b=some (.frz o u)->H' b=some (.frz o u)):Clo H' fr cl cvs:=
 ⟨C.inj,C.sub,C.len,fun i x v h1 h2=>let⟨c,o,u,z,q1,q2,q3⟩:=C.val i x v h1 h2;⟨c,o,u,z,q1,h _ _ _ q2,q3⟩⟩
def Clo.at(C:Clo H fr cl cvs)(h:cl.lookup x=some c):∃o u z,H c=some (.frz o u)/\o.data=.cell (some z):=by
 obtain⟨i,hi,e⟩:=getElem_of_mem (C.sub x c h);have hv:i<cvs.length:=by rw[C.len];exact hi
 obtain⟨c',o,u,z,q1,q2,q3,_⟩:=C.val i x cvs[i] (by rw[getElem?_eq_getElem hi,e]) (getElem?_eq_getElem hv);rw[h]at q1;cases q1;exact⟨o,u,z,q2,q3⟩
structure FI where
 name:Str
 qual:Str
 params:Arguments
 body:List Stmt
 scope:Scope
 fr:JL
def FI.bx(i:FI)(H:Hp)(f:Addr)(cvs:JO):Prop:=∃cl doc pm ctv c' oc u u' vs t,H f=some (.frz (fnMade i.name i.qual i.params i.body i.scope cl doc pm c' ctv) u)/\
 H c'=some (.frz oc u')/\oc.data=.fields vs/\vs[1]?=some (.str i.qual t)/\Clo H i.fr cl cvs
def FI.bxs{i:FI}(h:∀b o u,H b=some (.frz o u)->H' b=some (.frz o u))(q:i.bx H f cvs):i.bx H' f cvs:=by obtain⟨cl,doc,pm,ctv,c',oc,u,u',vs,t,h1,h2,h3,h4,C⟩:=q;exact⟨cl,doc,pm,ctv,c',oc,u,u',vs,t,h _ _ _ h1,h _ _ _ h2,h3,h4,C.tr h⟩
structure NFd where
 i:Nat
 j:Nat
 q:Str
 k:Nat
 fr:JL
 N:JL
structure PT where
 F:List FS
 C:JL
 X:JL
 A:JL
 M:List (Nat×Str×Nat)
 Mk:List (Nat×Nat)
 U:List (Nat×Nat)
 B:JL
 I:List (Str×Int)
 KT:List (Option Nat×String×List Bool)
 HT:List (Nat×List Bool)
 D:List (JL):=[]
 G:Option NFd:=none
def fs0:FS:=⟨"",.Pass ⟨0,0,0,0⟩,0,[],none⟩
def pk{α:Type}(d:α)(l:List α)(i:Nat):α:=l.getD i (l.headD d)
def gx{α:Type}{d:α}{p:α->Prop}{l:List α}(hl:l≠[])(h:∀x∈l,p x)(i:Nat):p (pk d l i):=by
 unfold pk;rw[getD_eq_getElem?_getD];cases e:l[i]? with
 |some C=>exact h C (List.mem_of_getElem? e)
 |none=>
  cases l with
  |nil=>exact absurd rfl hl
  |cons a l=>exact h a mem_cons_self
section
variable(p:PT)(K:Frag)
def gAt(x:Str):Addr:=match nsIn K mainGlobals x with
 |some (some (.ref a))=>a
 |_=>0
def mAt(c:Addr)(x:Str):Addr:=match findIn K (.ref c) x with
 |some (some (.ref a))=>a
 |_=>0
def dAt(f:Addr):FuncData:=match K.lookup f with
 |some ⟨_,_,.func d,_⟩=>d
 |_=>default
def PT.fs(i:Nat):FS:=pk fs0 p.F i
def PT.ps(i:Nat):JL:=(p.fs i).N.take (p.fs i).k
def PT.ca(c:Nat):Addr:=gAt K (pk "" p.C c)
def PT.xa(c:Nat):Addr:=gAt K (pk "" p.X c)
def PT.fx(x:FS):Addr:=match x.c with
 |none=>gAt K (bJ x.s)
 |some c=>mAt K (p.ca K c) (bJ x.s)
def PT.fa(i:Nat):Addr:=p.fx K (p.fs i)
def lit(x:FS):Obj->Obj
 |⟨oc,od,.func d,sl⟩=>⟨oc,od,.func (fnOf (bJ x.s) x.q (cZ x.s) (bQ x.s) (aH x.s) .none d.kwdefaults d.doc d.pyModule d.annotations d.code d.closureTuple),sl⟩
 |o=>o
def Hx:Option Obj->Bool
 |some ⟨_,_,.func _,_⟩=>true
 |_=>false
def scB(x:FS):Bool:=decide ((aH x.s).kind=.function)&&!(aH x.s).isCoroutine&&!(aH x.s).isGenerator&&decide x.N.Nodup&&decide (x.k<=x.N.length) &&
 (x.N.take x.k).all (fun y=>decide ((aH x.s).names.lookup y=some .local \/(aH x.s).names.lookup y=some .cell))&&(aH x.s).names.all (fun y=>decide (y.2≠.free))
def PT.chF(x:FS):Bool:=Hx (K.lookup (p.fx K x))&&codeIn K (dAt K (p.fx K x)).code x.q&&keepIn K (.ref (p.fx K x))&&(match x.c with|none=>decide (nsIn K mainGlobals (bJ x.s)=some (some (.ref (p.fx K x))))|some _=>true)
def chC(A:JL)(x:Str):Bool:=plainGet K (gAt K x) Str.empty&&hasDictIn K (gAt K x)&&plainOver K (gAt K x)&&decide (findIn K (.ref (gAt K x)) "__setattr__"=some (some (.builtin "object.__setattr__"))) &&
 decide (nsIn K mainGlobals x=some (some (.ref (gAt K x))))&&A.all (fun y=>decide (findIn K (.ref (gAt K x)) y=some none))
def PT.chM(x:Nat×Str×Nat):Bool:=decide (findIn K (.ref (p.ca K x.1)) x.2.1=some (some (.ref (p.fa K x.2.2))))&&isFn K (.ref (p.fa K x.2.2))&&keepIn K (.ref (p.fa K x.2.2))
def PT.chK(x:Nat×Nat):Bool:=makesIn K (p.ca K x.1)&&decide (findIn K (.ref (p.ca K x.1)) "__init__"=some (some (.ref (p.fa K x.2))))&&isFn K (.ref (p.fa K x.2))&&keepIn K (.ref (p.ca K x.1))
def Cb(f:Addr):Option PySem.W.CFound->Bool
 |some (.val (.ref a))=>decide (a=f)
 |_=>false
def PT.chU(x:Nat×Nat):Bool:=decide (specialIn K (.ref (p.ca K x.1)) "__getattribute__"=some (some (.builtin "type.__getattribute__")))&&readsIn K (p.ca K x.1) (.type "type")&&Cb (p.fa K x.2) (findCls K (.ref (p.ca K x.1)) (.type "type") "__init__")&&keepIn K (.ref (p.fa K x.2))
def tgV(y:Option Nat×String×List Bool):Value:=match y.1 with
 |some x=>.ref (p.xa K x)
 |none=>.type y.2.1
def chX(x:Str):Bool:=decide (nsIn K mainGlobals x=some (some (.ref (gAt K x))))&&vy K (gAt K x)
def chI(x:Str×Int):Bool:=match nsIn K mainGlobals x.1 with
 |some (some (.int i _))=>decide (i=x.2)
 |_=>false
def PT.chT(y:Option Nat×String×List Bool):Bool:=decide (p.X.map (fun x=>kitOne K (.ref (gAt K x)) (tgV p K y))=y.2.2.map some)
def PT.chH(y:Nat×List Bool):Bool:=decide (p.X.map (fun x=>exmOne K (.ref (gAt K x)) (.ref (p.xa K y.1)))=y.2.map some)
def PT.ch1:Bool:=p.F.all (p.chF K)
def PT.ch2:Bool:=p.C.all (chC K p.A)&&p.Mk.all (p.chK K)&&p.U.all (p.chU K)&&p.X.all (chX K)&&p.B.all (fun x=>decide (nsIn K mainGlobals x=some none))&&p.I.all (chI K)&&p.KT.all (p.chT K)&&p.HT.all (p.chH K)
def PT.ch3:Bool:=p.M.all (p.chM K)
def PT.ob:List (Option Obj):=p.F.map fun x=>K.lookup (p.fx K x)
def PT.ol:List (Option Obj):=p.F.map fun x=>(K.lookup (p.fx K x)).map (lit x)
end
structure Tx(p:PT)(K:Frag)(mg:JE):Prop where
 fn:∀i,Fun K (bJ (p.fs i).s) (p.fs i).q (p.fs i).s (p.fa K i) (dAt K (p.fa K i))
 sc:∀i,dF (p.fs i).N (p.ps i) (aH (p.fs i).s)
 bn:∀i,fA K (dAt K (p.fa K i)) (p.ps i) []
 gl:∀i,(p.fs i).c=none->mg (bJ (p.fs i).s)=some (.ref (p.fa K i))
 cl:∀c,Cls K (p.ca K c)
 cg:∀c,mg (pk "" p.C c)=some (.ref (p.ca K c))
 cn:∀c,∀x∈p.A,fG K (p.ca K c) x
 me:∀x∈p.M,BX K (p.ca K x.1) x.2.1 (p.fa K x.2.2)
 mm:∀x∈p.Mk,Mk K (p.ca K x.1) (p.fa K x.2)
 su:∀x∈p.U,Sup K (p.ca K x.1) (p.fa K x.2)
 xg:∀c,mg (pk "" p.X c)=some (.ref (p.xa K c))
 xe:∀c,vy K (p.xa K c)=true
 bi:∀x∈p.B,mg x=none
 ci:∀x∈p.I,∃tk,mg x.1=some (.int x.2 tk)
 kt:∀y∈p.KT,∀c,kitOne K (.ref (p.xa K c)) (tgV p K y)=some (dz y.2.2 c)
 ht:∀y∈p.HT,∀c,exmOne K (.ref (p.xa K c)) (.ref (p.xa K y.1))=some (dz y.2 c)
def Bnd(x:FS):Prop:=∀(kV doc pm:Value) (an:Option Addr) (cdv ct:Value) (us:JJ),us.length=(x.N.take x.k).length->bindArgs (fnOf (bJ x.s) x.q (cZ x.s) (bQ x.s) (aH x.s) .none kV doc pm an cdv ct) ⟨us,[]⟩=pure ((x.N.take x.k).zip us)
def z5:List FS->Prop
 | []=>True
 |x::l=>Bnd x/\z5 l
def z5.get:∀{l:List FS},z5 l->∀x∈l,Bnd x
 | [],_,_,h=>nomatch h
 |y::l,⟨h1,h2⟩,x,h=>by
  rcases mem_cons.mp h with rfl|h
  ·exact h1
  ·exact h2.get x h
section
variable{x:FS}
def lsS{us:JJ}(h:us.length=n+1):∃a r,us=a::r/\r.length=n:=by
 cases us with
 |nil=>cases h
 |cons a r=>exact⟨a,r,rfl,Nat.succ.inj h⟩
def bn1(h:∀(kV doc pm:Value) (an:Option Addr) (cdv ct u1:Value),bindArgs (fnOf (bJ x.s) x.q (cZ x.s) (bQ x.s) (aH x.s) .none kV doc pm an cdv ct) ⟨[u1],[]⟩=pure ((x.N.take x.k).zip [u1]):=by intros;rfl)(hk:(x.N.take x.k).length=1:=by rfl):Bnd x:=fun kV doc pm an cdv ct us hl=>by rw[hk]at hl;obtain⟨_,_,rfl,l1⟩:=lsS hl;cases eq_nil_of_length_eq_zero l1;exact h ..
def bn2(h:∀(kV doc pm:Value) (an:Option Addr) (cdv ct u1 u2:Value),bindArgs (fnOf (bJ x.s) x.q (cZ x.s) (bQ x.s) (aH x.s) .none kV doc pm an cdv ct) ⟨[u1,u2],[]⟩=pure ((x.N.take x.k).zip [u1,u2]):=by intros;rfl)(hk:(x.N.take x.k).length=2:=by rfl):Bnd x:=fun kV doc pm an cdv ct us hl=>by rw[hk]at hl;obtain⟨_,_,rfl,l1⟩:=lsS hl;obtain⟨_,_,rfl,l2⟩:=lsS l1;cases eq_nil_of_length_eq_zero l2;exact h ..
def bn3(h:∀(kV doc pm:Value) (an:Option Addr) (cdv ct u1 u2 u3:Value),bindArgs (fnOf (bJ x.s) x.q (cZ x.s) (bQ x.s) (aH x.s) .none kV doc pm an cdv ct) ⟨[u1,u2,u3],[]⟩=pure ((x.N.take x.k).zip [u1,u2,u3]):=by intros;rfl)(hk:(x.N.take x.k).length=3:=by rfl):Bnd x:=fun kV doc pm an cdv ct us hl=>by rw[hk]at hl;obtain⟨_,_,rfl,l1⟩:=lsS hl;obtain⟨_,_,rfl,l2⟩:=lsS l1;obtain⟨_,_,rfl,l3⟩:=lsS l2;cases eq_nil_of_length_eq_zero l3;exact h ..
def bn4(h:∀(kV doc pm:Value) (an:Option Addr) (cdv ct u1 u2 u3 u4:Value),bindArgs (fnOf (bJ x.s) x.q (cZ x.s) (bQ x.s) (aH x.s) .none kV doc pm an cdv ct) ⟨[u1,u2,u3,u4],[]⟩=pure ((x.N.take x.k).zip [u1,u2,u3,u4]):=by intros;rfl)(hk:(x.N.take x.k).length=4:=by rfl):Bnd x:=fun kV doc pm an cdv ct us hl=>by rw[hk]at hl;obtain⟨_,_,rfl,l1⟩:=lsS hl;obtain⟨_,_,rfl,l2⟩:=lsS l1;obtain⟨_,_,rfl,l3⟩:=lsS l2;obtain⟨_,_,rfl,l4⟩:=lsS l3;cases eq_nil_of_length_eq_zero l4;exact h ..
def bn5(h:∀(kV doc pm:Value) (an:Option Addr) (cdv ct u1 u2 u3 u4 u5:Value),bindArgs (fnOf (bJ x.s) x.q (cZ x.s) (bQ x.s) (aH x.s) .none kV doc pm an cdv ct) ⟨[u1,u2,u3,u4,u5],[]⟩=pure ((x.N.take x.k).zip [u1,u2,u3,u4,u5]):=by intros;rfl)(hk:(x.N.take x.k).length=5:=by rfl):Bnd x:=fun kV doc pm an cdv ct us hl=>by rw[hk]at hl;obtain⟨_,_,rfl,l1⟩:=lsS hl;obtain⟨_,_,rfl,l2⟩:=lsS l1;obtain⟨_,_,rfl,l3⟩:=lsS l2;obtain⟨_,_,rfl,l4⟩:=lsS l3;obtain⟨_,_,rfl,l5⟩:=lsS l4;cases eq_nil_of_length_eq_zero l5;exact h ..
def bn6(h:∀(kV doc pm:Value) (an:Option Addr) (cdv ct u1 u2 u3 u4 u5 u6:Value),bindArgs (fnOf (bJ x.s) x.q (cZ x.s) (bQ x.s) (aH x.s) .none kV doc pm an cdv ct) ⟨[u1,u2,u3,u4,u5,u6],[]⟩=pure ((x.N.take x.k).zip [u1,u2,u3,u4,u5,u6]):=by intros;rfl)(hk:(x.N.take x.k).length=6:=by rfl):Bnd x:=fun kV doc pm an cdv ct us hl=>by rw[hk]at hl;obtain⟨_,_,rfl,l1⟩:=lsS hl;obtain⟨_,_,rfl,l2⟩:=lsS l1;obtain⟨_,_,rfl,l3⟩:=lsS l2;obtain⟨_,_,rfl,l4⟩:=lsS l3;obtain⟨_,_,rfl,l5⟩:=lsS l4;obtain⟨_,_,rfl,l6⟩:=lsS l5;cases eq_nil_of_length_eq_zero l6;exact h ..
end
def qX{l:JL}{α:Type}{f:Addr->Option Bool}{bs:List Bool}(hl:l≠[])(h:l.map (fun x=>f (gAt K x))=bs.map some)(c:Nat):f (gAt K (pk "" l c))=some (dz bs c):=by
 have e:gAt K (pk "" l c)=AQ (l.map (gAt K)) c:=by
  unfold pk AQ;cases l with
  |nil=>exact absurd rfl hl
  |cons a l=>rw[getD_eq_getElem?_getD,getD_eq_getElem?_getD,getElem?_map];cases(a::l)[c]?<;>rfl
 rw[e];exact wD (g:=id) (by simpa using hl) (by rw[map_map];exact h) c
def Tx.of{p:PT}{K:Frag}{h:Heap}{mg:JE}(X:K.In h)(N:h.Ns mainGlobals mg)(hb:z5 p.F)(hs:p.F.all scB=true)(hF:p.F≠[])(hC:p.C≠[])(hX:p.X≠[])
  (e:p.ob K=p.ol K) (h1:p.ch1 K=true) (h2:p.ch2 K=true) (h3:p.ch3 K=true):Tx p K mg:=by
 simp only[PT.ch2,and_eq_true,all_eq_true,decide_eq_true_eq]at h2;obtain⟨⟨⟨⟨⟨⟨⟨c1,c2⟩,c3⟩,c4⟩,c5⟩,c6⟩,c7⟩,c8⟩:=h2;simp only[PT.ch1,PT.ch3,all_eq_true]at h1 h3 hs;have fnx:∀x∈p.F,Fun K (bJ x.s) x.q x.s (p.fx K x) (dAt K (p.fx K x)):=fun x hx=>by
  have q:=h1 x hx;simp only[PT.chF,and_eq_true]at q;obtain⟨⟨⟨q1,q2⟩,q3⟩,_⟩:=q;have e1:K.lookup (p.fx K x)=(K.lookup (p.fx K x)).map (lit x):=List.map_inj_left.mp e x hx;cases eo:K.lookup (p.fx K x)with
  |none=>rw[eo]at q1;cases q1
  |some o=>
   rw[eo]at e1 q1;obtain⟨oc,od,dt,sl⟩:=o;cases dt with
   |func d=>
    have e2:(⟨oc,od,.func d,sl⟩:Obj)=lit x ⟨oc,od,.func d,sl⟩:=Option.some.inj e1;simp only[lit,Obj.mk.injEq,Data.func.injEq,true_and,and_true]at e2;have ed:dAt K (p.fx K x)=d:=by unfold dAt;rw[eo]
    rw[ed]at q2 ⊢;exact⟨⟨oc,od,d.kwdefaults,d.doc,d.pyModule,d.annotations,d.code,d.closureTuple,sl,e2,eo,q2⟩,q3⟩
   |_=>cases q1
 have scx:∀x∈p.F,dF x.N (x.N.take x.k) (aH x.s):=fun x hx=>by have q:=hs x hx;simp only[scB,and_eq_true,decide_eq_true_eq,all_eq_true,not_eq_true']at q;obtain⟨⟨⟨⟨⟨⟨q1,q2⟩,q3⟩,q4⟩,q5⟩,q6⟩,q7⟩:=q;exact⟨q1,q2,q3,q4,by rw[length_take,Nat.min_eq_left q5],q6,q7⟩
 have clx:∀x∈p.C,(Cls K (gAt K x)/\mg x=some (.ref (gAt K x)))/\∀y∈p.A,fG K (gAt K x) y:=fun x hx=>by have q:=c1 x hx;simp only[chC,and_eq_true,decide_eq_true_eq,all_eq_true]at q;obtain⟨⟨⟨⟨⟨q1,q2⟩,q3⟩,q4⟩,q5⟩,q6⟩:=q;exact⟨⟨⟨q1,q2,q3,q4⟩,mg_of X N q5⟩,q6⟩
 have xx:∀x∈p.X,mg x=some (.ref (gAt K x))/\vy K (gAt K x)=true:=fun x hx=>by have q:=c4 x hx;simp only[chX,and_eq_true,decide_eq_true_eq]at q;exact⟨mg_of X N q.1,q.2⟩
 refine ⟨gx (p:=fun x=>Fun K (bJ x.s) x.q x.s (p.fx K x) (dAt K (p.fx K x))) hF fnx,gx (p:=fun x=>dF x.N (x.N.take x.k) (aH x.s)) hF scx,gx (p:=fun x=>fA K (dAt K (p.fx K x)) (x.N.take x.k) []) hF fun x hx=>(fnx x hx).binds (hb.get x hx),
  gx (p:=fun x=>x.c=none->mg (bJ x.s)=some (.ref (p.fx K x))) hF fun x hx hc=>?_,gx (p:=fun x=>Cls K (gAt K x)) hC fun x hx=>(clx x hx).1.1,gx (p:=fun x=>mg x=some (.ref (gAt K x))) hC fun x hx=>(clx x hx).1.2,
  gx (p:=fun x=>∀y∈p.A,fG K (gAt K x) y) hC fun x hx=>(clx x hx).2,fun x hx=>?_,fun x hx=>?_,fun x hx=>?_,gx (p:=fun x=>mg x=some (.ref (gAt K x))) hX fun x hx=>(xx x hx).1,gx (p:=fun x=>vy K (gAt K x)=true) hX fun x hx=>(xx x hx).2,
  fun x hx=>PySem.W.mg_none_of X N (c5 x hx),fun x hx=>?_,fun y hy c=>?_,fun y hy c=>?_⟩
 ·have q:=h1 x hx;simp only[PT.chF,and_eq_true]at q;have q:=q.2;rw[hc]at q;exact mg_of X N (of_decide_eq_true q)
 ·have q:=h3 x hx;simp only[PT.chM,and_eq_true,decide_eq_true_eq]at q;exact⟨q.1.1,q.1.2,q.2⟩
 ·have q:=c2 x hx;simp only[PT.chK,and_eq_true,decide_eq_true_eq]at q;exact⟨q.1.1.1,q.1.1.2,q.1.2,q.2⟩
 ·have q:=c3 x hx;simp only[PT.chU,and_eq_true,decide_eq_true_eq]at q;refine⟨q.1.1.1,q.1.1.2,?_,q.2⟩;have q:=q.1.2;unfold Cb at q;split at q
  ·rename_i a e
   rw[e,of_decide_eq_true q]
  ·cases q
 ·have q:=c6 x hx;unfold chI at q;split at q
  ·rename_i i tk e
   exact⟨tk,by rw[<- of_decide_eq_true q];exact mg_of X N e⟩
  ·cases q
 ·exact qX (α:=Bool) (f:=fun a=>kitOne K (.ref a) (tgV p K y)) hX (of_decide_eq_true (c7 y hy)) c
 ·exact qX (α:=Bool) (f:=fun a=>exmOne K (.ref a) (.ref (p.xa K y.1))) hX (of_decide_eq_true (c8 y hy)) c
def PT.attOk(p:PT):Prop:=p.A.Nodup/\p.A.all j6=true
def PT.gs(p:PT):NFd:=p.G.getD ⟨0,0,"",0,[],[]⟩
def PT.gst(p:PT):Stmt:=(bQ (p.fs p.gs.i).s).getD p.gs.j (.Pass ⟨0,0,0,0⟩)
def PT.fi(p:PT):FI:=⟨bJ p.gst,p.gs.q,cZ p.gst,bQ p.gst,aH p.gst,p.gs.fr⟩
def PT.gpos(p:PT):Pos:=match p.gst with
 |.FunctionDef _ _ _ _ _ _ _ _ _ pos=>pos
 |_=>⟨0,0,0,0⟩
def PT.gt(p:PT)(K:Frag):Addr×Addr:=(tabIn K (bJ (p.fs p.gs.i).s)).getD (0,0)
@[reducible] def PT.T(p:PT)(h:p.attOk)(K:Frag):Tb where
 K:=K
 nc:=p.C.length
 cls:=p.ca K
 att:=ji p.A
 inj:=vM h.1 h.2
 xcl:=p.xa K
 dk:=fun k=>p.D.getD k []
 bx:=fun k H a vs=>if k=99 then p.fi.bx H a vs else ∃o,H a=some (.frz o (.dK (((p.D.getD k []).map Sum.inr).zip vs)))/\(p.D.getD k []).length=vs.length
 bxs:=fun k H H' a vs h q=>by
  split at q
  ·rw[if_pos ‹_›];exact FI.bxs h q
  ·rw[if_neg ‹_›];obtain⟨o,z,l⟩:=q;exact⟨o,h _ _ _ z,l⟩
 tb:=fun a=>if p.G.isSome=true/\a=(p.gt K).2 then some #[rawInt p.gpos.line,rawInt p.gpos.col,.str p.gs.q 0]else none
section
variable{p:PT}{K:Frag}{mg:JE}
def Tx.cls(t:Tx p K mg)(n:Nat):∀c<n,Cls K (p.ca K c):=fun c _=>t.cl c
def Tx.xc(t:Tx p K mg)(c:Nat):nr K (p.xa K c):=(uf (t.xe c)).1
def Tx.b(t:Tx p K mg)(j:Nat)(h:p.B[j]?=some x:=by rfl):mg x=none:=t.bi x (List.mem_of_getElem? h)
def Tx.c(t:Tx p K mg)(j:Nat)(h:p.I[j]?=some (x,i):=by rfl):∃tk,mg x=some (.int i tk):=t.ci (x,i) (List.mem_of_getElem? h)
end
open PySem.W (keepIn Frag)
section
variable{P:Program}{w:World}{K:Frag}{mg:JE}{base:Heap}{p:PT}{hA:p.attOk}
abbrev OkF(p:PT)(hA:p.attOk)(P:Program)(w:World)(K:Frag)(mg:JE)(base:Heap)(k i:Nat)(m:JQ->JR):Prop:=dG P w K mg base (CXP P w) k (p.fa K i) (dAt K (p.fa K i)) (p.ps i) (spM (p.T hA K) (p.ps i).length m)
abbrev OkI(p:PT)(hA:p.attOk)(P:Program)(w:World)(K:Frag)(mg:JE)(base:Heap)(k i:Nat)(m:JQ->JR):Prop:=dG P w K mg base (CXP P w) k (p.fa K i) (dAt K (p.fa K i)) (p.ps i) (spI (p.T hA K) (p.ps i).length m)
def okC(i:Nat)(t:Tx p K mg)(body:∀ (cdv:Value) (A:Around) (outer:List Env) (s:Shared) (H:Hp) (E:XK),Ctx (dQ (CXP P w) P w K mg base (p.fs i).N (p.fs i).q (aH (p.fs i).s) (p.fa K i) cdv A outer s H E) (p.T hA K) (WD (p.T hA K) E) k->(p.fs i).N.Nodup ->
  SSs (dQ (CXP P w) P w K mg base (p.fs i).N (p.fs i).q (aH (p.fs i).s) (p.fa K i) cdv A outer s H E) (p.T hA K) (WD (p.T hA K) E) (bQ (p.fs i).s) m):OkF p hA P w K mg base (k+1) i (a_ (p.fs i).N.length m):=
 Er (T:=p.T hA K) (t.fn i) (t.sc i) fun a b c d e f g=>body a b c d e f g (t.sc i).nd
def okI(i:Nat)(t:Tx p K mg)(body:∀ (cdv:Value) (A:Around) (outer:List Env) (s:Shared) (H:Hp) (E:XK),Ctx (dQ (CXP P w) P w K mg base (p.fs i).N (p.fs i).q (aH (p.fs i).s) (p.fa K i) cdv A outer s H E) (p.T hA K) (WD (p.T hA K) E) k->(p.fs i).N.Nodup ->
  SSs (dQ (CXP P w) P w K mg base (p.fs i).N (p.fs i).q (aH (p.fs i).s) (p.fa K i) cdv A outer s H E) (p.T hA K) (WD (p.T hA K) E) (bQ (p.fs i).s) m):OkI p hA P w K mg base (k+1) i (iG (p.fs i).N.length m):=
 By (T:=p.T hA K) (t.fn i) (t.sc i) fun a b c d e f g=>body a b c d e f g (t.sc i).nd
def dm{X:Cx}{k k2 i c:Nat}{mn:Str}{m m':JQ->JR}{ps:JL}(j:Nat)(t:Tx p X.K X.mg)(G:dG X.prog X.w X.K X.mg X.base (CXP X.prog X.w) k (p.fa X.K i) (dAt X.K (p.fa X.K i)) ps (spM (p.T hA X.K) ps.length m))(e:some m=some m')(hj:p.M[j]?=some (c,mn,i):=by rfl)(hp:p.ps i=ps:=by rfl)(hk:k<=k2:=by decide) :
  ∃f fd,BX X.K (p.ca X.K c) mn f/\fA X.K fd ps []/\dG X.prog X.w X.K X.mg X.base (CXP X.prog X.w) k2 f fd ps (spM (p.T hA X.K) ps.length m'):=by
 cases e;exact⟨_,_,t.me _ (List.mem_of_getElem? hj),hp▸t.bn i,G.mono hk⟩
end
def dno{n c:Nat}{q:Prop}(h:c<n)(hc:n<=c:=by exact Nat.le_add_left _ _):q:=absurd h (Nat.not_lt.mpr hc)
section
variable{X:Cx}{W:Nat->St->JP}{p:PT}{hA:p.attOk}
def bw(t:Tx p X.K X.mg)
  (G:dG X.prog X.w X.K X.mg X.base (CXP X.prog X.w) k (p.fa X.K i) (dAt X.K (p.fa X.K i)) (p.ps i) (spM (p.T hA X.K) (p.ps i).length m)) (cx:Ctx X (p.T hA X.K) W kk) (ha:SA X (p.T hA X.K) W (e::es) ms)
  (hk:k<=kk:=by decide) (hx:bJ (p.fs i).s=x:=by rfl) (hc:(p.fs i).c=none:=by rfl) (hg:Gl X x:=by rfl) (hn:iA ms n:=by repeat' first|exact fq|apply ef) (hps:n=(p.ps i).length:=by rfl)
  (hdb:(x ==("__debug__":Str))=false:=by decide) (he:starEach (e::es) X.env=(false,eval e X.env)::starEach es X.env:=by rfl) (hpl:(backTo pos (starEach es X.env)).any (·.1)=false:=by rfl) :
  SE X (p.T hA X.K) W (.Call (.Name x np) (e::es) [] pos) (ar (aL m) ms):=
 wd G cx hk hg (by subst hx;exact t.gl i hc) (t.fn i).kp (t.bn i) hn hps ha hdb he hpl
def bY(t:Tx p X.K X.mg)
  (D:eO X (p.T hA X.K) k mn ps [] disp) (cx:Ctx X (p.T hA X.K) W kk) (ho:SE X (p.T hA X.K) W o mo) (ha:SA X (p.T hA X.K) W (e::es) ms)
  (hm:∀k,ji p.A k≠mn:=by exact qQ (by decide +kernel) (by decide +kernel)) (hk:k<=kk:=by decide) (hn:iA ms n:=by repeat' first|exact fq|apply ef) (hps:n+1=ps.length:=by rfl)
  (hst:starEach (e::es) X.env=(false,eval e X.env)::starEach es X.env:=by rfl) (hpl:(backTo pos (starEach es X.env)).any (·.1)=false:=by rfl)
  (ht:eval (.Call (.Attribute o mn apos) (e::es) [] pos) X.env=(do
   let ov <- eval o X.env
   standAt apos.atName
   let(f,first) <- holding [ov] (getMethod ov mn pl)
   callWith pos f first (backTo pos (starEach (e::es) X.env)) (backToKw pos (keywordEach [] X.env))):=by rfl) :
  SE X (p.T hA X.K) W (.Call (.Attribute o mn apos) (e::es) [] pos) (bB disp mo ms):=
 CI (pl:=pl) cx (t.cls _) hm D hk hn hps ho ha hst hpl ht
def B5(t:Tx p X.K X.mg)
  (D:eO X (p.T hA X.K) k mn ps [] disp) (cx:Ctx X (p.T hA X.K) W kk) (ho:SE X (p.T hA X.K) W o mo)
  (hm:∀k,ji p.A k≠mn:=by exact qQ (by decide +kernel) (by decide +kernel)) (hk:k<=kk:=by decide) (hps:ps.length=1:=by rfl)
  (ht:eval (.Call (.Attribute o mn apos) [] [] pos) X.env=(do
   let ov <- eval o X.env
   standAt apos.atName
   let(f,first) <- holding [ov] (getMethod ov mn pl)
   callWith pos f first (backTo pos (starEach [] X.env)) (backToKw pos (keywordEach [] X.env))):=by rfl) :
  SE X (p.T hA X.K) W (.Call (.Attribute o mn apos) [] [] pos) (bB disp mo ak):=
 An (pl:=pl) cx (t.cls _) hm D hk hps ho ht
def lD(c:Nat)(t:Tx p X.K X.mg)
  (G:dG X.prog X.w X.K X.mg X.base (CXP X.prog X.w) k (p.fa X.K i) (dAt X.K (p.fa X.K i)) (p.ps i) (spI (p.T hA X.K) (p.ps i).length m)) (cx:Ctx X (p.T hA X.K) W kk) (ha:SA X (p.T hA X.K) W (e::es) ms)
  (hM:(c,i)∈ p.Mk:=by decide) (hcn:c<p.C.length:=by decide) (hk:k+1<=kk:=by decide) (hx:pk ("":Str) p.C c=x:=by rfl) (hg:Gl X x:=by rfl) (hn:iA ms n:=by repeat' first|exact fq|apply ef) (hps:n+1=(p.ps i).length:=by rfl)
  (hdb:(x ==("__debug__":Str))=false:=by decide) (he:starEach (e::es) X.env=(false,eval e X.env)::starEach es X.env:=by rfl) (hpl:(backTo pos (starEach es X.env)).any (·.1)=false:=by rfl) :
  SE X (p.T hA X.K) W (.Call (.Name x np) (e::es) [] pos) (jp c m ms):=
 CH (t.mm _ hM) hcn G cx hk hg (by subst hx;exact t.cg c) (t.bn i) hn hps ha hdb he hpl
def aI(k:Nat)(t:Tx p X.K X.mg)(cx:Ctx X (p.T hA X.K) W kk)(he:SE X (p.T hA X.K) W e m)(hf:ji p.A k=f:=by rfl)(hm:f∈p.A:=by decide)(hb:attributeBase e f X.env (eval e X.env)=eval e X.env:=by rfl) :
  SE X (p.T hA X.K) W (.Attribute e f pos) (mUn (ap k) m):=At cx.hK hf (t.cls _) (fun c _=>t.cn c f hm) he hb
def c_(ha:SA X T W es ms)(hn:iA ms n:=by repeat' first|exact fq|apply ef)(hs:n<=1000:=by decide):SE X T W (.List es pos) (cB ms):=CJ ha hn hs
def ux{x1}(ha:SA X T W es ms)(hn:iA ms n:=by repeat' first|exact fq|apply ef)(hs:n<=1000:=by decide):SE X T W (.Tuple es x1 pos) (mW ms):=CD ha hn hs
def bT(cx:Ctx X T W kk)(ha:SE X T W a ma)(hb:SE X T W b mb)(hs:i6 b:=by exact fun _ _=>rfl):SE X T W (.Subscript a b pos) (mOp aQ ma mb):=CK cx.hK ha hb hs
def bO(hN:X.N.Nodup)(he:SE X T W e m)(hi:X.N[i]?=some x:=by rfl)(hx:Loc X.env.scope x:=by first|exact .inl rfl|exact .inr rfl)(hs:swapsWith e (some (.Name x pos')) pos.line X.env=pure false:=by rfl)
  (hf:X.fn x=true\/X.env.scope.names.lookup x=some .local:=by first|exact .inl rfl|exact .inr rfl|assumption):SS X T W (.Assign [.Name x pos'] e pos) (aV i m):=Cw hN hi hx he hs hf
def sgN(hN:X.N.Nodup)(hi:X.N[i]?=some x:=by rfl)(hx:Loc X.env.scope x:=by first|exact .inl rfl|exact .inr rfl)(hf:X.fn x=true\/X.env.scope.names.lookup x=some .local:=by first|exact .inl rfl|exact .inr rfl|assumption):SG X T (.Name x pos) (tgN i):=Ag hN hi hx hf
def cr(h:k<=i:=by decide):iz (tgN i) k:=vX h
def pR(cx:Ctx X T W kk)(he:SE X T W e m)(hN:X.N[i]?=some x:=by rfl)(hv:Vis X.env.scope x:=by first|exact Or.inl rfl|exact Or.inr (Or.inl rfl)|exact Or.inr (Or.inr rfl))
  (hs:swapsWith (.Call (.Attribute (.Name x px) "append" apos) [e] [] cpos) none pos.line X.env=pure false:=by rfl) (hst:starEach [e] X.env=[(false,eval e X.env)]:=by rfl)
  (hfew:((backTo cpos (starEach [e] X.env)).all (fun x=>!x.1)&&(backToKw cpos (keywordEach [] X.env)).all (fun x=>x.1.isSome)&&decide ([e].length+([]:List Keyword).length+(if([]:List Keyword).isEmpty then 0 else 1)<30))=true:=by rfl)
  (hline:(apos.endLine==cpos.line)=true:=by rfl) (hd:(x ==("__debug__":Str))=false:=by decide) (hcd:(x ==("__classdict__":Str))=false:=by decide) :
  SS X T W (.Expr (.Call (.Attribute (.Name x px) "append" apos) [e] [] cpos) pos) (cJ i m):=ut cx.hK hN hv he hs hst hfew hline hd hcd
def sFld(k:Nat)(t:Tx p X.K X.mg)(cx:Ctx X (p.T hA X.K) W kk)(he:SE X (p.T hA X.K) W e m)(hf:ji p.A k=f:=by rfl)(hm:f∈p.A:=by decide)(hN:X.N[i]?=some x:=by rfl)
  (hv:Vis X.env.scope x:=by first|exact Or.inl rfl|exact Or.inr (Or.inl rfl)|exact Or.inr (Or.inr rfl))
  (hs:swapsWith e (some (.Attribute (.Name x px) f pos')) pos.line X.env=pure false:=by rfl) (hd:(x ==("__debug__":Str))=false:=by decide) (hcd:(x ==("__classdict__":Str))=false:=by decide) :
  SS X (p.T hA X.K) W (.Assign [.Attribute (.Name x px) f pos'] e pos) (fY i k m):=Cy cx.hK hf (t.cls _) (fun c _=>t.cn c f hm) hN hv he hs hd hcd
def ce(c:Nat)(t:Tx p X.K X.mg)(cx:Ctx X (p.T hA X.K) W k)(hB:X.K.In X.base)(hx:XM X (p.T hA X.K) W)(ha:SA X (p.T hA X.K) W (e::es) ms)
  (hm:pk ("":Str) p.X c=x:=by rfl) (hg:Gl X x:=by rfl) (hn:iA ms n:=by repeat' first|exact fq|apply ef) (hn2:n<=100:=by decide) (hd:(x ==("__debug__":Str))=false:=by decide)
  (he:starEach (e::es) X.env=(false,eval e X.env)::starEach es X.env:=by rfl) (hpl:(backTo cpos (starEach es X.env)).any (·.1)=false:=by rfl) :
  SS X (p.T hA X.K) W (.Raise (some (.Call (.Name x np) (e::es) [] cpos)) none pos) (bj c ms):=
 ur cx (by subst hm;exact t.xg c) hB (uf (t.xe c)).2 hx hg hn hn2 ha hd he hpl
def oH(c:Nat)(t:Tx p X.K X.mg)
  (G:dG X.prog X.w X.K X.mg X.base (CXP X.prog X.w) k (p.fa X.K i) (dAt X.K (p.fa X.K i)) (p.ps i) (spI (p.T hA X.K) (p.ps i).length m)) (cx:Ctx X (p.T hA X.K) W kk) (ha:SA X (p.T hA X.K) W es ms)
  (hU:(c,i)∈ p.U:=by decide) (hk:k<=kk:=by decide) (hx:pk ("":Str) p.C c=x:=by rfl) (hg:Gl X x:=by rfl) (hN:X.N[0]?=some y:=by rfl) (hv:Vis X.env.scope y:=by first|exact Or.inl rfl|exact Or.inr (Or.inl rfl)|exact Or.inr (Or.inr rfl))
  (hn:iA ms n:=by repeat' first|exact fq|apply ef) (hps:n+1=(p.ps i).length:=by rfl)
  (hdb:(x ==("__debug__":Str))=false:=by decide) (hdy:(y ==("__debug__":Str))=false:=by decide) (hcy:(y ==("__classdict__":Str))=false:=by decide)
  (hst:starEach (.Name y px::es) X.env=(false,eval (.Name y px) X.env)::starEach es X.env:=by rfl) (hpl:(backTo pos (starEach es X.env)).any (·.1)=false:=by rfl)
  (ht:eval (.Call (.Attribute (.Name x q) "__init__" apos) (.Name y px::es) [] pos) X.env=(do
   let ov <- eval (.Name x q) X.env
   standAt apos.atName
   let(f,first) <- holding [ov] (getMethod ov "__init__" pl)
   callWith pos f first (backTo pos (starEach (.Name y px::es) X.env)) (backToKw pos (keywordEach [] X.env))):=by rfl)
  (hs:swapsWith (.Call (.Attribute (.Name x q) "__init__" apos) (.Name y px::es) [] pos) none pos'.line X.env=pure false:=by rfl) :
  SS X (p.T hA X.K) W (.Expr (.Call (.Attribute (.Name x q) "__init__" apos) (.Name y px::es) [] pos) pos') (ik m ms):=
 Cv (pl:=pl) cx (t.su _ hU) G hk hg (by subst hx;exact t.cg c) (t.bn i) hN hv hn hps ha hdb hdy hcy hst hpl ht hs
end
section
variable{X:Cx}{W:Nat->St->JP}{T:Tb}
abbrev nmC(X:Cx)(caps:List Nat)(tn:JL):JL:=caps.map (fun i=>X.N.getD i "")++ tn
def cOf(h:my X.env.scope scope X.N caps (nmC X caps tn) tn=true):eZ X scope caps (nmC X caps tn) tn:=BO h rfl rfl
def dM(tn:JL)(cx:Ctx X T W kk)(hi:SIc X T W tg iter mi)(hk:iz g caps.length)
  (hb:∀C s H ex,(nmC X caps tn).Nodup->SG (cxC X scope C (nmC X caps tn) s H ex) T tg g/\STs (cxC X scope C (nmC X caps tn) s H ex) T WF ifs mc/\SE (cxC X scope C (nmC X caps tn) s H ex) T WF elt me)
  (h:my X.env.scope scope X.N caps (nmC X caps tn) tn=true:=by kernel_rfl) (hs:∀x,foldedSetIterable iter X.env x=pure x:=by intro _;rfl):SE X T W (.ListComp elt [⟨tg,iter,ifs,0⟩] scope pos) (aY caps tn.length mi g mc me):=
 Ar (cOf h) cx.calm hi hk (fun C s H ex=>hb C s H ex (cOf h).nd) hs
def dq(tn:JL)(cx:Ctx X T W kk)(hN:X.N.Nodup)(hi:SIc X T W tg iter mi)(hk:iz g caps.length)
  (hb:∀C s H ex,(nmC X caps tn).Nodup->SG (cxC X scope C (nmC X caps tn) s H ex) T tg g/\STs (cxC X scope C (nmC X caps tn) s H ex) T WF ifs mc/\SE (cxC X scope C (nmC X caps tn) s H ex) T WF elt me)
  (h:my X.env.scope scope X.N caps (nmC X caps tn) tn=true:=by kernel_rfl) (hy:X.N[i]?=some y:=by rfl) (hx:Loc X.env.scope y:=by first|exact .inl rfl|exact .inr rfl)
  (hsw:swapsWith (.ListComp elt [⟨tg,iter,ifs,0⟩] scope pos) (some (.Name y py)) spos.line X.env=pure true:=by rfl)
  (hs:∀x,foldedSetIterable iter X.env x=pure x:=by intro _;rfl)
  (hf:X.fn y=true\/X.env.scope.names.lookup y=some .local:=by first|exact .inl rfl|exact .inr rfl|assumption) :
  SS X T W (.Assign [.Name y py] (.ListComp elt [⟨tg,iter,ifs,0⟩] scope pos) spos) (aV i (aY caps tn.length mi g mc me)):=
 Ab (cOf h) cx.calm hN hy hx hi hk (fun C s H ex=>hb C s H ex (cOf h).nd) hsw hs hf
end
end PR
namespace PR
open PySem PySem.Spec L2
open PySem.W (findIn fnOf keepIn nsIn codeIn isFn Frag)
structure PE where
 D:List (FS×Bool)
 G:List (Str×List (Str×Int))
 S:List (Str×Str)
 P:List (Str×JL)
def PT.hk(p:PT)(j:Nat):Nat×List Bool:=p.HT.getD j (0,[])
def PT.kk(p:PT)(j:Nat):Option Nat×String×List Bool:=p.KT.getD j (none,"",[])
def PE.gk(q:PE)(j:Nat):Str×List (Str×Int):=q.G.getD j ("",[])
def PE.gk_mem(q:PE)(h:j<q.G.length):q.gk j∈q.G:=by unfold PE.gk;rw[getD_eq_getElem?_getD,getElem?_eq_getElem h];exact getElem_mem h
def xy{α:Type}{l:List α}{d:α}{j:Nat}(h:j<l.length):l.getD j d∈l:=by rw[getD_eq_getElem?_getD,getElem?_eq_getElem h];exact getElem_mem h
def sM:JJ->Option (List (Str×Tok))
 | []=>some []
 |.str z t::l=>(sM l).map ((z,t)::·)
 |_::_=>none
def pO:∀{vs:JJ}{l:List (Str×Tok)},sM vs=some l->vs=strValues l
 | [],l,h=>by cases h;rfl
 |v::vs,l,h=>by
  cases v with
  |str z t=>simp only[sM]at h;obtain⟨m,hm,rfl⟩:=map_eq_some_iff.mp h;rw[pO hm];rfl
  |_=>cases h
def chP(xs:JL):Option Obj->Bool
 | some ⟨.type "tuple", _,.seq a _,_⟩=>(match sM a.toList with
  |some l=>decide (l.map (·.1)=xs)
  |none=>false)
 |_=>false
def chS(K:Frag)(x:Str×Str):Bool:=match nsIn K mainGlobals x.1 with
 |some (some (.str z _))=>decide (z=x.2)
 |_=>false
def dfA(K:Frag)(f:Addr):Addr:=match (dAt K f).defaults with
 |.ref a=>a
 |_=>0
def Bd(x:FS)(a:Addr):Obj->Obj
 |⟨oc,od,.func d,sl⟩=>⟨oc,od,.func (fnOf (bJ x.s) x.q (cZ x.s) (bQ x.s) (aH x.s) (.ref a) d.kwdefaults d.doc d.pyModule d.annotations d.code d.closureTuple),sl⟩
 |o=>o
def Go(b:Bool):Option Obj->Bool
 |some ⟨_,_,.seq a _,_⟩=>decide (a.toList=[.bool b])
 |_=>false
def sB(P:Params):List DictEntry->List (Str×Int)->List DictEntry
 |⟨_,.str _ t,.int _ u⟩::es,(k,v)::kvs=>⟨PyData.keyHash P k,.str k t,.int v u⟩::sB P es kvs
 |_,_=>[]
def BH:(sB P es kvs).length=kvs.length->qw P (sB P es kvs) kvs:=by
 fun_induction sB P es kvs with
 |case1=>rename_i ih;exact fun e=>⟨⟨_,_,rfl⟩,ih (by simpa using e)⟩
 |case2=>intro e;have e:=eq_nil_of_length_eq_zero e.symm;subst e;trivial
def Hq(P:Params)(kvs:List (Str×Int)):Obj->Obj
 |⟨_,_,.dict es ep,_⟩=>{cls:=.type "dict",dict:=none,data:=.dict (sB P es.toList kvs).toArray ep,slots:=#[]}
 |o=>o
def okG(P:Params)(kvs:List (Str×Int)):Option Obj->Bool
 |some ⟨_,_,.dict es _,_⟩=>decide ((sB P es.toList kvs).length=kvs.length)
 |_=>false
structure FD(p:PT)(K:Frag)(mg:JE)(y:FS×Bool):Prop where
 fn:BZ K (bJ y.1.s) y.1.q y.1.s (p.fx K y.1) (dAt K (p.fx K y.1)) (dfA K (p.fx K y.1)) [.bool y.2]
 sc:dF y.1.N (y.1.N.take y.1.k) (aH y.1.s)
 bn:fA K (dAt K (p.fx K y.1)) (y.1.N.take y.1.k) []
 gl:mg (bJ y.1.s)=some (.ref (p.fx K y.1))
structure Ty(p:PT)(q:PE)(w:World)(K:Frag)(mg:JE):Prop where
 tx:Tx p K mg
 fd:∀y∈q.D,FD p K mg y
 dc:∀y∈q.G,mg y.1=some (.ref (gAt K y.1))/\kJ w K (gAt K y.1) y.2
 st:∀y∈q.S,∃t,mg y.1=some (.str y.2 t)
 tp:∀y∈q.P,mg y.1=some (.ref (gAt K y.1))/\Jq K (gAt K y.1) y.2
section
variable{p:PT}{q:PE}{w:World}{K:Frag}{mg:JE}
def Ty.gm(t:Ty p q w K mg)(j:Nat)(h:j<q.G.length:=by decide):mg (q.gk j).1=some (.ref (gAt K (q.gk j).1)):=(t.dc _ (q.gk_mem h)).1
def Ty.gd(t:Ty p q w K mg)(j:Nat)(h:j<q.G.length:=by decide):kJ w K (gAt K (q.gk j).1) (q.gk j).2:=(t.dc _ (q.gk_mem h)).2
def Tx.kO(t:Tx p K mg)(j:Nat)(h:j<p.KT.length:=by decide)(e:(p.kk j).1=some c0:=by rfl)(c:Nat):kitOne K (.ref (p.xa K c)) (.ref (p.xa K c0))=some (dz (p.kk j).2.2 c):=by have q:=t.kt (p.kk j) (by unfold PT.kk;rw[getD_eq_getElem?_getD,getElem?_eq_getElem h];exact getElem_mem h) c;unfold tgV at q;rw[e]at q;exact q
def Tx.g(t:Tx p K mg)(j:Nat)(h:j<p.HT.length:=by decide)(c:Nat):exmOne K (.ref (p.xa K c)) (.ref (p.xa K (p.hk j).1))=some (dz (p.hk j).2 c):=t.ht _ (by unfold PT.hk;rw[getD_eq_getElem?_getD,getElem?_eq_getElem h];exact getElem_mem h) c
def Tx.hO(t:Tx p K mg)(j:Nat)(h:j<p.HT.length:=by decide)(c:Nat)(hc:dz (p.hk j).2 c=true):exmOne K (.ref (p.xa K c)) (.ref (p.xa K (p.hk j).1))=some true:=hc▸t.g j h c
end
def HZ(y:FS×Bool):Prop:=∀(dT:Addr) (kV doc pm:Value) (an:Option Addr) (cdv ct:Value) (us:JJ),(us++[]).length=(y.1.N.take y.1.k).length ->
 ∃k:Option (JN)->Sem (List (Str×Value)),bindArgs (fnOf (bJ y.1.s) y.1.q (cZ y.1.s) (bQ y.1.s) (aH y.1.s) (.ref dT) kV doc pm an cdv ct) ⟨us,[]⟩=seqItems? (.ref dT) >>= k/\k (some [Value.bool y.2].toArray)=pure ((y.1.N.take y.1.k).zip (us++[]))
def zZ:List (FS×Bool)->Prop
 | []=>True
 |x::l=>HZ x/\zZ l
def zZ.get:∀{l:List (FS×Bool)},zZ l->∀x∈l,HZ x
 | [],_,_,h=>nomatch h
 |y::l,⟨h1,h2⟩,x,h=>by
  rcases mem_cons.mp h with rfl|h
  ·exact h1
  ·exact h2.get x h
section
variable(p:PT)(q:PE)(P:Params)(K:Frag)
def PE.ob:List (Option Obj):=q.D.map fun y=>K.lookup (p.fx K y.1)
def PE.ol:List (Option Obj):=q.D.map fun y=>(K.lookup (p.fx K y.1)).map (Bd y.1 (dfA K (p.fx K y.1)))
def PE.ch:Bool:=q.D.all fun y=>p.chF K y.1&&y.1.c.isNone&&Go y.2 (K.lookup (dfA K (p.fx K y.1)))
def PE.gb:List (Option Obj):=q.G.map fun y=>K.lookup (gAt K y.1)
def PE.gl:List (Option Obj):=q.G.map fun y=>(K.lookup (gAt K y.1)).map (Hq P y.2)
def PE.cs:Bool:=q.S.all (chS K)&&q.P.all fun y=>decide (nsIn K mainGlobals y.1=some (some (.ref (gAt K y.1))))&&chP y.2 (K.lookup (gAt K y.1))
def PE.cg:Bool:=q.G.all fun y=>decide (nsIn K mainGlobals y.1=some (some (.ref (gAt K y.1))))&&!(gAt K y.1==sysModules)&&okG P y.2 (K.lookup (gAt K y.1))
end
def Ty.of(X:K.In h)(N:h.Ns mainGlobals mg)(t:Tx p K mg)(hb:zZ q.D)(hs:q.D.all (fun y=>scB y.1)=true)
  (e:q.ob p K=q.ol p K) (h1:q.ch p K=true) (e2:q.gb K=q.gl w.params K) (h2:q.cg w.params K=true) (h3:q.cs K=true):Ty p q w K mg:=by
 simp only[PE.ch,PE.cg,PE.cs,and_eq_true,all_eq_true,decide_eq_true_eq]at h1 h2 h3 hs;refine⟨t,fun y hy=>?_,fun y hy=>?_,fun y hy=>?_,fun y hy=>?_⟩
 ·obtain⟨⟨a1,a2⟩,a3⟩:=h1 y hy;simp only[PT.chF,and_eq_true]at a1;obtain⟨⟨⟨q1,q2⟩,q3⟩,q4⟩:=a1;have e1:K.lookup (p.fx K y.1)=(K.lookup (p.fx K y.1)).map (Bd y.1 (dfA K (p.fx K y.1))):=List.map_inj_left.mp e y hy;have F:BZ K (bJ y.1.s) y.1.q y.1.s (p.fx K y.1) (dAt K (p.fx K y.1)) (dfA K (p.fx K y.1)) [.bool y.2]:=by
   have dl:∃(o:Obj) (n:Nat),K.lookup (dfA K (p.fx K y.1))=some o/\o.data=.seq [Value.bool y.2].toArray n:=by
    unfold Go at a3;split at a3
    ·rename_i a n _ eo
     exact⟨_,n,eo,by rw[<- of_decide_eq_true a3]⟩
    ·cases a3
   generalize dfA K (p.fx K y.1)=dT at e1 dl;cases eo:K.lookup (p.fx K y.1)with
   |none=>rw[eo]at q1;cases q1
   |some o=>
    rw[eo]at e1 q1;obtain⟨oc,od,dt,sl⟩:=o;cases dt with
    |func d=>
     have e2:(⟨oc,od,.func d,sl⟩:Obj)=Bd y.1 dT ⟨oc,od,.func d,sl⟩:=Option.some.inj e1;simp only[Bd,Obj.mk.injEq,Data.func.injEq,true_and,and_true]at e2;have ed:dAt K (p.fx K y.1)=d:=by unfold dAt;rw[eo]
     rw[ed]at q2 ⊢;exact⟨⟨oc,od,d.kwdefaults,d.doc,d.pyModule,d.annotations,d.code,d.closureTuple,sl,e2,eo,q2⟩,q3,dl⟩
    |_=>cases q1
  have sc:dF y.1.N (y.1.N.take y.1.k) (aH y.1.s):=by have q:=hs y hy;simp only[scB,and_eq_true,decide_eq_true_eq,all_eq_true,not_eq_true']at q;obtain⟨⟨⟨⟨⟨⟨q1,q2⟩,q3⟩,q4⟩,q5⟩,q6⟩,q7⟩:=q;exact⟨q1,q2,q3,q4,by rw[length_take,Nat.min_eq_left q5],q6,q7⟩
  refine⟨F,sc,F.binds (es:=[]) (hb.get y hy _),?_⟩;rw[Option.isNone_iff_eq_none.mp a2]at q4;exact mg_of X N (of_decide_eq_true q4)
 ·obtain⟨⟨a1,a2⟩,a3⟩:=h2 y hy;refine⟨mg_of X N a1,by simpa using a2,?_⟩;have e1:K.lookup (gAt K y.1)=(K.lookup (gAt K y.1)).map (Hq w.params y.2):=List.map_inj_left.mp e2 y hy;unfold okG at a3;split at a3
  ·rename_i a b es ep sl eo
   rw[eo]at e1;exact⟨sB w.params es.toList y.2,ep,by rw[eo];exact e1,BH (of_decide_eq_true a3)⟩
  ·cases a3
 ·have a:=h3.1 y hy;unfold chS at a;split at a
  ·rename_i z tk e
   rw[<- of_decide_eq_true a];exact⟨tk,mg_of X N e⟩
  ·cases a
 ·obtain⟨a1,a2⟩:=h3.2 y hy;refine⟨mg_of X N a1,?_⟩;unfold chP at a2;split at a2
  ·rename_i dd a n sl eo
   split at a2
   ·rename_i l el
    have e:=pO el;refine⟨dd,l,n,sl,?_,of_decide_eq_true a2⟩;rw[eo,<- e]
   ·cases a2
  ·cases a2
open PySem.W (fnOf Frag)
section
variable{X:Cx}{W:Nat->St->JP}{p:PT}{hA:p.attOk}{T:Tb}
def Tx.kB{K:PySem.W.Frag}{mg:JE}(t:Tx p K mg)(j:Nat)(h:j<p.KT.length:=by decide)(e:(p.kk j).1=none:=by rfl)(c:Nat):kitOne K (.ref (p.xa K c)) (.type (p.kk j).2.1)=some (dz (p.kk j).2.2 c):=by have q:=t.kt (p.kk j) (xy h) c;unfold tgV at q;rw[e]at q;exact q
end
end PR
namespace PR
open PySem PySem.Spec L2
def cxF(P:Program)(w:World)(K:PySem.W.Frag)(mg:JE)(base:Heap)(N:JL)(qual:Str)(scope:Scope)(f:Addr)(cd:Value)(cl:List (Str×Addr))(A:Around)(outer:List Env)(s:Shared)(H:Hp)(E:XK):Cx where
 prog:=P
 w:=w
 K:=K
 mg:=mg
 base:=base
 A:=A.deeper (envX qual scope s.heap.objs.size f cd cl)
 N:=N
 s₀:=s
 H₀:=H
 env:=envX qual scope s.heap.objs.size f cd cl
 outer:=outer
 stack:=envX qual scope s.heap.objs.size f cd cl::outer
 ex:=[]
 calm:=true
 fn:=fun _=>false
 pn:=[]
 xe:=fun e s'=>wpAny (model P w) (A.deeper (envX qual scope s.heap.objs.size f cd cl)) (leaving (envX qual scope s.heap.objs.size f cd cl) e) (fun _ s''=>CXP P w outer H s E e s'') (fun e' s''=>CXP P w outer H s E e' s'') s'
structure qR(N ps fr:JL)(sc:Scope):Prop where
 kind:sc.kind=.function
 co:sc.isCoroutine=false
 gen:sc.isGenerator=false
 nd:N.Nodup
 pre:N.take (ps++fr).length=ps++fr
 par:∀x∈ps,sc.names.lookup x=some .local
 fre:∀x∈fr,sc.names.lookup x=some .free
 only:∀y∈sc.names,y.2=.free->y.1∈fr
 nocell:∀y∈sc.names,y.2≠.cell
section
variable{P:Program}{w:World}{K:PySem.W.Frag}{mg:JE}{base:Heap}{N ps fr:JL}{qual:Str}{scope:Scope}{f:Addr}{cd:Value}{cl:List (Str×Addr)}{A:Around}{outer:List Env}{s:Shared}{H:Hp}{E:XK}
def lS:∀{ps:JL}{us:JJ}{i:Nat}{y:Str}{u:Value},ps.Nodup->ps.length<=us.length->ps[i]?=some y->us[i]?=some u->(ps.zip us).reverse.lookup y=some u:=by
 intro ps us i y u nd hl h1 h2;have key:∀(l:List (Str×Value)),(l.map (·.1)).Nodup->(y,u)∈ l->l.lookup y=some u:=by
  intro l
  induction l with
  |nil=>intro _ h;cases h
  |cons p l ih=>
   intro n h;obtain⟨a,b⟩:=p;rw[map_cons,nodup_cons]at n;rw[lookup_cons];by_cases e:y=a
   ·subst e;rw[beq_self_eq_true];rcases mem_cons.mp h with h|h
    ·cases h;rfl
    ·exact absurd (List.mem_map_of_mem (f:=(·.1)) h) n.1
   ·rw[beq_eq_false_iff_ne.mpr e];rcases mem_cons.mp h with h|h
    ·cases h;exact absurd rfl e
    ·exact ih n.2 h
 refine key _ ?_ (List.mem_reverse.mpr ?_)
 ·rw[List.map_reverse];refine(List.reverse_perm _).nodup_iff.mpr ?_;rw[List.map_fst_zip hl];exact nd
 ·have:(ps.zip us)[i]?=some (y,u):=by rw[List.getElem?_zip_eq_some];exact⟨h1,h2⟩
  exact List.mem_of_getElem? this
def sg(S:qR N ps fr scope)(hd:A.handled=none)(e0:pI P w K mg base A outer s H)(C:Clo H fr cl cvs)(hl:vs.length=ps.length)(r:aW vs us)
  (hns:h'.Ns s.heap.objs.size fun x=>(ps.zip us).reverse.lookup x) (hk:∀b o,s.heap.get? b=some o->h'.get? b=some o) :
  Inv (cxF P w K mg base N qual scope f cd cl A outer s H E) [] (start N (vs++cvs)) H {s with heap:=h',toks:=t}:=by
 have hpl:(ps++fr).length<=N.length:=by have:=congrArg List.length S.pre;rw[length_take]at this;omega
 have noA:∀b:Addr,b ∉(cxF P w K mg base N qual scope f cd cl A outer s H E).ex:=fun b z=>absurd (show b ∈([]:JK)from z) (by simp);have ndN:=S.nd;rw[<- List.take_append_drop (ps++fr).length N,S.pre]at ndN;have ndP:ps.Nodup:=(nodup_append.mp (nodup_append.mp ndN).1).1;refine ⟨⟨e0.mod,S.kind,rfl,rfl,Nat.le_refl _,C.inj,fun y hy=>?_,fun y c h=>(nomatch h),fun _=>hd,Around.frames_deeper e0.frames,.inr ⟨rfl,rfl⟩,fun b z=>absurd z (noA b),e0.bs,e0.bsz,fun b _ _=>noA b,fun b z=>absurd z (noA b),e0.funs,e0.frf⟩,
  rfl,e0.bare,Un.kept hk,⟨_,hns,fun i y v h1 h2 h3=>?_⟩,fun y c h=>?_,e0.hok.fresh (Nat.le_refl _),fun y c h=>?_,fun p hp=>absurd (show p ∈([]:JG)from hp) (by simp),e0.hok.kept hk,?_⟩
 ·have hy:scope.names.lookup y=some .cell\/scope.names.lookup y=some .free:=hy;rcases hy with hy|hy
  ·exact absurd rfl (S.nocell _ (PySem.mem_of_lookup hy))
  ·obtain⟨i,hi,e⟩:=getElem_of_mem (S.only _ (PySem.mem_of_lookup hy) rfl);have hv:i<cvs.length:=by rw[C.len];exact hi
   obtain⟨c',_,_,_,q1,_⟩:=C.val i y cvs[i] (by rw[getElem?_eq_getElem hi,e]) (getElem?_eq_getElem hv);exact⟨c',q1⟩
 ·have hi:i <(vs++cvs).length:=by
   unfold L2.start at h2;by_cases hi:i <(vs++cvs).length
   ·exact hi
   ·rw[getElem?_append_right (by simpa using hi)]at h2;rw[getElem?_replicate]at h2;split at h2<;>cases h2
  have ha:(vs++cvs)[i]?=some v:=by
   unfold L2.start at h2;rw[getElem?_append_left (by simpa using hi),getElem?_map]at h2;cases e:(vs++cvs)[i]? with
   |none=>rw[e]at h2;cases h2
   |some a=>rw[e]at h2;cases h2;rfl
  have hpf:(ps++fr)[i]?=some y:=by rw[<- S.pre,List.getElem?_take_of_lt (by rw[length_append]at hi ⊢;rw[<- hl,<- C.len];exact hi)];exact h1
  by_cases hip:i<vs.length
  ·rw[getElem?_append_left hip]at ha;rw[getElem?_append_left (by rw[<- hl];exact hip)]at hpf;obtain⟨u,hu,rv⟩:=r.get ha;exact⟨u,rv,.inl ⟨S.par y (List.mem_of_getElem? hpf),lS ndP (by rw[<- r.length,hl];exact Nat.le_refl _) hpf hu⟩⟩
  ·rw[getElem?_append_right (by omega)]at ha;rw[getElem?_append_right (by omega),<- hl]at hpf;obtain⟨c,o,u,z,q1,q2,q3,q4⟩:=C.val _ y v hpf ha;exact⟨z,q4,.inr ⟨.inr (S.fre y (List.mem_of_getElem? hpf)),c,q1,o,hk c o (e0.hok c _ q2).1,q3⟩⟩
 ·obtain⟨o,u,z,q1,q2⟩:=C.at h;exact⟨_,o,hk c o (e0.hok c _ q1).1,q2⟩
 ·obtain⟨o,u,z,q1,q2⟩:=C.at h;exact .inr ⟨rfl,o,u,q1⟩
 ·unfold L2.start;show _=N.length;rw[length_append,length_map,List.length_replicate];have:(vs++cvs).length=(ps++fr).length:=by rw[length_append,length_append,hl,C.len]
  omega
def IG:XF (cxF P w K mg base N qual scope f cd cl A outer s H E) T (WD T E):=by intro js Y H1 s1 c H2 e s2 I fl hW;obtain⟨x,a0,Bh,rfl,fly,tr,ol⟩:=fl.fly;refine wpAny_leaves_onW (L:=s.heap.objs.size) I.ok.frames rfl fly fun h' fly' up=>?_;obtain⟨h2,g2,d2,t2,os2⟩:=s2;exact⟨_,H2,i3 I rfl rfl rfl fl.os fl.bare fl.un fl.hok tr ol fly' up,hW⟩
def HN{T:Tb}(hr:d0 k (A.deeper (envX qual scope s.heap.objs.size f cd cl))):Ctx (cxF P w T.K mg base N qual scope f cd cl A outer s H E) T (WD T E) k:=⟨rfl,rfl,hr,IG,PassesOwn.leaving⟩
def FnF(P:Program)(w:World)(K:PySem.W.Frag)(mg:JE)(base:Heap)(k:Nat)(name qual:Str)(params:Arguments)(body:List Stmt)(scope:Scope)(ps fr:JL)(sp:Sp):Prop:=
 ∀(A:Around) (outer:List Env) (s:Shared) (H:Hp) (f:Addr) (o:Obj) (cl:List (Str×Addr)) (doc pm ctv cdv:Value) (cvs vs:JO) (us:JJ) (args:Args) (Q:VK) (E:XK),
  d0 k A->pI P w K mg base A outer s H->s.heap.get? f=some o->o.data=.func (fnX name qual params body scope cl .none .none doc pm none cdv ctv)->s.heap.CodeRec cdv qual->Clo H fr cl cvs ->
  BindsTo s (fnX name qual params body scope cl .none .none doc pm none cdv ctv) args (ps.zip us)->aW vs us->vs.length=ps.length->sp (vs++cvs) H Q E ->
  codeAny (model P w) A (.call (.ref f) args) (CR (CXP P w) outer P w H s Q E) s
def Jj{T:Tb}(S:qR N ps fr scope)
  (body:∀ (f:Addr) (cdv:Value) (cl:List (Str × Addr)) (A:Around) (outer:List Env) (s:Shared) (H:Hp) (E:XK),Ctx (cxF P w T.K mg base N qual scope f cdv cl A outer s H E) T (WD T E) k ->
   SSs (cxF P w T.K mg base N qual scope f cdv cl A outer s H E) T (WD T E) bd m) :
  FnF P w T.K mg base (k+1) name qual params bd scope ps fr (spM T (ps.length+fr.length) (a_ N.length m)):=by
 intro A outer s H f o cl doc pm ctv cdv cvs vs us args Q E hr e0 ho hd hcd C hb r hl hsp;have lim:s.heap.NoLimit:=e0.mod.nolimit.keeps fun b o e=>(e0.bs b o e).1;refine codeAny_call_function hr.depth ho hd S.co S.gen rfl hcd (hb _ _ _ _ ?_);refine wpAny_newFunctionEnv S.nocell (fun x hx=>S.par x.1 (of_mem_zip hx).1) (fun h' hns hsb=>?_) S.kind;have hk:∀b o,s.heap.get? b=some o->h'.get? b=some o:=fun b o e=>(hsb.2 b (Nat.ne_of_lt (lt_size e))).trans (get?_push_of_some _ e);refine⟨lim.keeps hk,codeAny_func ?_⟩;obtain⟨_,pvs,F,B,fl,R,q⟩:=hsp;obtain⟨fp,S0⟩:=i5 N R none (fun _ h=>nomatch h);have I:=sg (t:=s.toks+(ps.zip us).length) (f:=f) (cd:=cdv) (qual:=qual) (E:=E) S hr.hd e0 C hl r hns hk;have ht:=body f cdv cl A outer s H E (HN (hr.deeper _)) [] _ _ H { nx:=fun _ H'=>Q .non H',rt:=Q } I ⟨_,F,_,fp,S0,by
  unfold a_ at q;cases e:m (pvs.map some++replicate (N.length-pvs.length) none)with
  |next e'=>rw[e]at q;exact fun F' H' σ' fp' S'=>q F' H' .non [] S'.hp CS nodup_nil (fun _ z=>(nomatch z)) (fun _ z=>(nomatch z))
  |ret v=>rw[e]at q;exact q
  |brk e'|cont e'=>rw[e]at q;exact q.elim
  |exc c e'=>rw[e]at q;exact fun F' H' σ' fp' S'=>q H' S'.hp.keep
  |stuck=>rw[e]at q;exact q.elim⟩
 refine wpAny_mono ht (fun fl s' hs=>?_) fun e s' hs=>hs;have fin:∀{σ':St}{H':Hp}{v:V}{u:Value},Inv (cxF P w T.K mg base N qual scope f cdv cl A outer s H E) [] σ' H' s'->bX v u->Q v H'->CE outer P w H s Q u s':=
  fun {σ' H' v u} J rv q=>⟨v,H',J.os,J.bare,J.base,J.hok,rv,q⟩
 cases fl with
 |ret u=>obtain⟨v,σ',H',J,rv,q⟩:=hs;exact fin J rv q
 |next=>obtain⟨σ',H',J,q⟩:=hs;exact fin (v:=V.non) (u:=Value.none) J rfl q
 |brk=>obtain⟨_,_,_,q⟩:=hs;exact False.elim q
 |cont=>obtain⟨_,_,_,q⟩:=hs;exact False.elim q
end
section
variable{X:Cx}{T:Tb}{W:Nat->St->JP}{Z:Zn}{F F1:JH}{H H1:Hp}{Y:St}{env:En}{fp:Nat->JK}
def Gq(hc:∀E,spM T n m (vs++dvs) H1 Q E->codeAny (model X.prog X.w) X.A (.call (.ref f) ⟨us,kw⟩) (CR (CXP X.prog X.w) X.stack X.prog X.w H1 s1 Q E) s1)(hdp:RelL T F1 Z.B (Own fp) H1 dps dvs [])(hx:XF X T W)
  (S:aD T Z F H Y env fp) (g:Gr F H F1 H1) (r:RelL T F1 Z.B (Own fp) H1 xs vs fx) (nf:∀a∈fx,¬F1 a) (nd:fx.Nodup) (new:∀a∈fx,H a=none) (q:GE T W Z.B F (Own fp) Y H Q (aL m (xs++dps)))
  (I1:L2.Inv X js Y H1 s1) (hlen:vs.length+dvs.length=n):wpAny (model X.prog X.w) X.A (call (.ref f) us kw) (EP X js Y Q) X.xe s1:=by
 have rr:RelL T F1 Z.B (Own fp) H1 (xs++dps) (vs++dvs) fx:=by
  have:=RelL.append r hdp
  rwa [append_nil]at this
 have hBo:∀a,Z.B a->(∃o,H1 a=some o)/\a∉fx:=fun a h=>by obtain⟨⟨o,h1⟩,h2⟩:=S.hp.bo.1 a h;have h3:=S.hp.keep a o h1 h2;exact⟨⟨o,g.ext a o h3⟩,fun z=>by rw[new a z]at h3;cases h3⟩
 have hOw:∀a,Own fp a->(∃o,H1 a=some o)/\a∉fx:=fun a hz1=>by obtain⟨i,hi⟩:=hz1;obtain⟨_,o,ho⟩:=S.dis i a hi;exact⟨⟨o,g.ext a o ho⟩,fun z=>by rw[new a z]at ho;cases ho⟩
 have R:sL T F1 (fun a=>(∃o,H1 a=some o)/\a∉fx) H1 (mapL Fl.JT (xs++dps)) (vs++dvs) fx:=⟨RelL.JT hBo hOw rr,nd,nf,⟨fun a h=>h,S.tbo g.ext fun a z=>.inl (new a z)⟩,g.dom⟩
 refine wpAny_call (codeAny_mono (hc (fun cls _ H'=>∃c,cls=.ref (T.xcl c)/\W c Y H') ⟨by rw[length_append];exact hlen,_,F1,_,fx,R,?_⟩) fun rs s' hq=>?_)
 ·unfold aL at q;cases e:m (mapL Fl.JT (xs++dps))with
  |ok v=>
   rw[e]at q;dsimp only at q;intro F2 H2 u f2 hp2 r3 nd2 nf2 new2;by_cases hbr:v.has Fl.JY=true
   ·rw[if_pos hbr]at q;exact q.elim
   ·rw[if_neg hbr]at q;have hbr':v.has Fl.JY=false:=by simpa using hbr
    refine q u H2 F2 f2 ⟨fun a o h=>hp2.keep a o (g.ext a o h) fun z=>(by rw[new a z]at h;cases h),fun a h=>hp2.f0 a (g.mono a h),fun a h=>?_,hp2.ft⟩ ?_ nf2 nd2 fun a ha=>?_
    ·rcases hp2.fn a h with z|z|z
     ·exact g.only a z
     ·exact .inr (g.ext.free z)
     ·exact .inr (new a z)
    ·exact Rel.tr (fun _ h=>h) (fun _ h=>h) (fun _ h=>h.elim) (fun _ _ h _=>h) (fun _ _ _ h=>h) (Rel.noB (B':=Z.B) hbr' r3)
    ·rcases new2 a ha with z|z
     ·exact g.ext.free z
     ·exact new a z
  |exc c=>rw[e]at q;exact fun H' h=>⟨c,rfl,q H' fun a o z=>h a o (g.ext a o z) fun z'=>by rw[new a z']at z;cases z⟩
  |stuck=>rw[e]at q;exact q.elim
 ·cases rs with
  |error e=>obtain⟨cls,H',fl,c,rfl,hw⟩:=hq;exact hx js Y H1 s1 c H' e s' I1 fl hw
  |ok fl=>
   cases fl with
   |ret u=>exact I1.after hq
   |next|brk|cont=>exact False.elim hq
def kf(i kb:Nat)(m:JQ->JR)(ms:MA):ME:=fun env=>match (env[i]?).join with
 |some (.box k cps)=>if k=kb/\dI cps=true then(ms env).bind fun xs=>aL m (xs++cps)else .stuck
 |_=>.stuck
def we{fi:FI}(G:FnF X.prog X.w X.K X.mg X.base k fi.name fi.qual fi.params fi.body fi.scope ps fi.fr (spM T (ps.length+fi.fr.length) m))(hr:d0 k X.A)(hbx:∀H f cvs,T.bx kb H f cvs->fi.bx H f cvs)
  (hb:∀(cl:List (Str×Addr)) (doc pm ctv cdv:Value) (us:JJ),us.length=ps.length->bindArgs (fnX fi.name fi.qual fi.params fi.body fi.scope cl .none .none doc pm none cdv ctv) ⟨us,[]⟩=pure (ps.zip us))
  (hx:XF X T W) (hN:X.N[i]?=some x) (hv:Vis X.env.scope x) (hn:∀env xs,ms env=.ok xs->xs.length=ps.length) (ha:SA X T W (e::es) ms)
  (hd:(x ==("__debug__":Str))=false:=by decide) (hcd:(x ==("__classdict__":Str))=false:=by decide)
  (he:starEach (e::es) X.env=(false,eval e X.env)::starEach es X.env:=by rfl) (hpl:(backTo pos (starEach es X.env)).any (·.1)=false:=by rfl) :
  SE X T W (.Call (.Name x p) (e::es) [] pos) (kf i kb m ms):=by
 intro js s Y H Q I h;obtain⟨Z,F,env,fp,S,q⟩:=h;unfold kf at q;split at q
 ·rename_i kk cps hi
  split at q
  ·rename_i hc
   obtain⟨rfl,hno⟩:=hc;have hi':env[i]?=some (some (.box kk cps)):=by
    cases e0:env[i]? with
    |none=>rw[e0]at hi;cases hi
    |some z=>rw[e0]at hi;simp only[join_some]at hi;rw[hi]
   obtain⟨v0,hs0,rv0⟩:=S.rel i _ hi';unfold Rel at rv0;obtain⟨f,cvs,rfl,hbf,rc⟩:=rv0;obtain⟨hf0,rc⟩:=eF hno rc;rw[hf0]at rc;refine wpAny_Call_Name_kw (thn (hZ (pos:=p) hN hv hd hcd js s Y H (fun v H1=>v=.ref f/\H1=H) I ⟨_,hs0,rfl,rfl⟩) fun u s0 zz=>?_);obtain⟨v,H0,I0,rv,e1,e2⟩:=zz;subst e1 e2;obtain rfl:u=.ref f:=rv;have fnAt:∀(H1:Hp) (s1:Shared),Ext H0 H1->L2.Inv X js Y H1 s1->FnAt f s1.heap:=fun H1 s1 ex I1=>by obtain⟨_,_,_,_,_,_,_,_,_,_,h1,_⟩:=hbx _ _ _ hbf;obtain⟨g1,_⟩:=I1.hok f _ (ex _ _ h1);exact⟨_,_,_,_,g1⟩
   refine PySem.W.callWith_F (first:=[]) (fnAt H0 s0 Ext.refl I0) (thn (ha pos js s0 Y H0 (fun vs H1=>∀ us s1,L2.Inv X js Y H1 s1->aW vs us->FnAt f s1.heap/\wpAny (model X.prog X.w) X.A (call (.ref f) us) (EP X js Y Q) X.xe s1) I0
    (tA.bq S fun xs vs H1 F1 f1 e1 g1 r1 n1 d1 w1 us s1 I1 rv=>?_)) fun us s1 ⟨vs,H1,I1,r,q1⟩=>q1 us s1 I1 r) he hpl
   rw[e1]at q;refine⟨fnAt H1 s1 g1.ext I1,?_⟩;have lv:vs.length=ps.length:=by rw[<- r1.length];exact hn env xs e1
   refine Gq (n:=ps.length+fi.fr.length) (fun E hsp=>?_) ((rc.ext g1.ext g1.mono).tr (fun _ h=>h) (fun _ h=>h) (fun _ h=>h.elim) (fun _ _ h _=>h) (fun _ _ _ h=>h)) hx S g1 r1 n1 d1 w1 q I1 ?_
   ·obtain⟨cl,doc,pm,ctv,c',oc,u,u',ws,t,h1,h2,h3,h4,C⟩:=FI.bxs (fun b o u z=>g1.ext b _ z) (hbx _ _ _ hbf);obtain⟨o1,_⟩:=I1.hok f _ h1;obtain⟨o2,_⟩:=I1.hok c' _ h2;exact G X.A X.stack s1 H1 f _ cl doc pm ctv (.ref c') cvs vs us ⟨us,[]⟩ Q E hr I1.env0 o1 rfl ⟨c',oc,ws,t,rfl,o2,h3,h4⟩ C (.of_eq (hb cl doc pm ctv (.ref c') us (by rw[<- rv.length,lv]))) rv lv hsp
   ·obtain⟨_,_,_,_,_,_,_,_,_,_,_,_,_,_,C⟩:=hbx _ _ _ hbf;rw[lv,C.len]
  ·exact q.elim
 ·exact q.elim
end
end PR
namespace L2
open PySem PySem.Spec
def uT:HO:=.ext fun _=>True
def tD{P:Program}{w:World}{H:Hp}{h:Heap}{a:Addr}{o:Obj}(e:h.get? a=some o):cU P w H h a (.frz o uT):=⟨e,True.intro,⟨o,e⟩,fun _ _ _ _=>True.intro⟩
section
variable{X:Cx}{js:JG}{Y:List (Option V)}{H:Hp}{s:Shared}
def Inv.frzC{x:Str}{c:Addr}(I:Inv X js Y H s)(hc:X.env.cells.lookup x=some c)(hf:X.fn x=false)(ha:X.s₀.heap.objs.size<=c) :
  ∃H' o u,(∀b z,H b=some z->H' b=some z)/\H' c=some (.frz o u)/\s.heap.get? c=some o/\Inv X js Y H' s:=by
 rcases I.freeC x c hc with hn |⟨_,o,u,hn⟩
 ·obtain⟨v,o,ho,hd⟩:=I.cell x c hc;have ext:∀b z,H b=some z->upd H c (.frz o uT) b=some z:=fun b z e=>by rw[aJ (bP e hn)];exact e
  have old:∀b ob,X.s₀.heap.get? b=some ob->b≠c:=fun b ob e=>Nat.ne_of_lt (Nat.lt_of_lt_of_le (lt_size e) ha);refine⟨upd H c (.frz o uT),o,uT,ext,bz,ho,⟨I.ok,I.os,I.bare,⟨I.base.keep,I.base.slot,fun b ob e n hx=>?_,I.base.there,fun b xs e=>ext _ _ (I.base.tups b xs e),fun b ob u e=>ext _ _ (I.base.frzs b ob u e),fun b ps e=>?_⟩,I.loc,I.cell,?_,fun y d hy=>?_,fun p hp=>?_,fun b z e=>?_,I.len⟩⟩
  ·rw[aJ (old b ob e)];exact I.base.free b ob e n hx
  ·obtain⟨m,e'⟩:=I.base.tbls b ps e;exact⟨m,ext _ _ e'⟩
  ·rw[aJ (Ne.symm (I.cne x c hc))];exact I.free
  ·by_cases q:d=c
   ·subst q;obtain rfl:=I.ok.inj x y d hc hy;exact .inr ⟨hf,o,uT,bz⟩
   ·rw[aJ q];exact I.freeC y d hy
  ·obtain⟨e,n,np,nf,nd⟩:=I.pin p hp;refine⟨e,?_,np,nf,nd⟩;rw[aJ fun q=>?_];exact n;rw[q,ho]at e;cases e;exact nd v hd
  ·by_cases q:b=c
   ·subst q;rw[bz]at e;cases e;exact tD ho
   ·rw[aJ q]at e;exact(I.hok b z e).stay (fun _ _ _ h=>h) (fun d h=>ext _ _ h) fun d u _ h=>ext _ _ h
 ·exact⟨H,o,u,fun _ _ e=>e,hn,(I.hok c _ hn).1,I⟩
end
end L2
namespace L2
open PySem PySem.Spec
section
variable{X:Cx}{js:JG}{Y:List (Option V)}{H:Hp}{s:Shared}{M:Model}{A:Around}{E:JD}{Q:JD}{name qual:Str}{params:Arguments}{body:List Stmt}{scope:Scope}{c0 Pt:Addr}{pos:Pos}{fl:Nat}{clos:List (Str×Addr)}
def z7(I:Inv X js Y H s)(hP:H Pt=some (.tbl #[rawInt pos.line,rawInt pos.col,.str qual 0]))(C:CodeHd X.base c0 Pt)(hcode:X.env.code=.ref c0)(hbt:X.base.BuiltinsAt X.mg Pt)(hcl:closureFor scope X.env=pure clos)
  (h:∀ f c' oc u vs t ctv doc H' s',(∀ b z,H b=some z->H' b=some z)->H' f=some (.frz (fnMade name qual params body scope clos doc ((X.mg "__name__").getD .none) c' ctv) uT)->H' c'=some (.frz oc u) ->
   oc.data=.fields vs->vs[1]?=some (.str qual t)->Inv X js Y H' s'->Q (.ref f) s') :
  wpAny M A (makeFunction name qual params (.stmts body) scope X.env [] [] [] pos fl) Q E s:=by
 obtain⟨qs,hq,tab⟩:=I.hok Pt _ hP;have hg:s.heap.Ns mainGlobals X.mg:=I.mod.glob.keeps I.bk;have C':=C.keeps I.bk;have hgP:mainGlobals≠Pt:=fun z=>by obtain⟨o,es,ep,e,hd,_⟩:=hg;rw[z,hq]at e;cases e;cases hd
 obtain⟨bm,ob,b1,b2,b3,b4,b5,b6⟩:=hbt;have bt:s.heap.BuiltinsAt X.mg Pt:=⟨bm,ob,b1,b2,b3,b4,I.bk _ _ b5,b6⟩
 have nP:∀b,H b=none->b≠Pt:=fun b n z=>by rw[z,hP]at n;cases n
 rcases tab with rfl |⟨l,c,q,t0,c',oc,u,vs,t,e1,rfl,e3,e4,e5⟩
 ·refine PySem.W.makeFunction_K (mg:=X.mg) hcl I.ok.glob hg hcode C' hq True.intro rfl hgP bt fun c' ctv doc h' tk hx hge hlt hrec htb=>?_;obtain⟨c2,oc,vs,t,e2,hoc,hd,hv⟩:=hrec;cases e2;have hn:=I.hok.fresh hge;have ext:∀b z,H b=some z->upd H c' (.frz oc uT) b=some z:=fun b z e=>by rw[aJ (bP e hn)];exact e
  have kp:∀b o,s.heap.get? b=some o->H b=none->h'.get? b=some o:=fun b o e n=>hx b o (nP b n) e;have I1:Inv X js Y (upd H c' (.frz oc uT)) {s with heap:=h',toks:=tk}:=I.un
   ⟨fun b o e n _ _=>kp b o e n,fun b o e n _ _=>⟨o.slots,kp b o e n⟩,fun b o e n _=>by rw [aJ (Nat.ne_of_lt (Nat.lt_of_lt_of_le (lt_size e) hge))];exact n,
    fun b o e _=>by
     by_cases z:b=Pt
     ·subst z;exact⟨_,htb⟩
     ·exact⟨o,hx b o z e⟩,fun b xs e=>ext _ _ e,fun b o u e=>ext _ _ e,fun b ps e=>⟨#[],by rw[ext _ _ e];simp⟩⟩
   fun b z e=>by
    by_cases hb:b=c'
    ·subst hb;rw[bz]at e;cases e;exact tD hoc
    ·rw[aJ hb]at e;by_cases hp:b=Pt
     ·subst hp;rw[hP]at e;cases e;exact⟨_,htb,.inr ⟨_,_,_,_,c',oc,uT,vs,t,rfl,rfl,bz,hd,hv⟩⟩
     ·refine(I.hok b z e).stay (fun d o hd r=>hx d o ?_ r) (fun d r=>ext _ _ r) fun d u _ r=>ext _ _ r;rcases hd with rfl|hd
      ·exact hp
      ·rintro rfl;rw[hP]at hd;cases hd
  have hf:=I1.hok.fresh (Nat.le_refl _);have I2:=I1.laid (t':=tk) (fun b u e=>get?_push_of_some (fnMade name qual params body scope clos doc ((X.mg "__name__").getD .none) c' ctv) e) (Nat.le_refl _) (tD (get?_push_size _ rfl));refine h _ c' oc uT vs t ctv doc _ _ (fun b z e=>?_) bz ?_ hd hv I2
  ·have:=ext b z e;rw[aJ (bP this hf)];exact this
  ·rw[aJ (Nat.ne_of_lt hlt),bz]
 ·have e1:rawInt pos.line=l/\rawInt pos.col=c/\Value.str qual 0=.str q t0:=by simpa using e1
  obtain⟨rfl,rfl,e1⟩:=e1;cases e1;refine PySem.W.makeFunction_hit (mg:=X.mg) (cv:=.ref c') hcl I.ok.glob hg hcode C' hq True.intro (by simp[codeAmong,rawInt]) bt fun ctv doc h' tk hk hsz=>?_;have I1:Inv X js Y H {s with heap:=h',toks:=tk}:=I.kept hk;have hf:=I1.hok.fresh (Nat.le_refl _);have I2:=I1.laid (t':=tk) (fun b u e=>get?_push_of_some (fnMade name qual params body scope clos doc ((X.mg "__name__").getD .none) c' ctv) e) (Nat.le_refl _) (tD (get?_push_size _ rfl));have ext:∀b z,H b=some z->upd H h'.objs.size (.frz (fnMade name qual params body scope clos doc ((X.mg "__name__").getD .none) c' ctv) uT) b=some z:=fun b z e=>by rw[aJ (bP e hf)];exact e
  exact h _ c' oc u vs t ctv doc _ _ ext bz (ext _ _ e3) e4 e5 I2
end
end L2
namespace L2
open PySem PySem.Spec
section
variable{X:Cx}{js:JG}{Y:List (Option V)}{s:Shared}
def Inv.frzL:∀(l:List (Str×Addr)),(∀p∈l,X.env.cells.lookup p.1=some p.2/\X.fn p.1=false/\X.s₀.heap.objs.size<=p.2)->∀{H:Hp},Inv X js Y H s ->
  ∃H',(∀b z,H b=some z->H' b=some z)/\(∀p∈l,∃o u,H' p.2=some (.frz o u)/\s.heap.get? p.2=some o)/\Inv X js Y H' s
 | [],_,H,I=>⟨H,fun _ _ e=>e,fun _ z=>(nomatch z),I⟩
 |p::l,h,H,I=>by
  obtain⟨h1,h2,h3⟩:=h p (.head _);obtain⟨H1,o,u,e1,q1,g1,I1⟩:=I.frzC h1 h2 h3;obtain⟨H2,e2,q2,I2⟩:=Inv.frzL l (fun q hq=>h q (.tail _ hq)) I1;refine⟨H2,fun b z e=>e2 b z (e1 b z e),fun q hq=>?_,I2⟩;rcases mem_cons.mp hq with rfl|hq
  ·exact⟨o,u,e2 _ _ q1,g1⟩
  ·exact q2 q hq
end
end L2
namespace PR
open PySem PySem.Spec L2
structure Cj(X:Cx)(fr:JL)(caps:List Nat)(clos:List (Str×Addr)):Prop where
 len:caps.length=fr.length
 nm:∀(k:Nat) x,fr[k]?=some x->∃j,caps[k]?=some j/\X.N[j]?=some x/\X.env.kindOf x=some .cell/\∃c,(x,c)∈ clos/\clos.lookup x=some c
 cl:∀x c,clos.lookup x=some c->x∈fr
 mem:∀p∈clos,X.env.cells.lookup p.1=some p.2/\X.fn p.1=false/\X.s₀.heap.objs.size<=p.2
def yU:List Nat->En->Option (JQ)
 | [],_=>some []
 |j::r,env=>match (env[j]?).join,yU r env with
  |some x,some xs=>some (x::xs)
  |_,_=>none
def nU(i kb:Nat)(caps:List Nat):MS:=fun env=>match yU caps env with
 |some cps=>if dI cps&&aT i env then .next (env.set i (some (.box kb cps)))else .stuck
 |none=>.stuck
section
variable{X:Cx}{T:Tb}{W:Nat->St->JP}{Z:Zn}{F:JH}{H:Hp}{Y:St}{env:En}{fp:Nat->JK}
def qC(S:aD T Z F H Y env fp):∀{caps:List Nat}{cps:JQ},yU caps env=some cps->dI cps=true ->
  ∃cvs,RelL T F Z.B NoL H cps cvs []/\cvs.length=caps.length/\∀(k j:Nat),caps[k]?=some j->∃v,cvs[k]?=some v/\Y[j]?=some (some v)
 | [],cps,h,_=>by cases h;exact⟨[],by unfold RelL;exact⟨rfl,rfl⟩,rfl,fun k j e=>by simp at e⟩
 |j::r,cps,h,hn=>by
  unfold yU at h;split at h
  ·rename_i x xs hx hxs
   cases h;have hn':dI [x]=true/\dI xs=true:=by simp only[dI,hasL,Bool.or_false,Bool.not_or,and_eq_true,not_eq_true']at hn ⊢;obtain⟨⟨a,b⟩,c,d⟩:=hn;exact⟨⟨a,c⟩,b,d⟩
   obtain⟨cvs,r1,l1,v1⟩:=qC S hxs hn'.2;have hj:env[j]?=some (some x):=by
    cases e0:env[j]? with
    |none=>rw[e0]at hx;cases hx
    |some z=>rw[e0]at hx;simp only[join_some]at hx;rw[hx]
   obtain⟨v,sv,rv⟩:=S.rel j x hj;have rl:RelL T F Z.B NoL H [x] [v] (fp j++[]):=by unfold RelL;exact⟨v,[],fp j,[],rfl,rv,by unfold RelL;exact⟨rfl,rfl⟩,rfl⟩
   obtain⟨e,_⟩:=eF hn'.1 rl;rw[append_nil]at e;rw[e]at rv;refine⟨v::cvs,by unfold RelL;exact⟨v,cvs,[],[],rfl,rv,r1,rfl⟩,by simp[l1],fun k i e=>?_⟩;cases k with
   |zero=>simp at e;subst e;exact⟨v,rfl,sv⟩
   |succ k=>simp at e;simpa using v1 k i e
  ·cases h
def Ac{fi:FI}(hN:X.N.Nodup)(hi:X.N[i]?=some fi.name)(hl:Loc X.env.scope fi.name)(hbx:∀H f cvs,fi.bx H f cvs->T.bx kb H f cvs)
  (hT:T.tb Pt=some #[rawInt pos.line,rawInt pos.col,.str fi.qual 0]) (C:CodeHd X.base c0 Pt) (hcode:X.env.code=.ref c0) (hbt:X.base.BuiltinsAt X.mg Pt) (hcl:closureFor fi.scope X.env=pure clos) (hc:Cj X fi.fr caps clos)
  (hq:qualnameIn X.env fi.name fi.name=fi.qual) (hd0:fi.params.defaults=[]) (hk0:fi.params.kw_defaults=[]) (ha:annTrees fi.params none X.env=[]) (hf:X.fn fi.name=true\/X.env.scope.names.lookup fi.name=some .local) :
  SS X T W (.FunctionDef fi.name fi.params fi.body [] none [] fi.scope none fi.name pos) (nU i kb caps):=by
 intro js s Y H D I ⟨Z,F,env,fp,S,q⟩;unfold nU at q;split at q
 ·rename_i cps hc1
  split at q
  ·rename_i hg
   rw[and_eq_true]at hg;obtain⟨cvs,rc,lc,vc⟩:=qC S hc1 hg.1;obtain⟨H1,x1,k1,I1⟩:=I.frzL clos hc.mem;refine PySem.W.nestDef_K hd0 hk0 ha ?_;rw[hq];refine z7 I1 (x1 _ _ (S.hp.tb hT)) C hcode hbt hcl fun f c' oc u vs t ctv doc H2 s2 x2 hf2 hc2 hd2 hv2 I2=>?_;have ext:Ext H H2:=fun b z e=>x2 b z (x1 b z e);have clo:Clo H2 fi.fr clos cvs:=by
    refine⟨fun x y c a b=>I.ok.inj x y c (hc.mem _ (PySem.mem_of_lookup a)).1 (hc.mem _ (PySem.mem_of_lookup b)).1,hc.cl,lc.trans hc.len,fun k x v e1 e2=>?_⟩;obtain⟨j,hj,hNj,hk,c,hm,hlk⟩:=hc.nm k x e1;obtain⟨v',ev,sv⟩:=vc k j hj;rw[e2]at ev;cases ev;obtain⟨m,hn,hloc⟩:=I1.loc;obtain⟨z,rz,lk⟩:=hloc j x v hNj sv (.inr (.inl hk));rcases lk with⟨kl,_⟩ |⟨_,c2,h2,o2,g2,d2⟩
    ·rw[hk]at kl;cases kl
    ·have:=(hc.mem _ hm).1;rw[h2]at this;cases this;obtain⟨o,u,q1,q2⟩:=k1 _ hm;rw[g2]at q2;cases q2;exact⟨_,o2,u,z,hlk,x2 _ _ q1,d2,rz⟩
   refine jz I2 hN hi hl (v:=.ref f) rfl (fun s3 I3=>⟨_,H2,I3,q F H2 _ _ (S.putN (Gr.same S.hp.ft ext) hg.2 (L:=NoL) (f:=[]) ?_ ?_ (fun _ z=>(nomatch z)) nodup_nil (fun _ z=>(nomatch z)))⟩) hf
   ·unfold Rel;exact⟨f,cvs,rfl,hbx _ _ _ ⟨clos,doc,_,ctv,c',oc,uT,u,vs,t,hf2,hc2,hd2,hv2,clo⟩,rc.ext ext (fun _ h=>h)⟩
   ·have:=hg.1;simp only[dI,and_eq_true,not_eq_true']at this;simp[PV.JZ,PV.has,this.2]
  ·exact q.elim
 ·exact q.elim
end
section
variable{P:Program}{w:World}{K:PySem.W.Frag}{mg:JE}{base:Heap}{N:JL}{qual:Str}{scope:Scope}{f:Addr}{cd:Value}{A:Around}{outer:List Env}{s:Shared}{H:Hp}{E:XK}
def Ck:XF ((dQ (CXP P w) P w K mg base N qual scope f cd A outer s H E).low g) T (WD T E):=by intro js Y H1 s1 c H2 e s2 I fl hW;obtain⟨x,a0,Bh,rfl,fly,tr,ol⟩:=fl.fly;refine wpAny_leaves_onW (L:=s.heap.objs.size) I.ok.frames rfl fly fun h' fly' up=>?_;obtain⟨h2,g2,d2,t2,os2⟩:=s2;exact⟨_,H2,i3 I rfl rfl rfl fl.os fl.bare fl.un fl.hok tr ol fly' up,hW⟩
def BN{T:Tb}(hr:d0 k (A.deeper (PyProof.Rows.envOfC qual scope s.heap.objs.size f cd))):Ctx ((dQ (CXP P w) P w T.K mg base N qual scope f cd A outer s H E).low g) T (WD T E) k:=⟨rfl,rfl,hr,Ck,PassesOwn.leaving⟩
abbrev HLs(g:Str->Bool)(X:Cx)(T:Tb)(W:Nat->St->JP)(sts:List Stmt)(m:MS):Prop:=HU g X sts (tS T W m)
def Ej{X:Cx}(hf:∀x,X.fn x=true)(h:SSs (X.low g) T W sts m):HLs g X T W sts m:=fun js s Y H D I q=>h js s Y H D (I.low hf g) q
def Ep{T:Tb}(g:Str->Bool)(F:Fun T.K x qual st f fd)(S:dF N ps (aH st))
  (body:∀ (A:Around) (outer:List Env) (s:Shared) (H:Hp) (E:XK),Ctx (dQ (CXP P w) P w T.K mg base N qual (aH st) f fd.code A outer s H E) T (WD T E) k->Ctx ((dQ (CXP P w) P w T.K mg base N qual (aH st) f fd.code A outer s H E).low g) T (WD T E) k ->
   HLs g (dQ (CXP P w) P w T.K mg base N qual (aH st) f fd.code A outer s H E) T (WD T E) (bQ st) m):dG P w T.K mg base (CXP P w) (k+1) f fd ps (spM T ps.length (a_ N.length m)):=by
 obtain⟨oc,od,kV,doc,pm,an,cdv,ct,osl,rfl,lk,hcd⟩:=F.ex;refine xX g lk hcd S (fun vs H Q E h=>h.1) fun A outer s H vs Q E hr hsp=>⟨_,body A outer s H E (o_ hr) (BN hr),?_⟩
 obtain⟨_,pvs,F,B,fl,R,q⟩:=hsp;obtain⟨fp,S0⟩:=i5 N R none (fun _ h=>nomatch h);refine⟨_,F,_,fp,S0,?_⟩;unfold a_ at q;cases e:m (pvs.map some++replicate (N.length-pvs.length) none)with
 |next e'=>rw[e]at q;exact fun F' H' σ' fp' S'=>q F' H' .non [] S'.hp CS nodup_nil (fun _ z=>(nomatch z)) (fun _ z=>(nomatch z))
 |ret v=>rw[e]at q;exact q
 |brk e'|cont e'=>rw[e]at q;exact q.elim
 |exc c e'=>rw[e]at q;exact fun F' H' σ' fp' S'=>q H' S'.hp.keep
 |stuck=>rw[e]at q;exact q.elim
end
open PySem.W (keepIn Frag)
structure TG(p:PT)(K:Frag)(mg:JE)(base:Heap):Prop where
 cd:CodeHd base (p.gt K).1 (p.gt K).2
 bt:base.BuiltinsAt mg (p.gt K).2
 co:(dAt K (p.fa K p.gs.i)).code=.ref (p.gt K).1
 so:p.G.isSome=true
def PT.bx99{p:PT}{hA:p.attOk}{K:Frag}{H:Hp}{f:Addr}{cvs:JO}:(p.T hA K).bx 99 H f cvs=p.fi.bx H f cvs:=by dsimp only[PT.T];rw[if_pos rfl]
def mG{x:Str}{c:Addr}:∀(names:List (Str×NameKind)) (n:Nat) (acc:List (Str×Addr)),(cellsFrom n names acc).lookup x=some c->n<=c\/acc.lookup x=some c
 | [],n,acc,h=>.inr h
 |(y,k)::r,n,acc,h=>by
  unfold cellsFrom at h;split at h
  ·rcases mG r (n+1) _ h with q|q
   ·exact .inl (Nat.le_of_succ_le q)
   ·rw[lookup_cons]at q;split at q
    ·cases q;exact .inl (Nat.le_refl _)
    ·exact .inr q
  ·exact mG r n acc h
def sF(N:JL)(names:List (Str×NameKind)):JL->List Nat->Bool
 | [],[]=>true
 |x::fr,j::caps=>decide (N[j]?=some x)&&decide (names.lookup x=some .cell)&&sF N names fr caps
 |_,_=>false
def qD{N:JL}{names:List (Str×NameKind)}:∀{fr:JL}{caps:List Nat},sF N names fr caps=true->caps.length=fr.length
 | [],[],_=>rfl
 |x::fr,j::caps,h=>by simp only[sF,and_eq_true]at h;simp[qD h.2]
 | [],_::_,h|_::_,[],h=>nomatch h
def ph{N:JL}{names:List (Str×NameKind)}:∀{fr:JL}{caps:List Nat},sF N names fr caps=true->∀(k:Nat) x,fr[k]?=some x->∃j,caps[k]?=some j/\N[j]?=some x/\names.lookup x=some .cell
 | [],[],_,k,x,e=>by simp at e
 |y::fr,j::caps,h,k,x,e=>by
  simp only[sF,and_eq_true,decide_eq_true_eq]at h;cases k with
  |zero=>simp at e;subst e;exact⟨j,rfl,h.1.1,h.1.2⟩
  |succ k=>simp at e;simpa using ph h.2 k x e
 | [],_::_,h,_,_,_|_::_,[],h,_,_,_=>nomatch h
def yV(X:Cx)(fr:JL):List (Str×Addr):=(fr.map fun x=>(x,(X.env.cells.lookup x).getD 0)).reverse
def qa{x:Str}{f:Str->Addr}:∀{l:List (Str×Addr)},(∀p∈l,p.2=f p.1)->(∃c,(x,c)∈ l)->l.lookup x=some (f x)
 | [],_,h=>by obtain⟨_,h⟩:=h;cases h
 |(y,c)::l,h,⟨d,m⟩=>by
  rw[lookup_cons];by_cases e:x=y
  ·subst e;rw[beq_self_eq_true];exact congrArg some (h _ (.head _))
  ·rw[beq_eq_false_iff_ne.mpr e];rcases mem_cons.mp m with m|m
   ·cases m;exact absurd rfl e
   ·exact qa (fun p hp=>h p (.tail _ hp)) ⟨d,m⟩
section
variable{X:Cx}{W:Nat->St->JP}{p:PT}{hA:p.attOk}
def EU(hce:X.env.cells=cellsFrom (X.s₀.heap.objs.size+1) X.env.scope.names [])(hfn:∀x,X.fn x=false)(h:sF X.N X.env.scope.names fr caps=true):Cj X fr caps (yV X fr):=by
 have mem:∀q,q∈yV X fr↔∃x∈fr,(x,(X.env.cells.lookup x).getD 0)=q:=fun q=>by simp[yV]
 have cell:∀x∈fr,X.env.scope.names.lookup x=some .cell:=fun x hx=>by obtain⟨k,hk,e⟩:=getElem_of_mem hx;obtain⟨_,_,_,q⟩:=ph h k x (by rw[getElem?_eq_getElem hk,e]);exact q
 refine⟨qD h,fun k x e=>?_,fun x c e=>?_,fun q hq=>?_⟩
 ·obtain⟨j,h1,h2,h3⟩:=ph h k x e;have hm:(x,(X.env.cells.lookup x).getD 0)∈ yV X fr:=(mem _).mpr ⟨x,List.mem_of_getElem? e,rfl⟩;refine⟨j,h1,h2,h3,_,hm,qa (f:=fun x=>(X.env.cells.lookup x).getD 0) (fun q hq=>?_) ⟨_,hm⟩⟩;obtain⟨y,_,rfl⟩:=(mem q).mp hq;rfl
 ·obtain⟨y,hy,e2⟩:=(mem _).mp (PySem.mem_of_lookup e);cases e2;exact hy
 ·obtain⟨y,hy,rfl⟩:=(mem q).mp hq;obtain⟨c,hc⟩:=mH (n:=X.s₀.heap.objs.size+1) (cell y hy);have hc':X.env.cells.lookup y=some c:=by rw[hce];exact hc
  refine⟨by rw[hc'];rfl,hfn y,?_⟩;show _ <=(X.env.cells.lookup y).getD 0;rw[hc'];rcases mG _ _ _ hc with q|q
  ·exact Nat.le_of_succ_le q
  ·cases q
def Gp(i:Nat)(caps:List Nat)(g:TG p X.K X.mg X.base)(nd:X.N.Nodup)(hi:X.N[i]?=some p.fi.name:=by rfl)(hce:X.env.cells=cellsFrom (X.s₀.heap.objs.size+1) X.env.scope.names []:=by rfl)(hfn:∀x,X.fn x=false:=by intro _;rfl)
  (hst:p.gst=.FunctionDef p.fi.name p.fi.params p.fi.body [] none [] p.fi.scope none p.fi.name p.gpos:=by rfl) (hcode:X.env.code=(dAt X.K (p.fa X.K p.gs.i)).code:=by rfl) (hcl:closureFor p.fi.scope X.env=pure (yV X p.fi.fr):=by rfl)
  (hc:sF X.N X.env.scope.names p.fi.fr caps=true:=by kernel_rfl) (hq:qualnameIn X.env p.fi.name p.fi.name=p.fi.qual:=by rfl) (hd0:p.fi.params.defaults=[]:=by rfl) (hk0:p.fi.params.kw_defaults=[]:=by rfl)
  (ha:annTrees p.fi.params none X.env=[]:=by rfl) (hf:X.env.scope.names.lookup p.fi.name=some .local:=by rfl) :
  SS X (p.T hA X.K) W p.gst (nU i 99 caps):=by
 rw[hst];exact Ac (fi:=p.fi) (T:=p.T hA X.K) nd hi (.inl hf) (fun H f cvs h=>PT.bx99▸h) (if_pos ⟨g.so,rfl⟩) g.cd (hcode.trans g.co) g.bt hcl (EU hce hfn hc) hq hd0 hk0 ha (.inr hf)
end
section
variable{P:Program}{w:World}{K:Frag}{mg:JE}{base:Heap}{p:PT}{hA:p.attOk}
def IV(i:Nat)(t:Tx p K mg)(body:∀ (A:Around) (outer:List Env) (s:Shared) (H:Hp) (E:XK),Ctx (dQ (CXP P w) P w K mg base (p.fs i).N (p.fs i).q (aH (p.fs i).s) (p.fa K i) (dAt K (p.fa K i)).code A outer s H E) (p.T hA K) (WD (p.T hA K) E) k->Ctx ((dQ (CXP P w) P w K mg base (p.fs i).N (p.fs i).q (aH (p.fs i).s) (p.fa K i) (dAt K (p.fa K i)).code A outer s H E).low fun _=>false) (p.T hA K) (WD (p.T hA K) E) k->(p.fs i).N.Nodup ->
  HLs (fun _=>false) (dQ (CXP P w) P w K mg base (p.fs i).N (p.fs i).q (aH (p.fs i).s) (p.fa K i) (dAt K (p.fa K i)).code A outer s H E) (p.T hA K) (WD (p.T hA K) E) (bQ (p.fs i).s) m):OkF p hA P w K mg base (k+1) i (a_ (p.fs i).N.length m):=
 Ep (T:=p.T hA K) (fun _=>false) (t.fn i) (t.sc i) fun a b c d e f g=>body a b c d e f g (t.sc i).nd
def PT.gp(p:PT):JL:=p.gs.N.take p.gs.k
def PT.scF(p:PT):Bool:=decide (p.fi.scope.kind=.function)&&!p.fi.scope.isCoroutine&&!p.fi.scope.isGenerator&&decide p.gs.N.Nodup&&decide (p.gs.N.take (p.gp++p.gs.fr).length=p.gp++p.gs.fr) &&
 p.gp.all (fun y=>decide (p.fi.scope.names.lookup y=some .local))&&p.gs.fr.all (fun y=>decide (p.fi.scope.names.lookup y=some .free))&&p.fi.scope.names.all (fun y=>decide (y.2≠.cell/\(y.2=.free->y.1∈p.gs.fr)))
abbrev OkN(p:PT)(hA:p.attOk)(P:Program)(w:World)(K:Frag)(mg:JE)(base:Heap)(k:Nat)(m:JQ->JR):Prop:=FnF P w K mg base k p.fi.name p.fi.qual p.fi.params p.fi.body p.fi.scope p.gp p.fi.fr (spM (p.T hA K) (p.gp.length+p.fi.fr.length) m)
def okN(hs:p.scF=true)(body:∀ (f:Addr) (cdv:Value) (cl:List (Str × Addr)) (A:Around) (outer:List Env) (s:Shared) (H:Hp) (E:XK),Ctx (cxF P w K mg base p.gs.N p.fi.qual p.fi.scope f cdv cl A outer s H E) (p.T hA K) (WD (p.T hA K) E) k->p.gs.N.Nodup ->
  SSs (cxF P w K mg base p.gs.N p.fi.qual p.fi.scope f cdv cl A outer s H E) (p.T hA K) (WD (p.T hA K) E) p.fi.body m):OkN p hA P w K mg base (k+1) (a_ p.gs.N.length m):=by
 simp only[PT.scF,and_eq_true,decide_eq_true_eq,all_eq_true,not_eq_true']at hs;obtain⟨⟨⟨⟨⟨⟨⟨q1,q2⟩,q3⟩,q4⟩,q5⟩,q6⟩,q7⟩,q8⟩:=hs;exact Jj (T:=p.T hA K) ⟨q1,q2,q3,q4,q5,q6,q7,fun y hy=>(q8 y hy).2,fun y hy=>(q8 y hy).1⟩ fun a b c d e f g h i=>body a b c d e f g h i q4
def HY(p:PT):Prop:=∀(cl:List (Str×Addr)) (doc pm ctv cdv:Value) (us:JJ),us.length=p.gp.length->bindArgs (fnX p.fi.name p.fi.qual p.fi.params p.fi.body p.fi.scope cl .none .none doc pm none cdv ctv) ⟨us,[]⟩=pure (p.gp.zip us)
end
section
variable{X:Cx}{W:Nat->St->JP}{p:PT}{hA:p.attOk}
def CO(G:OkN p hA X.prog X.w X.K X.mg X.base k m)(hb:HY p)(cx:Ctx X (p.T hA X.K) W kk)(ha:SA X (p.T hA X.K) W (e::es) ms)(hk:k<=kk:=by decide)(hN:X.N[i]?=some x:=by rfl)
  (hv:Vis X.env.scope x:=by first|exact Or.inl rfl|exact Or.inr (Or.inl rfl)|exact Or.inr (Or.inr rfl)) (hn:iA ms n:=by repeat' first|exact fq|apply ef) (hps:n=p.gp.length:=by rfl)
  (hd:(x ==("__debug__":Str))=false:=by decide) (hcd:(x ==("__classdict__":Str))=false:=by decide) (he:starEach (e::es) X.env=(false,eval e X.env)::starEach es X.env:=by rfl) (hpl:(backTo pos (starEach es X.env)).any (·.1)=false:=by rfl) :
  SE X (p.T hA X.K) W (.Call (.Name x np) (e::es) [] pos) (kf i 99 m ms):=
 we (fi:=p.fi) (T:=p.T hA X.K) G (cx.room.mono hk) (fun H f cvs h=>PT.bx99 (hA:=hA) (K:=X.K)▸ h) hb cx.xf hN hv (fun env xs h=>(hn env xs h).trans hps) ha hd hcd he hpl
end
end PR
namespace PR
open PySem PySem.Spec PyProof.Rows L2
open PySem.W (Frag)
def vf{P:Program}{w:World}{K:Frag}{mg mb:JE}{CX:CXT}{k:Nat}{fa a c0 Pt:Addr}{ps:JN}{fd:FuncData}{x:Str}{sp:Sp}{s₁:Shared}{vs:JJ}{ns:JI}
  (KX:K.In s₁.heap) (hns:s₁.heap.Ns mainGlobals mg) (hb:s₁.heap.Ns builtinsNs mb) (hbb:∀x:Str,x≠"__name__" -> mb x=bootBuiltins x) (hlim:s₁.heap.NoLimit) (hg:s₁.gens=#[])
  (ha:s₁.heap.get? a=some {cls:=.type "list",data:=.seq vs.toArray}) (hi:IntsAre vs ns) (hl:ns.length<=sizeLine) (hr:d0 k callerA)
  (hC:CodeHd s₁.heap c0 Pt) (hP:s₁.heap.get? Pt=some (PySem.W.tabObj #[])) (hPk:K.lookup Pt=none) (hB:s₁.heap.BuiltinsAt mg Pt)
  (F:∀base:Heap,K.In base->base.Ns mainGlobals mg->CodeHd base c0 Pt->base.BuiltinsAt mg Pt->dG P w K mg base CX k fa fd [x] sp) (hbind:∀(s:Shared) (u:Value),BindsTo s fd ⟨[u],[]⟩ [(x,u)])
  (hsp:∀H:Hp,H Pt=some (.tbl ps)->SqL K H a (ns.map V.int)->sp [.ref a] H (fun v _=>v=.bl true) fun _ _ _=>False)
  (hCX:∀H e s',CX [] H s₁ (fun _ _ _=>False) e s'->False) :
  codeAny (model P w) callerA (.call (.ref fa) ⟨[.ref a],[]⟩) (fun r s'=>r=.ok (.ret (.bool true))/\OldK s₁.heap s'.heap/\s'.os=s₁.os/\AllBare s'.gens) s₁:=by
 have rv:=nu hi;have lenV:=hi.length;have nPa:Pt≠a:=fun z=>by rw[z,ha]at hP;cases hP
 have core:∀H:Hp,H Pt=some (.tbl ps)->(∀b,b≠Pt->H b=none\/∃o xs,H b=some (.frz o (.lst xs)))->SqL K H a (ns.map V.int)->HOk P w H s₁.heap->(∀b,b≠Pt->H b≠none->b=a)->(H a≠none->K.lookup a=none)->
   codeAny (model P w) callerA (.call (.ref fa) ⟨[.ref a],[]⟩) (fun r s'=>r=.ok (.ret (.bool true))/\OldK s₁.heap s'.heap/\s'.os=s₁.os/\AllBare s'.gens) s₁:=by
  intro H hT hO hS hok hA hK;have base_of:∀{b:Addr}{o:Obj},s₁.heap.get? b=some o->H b=none->(l_ s₁.heap H).get? b=some o:=fun e n=>xQ e n;have out:∀{b:Addr}{o:Obj},s₁.heap.get? b=some o->b≠Pt->o.cls≠.type "list" -> H b=none:=fun {b o} e n d=>by
   cases q:H b with
   |none=>rfl
   |some u=>have e':b=a:=hA b n (by rw[q];simp);subst e';rw[ha]at e;cases e;exact absurd rfl d
  have noA:∀{b:Addr}{o:Obj}{es:Array DictEntry}{ep:Nat},s₁.heap.get? b=some o->o.data=.dict es ep->H b=none:=fun {b o es ep} e d=>by
   cases q:H b with
   |none=>rfl
   |some u=>
    by_cases z:b=Pt
    ·subst z;rw[hP]at e;cases e;cases d
    ·have e':b=a:=hA b z (by rw[q];simp);subst e';rw[ha]at e;cases e;cases d
  have nsK:∀{b:Addr}{m:JE},s₁.heap.Ns b m->(l_ s₁.heap H).Ns b m:=fun {b m} ⟨o,es,ep,e,d,r⟩=>⟨o,es,ep,base_of e (noA e d),d,r⟩
  have hKb:K.In (l_ s₁.heap H):=fun b o e=>base_of (KX b o e) (by
   cases q:H b with
   |none=>rfl
   |some u=>
    by_cases z:b=Pt
    ·subst z;rw[hPk]at e;cases e
    ·have e':b=a:=hA b z (by rw[q];simp);subst e';rw[hK (by rw[q];simp)]at e;cases e)
  have hCb:CodeHd (l_ s₁.heap H) c0 Pt:=by obtain⟨o,us,file,tf,flags,tg,inF,text,tt,e1,r1,r2,r3,r4,r5,r6,r7,r8,hne⟩:=hC;exact⟨o,us,file,tf,flags,tg,inF,text,tt,base_of e1 (out e1 hne (by rw[r1];simp)),r1,r2,r3,r4,r5,r6,r7,r8,hne⟩
  have hBb:(l_ s₁.heap H).BuiltinsAt mg Pt:=by obtain⟨bm,o,b1,b2,b3,b4,b5,b6,r⟩:=hB;exact⟨bm,o,b1,b2,b3,b4,base_of b5 (out b5 b4 (by rw[b6];simp)),b6,r⟩
  have hM:Mod K mg (l_ s₁.heap H):=⟨hKb,nsK hns,⟨mb,nsK hb,hbb⟩,let⟨mc,h1,h2⟩:=hlim;⟨mc,nsK h1,h2⟩⟩
  have e0:pI P w K mg (l_ s₁.heap H) callerA [] s₁ H:=⟨rfl,hM,fun b o e=>AZ e,Nat.le_of_eq (vp _ _),trivial,fun b hb=>absurd (show b ∈([]:JK)from hb) (by simp),hok,.of_eq hg⟩
  refine codeAny_mono ((F _ hKb (nsK hns) hCb hBb).run callerA [] s₁ H ⟨[.ref a],[]⟩ [.ref a] [.ref a] _ _ hr e0 (hbind s₁ (.ref a)) (.cons rfl .nil) (hsp H hT hS)) fun r s' h=>?_;cases r with
  |error e=>exact(hCX H e s' h).elim
  |ok fl=>
   cases fl with
   |next|brk|cont=>exact False.elim h
   |ret u=>
    obtain⟨v,H',os,bare,un,hok',r',q⟩:=h;have q':v=.bl true:=q;subst q';obtain rfl:u=Value.bool true:=r';have keep:∀b o,b≠Pt->s₁.heap.get? b=some o->s'.heap.get? b=some o:=fun b o n e=>by
     cases q:H b with
     |none=>exact un.keep b o e q (by intro z;exact absurd (show b ∈([]:JK)from z) (by simp)) (by simp)
     |some u=>
      rcases hO b n with z |⟨ob,xs,z⟩
      ·rw[q]at z;cases z
      ·have z2:=un.frzs b ob _ z;obtain⟨e1,_⟩:=hok b _ z;obtain⟨e2,_⟩:=hok' b _ z2;rw[e]at e1;cases e1;exact e2
    obtain⟨more,hT'⟩:=un.tbls Pt ps hT;obtain⟨qs,hq,_⟩:=hok' Pt _ hT';refine⟨rfl,⟨fun b o e=>?_,fun b o e=>?_⟩,os,bare⟩
    ·by_cases z:b=Pt
     ·subst z;rw[hP]at e;cases e;exact .inr (.inl ⟨(hC.tab hP).isCodeTable,rfl,#[],qs,rfl,by rw[Array.empty_append];exact hq⟩)
     ·exact .inl (keep b o z e)
    ·by_cases z:b=Pt
     ·subst z;exact⟨_,hq⟩
     ·exact⟨o,keep b o z e⟩
 have tOk:∀H:Hp,cU P w H s₁.heap Pt (.tbl ps):=fun H=>⟨#[],hP,.inl rfl⟩
 cases hk:K.lookup a with
 |some o=>
  have e:=KX a o hk;rw[ha]at e;cases e;refine core (fun b=>if b=Pt then some (.tbl ps)else none) (if_pos rfl) (fun b n=>.inl (if_neg n)) (.inr ⟨_,vs.toArray,_,hk,rfl,rfl,rfl,by rw[size_toArray,lenV];exact hl,by simpa using rv⟩) (fun b u z=>?_) (fun b n z=>absurd (if_neg n) z) fun z=>absurd (if_neg (Ne.symm nPa)) z;by_cases hb:b=Pt
  ·have z':=(if_pos hb).symm.trans z;cases z';subst hb;exact tOk _
  ·have z':=(if_neg hb).symm.trans z;cases z'
 |none=>
  refine core (fun b=>if b=Pt then some (.tbl ps)else if b=a then some (.frz {cls:=.type "list",data:=.seq vs.toArray} (.lst (ns.map V.int)))else none) (if_pos rfl) (fun b n=>?_) (.inl (.inr ⟨{cls:=.type "list",data:=.seq vs.toArray},(if_neg (Ne.symm nPa)).trans (if_pos rfl)⟩)) (fun b u z=>?_) (fun b n z=>?_) fun _=>hk
  ·by_cases hb:b=a
   ·exact .inr ⟨_,_,(if_neg n).trans (if_pos hb)⟩
   ·exact .inl ((if_neg n).trans (if_neg hb))
  ·by_cases hp:b=Pt
   ·have z':=(if_pos hp).symm.trans z;cases z';subst hp;exact tOk _
   ·by_cases hb:b=a
    ·have z':=((if_neg hp).trans (if_pos hb)).symm.trans z;cases z';subst hb;exact⟨ha,by rw[length_map];exact hl,vs,_,rv,ha⟩
    ·have z':=((if_neg hp).trans (if_neg hb)).symm.trans z;cases z'
  ·by_cases hb:b=a
   ·exact hb
   ·exact absurd ((if_neg n).trans (if_neg hb)) z
def PT.chG(p:PT)(K:Frag):Bool:=(tabIn K (bJ (p.fs p.gs.i).s)).isSome&&(K.lookup (p.gt K).2).isNone&&decide ((dAt K (p.fa K p.gs.i)).code=.ref (p.gt K).1)&&p.G.isSome
def ve{l:PySem.W.OpenLaw}{k:Nat}{x:Str}{q:Program}{loose:JL}{XP:(JE)->Heap->Prop}{YP:World->Heap->Prop}{d:DefRec}{K:Params->Frag}(p:PT)(hA:p.attOk)(hn:l.most=some 63)(hdf:d.params.defaults=[])(hr:d0 k callerA)
  (hY:∀(w:World) (h:Heap),YP w h->(K w.params).In h) (hrec:((recsOf q).find? fun e=>e.name==bJ (p.fs p.gs.i).s).isSome=true) (hG:∀w:World,p.chG (K w.params)=true)
  (F:∀ (w:World) (mg:JE) (fa:Addr) (h:Heap),(K w.params).In h->h.Ns mainGlobals mg->mg d.name=some (.ref fa) ->
   ∃fd:FuncData,(∀(s:Shared) (u:Value),BindsTo s fd ⟨[u],[]⟩ [(x,u)])/\∀base:Heap,(K w.params).In base->TG p (K w.params) mg base->dG l.prog w (K w.params) mg base (CXP l.prog w) k fa fd [x] (v7 (K w.params) (p.T hA (K w.params)).tb)) :
  PySem.W.WalkO q loose XP YP l.row.toRowW d [] (fun f vs=>PySem.call f vs):=by
 refine Att.attach_call hn hdf fun w s₀ s₁ mg mb fa o pm cd doc a vs ns G td ho hd hcd hmg hobj hints hlen hg=>?_;have KX:=hY w _ td;obtain⟨fd,hb,hF⟩:=F w mg fa _ KX G.T.g hmg;have h:=hG w;simp only[PT.chG,and_eq_true,decide_eq_true_eq]at h;obtain⟨⟨⟨h1,h2⟩,h3⟩,h4⟩:=h;have ht:tabIn (K w.params) (bJ (p.fs p.gs.i).s)=some ((p.gt (K w.params)).1,(p.gt (K w.params)).2):=by
  unfold PT.gt;cases e:tabIn (K w.params) (bJ (p.fs p.gs.i).s)with
  |none=>rw[e]at h1;cases h1
  |some z=>rfl
 obtain⟨d',hd'⟩:=isSome_iff_exists.mp hrec;obtain⟨hC,hP⟩:=PySem.W.tab_of G.T KX hd' ht;have hB:s₁.heap.BuiltinsAt mg (p.gt (K w.params)).2:=by
  obtain⟨bm,ob,b1,b2,b3,b4,b5,b6⟩:=G.T.bmain;refine⟨bm,ob,b1,b2,fun z=>?_,fun z=>?_,b3,b4,b5,b6⟩
  ·obtain⟨o,es,ep,e,hd,_⟩:=G.T.g;rw[<- z,b3]at e;cases e;rw[hd]at b6;cases b6
  ·rw[z,hP]at b3;cases b3;cases b4
 exact vf (c0:=(p.gt (K w.params)).1) (Pt:=(p.gt (K w.params)).2) (ps:=#[rawInt p.gpos.line,rawInt p.gpos.col,.str p.gs.q 0]) KX G.T.g G.T.b G.T.builtins G.T.nolimit hg hobj hints (Nat.le_trans hlen (by decide)) hr hC hP (by simpa using h2) hB
  (fun base b1 _ b3 b4=>hF base b1 ⟨b3,b4,h3,h4⟩) hb (fun H hT hS=>⟨fun b ps e=>(by
   change (if p.G.isSome=true/\b=(p.gt (K w.params)).2 then _ else none)=some ps at e;split at e
   ·rename_i z;rw[z.2];cases e;exact hT
   ·cases e),a,ns,rfl,hS,hlen,fun _ _ z=>z⟩) fun H e s' ⟨_,_,_,z⟩=>z
end PR
namespace PR
open PySem PySem.Spec L2
open PySem.W (Frag findIn)
def lJ(tab:Nat->Bool):PV->JR
 |.obj _ c _ _=>.ok (.bl (tab c))
 |_=>.stuck
def yT(K:Frag)(C:Addr):Bool:=decide (findIn K (.ref C) "__class__"=some (some (.builtin "object.__class__")))&&decide (specialIn K (.builtin "object.__class__") "__get__"=some (some (.builtin "getset_descriptor.__get__")))&&decide (takesIn K (.builtin "object.__class__")=some true)&&decide (mroIn K C (.type "object")=some true)
def PT.chCK(p:PT)(K:Frag)(y:Nat×List Bool):Bool:=decide (p.C.map (fun x=>kitOne K (.ref (gAt K x)) (.ref (p.ca K y.1)))=y.2.map some)
def PT.chCs(p:PT)(K:Frag)(q:List (Nat×List Bool)):Bool:=p.C.all (fun x=>yT K (gAt K x))&&q.all (p.chCK K)
structure TK(p:PT)(K:Frag)(q:List (Nat×List Bool)):Prop where
 ne:p.C≠[]
 ch:p.chCs K q=true
def TK.at{p:PT}{K:Frag}{q:List (Nat×List Bool)}(h:TK p K q)(j:Nat){y:Nat×List Bool}(hj:q[j]?=some y:=by rfl)(c:Nat):yT K (p.ca K c)=true/\kitOne K (.ref (p.ca K c)) (.ref (p.ca K y.1))=some (dz y.2 c):=by have e:=h.ch;simp only[PT.chCs,and_eq_true,all_eq_true]at e;refine⟨gx (p:=fun x=>yT K (gAt K x)=true) h.ne e.1 c,?_⟩;have z:=e.2 y (List.mem_of_getElem? hj);simp only[PT.chCK,decide_eq_true_eq]at z;exact qX (α:=Nat) (f:=fun C=>kitOne K (.ref C) (.ref (p.ca K y.1))) h.ne z c
section
variable{X:Cx}{T:Tb}{W:Nat->St->JP}
def kT(hK:X.K=T.K)(hx:∀c,Cls T.K (T.cls c))(ht:∀c,yT T.K (T.cls c)=true/\kitOne T.K (.ref (T.cls c)) (.ref D)=some (tab c))
  (hg:Gl X "isinstance") (hm:X.mg "isinstance"=none) (hb:bootBuiltins "isinstance"=some (.builtin "isinstance")) (hgc:Gl X cn) (hmc:X.mg cn=some (.ref D)) (he:SE X T W e m) (hcd:(cn ==("__debug__":Str))=false:=by decide)
  (hst:starEach [e,.Name cn pc] X.env=[(false,eval e X.env),(false,eval (.Name cn pc) X.env)]:=by rfl)
  (hst2:starEach [.Name cn pc] X.env=[(false,eval (.Name cn pc) X.env)]:=by rfl):SE X T W (.Call (.Name "isinstance" p) [e,.Name cn pc] [] pos) (mUn (lJ tab) m):=by
 have hcall:dR X (.builtin "isinstance") (fun vs H Q=>∃a c dx fs,vs=[.ref a,.ref D]/\H a=some (.ins (T.cls c) dx fs)/\Q (.bl (tab c)) H):=by
  intro js s Y H vs us Q I rv h;obtain⟨a,c,dx,fs,rfl,ha,q⟩:=h;cases rv with
  |cons r1 r2=>
   cases r2 with
   |cons r3 r4=>cases r4;cases r3;obtain⟨k1,k2⟩:=ht c;simp only[yT,and_eq_true,decide_eq_true_eq]at k1;obtain⟨⟨⟨q1,q2⟩,q3⟩,q4⟩:=k1;have cl:=hx c;rw[<- hK]at cl q1 q2 q3 q4 k2;exact vj I r1 (.ins ha cl q1 q2 q3 q4) k2 fun tk=>⟨.bl _,H,I.tok tk,rfl,q⟩
 have hargs:PA X [e,.Name cn pc] (kz (tE T W m) (kz (tC (.ref D)) vZ)):=cR he (cR (jJ (v:=.ref D) hgc hmc rfl hcd) fT hst2) (by rw[hst,hst2]);refine PE.wk (iK (pos:=pos) (p:=p) hcall hg hm hb hargs (he:=by rw[hst,hst2]) (hpl:=by rw[hst2];rfl)) fun Y H Q hz1=>?_;obtain⟨Z,F,env,fp,S,q⟩:=hz1;unfold mUn at q;refine tE.bq S fun x v H1 F1 f1 e1 g1 r1 n1 d1 w1=>?_;rw[e1]at q;cases x with
 |obj f c ks xs=>unfold Rel at r1;obtain⟨a,dx,vs,fp',rfl,ha,_⟩:=r1;exact⟨a,c,dx,_,rfl,ha,q.scal g1 jk⟩
 |_=>exact q.elim
def nO:PV->PV->JR
 |.lst .lnt xs,.int k=>if dI xs&&decide (0<=k/\k<=1000000)&&decide (xs.length*k.toNat<=10000000)then .ok (.lst .own (uD k.toNat xs))else .stuck
 |_,_=>.stuck
def xl:jw T W nO Gx:=by
 intro B F L Y H Q F' H' x y v u fx fy g rx ry nf nd new q;cases x with
 |lst f xs=>
  cases f with
  |lnt=>
   cases y with
   |int k=>
    simp only[nO]at q;split at q
    ·rename_i hc
     simp only[and_eq_true,decide_eq_true_eq]at hc;obtain⟨⟨c1,c2⟩,c3⟩:=hc;unfold Rel at rx ry;obtain⟨a,vs,fp1,rfl,hl1,hr1,hf1⟩:=rx;obtain⟨rfl,rfl⟩:=ry;obtain⟨rfl,_⟩:=eF c1 hr1;have ln:=hr1.length;refine⟨a,k,vs,rfl,rfl,hl1.2,by omega,by omega,by rw[<- ln,sizeLine_eq];omega,?_⟩;exact GE.newL q g (RelL.rep hr1 k.toNat) (fun b hb=>(nomatch hb)) nodup_nil (fun b hb=>(nomatch hb))
    ·exact q.elim
   |_=>exact q.elim
  |_=>cases y<;>exact q.elim
 |_=>exact q.elim
def Ak(ha:SE X T W a ma)(hb:SE X T W b mb):SE X T W (.BinOp a .Mult b pos) (mOp nO ma mb):=jc Df xl ha hb
end
section
variable{env e e':En}{v:PV}{i:Nat}{r:Out}
@[simp] def qr:mC v env=.ok v:=rfl
@[simp] def cX:ak env=.ok []:=rfl
@[simp] def cj:ad a m env=(a env).bind fun x=>(m env).bind fun xs=>.ok (x::xs):=rfl
@[simp] def Cf:mUn f a env=(a env).bind f:=rfl
@[simp] def gQ:mOp f a b env=(a env).bind fun x=>(b env).bind fun y=>f x y:=rfl
@[simp] def fg:ar f m env=(m env).bind f:=rfl
@[simp] def o8:cB m env=(m env).bind fun xs=>.ok (.lst .own xs):=rfl
@[simp] def Jk:mW m env=(m env).bind fun xs=>.ok (.tup xs):=rfl
@[simp] def IB:fH a env=(a env).bind fun b=>.ok (!b):=rfl
@[simp] def HL:cF a env=(a env).bind oM:=rfl
@[simp] def Jm:qY a c env=(a env).bind (p3 c):=rfl
@[simp] def fO:dr env=.ok none:=rfl
@[simp] def BE:bS env=.ok true:=rfl
def AV:Option (Option PV)->JR
 |some (some v)=>.ok (v.J0 Fl.JS)
 |_=>.stuck
@[simp] def eT(v:PV):AV (some (some v))=.ok (v.J0 Fl.JS):=rfl
@[simp] def dC:ac i env=AV env[i]?:=by
 unfold ac;cases env[i]? with
 |none=>rfl
 |some w=>cases w<;>rfl
def pBl:PV->Res Bool
 |.bl b=>.ok b
 |_=>.stuck
@[simp] def IT(b:Bool):pBl (.bl b)=.ok b:=rfl
@[simp] def la:aw a env=(a env).bind pBl:=by rfl
def GM:PV->JR
 |.bl b=>.ok (.bl (!b))
 |_=>.stuck
@[simp] def Ic(b:Bool):GM (.bl b)=.ok (.bl (!b)):=rfl
@[simp] def IC:tL a env=(a env).bind GM:=by rfl
def uR(r:JR):PV->JR
 |.bl b=>if b then r else .ok (.bl false)
 |_=>.stuck
@[simp] def Id(r:JR)(b:Bool):uR r (.bl b)=if b then r else .ok (.bl false):=rfl
@[simp] def BF:gn a b env=(a env).bind (uR (b env)):=by
 unfold gn;congr 1;funext x;cases x with
 |bl b=>cases b<;>rfl
 |_=>rfl
def pOr(r:JR):PV->JR
 |.bl b=>if b then .ok (.bl true)else r
 |_=>.stuck
@[simp] def IS(r:JR)(b:Bool):pOr r (.bl b)=if b then .ok (.bl true)else r:=rfl
@[simp] def EO:u9 a b env=(a env).bind (pOr (b env)):=by
 unfold u9;congr 1;funext x;cases x with
 |bl b=>cases b<;>rfl
 |_=>rfl
@[simp] def HA(g:Int->Int->PV)(i j:Int):jL g (.int i) (.int j)=.ok (g i j):=rfl
def B9:PV->Res (JM)
 |.int i=>.ok (some i)
 |_=>.stuck
@[simp] def FK(i:Int):B9 (.int i)=.ok (some i):=rfl
@[simp] def iw:eG a env=(a env).bind B9:=by rfl
def GP(l h:JM):PV->JR
 |.lst _ xs=>.ok (.lst .own (gS xs l h))
 |_=>.stuck
@[simp] def GO(l h:JM)(f:Fl)(xs:JQ):GP l h (.lst f xs)=.ok (.lst .own (gS xs l h)):=rfl
@[simp] def f8:dB o lo hi env=(o env).bind fun x=>(lo env).bind fun l=>(hi env).bind fun h=>GP l h x:=by rfl
def aB(v:PV):JR:=if v.has Fl.JY then .stuck else .ok v
@[simp] def yW:aL f xs=(f (mapL Fl.JT xs)).bind aB:=by unfold aL;cases f (mapL Fl.JT xs)<;>rfl
def gy(disp:Nat->Option (JQ->JR))(r:Res (JQ)):PV->JR
 |.obj fl c ks vs=>match disp c with
  |some m=>r.bind fun xs=>aL m (.obj fl c ks vs::xs)
  |none=>.stuck
 |_=>.stuck
@[simp] def GN(disp:Nat->Option (JQ->JR))(r:Res (JQ))(fl:Fl)(c:Nat)(ks:List Nat)(vs:JQ):gy disp r (.obj fl c ks vs)=match disp c with
  |some m=>r.bind fun xs=>aL m (.obj fl c ks vs::xs)
  |none=>.stuck:=rfl
@[simp] def sA:bB disp o ms env=(o env).bind (gy disp (ms env)):=by unfold bB;congr 1;funext x;cases x<;>rfl
@[simp] def Iz:dO m env=(m env).bind fun x=>match x with
 |.lst f xs=>if !f.JX&&dI xs then .ok xs else .stuck
 |.tup xs=>if dI xs then .ok xs else .stuck
 |_=>.stuck:=rfl
def wN(x:PV):Res (JQ):=match aM x with
 |some xs=>.ok xs
 |none=>.stuck
@[simp] def FM(f:Fl)(xs:JQ):wN (.lst f xs)=.ok xs:=rfl
@[simp] def FL(xs:JQ):wN (.tup xs)=.ok xs:=rfl
@[simp] def IA:da m env=(m env).bind wN:=rfl
@[simp] def ID:eP a b env=(a env).bind fun x=>if x then b env else .ok false:=rfl
@[simp] def Jl:gF a b env=(a env).bind fun x=>if x then .ok true else b env:=rfl
@[simp] def Jn:oX c a b env=(c env).bind fun x=>if x then a env else b env:=rfl
@[simp] def sy:jp c f m env=(m env).bind fun xs=>aL f (.obj .own c [] []::xs):=rfl
def ae(h1:a env=.next e)(h2:b e=r):av a b env=r:=by unfold av;rw[h1];exact h2
def dh(h1:a env=.ret v):av a b env=.ret v:=by unfold av;rw[h1]
def ff(h1:a env=.exc c e):av a b env=.exc c e:=by unfold av;rw[h1]
def fF(h:c env=.ok true)(h2:a env=r):mBr c a b env=r:=by unfold mBr;rw[h];exact h2
def bF(h:c env=.ok false)(h2:b env=r):mBr c a b env=r:=by unfold mBr;rw[h];exact h2
def Ch(h:c env=.ok x):mBr c a b env=if x then a env else b env:=by unfold mBr;rw[h];cases x<;>rfl
def aC(h:m env=.ok v)(hl:v.JZ=true:=by simp)(ho:aT i env=true:=by rfl):aV i m env=.next (env.set i (some v)):=by unfold aV;rw[h];simp[hl,ho]
def aU(h:m env=.ok v)(hl:v.JZ=true:=by simp):bp m env=.ret v:=by unfold bp;rw[h];simp[hl]
def iH(h:env[i]?=some (some v)):fX i env=.ret v:=by unfold fX;rw[h]
def fL(h:m env=.ok v):fI m env=.next env:=by unfold fI;rw[h]
def qx(h:m env=.exc c):fI m env=.exc c env:=by unfold fI;rw[h]
def Ai(h:m env=.exc c):aV i m env=.exc c env:=by unfold aV;rw[h]
def oI(h:m env=.exc c):bp m env=.exc c env:=by unfold bp;rw[h]
def j5(h:m env=.ok xs):bj c m env=.exc c env:=by unfold bj;rw[h]
def az:aS env=.next env:=rfl
def bE(h:m env=.ok v)(ho:env[i]?=some (some (.obj .own c ks vs)))(hl:v.JZ=true)(hk:ks.contains k=false)(hn:ks.length<900) :
  fY i k m env=.next (env.set i (some (.obj .own c (ks++[k]) (vs++[v])))):=by
 unfold fY;rw[h,ho];simp only[hl,hk];simp[hn]
def eY(h:m env=.ok v)(ho:env[i]?=some (some (.lst .own xs)))(hl:v.JZ=true)(hn:xs.length<10000000):cJ i m env=.next (env.set i (some (.lst .own (xs++[v])))):=by unfold cJ;rw[h,ho];simp[hl,hn]
def jF(h:m env=.ok v)(ho:env[i]?=some (some (.lst .own xs)))(hk:mk env=.ok (.int j))(hj:ixN xs.length j=some n)(hl:v.JZ=true) :
  im i mk m env=.next (env.set i (some (.lst .own (xs.set n v)))):=by
 unfold im;rw[h,ho,hk];simp[hj,hl]
def z8(h:mb env=.exc c e)(hh:hit c=true)(h2:qT i (mh (e.set i (some (.exc c))))=r):xB mb hit i mh mo env=r:=by unfold xB;rw[h];simp only[hh,if_true];exact h2
def iq(h:env[i]?=some (some v)):i_ i env=.next (env.set i (some (v.J0 Fl.JU))):=by unfold i_;rw[h]
def ay(h:m (args.map some++replicate (n-args.length) none)=.ret v):a_ n m args=.ok v:=by unfold a_;rw[h]
def gJ(h:m (args.map some++replicate (n-args.length) none)=.exc c e):a_ n m args=.exc c:=by unfold a_;rw[h]
def nK(h:m (args.map some++replicate (n-args.length) none)=.next e):a_ n m args=.ok .non:=by unfold a_;rw[h]
def cz(h:m (args.map some++replicate (n-args.length) none)=.next e)(ho:e[0]?=some (some v)):iG n m args=.ok v:=by unfold iG;rw[h];simp[ho]
def jU(P:Nat->En->Prop)(h:it env=.ok xs)(h0:P 0 env)
  (step:∀(k:Nat) (x:PV) (e:En),xs[k]?=some x->P k e->∃e1 e2,g x e=some e1/\(body e1=.next e2\/body e1=.cont e2)/\P (k+1) e2):∃e2,dv it g body env=.next e2/\P xs.length e2:=by
 unfold dv;rw[h];dsimp only;have key:∀ (ys pre:JQ) (e:En),pre ++ ys=xs->P pre.length e->∃ e2,mZ (fun x e=>match g x e with
  |some e'=>body e'
  |none=>.stuck) ys e=.next e2/\P xs.length e2:=by
  intro ys
  induction ys with
  |nil=>intro pre e hp hP;simp at hp;subst hp;exact⟨e,rfl,hP⟩
  |cons y ys ih=>
   intro pre e hp hP;obtain⟨e1,e2,h1,h2,h3⟩:=step pre.length y e (by rw[<- hp];simp) hP;obtain⟨e3,h4,h5⟩:=ih (pre++[y]) e2 (by rw[<- hp];simp) (by simpa using h3);refine⟨e3,?_,h5⟩;unfold mZ;simp only[h1];rcases h2 with h2|h2<;>rw[h2]<;>exact h4
 exact key xs [] env rfl h0
def iu(P:Nat->En->Prop)(R:Out->Prop)(h:it env=.ok xs)(h0:P 0 env)
  (step:∀(k:Nat) (x:PV) (e:En),xs[k]?=some x->P k e->∃e1,g x e=some e1/\((∃e2,(body e1=.next e2\/body e1=.cont e2)/\P (k+1) e2)\/(∃e2,body e1=.brk e2/\R (.next e2))\/(∃v,body e1=.ret v/\R (.ret v))\/ ∃c e2,body e1=.exc c e2/\R (.exc c e2)))
  (fin:∀e,P xs.length e->R (.next e)):R (dv it g body env):=by
 unfold dv;rw[h];dsimp only;have key:∀ (ys pre:JQ) (e:En),pre ++ ys=xs->P pre.length e->R (mZ (fun x e=>match g x e with
  |some e'=>body e'
  |none=>.stuck) ys e):=by
  intro ys
  induction ys with
  |nil=>intro pre e hp hP;simp at hp;subst hp;exact fin e hP
  |cons y ys ih=>
   intro pre e hp hP;obtain⟨e1,h1,h2⟩:=step pre.length y e (by rw[<- hp];simp) hP;unfold mZ;simp only[h1];rcases h2 with⟨e2,h2,h3⟩ |⟨e2,h2,h3⟩ |⟨v,h2,h3⟩ |⟨c,e2,h2,h3⟩
   ·have:=ih (pre++[y]) e2 (by rw[<- hp];simp) (by simpa using h3);rcases h2 with h2|h2<;>rw[h2]<;>exact this
   ·rw[h2];exact h3
   ·rw[h2];exact h3
   ·rw[h2];exact h3
 exact key xs [] env rfl h0
def aR(h:mi env=.ok xs)(hl:xs.length<=10000000)(hc:eK g mc me (bW caps k env) xs=.ok ys):aY caps k mi g mc me env=.ok (.lst .own ys):=by unfold aY;rw[h];simp only[Res.J2,hl,if_true,hc]
def bN{α:Type}{a:α->PV}{f:α->PV}:∀(xs:List α),(∀x∈xs,∃e1,g (a x).JV env=some e1/\me e1=.ok (f x)/\(f x).has Fl.JY=false/\(f x).has Fl.JX=false)->
  eK g bS me env (xs.map a)=.ok (xs.map f)
 | [],_=>rfl
 |x::xs,h=>by obtain⟨e1,h1,h2,h3,h4⟩:=h x mem_cons_self;rw[map_cons,eK,h1];simp only[BE,Res.J2,if_true,h2,h3,h4,Bool.or_self,false_eq_true,if_false,bN xs fun y hy=>h y (mem_cons_of_mem _ hy)];rfl
def cL{α:Type}{a:α->PV}{f:α->PV}{p:α->Bool}:∀(xs:List α),(∀x∈xs,∃e1,g (a x).JV env=some e1/\mc e1=.ok (p x)/\(p x=true->me e1=.ok (f x)/\(f x).has Fl.JY=false/\(f x).has Fl.JX=false))->
  eK g mc me env (xs.map a)=.ok ((xs.filter p).map f)
 | [],_=>rfl
 |x::xs,h=>by
  obtain⟨e1,h1,h2,h3⟩:=h x mem_cons_self;have ih:=cL (g:=g) (mc:=mc) (me:=me) (a:=a) (f:=f) (p:=p) xs fun y hy=>h y (mem_cons_of_mem _ hy);rw[map_cons,eK,h1];cases hp:p x with
  |true=>obtain⟨h4,h5,h6⟩:=h3 hp;simp only[h2,hp,Res.J2,if_true,h4,h5,h6,Bool.or_self,false_eq_true,if_false,ih];rw[List.filter_cons_of_pos hp];rfl
  |false=>simp only[h2,hp,Res.J2,false_eq_true,if_false,ih];rw[List.filter_cons_of_neg (by simp[hp])]
end
def iL(ns:JI):JQ:=ns.map .int
def xO(ns:JI):ns.map PV.int=iL ns:=rfl
section
variable(ns ms:JI)(g:Fl->Fl)(p:Fl->Bool)
@[simp] def Hy:iL []=[]:=rfl
@[simp] def gM(n:Int):iL (n::ns)=.int n::iL ns:=rfl
@[simp] def bv:(iL ns).length=ns.length:=by simp[iL]
@[simp] def Hz:iL ns++iL ms=iL (ns++ms):=by simp[iL]
@[simp] def nY(k:Nat):(iL ns).drop k=iL (ns.drop k):=by simp[iL]
@[simp] def vn(k:Nat):(iL ns).take k=iL (ns.take k):=by simp[iL]
@[simp] def xN(k:Nat):(iL ns)[k]?=(ns[k]?).map .int:=by simp[iL]
@[simp] def jR(k:Nat)(n:Int):(iL ns).set k (.int n)=iL (ns.set k n):=by simp[iL,List.map_set]
@[simp] def u7:mapL g (iL ns)=iL ns:=by
 induction ns with
 |nil=>rfl
 |cons n ns ih=>simp[mapL,PV.J0,ih]
@[simp] def F4:hasL p (iL ns)=false:=by
 induction ns with
 |nil=>rfl
 |cons n ns ih=>simp[hasL,PV.has,ih]
@[simp] def F7:PyData.canLayAll0 (dataL (iL ns))=true:=by
 induction ns with
 |nil=>rfl
 |cons n ns ih=>simp only[gM,dataL,PV.data,PyData.canLayAll0,ih];rfl
@[simp] def F6:PyData.depthAll (dataL (iL ns))=0:=by
 induction ns with
 |nil=>rfl
 |cons n ns ih=>simp only[gM,dataL,PV.data,PyData.depthAll,ih];rfl
@[simp] def jD(i:Int):shp (.int i)=true:=rfl
@[simp] def IQ(b:Bool):shp (.bl b)=true:=rfl
@[simp] def H4:shp .non=true:=rfl
@[simp] def pP(f:Fl):shp (.lst f (iL ns))=true:=by simp[shp,SeqAt.shaped,PV.data,PyData.canLay0,PyData.depth]
@[simp] def nE:(iL ns).all shp=true:=by
 induction ns with
 |nil=>rfl
 |cons n ns ih=>simp only[gM,all_cons,jD,ih];rfl
@[simp] def Jo(i j:Int):pEq (.int i) (.int j)=.ok (.bl (decide (i=j))):=by unfold pEq;simp only[jD,Bool.and_self,if_true,PV.data,PyData.eqv];congr 2
@[simp] def Ja(i j:Int):pNe (.int i) (.int j)=.ok (.bl (!decide (i=j))):=by unfold pNe;simp only[jD,Bool.and_self,if_true,PV.data,PyData.eqv];congr 2
@[simp] def JA(i j:Bool):pEq (.bl i) (.bl j)=.ok (.bl (decide (i=j))):=by cases i<;>cases j<;>rfl
@[simp] def Jw(i j:Bool):pNe (.bl i) (.bl j)=.ok (.bl (!decide (i=j))):=by cases i<;>cases j<;>rfl
def i4:PyData.eqvAll (dataL (iL ns)) (dataL (iL ms))=decide (ns=ms):=by
 induction ns generalizing ms with
 |nil=>cases ms<;>simp[dataL,PyData.eqvAll]
 |cons n ns ih=>
  cases ms with
  |nil=>simp[dataL,PyData.eqvAll]
  |cons m ms=>simp only[gM,dataL,PV.data,PyData.eqvAll,PyData.eqv,ih];by_cases h:n=m<;>simp[h]
@[simp] def IE(f f':Fl):pEq (.lst f (iL ns)) (.lst f' (iL ms))=.ok (.bl (decide (ns=ms))):=by unfold pEq;simp only[pP,Bool.and_self,if_true,PV.data,PyData.eqv,i4]
@[simp] def oT(f f':Fl):pNe (.lst f (iL ns)) (.lst f' (iL ms))=.ok (.bl (!decide (ns=ms))):=by unfold pNe;simp only[pP,Bool.and_self,if_true,PV.data,PyData.eqv,i4]
@[simp] def lt_int(i j:Int):pLt (.int i) (.int j)=.ok (.bl (decide (i<j))):=rfl
@[simp] def gt_int(i j:Int):pGt (.int i) (.int j)=.ok (.bl (decide (j<i))):=rfl
@[simp] def ge_int(i j:Int):pGe (.int i) (.int j)=.ok (.bl (decide (j<=i))):=rfl
@[simp] def GC(i j:Int):aK (.int i) (.int j)=.ok (.int (i+j)):=rfl
@[simp] def sub_int(i j:Int):iC (.int i) (.int j)=.ok (.int (i-j)):=rfl
@[simp] def neg_int(i:Int):jm (.int i)=.ok (.int (-i)):=rfl
def bA(h:0<j):cq (.int i) (.int j)=.ok (.int (i%j)):=by simp[cq,eC,h]
def eU(h:0<j)(h2:j<1073741824):dE (.int i) (.int j)=.ok (.int (i / j)):=by simp[dE,eC,h,h2]
def fE(h:(-(2 ^ 64)<i/\i<2 ^ 64)\/(-(2 ^ 64)<j/\j<2 ^ 64)):dD (.int i) (.int j)=.ok (.int (i*j)):=by unfold dD eC;dsimp only;rw[if_pos (by simpa using h)]
@[simp] def Ij(f:Fl)(xs:JQ):bV (.lst f xs)=.ok (.int xs.length):=rfl
@[simp] def Ii(xs:JQ):bV (.tup xs)=.ok (.int xs.length):=rfl
@[simp] def Hr(f:Fl)(xs:JQ):b7 (.lst f xs)=.ok (.lst .own xs):=rfl
@[simp] def IU(f:PV->JR)(x:PV):p1 f [x]=f x:=by simp only[p1]
@[simp] def Io(c:String)(i:Int):p3 c (.int i)=.ok (.bl (l7 "int" c)):=rfl
@[simp] def Je(c:String)(i:Bool):p3 c (.bl i)=.ok (.bl (l7 "bool" c)):=rfl
@[simp] def Il(c:String):p3 c .non=.ok (.bl (l7 "NoneType" c)):=rfl
@[simp] def Im(c:String)(f:Fl)(xs:JQ):p3 c (.lst f xs)=.ok (.bl (l7 "list" c)):=rfl
@[simp] def Ik(c:String)(xs:JQ):p3 c (.tup xs)=.ok (.bl (l7 "tuple" c)):=rfl
@[simp] def Gc(b:Bool):oM (.bl b)=.ok b:=rfl
@[simp] def FE(i:Int):oM (.int i)=.ok (i != 0):=rfl
@[simp] def Hm(i:Int):(PV.int i).J0 g=.int i:=by simp[PV.J0]
@[simp] def Ih(b:Bool):(PV.bl b).J0 g=.bl b:=by simp[PV.J0]
@[simp] def Hk:PV.non.J0 g=.non:=by simp[PV.J0]
@[simp] def Hi(x:Str):(PV.str x).J0 g=.str x:=by simp[PV.J0]
@[simp] def Hn(x:Nat):(PV.exc x).J0 g=.exc x:=by simp[PV.J0]
@[simp] def Hl(f:Fl)(xs:JQ):(PV.lst f xs).J0 g=.lst (g f) (mapL g xs):=by simp[PV.J0]
@[simp] def Hh(xs:JQ):(PV.tup xs).J0 g=.tup (mapL g xs):=by simp[PV.J0]
@[simp] def Hj(f:Fl)(c:Nat)(ks:List Nat)(xs:JQ):(PV.obj f c ks xs).J0 g=.obj (g f) c ks (mapL g xs):=by simp[PV.J0]
@[simp] def Hg:mapL g []=[]:=by simp[mapL]
@[simp] def u8(x:PV)(xs:JQ):mapL g (x::xs)=x.J0 g::mapL g xs:=by simp[mapL]
@[simp] def Ix(i:Int):(PV.int i).has p=false:=by simp[PV.has]
@[simp] def Jf(b:Bool):(PV.bl b).has p=false:=by simp[PV.has]
@[simp] def Iv:PV.non.has p=false:=by simp[PV.has]
@[simp] def Is(x:Str):(PV.str x).has p=false:=by simp[PV.has]
@[simp] def Iy(x:Nat):(PV.exc x).has p=false:=by simp[PV.has]
@[simp] def Iw(f:Fl)(xs:JQ):(PV.lst f xs).has p=(p f||hasL p xs):=by simp[PV.has]
@[simp] def Ir(xs:JQ):(PV.tup xs).has p=hasL p xs:=by simp[PV.has]
@[simp] def Iu(f:Fl)(c:Nat)(ks:List Nat)(xs:JQ):(PV.obj f c ks xs).has p=(p f||hasL p xs):=by simp[PV.has]
@[simp] def HE:hasL p []=false:=by simp[hasL]
@[simp] def F5(x:PV)(xs:JQ):hasL p (x::xs)=(x.has p||hasL p xs):=by simp[hasL]
@[simp] def He(x:PV):x.JZ=!x.has Fl.JX:=rfl
@[simp] def F8(x:PV):x.JV=x.J0 Fl.JV:=rfl
@[simp] def Hs:Fl.own.JS=.lnt:=rfl
@[simp] def Hu:Fl.frz.JS=.frz:=rfl
@[simp] def Hv:Fl.bor.JS=.bor:=rfl
@[simp] def Ht:Fl.lnt.JS=.lnt:=rfl
@[simp] def FF:Fl.own.JT=.own:=rfl
@[simp] def FH:Fl.frz.JT=.frz:=rfl
@[simp] def FJ:Fl.bor.JT=.bor:=rfl
@[simp] def FG:Fl.lnt.JT=.bor:=rfl
@[simp] def Ci:Fl.own.JV=.bor:=rfl
@[simp] def EX:Fl.frz.JV=.frz:=rfl
@[simp] def EY:Fl.bor.JV=.bor:=rfl
@[simp] def EW:Fl.lnt.JV=.bor:=rfl
@[simp] def FN:Fl.own.JW=true:=rfl
@[simp] def FP:Fl.frz.JW=false:=rfl
@[simp] def FQ:Fl.bor.JW=false:=rfl
@[simp] def FO:Fl.lnt.JW=false:=rfl
@[simp] def FR:Fl.own.JX=false:=rfl
@[simp] def FU:Fl.frz.JX=false:=rfl
@[simp] def FV:Fl.bor.JX=false:=rfl
@[simp] def FT:Fl.lnt.JX=true:=rfl
@[simp] def FW:Fl.own.JY=false:=rfl
@[simp] def FY:Fl.frz.JY=false:=rfl
@[simp] def FZ:Fl.bor.JY=true:=rfl
@[simp] def FX:Fl.lnt.JY=false:=rfl
@[simp] def Ek:Fl.own.JU=.frz:=rfl
@[simp] def Em:Fl.frz.JU=.frz:=rfl
@[simp] def Eo:Fl.bor.JU=.bor:=rfl
@[simp] def El:Fl.lnt.JU=.lnt:=rfl
def jT(h0:0<=i)(h:ns[i.toNat]?=some n):aQ (.lst f (iL ns)) (.int i)=.ok (.int n):=by have hl:i.toNat<ns.length:=(List.getElem?_eq_some_iff.mp h).1;unfold aQ;simp only[aM,atI,ixN,bv,h0,if_true];rw[if_pos (by omega)];simp[h]
end
section
variable{env:En}{r:Out}
def kx(o:Out)(Q:En->Prop):Prop:=∃e,(o=.next e\/o=.cont e)/\Q e
def eJ(h1:a env=.next e)(h2:kx (b e) Q):kx (av a b env) Q:=by obtain⟨e2,h3,h4⟩:=h2;refine⟨e2,?_,h4⟩;unfold av;rw[h1];exact h3
def cG(h1:o=.next e)(h2:Q e):kx o Q:=⟨e,.inl h1,h2⟩
def kn(P:Nat->En->Prop)(h:it env=.ok xs)(h0:P 0 env)
  (step:∀(k:Nat) (x:PV) (e:En),xs[k]?=some x->P k e->∃e1,g x e=some e1/\kx (body e1) (P (k+1))) (fin:∀e,P xs.length e->Q e):kx (dv it g body env) Q:=by
 obtain⟨e2,h1,h2⟩:=jU P h h0 fun k x e h1 h2=>by obtain⟨e1,h3,e2,h4,h5⟩:=step k x e h1 h2;exact⟨e1,e2,h3,h4,h5⟩
 exact⟨e2,.inl h1,fin e2 h2⟩
def g7{it:MI}{g:TgM}{body bU:MS}{xs:JQ}(P:Nat->En->Prop)(h:it env=.ok xs)(h0:P 0 env)
  (step:∀(k:Nat) (x:PV) (e:En),xs[k]?=some x->P k e->∃e1,g x e=some e1/\kx (body e1) (P (k+1))) (fin:∀e,P xs.length e->bU e=r):av (dv it g body) bU env=r:=by
 obtain⟨e2,h1,h2⟩:=jU P h h0 fun k x e h1 h2=>by obtain⟨e1,h3,e2,h4,h5⟩:=step k x e h1 h2;exact⟨e1,e2,h3,h4,h5⟩
 exact ae h1 (fin e2 h2)
def Ei(h:-1000000<=i/\i<=1000000):inR i=true:=by
 have e:(2:Int) ^ 62=4611686018427387904:=by decide
 unfold inR;rw[decide_eq_true_eq,e];omega
def Az(hi:inR n=true)(h:ms env=.ok [.int n]):bM ms env=.ok (cC 0 n.toNat):=by unfold bM;rw[h,Res.J2];dsimp only;rw[if_pos hi]
def wj{n:Nat}(hi:inR (n:Int)=true)(h:ms env=.ok [.int n]):bM ms env=.ok (cC 0 n):=by have:=Az hi h;rw[toNat_natCast]at this;exact this
def D6{n:Nat}(hn:n<=1000000):-1000000 <=(n:Int)/\(n:Int)<= 1000000:=by omega
def bD{n:Nat}(h:ms env=.ok [.int n])(hn:n<=1000000):bM ms env=.ok (cC 0 n):=wj (Ei (D6 hn)) h
def bu(lo:Int)(n:Nat):(cC lo n).length=n:=by simp[cC]
def fS(h:(cC lo n)[k]?=some x):k<n/\x=.int (lo+k):=by
 have hk:k<n:=by
  have:=(List.getElem?_eq_some_iff.mp h).1
  rwa [bu]at this
 refine⟨hk,?_⟩;simp[cC,hk]at h;exact h.symm
def iR{ns:JI}{k:Nat}{x:PV}(h:(iL ns)[k]?=some x):∃n,ns[k]?=some n/\x=.int n:=by simp at h;obtain⟨n,h1,h2⟩:=h;exact⟨n,h1,h2.symm⟩
def cV(h:aT i e=true):tgN i v e=some (e.set i (some v)):=by simp[tgN,h]
end
def ES(ns:JI)(lo hi:Nat){l h:Int}(hl:l=lo)(hh:h=hi):gS (iL ns) (some l) (some h)=iL ((ns.take hi).drop lo):=by
 subst hl hh;unfold gS;rw[HT.sIx_nat,HT.sIx_nat];simp only[bv,nY,vn];congr 1;rw[List.drop_take];rcases Nat.le_total lo ns.length with h1|h1
 ·rw[Nat.min_eq_left h1];rcases Nat.le_total hi ns.length with h2|h2
  ·rw[Nat.min_eq_left h2]
  ·rw[Nat.min_eq_right h2,List.take_of_length_le (by simp),List.take_of_length_le (by simp;omega)]
 ·rw[Nat.min_eq_right h1,List.drop_eq_nil_of_le (Nat.le_refl _),List.drop_eq_nil_of_le h1];simp
def fk(hf:f≠.mod)(hg:g≠.mod)(h:xs.length+ys.length<=10000000):aK (.lst f xs) (.lst g ys)=.ok (.lst .own (xs++ys)):=by
 unfold aK
 grind
def kZ(h:k<n):ixN n (k:Int)=some k:=by unfold ixN;rw[if_pos (by omega),if_pos (by omega),toNat_natCast]
def CQ(lo:Int)(n:Nat):cC lo n=iL ((range n).map fun k=>lo+(k:Nat)):=by simp[cC,iL]
def lw(n:Nat):JI:=(range n).map fun(k:Nat)=>(k:Int)
@[simp] def Gb(n:Nat):(lw n).length=n:=by simp[lw]
def wg(n:Nat):cC 0 n=iL (lw n):=by rw[CQ];simp[lw]
@[simp] def nV{n:Nat}(h:n<=1000000):iY [.int n]=.ok (.lst .own (iL (lw n))):=by unfold iY;dsimp only;rw[if_pos (by simp;omega),toNat_natCast,wg]
@[simp] def gN(ns:JI):bR (iL ns)=some ns:=by
 induction ns with
 |nil=>rfl
 |cons n ns ih=>simp[bR,ih]
def kh(h:ns.length<=1000):h_ (.lst f (iL ns))=.ok (.int (kI ns)):=by unfold h_;simp only[gN];rw[if_pos (by simpa using h)]
def ui:∀(l acc:JI),(acc++l).Nodup->l.foldl step_dedup acc=acc++l
 | [],acc,_=>by simp
 |x::l,acc,h=>by
  have h':((acc++[x])++ l).Nodup:=by simpa using h
  rw[foldl_cons];have hx:x∉acc:=fun hm=>by rw[nodup_append]at h;exact h.2.2 x hm x mem_cons_self rfl
  have:step_dedup acc x=acc++[x]:=by unfold step_dedup;rw[if_neg];simpa using hx
  rw[this,ui l _ h'];simp
def uh(ns:JI):(range ns.length).map (fun i=>ns.getD i 0)=ns:=by
 apply List.ext_getElem?;intro i;by_cases h:i<ns.length
 ·simp[h]
 ·simp[h]
def qy(h:ns.Nodup):kI ns=ns.length:=by unfold kI firstMet;rw[uh,ui ns [] (by simpa using h)];rfl
def Cg:∀(l acc:JI),(l.foldl step_dedup acc).length<=acc.length+l.length
 | [],acc=>by simp
 |x::l,acc=>by
  rw[foldl_cons];have:=Cg l (step_dedup acc x);have h2:(step_dedup acc x).length<=acc.length+1:=by unfold step_dedup;split<;>simp
  simp only[length_cons];omega
def yO:∀(l acc:JI),acc.Nodup->(l.foldl step_dedup acc).length=acc.length+l.length->(acc++l).Nodup
 | [],acc,h,_=>by simpa using h
 |x::l,acc,h,e=>by
  rw[foldl_cons]at e;have h1:=Cg l (step_dedup acc x);by_cases hx:x∈acc
  ·have:step_dedup acc x=acc:=by unfold step_dedup;rw[if_pos (by simpa using hx)]
   rw[this]at h1 e;simp only[length_cons]at e;omega
  ·have:step_dedup acc x=acc++[x]:=by unfold step_dedup;rw[if_neg (by simpa using hx)]
   rw[this]at e;have:=yO l (acc ++ [x]) (by
    rw[nodup_append];exact⟨h,by simp,fun a ha b hb z=>hx (by simp at hb;rw[<- hb,<- z];exact ha)⟩) (by simp only[length_append,length_cons,length_nil]at e ⊢;omega)
   simpa using this
def yN(h:¬ns.Nodup):kI ns≠ns.length:=fun e=>by unfold kI firstMet at e;rw[uh]at e;exact h (by simpa using yO ns [] nodup_nil (by simpa using e))
def tU(i:Int)(ns:JI):inL (.int i) (iL ns)=ns.contains i:=by
 induction ns with
 |nil=>rfl
 |cons n ns ih=>have e:inL (.int i) (iL (n::ns))=(PyData.eqv (PV.int n).data (PV.int i).data||inL (.int i) (iL ns)):=rfl;rw[e,ih,List.contains_cons];congr 1;simp only[PV.data,PyData.eqv];exact Bool.beq_comm
@[simp] def Jy(i:Int)(ns:JI)(f:Fl):pIn (.int i) (.lst f (iL ns))=.ok (.bl (ns.contains i)):=by unfold pIn;simp only[aM,jD,nE,Bool.and_self,if_true,tU]
@[simp] def Hd(i:Int)(ns:JI)(f:Fl):j8 (.int i) (.lst f (iL ns))=.ok (.bl (!ns.contains i)):=by unfold j8;simp only[aM,jD,nE,Bool.and_self,if_true,tU]
def Ends(o:Out):Prop:=∃e,o=.next e
section
variable{env e:En}
def fM(h:Ends (m (args.map some++replicate (n-args.length) none))):a_ n m args=.ok .non:=by obtain⟨e,h⟩:=h;exact nK h
def gR(h1:a env=.next e)(h2:Ends (b e)):Ends (av a b env):=by obtain⟨e2,h2⟩:=h2;exact⟨e2,ae h1 h2⟩
def vA(h:o=.next e):Ends o:=⟨e,h⟩
def yG{it:MI}{g:TgM}{body bU:MS}{xs:JQ}(P:Nat->En->Prop)(h:it env=.ok xs)(h0:P 0 env)
  (step:∀(k:Nat) (x:PV) (e:En),xs[k]?=some x->P k e->∃e1,g x e=some e1/\kx (body e1) (P (k+1))) (fin:∀e,P xs.length e->Ends (bU e)):Ends (av (dv it g body) bU env):=by
 obtain⟨e2,h1,h2⟩:=jU P h h0 fun k x e h1 h2=>by obtain⟨e1,h3,e2,h4,h5⟩:=step k x e h1 h2;exact⟨e1,e2,h3,h4,h5⟩
 exact gR h1 (fin e2 h2)
end
def c9(h:m env=.ok (.lst f xs))(hf:f.JX=false)(h1:hasL Fl.JW xs=false)(h2:hasL Fl.JX xs=false):dO m env=.ok xs:=by unfold dO;rw[h];simp[hf,dI,h1,h2]
end PR
namespace PR
section
variable{n r s k o:Nat}{adj:Nat->Nat->Prop}{far:JI}
def gt(far:JI)(i:Nat):Int:=far.getD i 0
def xR(x:Int)(h:o<far.length)(i:Nat):gt (far.set o x) i=if i=o then x else gt far i:=by
 simp only[gt,getD_eq_getElem?_getD,List.getElem?_set];by_cases e:o=i
 ·subst e;simp[h]
 ·rw[if_neg e,if_neg (Ne.symm e)]
structure Far(n r:Nat)(adj:Nat->Nat->Prop)(s k:Nat)(d:Nat->Prop)(far:JI):Prop where
 len:far.length=n
 rt:gt far r=0
 rng:∀i<n,0<=gt far i/\(gt far i<=s+1\/gt far i=n)
 top:∀i<n,gt far i<=n
 up:∀i<n,∀j<n,gt far i<s->adj i j->gt far j<=gt far i+1
 upk:∀i<k,∀j<n,gt far i=s->adj i j->gt far j<=s+1
 upd:∀j<n,d j->gt far j<=s+1
 dn:∀i<n,i≠r->gt far i<n->1<=gt far i/\∃j<n,adj i j/\gt far j=gt far i-1
def Far.start(hr:r<n)(h:∀i<n,gt far i=if i=r then 0 else(n:Int))(hl:far.length=n):Far n r adj 0 0 (fun _=>False) far where
 len:=hl
 rt:=by rw[h r hr,if_pos rfl]
 rng:=fun i hi=>by rw[h i hi];split<;>omega
 top:=fun i hi=>by rw[h i hi];split<;>omega
 up:=fun i hi j _ hv _=>by have:=h i hi;split at this<;>omega
 upk:=fun i hi=>absurd hi (Nat.not_lt_zero _)
 upd:=fun _ _ z=>z.elim
 dn:=fun i hi hn hv=>by rw[h i hi,if_neg hn]at hv;omega
def Far.skip(F:Far n r adj s k (fun _=>False) far)(hk:gt far k≠s):Far n r adj s (k+1) (fun _=>False) far where
 len:=F.len
 rt:=F.rt
 rng:=F.rng
 top:=F.top
 up:=F.up
 upk:=fun i hi j hj e a=>by
  rcases Nat.lt_or_ge i k with h|h
  ·exact F.upk i h j hj e a
  ·have:i=k:=by omega
   subst this;exact absurd e hk
 upd:=F.upd
 dn:=F.dn
def Far.close(F:Far n r adj s k d far)(hd:∀j,j<n->adj k j->d j):Far n r adj s (k+1) (fun _=>False) far where
 len:=F.len
 rt:=F.rt
 rng:=F.rng
 top:=F.top
 up:=F.up
 upk:=fun i hi j hj e a=>by
  rcases Nat.lt_or_ge i k with h|h
  ·exact F.upk i h j hj e a
  ·have:i=k:=by omega
   subst this;exact F.upd j hj (hd j hj a)
 upd:=fun _ _ z=>z.elim
 dn:=F.dn
def Far.none(F:Far n r adj s k (fun _=>False) far)(hd:∀j,¬d j):Far n r adj s k d far where
 len:=F.len
 rt:=F.rt
 rng:=F.rng
 top:=F.top
 up:=F.up
 upk:=F.upk
 upd:=fun j _ z=>absurd z (hd j)
 dn:=F.dn
def Far.relax(F:Far n r adj s k d far)(hk:k<n)(ek:gt far k=s)(ho:o<n)(a:adj o k)(hs:s<n) :
  Far n r adj s k (fun j=>d j\/j=o) (far.set o (min (gt far o) (s+1)))/\gt (far.set o (min (gt far o) (s+1))) k=s:=by
 have hol:o<far.length:=by rw[F.len];exact ho
 have g:=xR (min (gt far o) ((s:Int)+1)) hol;by_cases hw:gt far o<=s+1
 ·have e:∀i,gt (far.set o (min (gt far o) ((s:Int)+1))) i=gt far i:=fun i=>by
   rw[g i];split
   ·rename_i z;subst z;omega
   ·rfl
  refine⟨⟨by rw[length_set];exact F.len,by rw[e];exact F.rt,fun i hi=>by rw[e];exact F.rng i hi,fun i hi=>by rw[e];exact F.top i hi,fun i hi j hj=>by rw[e,e];exact F.up i hi j hj,fun i hi j hj=>by rw[e,e];exact F.upk i hi j hj,fun j hj z=>?_,fun i hi hn=>?_⟩,by rw[e];exact ek⟩
  ·rw[e];rcases z with z|z
   ·exact F.upd j hj z
   ·subst z;exact hw
  ·rw[e];intro hv;obtain⟨h1,j,hj,aj,ej⟩:=F.dn i hi hn hv;exact⟨h1,j,hj,aj,by rw[e];exact ej⟩
 ·have hn:gt far o=n:=by have:=(F.rng o ho).2;omega
  have hm:min (gt far o) ((s:Int)+1)=s+1:=by omega
  rw[hm]at g ⊢;have hlt:(s:Int)+1<n:=by omega
  have ko:k≠o:=fun z=>by subst z;omega
  have ro:r≠o:=fun z=>by subst z;have:=F.rt;omega
  have le:∀i,gt (far.set o ((s:Int)+1)) i<=gt far i:=fun i=>by
   rw[g i];split
   ·rename_i z;subst z;omega
   ·exact Int.le_refl _
  have ne:∀i,i≠o->gt (far.set o ((s:Int)+1)) i=gt far i:=fun i z=>by rw[g i,if_neg z]
  have eo:gt (far.set o ((s:Int)+1)) o=s+1:=by rw[g o,if_pos rfl]
  refine⟨⟨by rw[length_set];exact F.len,by rw[ne r ro];exact F.rt,fun i hi=>?_,fun i hi=>Int.le_trans (le i) (F.top i hi),fun i hi j hj hv aj=>?_,fun i hi j hj hv aj=>?_,fun j hj z=>?_,fun i hi hn' hv=>?_⟩,by rw[ne k ko];exact ek⟩
  ·by_cases z:i=o
   ·subst z;rw[eo];omega
   ·rw[ne i z];exact F.rng i hi
  ·have z:i≠o:=fun z=>by subst z;rw[eo]at hv;omega
   rw[ne i z]at hv ⊢;exact Int.le_trans (le j) (F.up i hi j hj hv aj)
  ·have z:i≠o:=fun z=>by subst z;rw[eo]at hv;omega
   rw[ne i z]at hv;exact Int.le_trans (le j) (F.upk i hi j hj hv aj)
  ·rcases z with z|z
   ·exact Int.le_trans (le j) (F.upd j hj z)
   ·subst z;rw[eo];exact Int.le_refl _
  ·by_cases z:i=o
   ·subst z;rw[eo];exact⟨by omega,k,hk,a,by rw[ne k ko];omega⟩
   ·rw[ne i z]at hv ⊢;obtain⟨h1,j,hj,aj,ej⟩:=F.dn i hi hn' hv;refine⟨h1,j,hj,aj,?_⟩;rw[ne j fun q=>by subst q;omega];exact ej
def Far.next(F:Far n r adj s n (fun _=>False) far):Far n r adj (s+1) 0 (fun _=>False) far where
 len:=F.len
 rt:=F.rt
 rng:=fun i hi=>by have:=F.rng i hi;omega
 top:=F.top
 up:=fun i hi j hj hv a=>by
  by_cases h:gt far i<s
  ·exact F.up i hi j hj h a
  ·have e:gt far i=s:=by omega
   have:=F.upk i hi j hj e a;omega
 upk:=fun i hi=>absurd hi (Nat.not_lt_zero _)
 upd:=fun _ _ z=>z.elim
 dn:=F.dn
structure sK(n r:Nat)(adj:Nat->Nat->Prop)(far:JI):Prop where
 len:far.length=n
 rt:gt far r=0
 rng:∀i<n,0<=gt far i/\gt far i<=n
 up:∀i<n,∀j<n,adj i j->gt far j<=gt far i+1
 dn:∀i<n,i≠r->gt far i<n->1<=gt far i/\∃j<n,adj i j/\gt far j=gt far i-1
def Far.dist(F:Far n r adj n 0 (fun _=>False) far):sK n r adj far where
 len:=F.len
 rt:=F.rt
 rng:=fun i hi=>⟨(F.rng i hi).1,F.top i hi⟩
 up:=fun i hi j hj a=>by
  by_cases h:gt far i<n
  ·exact F.up i hi j hj h a
  ·have:=F.top j hj;omega
 dn:=F.dn
def p6:∀{l l':JI},l.Nodup->(∀x∈l,x∈l')->l.length<=l'.length
 | [],_,_,_=>zero_le _
 |x::l,l',nd,sub=>by obtain⟨h1,h2⟩:=nodup_cons.mp nd;have hx:=sub x mem_cons_self;have:=p6 (l':=l'.erase x) h2 (by grind);rw[List.length_erase_of_mem hx]at this;have:=List.length_pos_of_mem hx;rw[length_cons];omega
def sK.below(D:sK n r adj far)(hr:r<n):∀(m:Nat),(∃i<n,gt far i=m)->m<n->∀v,v<=m->∃i<n,gt far i=v
 |0,h,_,v,hv=>by
  have:v=0:=by omega
  subst this;exact h
 |m+1,⟨i,hi,e⟩,hm,v,hv=>by
  rcases Nat.lt_or_ge v (m+1)with h|h
  ·have hir:i≠r:=fun z=>by subst z;have:=D.rt;omega
   obtain⟨_,j,hj,_,ej⟩:=D.dn i hi hir (by omega);exact D.below hr m ⟨j,hj,by omega⟩ (by omega) v (by omega)
  ·have:v=m+1:=by omega
   subst this;exact⟨i,hi,e⟩
def eH(h:i<far.length):gt far i∈far:=by simp[gt,h]
def sK.all(D:sK n r adj far)(hr:r<n)(conn:∀S:Nat->Prop,S r->(∀i<n,∀j<n,adj i j->S i->S j)->∀i<n,S i):∀i<n,gt far i<n:=by
 refine conn (fun i=>gt far i<n) (by show gt far r<n;rw[D.rt];omega) fun i hi j hj a hv=>?_;show gt far j<n;rcases Int.lt_or_le (gt far j) n with h|h
 ·exact h
 exfalso;have h1:=D.up i hi j hj a;have h2:=(D.rng j hj).2;have e:gt far i=((n-1:Nat):Int):=by omega
 have all:∀v:Nat,v<n+1->(v:Int)∈ far:=fun v hv=>by
  rcases Nat.lt_or_ge v n with h|h
  ·obtain⟨x,hx,ex⟩:=D.below hr (n-1) ⟨i,hi,e⟩ (by omega) v (by omega);rw[<- ex];exact eH (by rw[D.len];exact hx)
  ·have:(v:Int)=gt far j:=by omega
   rw[this];exact eH (by rw[D.len];exact hj)
 have:=p6 (l:=(range (n+1)).map fun k:Nat=>(k:Int)) (l':=far) (Pairwise.map _ (fun a b h z=>h (by omega)) nodup_range) (by grind);rw[length_map,length_range,D.len]at this;omega
end
end PR
namespace PR
open PySem PySem.Spec L2
def prL(ps:JF):JQ:=ps.map prV
section
variable{ps qs:JF}{x:Int×Int}{f:Fl}{g:Fl->Fl}{p:Fl->Bool}
@[simp] def Ib:prL []=[]:=rfl
@[simp] def wz:prL (x::ps)=prV x::prL ps:=rfl
@[simp] def sY:(prL ps).length=ps.length:=by simp[prL]
@[simp] def AL:prL ps++prL qs=prL (ps++qs):=by simp[prL]
@[simp] def AK(k:Nat):(prL ps)[k]?=(ps[k]?).map prV:=by simp[prL]
@[simp] def H_:PV.J0 g (prV x)=prV x:=rfl
@[simp] def Ia:(prV x).has p=false:=rfl
@[simp] def Hf:mapL g (prL ps)=prL ps:=by
 induction ps with
 |nil=>rfl
 |cons n ns ih=>simp[mapL,ih]
@[simp] def HD:hasL p (prL ps)=false:=by
 induction ps with
 |nil=>rfl
 |cons n ns ih=>simp[hasL,ih]
@[simp] def rq:shp (prV x)=true:=rfl
@[simp] def pQ:(prL ps).all shp=true:=by
 induction ps with
 |nil=>rfl
 |cons n ns ih=>simp only[wz,all_cons,rq,ih];rfl
def EQ(x y:Int×Int):PyData.eqv (prV x).data (prV y).data=decide (x=y):=by obtain⟨a,b⟩:=x;obtain⟨c,d⟩:=y;simp only[prV,PV.data,dataL,PyData.eqv,PyData.eqvAll];by_cases h1:a=c<;>by_cases h2:b=d<;>simp[h1,h2]
def xP:inL (prV x) (prL ps)=ps.contains x:=by
 induction ps with
 |nil=>rfl
 |cons n ns ih=>
  have e:inL (prV x) (prL (n::ns))=(PyData.eqv (prV n).data (prV x).data||inL (prV x) (prL ns)):=rfl;rw[e,ih,List.contains_cons,EQ];congr 1;by_cases h:n=x
  ·subst h;simp
  ·rw[decide_eq_false h];exact(beq_eq_false_iff_ne.mpr (Ne.symm h)).symm
@[simp] def Jx:pIn (prV x) (.lst f (prL ps))=.ok (.bl (ps.contains x)):=by unfold pIn;simp only[aM,rq,pQ,Bool.and_self,if_true,xP]
@[simp] def Hc:j8 (prV x) (.lst f (prL ps))=.ok (.bl (!ps.contains x)):=by unfold j8;simp only[aM,rq,pQ,Bool.and_self,if_true,xP]
@[simp] def Iq:aQ (prV x) (.int 0)=.ok (.int x.1):=rfl
@[simp] def Ip:aQ (prV x) (.int 1)=.ok (.int x.2):=rfl
def Co(a b:Int):PV.tup [.int a,.int b]=prV (a,b):=rfl
@[simp] def Jb:gL gE (prV x)=.ok (.int (min x.1 x.2)):=rfl
@[simp] def Jc:gL jN (prV x)=.ok (.int (max x.1 x.2)):=rfl
@[simp] def rO:iM (prL ps)=some ps:=by
 induction ps with
 |nil=>rfl
 |cons n ns ih=>have:lI (prV n)=some n:=rfl;simp[iM,ih,this]
def uu(ns:JI)(h:ns.length<64):fK (.lst f (iL ns))=.ok (.lst .own (iL (jC ns))):=by simp[fK,h,gN];rfl
def q9(h:ps.length<64)(hd:ps.Nodup):fK (.lst f (prL ps))=.ok (.lst .own (prL (cP ps))):=by
 cases ps with
 |nil=>rfl
 |cons n ns=>have e:bR (prL (n::ns))=none:=rfl;simp only[fK,e,rO,sY];rw[if_pos (decide_eq_true h),if_pos (decide_eq_true hd)];rfl
end
def ip{x:PV}{xs:JQ}{k:Nat}{y:PV}(hs:aM x=some xs)(h:xs[k]?=some y)(ho:y.has Fl.JW=false):aQ x (.int k)=.ok y:=by have hl:k<xs.length:=(List.getElem?_eq_some_iff.mp h).1;unfold aQ;simp only[hs,atI];rw[kZ hl];simp[h,ho]
def nbL(ps:JF)(at_:Int):JI:=jC ((ps.filter fun x=>decide (x.2=at_)).map (·.1)++(ps.filter fun x=>decide (x.1=at_)).map (·.2))
def oU{ps:JF}{a o:Int}:o∈nbL ps a ↔(o,a)∈ ps \/(a,o)∈ ps:=by
 unfold nbL;rw[(fQ _).mem_iff,mem_append];simp only[mem_map,mem_filter,decide_eq_true_eq];constructor
 ·rintro(⟨⟨x,y⟩,⟨h1,h2⟩,h3⟩ |⟨⟨x,y⟩,⟨h1,h2⟩,h3⟩)
  ·dsimp only at h2 h3;subst h2 h3;exact .inl h1
  ·dsimp only at h2 h3;subst h2 h3;exact .inr h1
 ·rintro(h|h)
  ·exact .inl ⟨_,⟨h,rfl⟩,rfl⟩
  ·exact .inr ⟨_,⟨h,rfl⟩,rfl⟩
def mm(w:Int×Int):Int×Int:=(min w.1 w.2,max w.1 w.2)
structure vO(n:Nat)(ws:JF):Prop where
 rg:∀w∈ws,0<=w.1/\w.1<n/\0<=w.2/\w.2<n/\w.1≠w.2
 nd:(ws.map mm).Nodup
 sz:ws.length<64
end PR
namespace PR
structure Tree(n:Nat)(od:JI)(k:Nat)(ws:JF):Prop where
 rg:∀w∈ws,w.1∈od.take k/\w.2∈od.take k/\w.1≠w.2
 nd:(ws.map mm).Nodup
 ln:ws.length+1=k
 cn:∀S:Int->Prop,(∀w∈ws,(S w.1↔S w.2))->∀a∈od.take k,(S a↔S (od.getD 0 0))
open PySem L2 in
def ku(o:Out)(Q:PV->Prop):Prop:=∃v,o=.ret v/\Q v
section
open PySem L2
variable{env e:En}{Q:PV->Prop}
def dy{a b:MS}(h1:a env=.next e)(h2:ku (b e) Q):ku (av a b env) Q:=by obtain⟨v,h,q⟩:=h2;exact⟨v,ae h1 h,q⟩
def pT{c:MT}{a b bU:MS}(hc:c env=.ok true)(h:ku (a env) Q):ku (av (mBr c a b) bU env) Q:=by obtain⟨v,h1,h2⟩:=h;exact⟨v,dh (fF hc h1),h2⟩
def fN{o:Out}{v:PV}(h:o=.ret v)(q:Q v):ku o Q:=⟨v,h,q⟩
def wp{it:MI}{g:TgM}{body bU:MS}{xs:JQ}(P:Nat->En->Prop)(h:it env=.ok xs)(h0:P 0 env)
  (step:∀(k:Nat) (x:PV) (e:En),xs[k]?=some x->P k e->∃e1,g x e=some e1/\kx (body e1) (P (k+1))) (fin:∀e,P xs.length e->ku (bU e) Q):ku (av (dv it g body) bU env) Q:=by
 obtain⟨e2,h1,h2⟩:=jU P h h0 fun k x e h1 h2=>by obtain⟨e1,h3,e2,h4,h5⟩:=step k x e h1 h2;exact⟨e1,e2,h3,h4,h5⟩
 exact dy h1 (fin e2 h2)
end
end PR
namespace PR
open PySem L2
section
variable{env:En}
def fP(ho:env[0]?=some (some (.obj .own c ks vs)))(ha:ms env=.ok xs)(hl:hasL Fl.JX xs=false)
  (hm:m (.obj .own c ks vs::mapL Fl.JT xs)=.ok (.obj fl c' ks' vs')) (hb:(PV.obj fl c' ks' vs').has Fl.JY=false):ik m ms env=.next (env.set 0 (some (.obj fl c' ks' vs'))):=by
 unfold ik;rw[ho];dsimp only;rw[ha];dsimp only;rw[hl,if_neg (by decide),hm];dsimp only;rw[hb,if_neg (by decide)]
end
def vt(h:c env=.ok true)(h2:kx (a env) Q):kx (mBr c a b env) Q:=by rw[Ch h];exact h2
def vv(h:c env=.ok false)(h2:kx (b env) Q):kx (mBr c a b env) Q:=by rw[Ch h];exact h2
section
variable{env:En}{g:TgM}{me:ME}
def f_(f:Int->Int)(row:JI)(h:∀x∈row,∃e1,g (.int x) env=some e1/\me e1=.ok (.int (f x))):eK g bS me env (iL row)=.ok (iL (row.map f)):=by rw[show iL (row.map f)=row.map fun x=>PV.int (f x) by simp[iL]];exact bN (a:=PV.int) (f:=fun x=>.int (f x)) row fun x hx=>let⟨e1,h1,h2⟩:=h x hx;⟨e1,h1,h2,rfl,rfl⟩
def eW(lo:Int)(f:Nat->Int)(n:Nat)(h:∀k<n,∃e1,g (.int (lo+(k:Int))) env=some e1/\me e1=.ok (.int (f k))):eK g bS me env (cC lo n)=.ok (iL ((range n).map f)):=by rw[show iL ((range n).map f)=(range n).map fun k=>PV.int (f k) by simp[iL]];exact bN (a:=fun k:Nat=>PV.int (lo+(k:Int))) (f:=fun k=>.int (f k)) (range n) fun k hk=>let⟨e1,h1,h2⟩:=h k (mem_range.mp hk);⟨e1,h1,h2,rfl,rfl⟩
def eV(p:Nat->Bool)(f:Nat->Int)(n:Nat)(h:∀k<n,∃e1,g (.int (0+(k:Int))) env=some e1/\mc e1=.ok (p k)/\(p k=true->me e1=.ok (.int (f k)))):eK g mc me env (cC 0 n)=.ok (iL (((range n).filter p).map f)):=by rw[show iL (((range n).filter p).map f)=((range n).filter p).map fun k=>PV.int (f k) by simp[iL]];exact cL (a:=fun k:Nat=>PV.int (0+(k:Int))) (f:=fun k=>.int (f k)) (p:=p) (range n) fun k hk=>let⟨e1,h1,h2,h3⟩:=h k (mem_range.mp hk);⟨e1,h1,h2,fun z=>⟨h3 z,rfl,rfl⟩⟩
end
def cT(h0:0<=i)(h:i<cs.length):aQ (.lst f (iL cs)) (.int i)=.ok (.int (gt cs i.toNat)):=by
 have:i.toNat<cs.length:=by omega
 exact jT _ h0 (by simp[gt,this])
def sE(xs:JQ)(k:Nat)(h:k<=xs.length):gS xs none (some (k:Int))=xs.take k:=by unfold gS;rw[HT.sIx_nat,HT.sIx_none];simp[Nat.min_eq_left h]
def mw(xs:JQ)(k:Nat)(h:k<=xs.length):gS xs (some (k:Int)) none=xs.drop k:=by unfold gS;rw[HT.sIx_nat,HT.sIx_none];rw[Nat.min_eq_left h,List.take_of_length_le (by simp)]
def CA(h0:0<=j)(h1:j<=1000000)(h2:i.natAbs<2 ^ 64):wM (.int i) (.int j)=.ok (.int (i*2 ^ j.toNat)):=by unfold wM eC;dsimp only;rw[if_pos (by simp only[decide_eq_true_eq];exact⟨h0,h1,h2⟩)]
def gv(p:Int->Bool)(f:Int->Int)(row:JI)(h:∀x∈row,∃e1,g (.int x) env=some e1/\mc e1=.ok (p x)/\(p x=true->me e1=.ok (.int (f x)))):eK g mc me env (iL row)=.ok (iL ((row.filter p).map f)):=by rw[show iL ((row.filter p).map f)=(row.filter p).map fun x=>PV.int (f x) by simp[iL]];exact cL (a:=PV.int) (f:=fun x=>.int (f x)) (p:=p) row fun x hx=>let⟨e1,h1,h2,h3⟩:=h x hx;⟨e1,h1,h2,fun z=>⟨h3 z,rfl,rfl⟩⟩
def oz{Fin:En->Prop}(P:Nat->En->Prop)(step:∀m e,P m e->(c e=.ok false/\Fin e)\/(c e=.ok true/\∃m' e',m'<m/\(b e=.next e'\/b e=.cont e')/\P m' e')) :
  ∀(k m:Nat) (env:En),m<k->P m env->∃e',whL c b k env=.next e'/\Fin e'
 |0,m,_,h,_=>absurd h (Nat.not_lt_zero m)
 |k+1,m,env,h,hP=>by
  unfold whL;rcases step m env hP with⟨h1,h2⟩ |⟨h1,m',e',h2,h3,h4⟩
  ·rw[h1];exact⟨env,rfl,h2⟩
  ·obtain⟨e2,h5,h6⟩:=oz P step k m' e' (by omega) h4;rw[h1];rcases h3 with h3|h3<;>rw[h3]<;>exact⟨e2,h5,h6⟩
section
variable{env:En}{r:Out}
def uv{c:MT}{b bU:MS}{Fin:En->Prop}(P:Nat->En->Prop)(m:Nat)(hm:m<100000)(h0:P m env)(step:∀m e,P m e->(c e=.ok false/\Fin e)\/(c e=.ok true/\∃m' e',m'<m/\(b e=.next e'\/b e=.cont e')/\P m' e'))(fin:∀e,Fin e->bU e=r):av (ij c b) bU env=r:=by obtain⟨e',h1,h2⟩:=oz P step 100000 m env hm h0;exact ae h1 (fin e' h2)
def lE{Q:PV->Prop}{c:MT}{b bU:MS}{Fin:En->Prop}(P:Nat->En->Prop)(m:Nat)(hm:m<100000)(h0:P m env)(step:∀m e,P m e->(c e=.ok false/\Fin e)\/(c e=.ok true/\∃m' e',m'<m/\(b e=.next e'\/b e=.cont e')/\P m' e'))(fin:∀e,Fin e->ku (bU e) Q):ku (av (ij c b) bU env) Q:=by obtain⟨e',h1,h2⟩:=oz P step 100000 m env hm h0;exact dy h1 (fin e' h2)
end
def n_(cs:JI)(k:Nat)(h:k<=cs.length):gS (iL cs) (some (k:Int)) none=iL (cs.drop k):=by rw[mw _ k (by rw[bv];exact h),nY]
def kD:v∈cs.drop k↔∃i,k<=i/\i<cs.length/\gt cs i=v:=by
 constructor
 ·intro h;obtain⟨i,hi,e⟩:=getElem_of_mem h;rw[length_drop]at hi;rw[List.getElem_drop]at e;exact⟨k+i,by omega,by omega,by rw[<- e];simp[gt,show k+i<cs.length by omega]⟩
 ·rintro⟨i,h1,h2,e⟩;rw[List.mem_iff_getElem];refine⟨i-k,by rw[length_drop];omega,?_⟩;rw[List.getElem_drop,<- e];simp[gt,h2,show k+(i-k)=i by omega]
def kR(hl:l.length<=1000)(hb:∀x∈l,-1000000<=x/\x<=1000000):jK (.lst f (iL l))=.ok (.int l.sum):=by
 have:eA l=true:=by simp only[eA,all_eq_true,decide_eq_true_eq];exact hb
 simp[jK,aM,hl,this]
@[simp] def on(bs:List Bool):fw (bs.map .bl)=some bs:=by
 induction bs with
 |nil=>rfl
 |cons b bs ih=>simp[fw,ih]
end PR
namespace PR
def s0_{α:Type}{a b:α}{l:List α}:(a::l).set 0 b=b::l:=rfl
def s1_{α:Type}{a b:α}{l:List α}{n:Nat}:(a::l).set (n+1) b=a::l.set n b:=rfl
end PR
namespace G
open PySem L2 PR
def vh:Nat->Bool:=dz [false,false,false,false,false,true,false,false]
def se:Nat->Bool:=dz [false,false,false,true,false,false,false,false]
def vi:Nat->Bool:=dz [false,false,true,false,false,false,false,false]
def xK:Nat->Bool:=dz [false,true,false,false,false,false,false,false]
def sd:Nat->Bool:=dz [false,false,false,false,false,false,true,false]
def qh:Nat->Bool:=dz [false,false,false,false,false,false,false,true]
def o3:Nat->Bool:=dz [true,true,true,true,true,true,true,true]
def vg:Nat->Bool:=dz [false,false,false,false,true,false,false,false]
def ql:Nat->Bool:=dz [true,true,true,true,true,true,true,true]
def qg:Nat->Bool:=dz [false,true,true,true,false,false,false,false,false,false,false]
def oZ:Nat->Bool:=dz [false,false,false,false,true,true,true,false,false,false,false]
def Bm:Nat->Bool:=dz [true,true,true,true,true,true,true,true,false,true,true]
def io:Nat->Bool:=dz [false,false,false,false,false,false,false,false,false,false,true]
def zv:MS:=
 (av (mBr (aw (mOp pLt (ac 1) (ar (p1 bV) (ad (ac 0) ak))))
  (bp (mOp aQ (ac 0) (ac 1)))
  aS)
 (bp (J3 0)))
def jW:=a_ 2 zv
def ge:MS:=
 (av (fY 0 0 (ac 1))
 (av (fY 0 7 (ac 2))
 (fY 0 8 (ac 3))))
def eQ:=iG 4 ge
def zK:MS:=
 (av (mBr ((gF (aw (mOp pLt (ac 1) (J3 2))) (aw (mOp pGt (ac 1) (J3 20)))))
  (bj 2 (ad (mC (.str "the number of machines is out of bounds")) ak))
  aS)
 (av (mBr (aw (mOp pLt (ac 2) (ac 1)))
  (bj 2 (ad (mC (.str "the span is less than the size")) ak))
  aS)
 (ik eQ (ad (ac 1) (ad (ac 2) (ad (mC (.bl false)) ak))))))
def yz:=iG 3 zK
def Fb:MS:=
 (av (mBr (aw (mOp pGt (ar (p1 bV) (ad (ac 0) ak)) (J3 9)))
  (bj 2 (ad (mC (.str "there are more than nine parents")) ak))
  aS)
 (dv (u_ (ac 0)) (tgT 2 (cN (tgN 1) (cN (tgN 2) ja)))
  (mBr ((gF (aw (mOp pLt (ac 2) (J3 0))) (aw (mOp pGe (ac 2) (ac 1)))))
  (bj 2 (ad (mC (.str "a parent is no machine of a lower number than its kid")) ak))
  aS)))
def EC:=a_ 3 Fb
def mK:MS:=
 (ik eQ (ad (ac 1) (ad (ac 2) (ad (mC (.bl false)) ak))))
def jX:=iG 3 mK
def Fh:MS:=
 (av (fI (ar (aL EC) (ad (ac 1) ak)))
 (av (fY 0 11 (ar (p1 dA) (ad (ac 1) ak)))
 (ik jX (ad (mOp aK (ar (p1 bV) (ad (ac 1) ak)) (J3 1)) (ad (mOp aK (ar (p1 bV) (ad (ac 1) ak)) (J3 2)) ak)))))
def EF:=iG 2 Fh
def zx:MS:=
 (av (mBr (aw (mOp pNe (ar (p1 bV) (ad (ac 0) ak)) (mOp dD (mOp dD (ac 1) (ac 1)) (ac 1))))
  (bj 2 (ad (mC (.str "a table has not an entry for each own, left and right cell")) ak))
  aS)
 (dv (dO (ac 0)) (tgN 2)
  (mBr ((gF (aw (mOp pLt (ac 2) (J3 0))) (aw (mOp pGe (ac 2) (ac 1)))))
  (bj 2 (ad (mC (.str "an entry of a table is out of bounds")) ak))
  aS)))
def ub:=a_ 3 zx
def E9:MS:=
 (av (mBr ((gF (aw (mOp pLt (ac 1) (J3 2))) (aw (mOp pGt (ac 1) (J3 8)))))
  (bj 2 (ad (mC (.str "the number of machines is out of bounds")) ak))
  aS)
 (av (mBr ((gF (aw (mOp pLt (ac 2) (J3 2))) (aw (mOp pGt (ac 2) (J3 4)))))
  (bj 2 (ad (mC (.str "the span is out of bounds")) ak))
  aS)
 (av (mBr (aw (mUn (kW [("none", (0)),("one", (1))]) (ac 3)))
  (bj 2 (ad (mC (.str "the word is another one than none and one")) ak))
  aS)
 (av (fI (ar (aL ub) (ad (ac 4) (ad (ac 2) ak))))
 (av (fI (ar (aL ub) (ad (ac 5) (ad (ac 2) ak))))
 (av (fY 0 12 (mUn (p4 [("none", (0)),("one", (1))]) (ac 3)))
 (av (fY 0 13 (ar (p1 dA) (ad (ac 4) ak)))
 (av (fY 0 14 (ar (p1 dA) (ad (ac 5) ak)))
 (ik eQ (ad (ac 1) (ad (ac 2) (ad (mC (.bl false)) ak))))))))))))
def Ey:=iG 6 E9
def zr:MS:=
 (mBr ((gF (aw (mOp pLt (ac 0) (ac 1))) (aw (mOp pGt (ac 0) (J3 10)))))
  (bj 1 (ad (mC (.str "the number of machines is out of bounds")) ak))
  aS)
def yj:=a_ 2 zr
def zN:MS:=
 (av (aV 2 (cB ak))
 (av (dv (dO (ac 1)) (tgN 3)
  (av (aV 4 (mW (ad (ar (p1 (gL gE)) (ad (ac 3) ak)) (ad (ar (p1 (gL jN)) (ad (ac 3) ak)) ak))))
 (av (mBr ((gF (aw (mOp pLt (mOp aQ (ac 4) (J3 0)) (J3 0))) (aw (mOp pGe (mOp aQ (ac 4) (J3 1)) (ac 0)))))
  (bj 1 (ad (mC (.str "a way has a number that is no machine")) ak))
  aS)
 (av (mBr (aw (mOp pEq (mOp aQ (ac 4) (J3 0)) (mOp aQ (ac 4) (J3 1))))
  (bj 1 (ad (mC (.str "a way has twice the same machine")) ak))
  aS)
 (av (mBr (aw (mOp pIn (ac 4) (ac 2)))
  (bj 1 (ad (mC (.str "a way is told twice")) ak))
  aS)
 (cJ 2 (ac 4)))))))
 (bp (ar (p1 fK) (ad (ac 2) ak)))))
def yB:=a_ 5 zN
def zl:MS:=
 (av (aV 2 (aY [1] 1 (da (ac 0)) (tgN 1) (aw (mOp pEq (mOp aQ (ac 1) (J3 1)) (ac 0))) (mOp aQ (ac 1) (J3 0))))
 (av (aV 3 (aY [1] 1 (da (ac 0)) (tgN 1) (aw (mOp pEq (mOp aQ (ac 1) (J3 0)) (ac 0))) (mOp aQ (ac 1) (J3 1))))
 (bp (ar (p1 fK) (ad (mOp aK (ac 2) (ac 3)) ak)))))
def t7:=a_ 4 zl
def qN:MS:=
 (bp (ar (p1 b7) (ad (mOp aQ (mUn (ap 2) (ac 0)) (ac 1)) ak)))
def t8:=a_ 2 qN
def b8:Nat->Option (JQ->JR)
 |8=>some t8
 |_=>none
def za:MS:=
 (av (aV 2 (aY [0] 1 (bM (ad (mUn (ap 0) (ac 0)) ak)) (tgN 1) bS (mUn (ap 0) (ac 0))))
 (av (im 2 (ac 1) (J3 0))
 (av (dv (bM (ad (mUn (ap 0) (ac 0)) ak)) (tgN 3)
  (dv (bM (ad (mUn (ap 0) (ac 0)) ak)) (tgN 4)
  (mBr (aw (mOp pEq (mOp aQ (ac 2) (ac 4)) (ac 3)))
  (dv (dO (bB b8 (ac 0) (ad (ac 4) ak))) (tgN 5)
  (im 2 (ac 5) (ar (fC min) (ad (mOp aQ (ac 2) (ac 5)) (ad (mOp aK (ac 3) (J3 1)) ak)))))
  aS)))
 (fX 2))))
def tY:=a_ 6 za
def y9:MS:=
 (av (fI (ar (aL yj) (ad (ac 1) (ad (J3 1) ak))))
 (av (fY 0 0 (ac 1))
 (av (fY 0 1 (ar (p1 dA) (ad (ar (aL yB) (ad (ac 1) (ad (ac 2) ak))) ak)))
 (av (fY 0 2 (ar (p1 dA) (ad (aY [0] 1 (bM (ad (ac 1) ak)) (tgN 1) bS (ar (p1 dA) (ad (ar (aL t7) (ad (mUn (ap 1) (ac 0)) (ad (ac 1) ak))) ak))) ak)))
 (mBr (aw (mOp pEq (ar (p1 (gL jN)) (ad (ar (aL tY) (ad (ac 0) (ad (J3 0) ak))) ak)) (ac 1)))
  (bj 1 (ad (mC (.str "not every machine can be come to from machine 0")) ak))
  aS)))))
def yb:=iG 3 y9
def y6:MS:=
 (av (aV 2 (aY [] 1 (bM (ad (mOp iC (ac 0) (J3 1)) ak)) (tgN 0) bS (mW (ad (ac 0) (ad (mOp aK (ac 0) (J3 1)) ak)))))
 (av (dv (bM (ad (ac 0) ak)) (tgN 3)
  (dv (bM (ad (mOp iC (ac 3) (J3 1)) ak)) (tgN 4)
  (av (mBr (aw (mOp pEq (mOp cq (ac 1) (J3 3)) (J3 1)))
  (cJ 2 (mW (ad (ac 3) (ad (ac 4) ak))))
  aS)
 (aV 1 (mOp dE (ac 1) (J3 3))))))
 (bp (jp 8 yb (ad (ac 0) (ad (ac 2) ak))))))
def x_:=a_ 5 y6
def Fa:MS:=
 (av (i_ 1) (av (fY 0 4 (ac 1))
 (ik jX (ad (mUn (ap 0) (ac 1)) (ad (mUn (ap 0) (ac 1)) ak)))))
def EB:=iG 2 Fa
def zn:MS:=
 (mBr ((gF (aw (mOp pLt (ac 0) (J3 1))) (aw (mOp pGt (ac 0) (J3 10)))))
  (bj 2 (ad (mC (.str "the stretch or the number of blocks is out of bounds")) ak))
  aS)
def t_:=a_ 1 zn
def zI:MS:=
 (av (mBr (aw (mOp pNe (ar (p1 bV) (ad (ac 1) ak)) (mUn (ap 0) (ac 0))))
  (bj 2 (ad (mC (.str "there are not as many starts as machines")) ak))
  aS)
 (dv (dO (ac 1)) (tgN 3)
  (mBr ((eP (aw (mOp je (ac 3) (mC .non))) ((gF (aw (mOp pLt (ac 3) (J3 0))) (aw (mOp pGe (ac 3) (ac 2)))))))
  (bj 2 (ad (mC (.str "a start is out of bounds")) ak))
  aS)))
def yw:=a_ 4 zI
def Fe:MS:=
 (av (fI (ar (aL t_) (ad (ac 3) ak)))
 (av (fI (ar (aL t_) (ad (ac 4) ak)))
 (av (fY 0 3 (mOp dD (ac 3) (ac 4)))
 (av (fI (ar (aL yw) (ad (ac 1) (ad (ac 2) (ad (mUn (ap 3) (ac 0)) ak)))))
 (av (i_ 1) (av (fY 0 4 (ac 1))
 (av (fY 0 5 (ar (p1 dA) (ad (ac 2) ak)))
 (av (fY 0 6 (ac 3))
 (ik eQ (ad (mUn (ap 0) (ac 1)) (ad (mOp aK (mUn (ap 3) (ac 0)) (J3 1)) (ad (mC (.bl true)) ak))))))))))))
def sw:=iG 5 Fe
def zz:MS:=
 (av (mBr ((gF (aw (mOp pLt (ac 2) (J3 0))) (aw (mOp pGe (ac 2) (mUn (ap 0) (ac 1))))))
  (bj 2 (ad (mC (.str "the root is no machine")) ak))
  aS)
 (av (aV 3 (aY [2] 1 (bM (ad (mUn (ap 0) (ac 1)) ak)) (tgN 1) bS (oX (aw (mOp pEq (ac 1) (ac 0))) (J3 0) (mC .non))))
 (av (i_ 3) (av (i_ 1) (ik sw (ad (ac 1) (ad (ac 3) (ad (mUn (ap 0) (ac 1)) (ad (J3 1) ak)))))))))
def ud:=iG 4 zz
def zw:MS:=
 (av (mBr (aw (mOp pNe (ar (p1 bV) (ad (ac 1) ak)) (mUn (ap 0) (ac 0))))
  (bj 2 (ad (mC (.str "there are not as many names as machines")) ak))
  aS)
 (av (mBr (aw (mOp pNe (mUn h_ (ac 1)) (ar (p1 bV) (ad (ac 1) ak))))
  (bj 2 (ad (mC (.str "two machines have the same name")) ak))
  aS)
 (dv (dO (ac 1)) (tgN 2)
  (mBr ((gF (aw (mOp pLt (ac 2) (J3 0))) (aw (mOp pGt (ac 2) (J3 9)))))
  (bj 2 (ad (mC (.str "a name is out of bounds")) ak))
  aS))))
def yo:=a_ 3 zw
def zJ:MS:=
 (av (i_ 1) (av (fI (ar (aL yo) (ad (ac 1) (ad (ac 2) ak))))
 (av (aV 3 (aY [1] 1 (da (ac 2)) (tgN 1) bS (mOp dD (mOp iC (J3 9) (ac 1)) (mUn (ap 0) (ac 0)))))
 (av (i_ 3) (ik sw (ad (ac 1) (ad (ac 3) (ad (mUn (ap 0) (ac 1)) (ad (J3 10) ak)))))))))
def yx:=iG 4 zJ
def zG:MS:=
 (av (i_ 1) (av (fY 0 9 (jp 5 ud (ad (ac 1) (ad (ac 2) ak))))
 (av (fY 0 4 (ac 1))
 (av (fY 0 10 (ac 2))
 (ik eQ (ad (mUn (ap 0) (ac 1)) (ad (mOp dD (mOp aK (mUn (ap 0) (ac 1)) (J3 1)) (mOp aK (mUn (ap 0) (ac 1)) (J3 1))) (ad (mC (.bl true)) ak))))))))
def yu:=iG 3 zG
def mJ:MS:=
 (av (i_ 1) (av (mBr (aw (mOp pEq (ac 0) (J3 1)))
  (bp (jp 2 EB (ad (ac 1) ak)))
  aS)
 (av (mBr (aw (mOp pEq (ac 0) (J3 3)))
  (bp (jp 4 sw (ad (ac 1) (ad (aY [2] 1 (bM (ad (mUn (ap 0) (ac 1)) ak)) (tgN 1) bS (oX (aw (mOp pGt (mOp cq (mOp aK (ac 0) (ac 1)) (J3 4)) (J3 0))) (mOp cq (mOp aK (ac 0) (ac 1)) (J3 6)) (mC .non))) (ad (J3 3) (ad (J3 2) ak))))))
  aS)
 (av (mBr (aw (mOp pEq (ac 0) (J3 4)))
  (bp (jp 5 ud (ad (ac 1) (ad (mOp cq (ac 2) (mUn (ap 0) (ac 1))) ak))))
  aS)
 (av (mBr (aw (mOp pEq (ac 0) (J3 5)))
  (bp (jp 6 yx (ad (ac 1) (ad (aY [2] 1 (bM (ad (mUn (ap 0) (ac 1)) ak)) (tgN 1) bS (mOp cq (mOp aK (ac 0) (mOp dD (J3 7) (ac 1))) (J3 10))) ak))))
  aS)
 (bp (jp 7 yu (ad (ac 1) (ad (mOp cq (ac 2) (mUn (ap 0) (ac 1))) ak)))))))))
def t9:=a_ 3 mJ
def mI:MS:=
 (av (mBr (aw (mOp pEq (ac 0) (J3 0)))
  (bp (jp 9 yz (ad (mOp aK (ac 1) (J3 1)) (ad (mOp aK (mOp aK (ac 1) (J3 1)) (mOp cq (ac 2) (J3 4))) ak))))
  aS)
 (av (mBr (aw (mOp pEq (ac 0) (J3 2)))
  (bp (jp 3 EF (ad (aY [2] 1 (bM (ad (mOp iC (ac 1) (J3 1)) ak)) (tgN 1) bS (mOp cq (mOp dE (ac 0) (mOp aK (ac 1) (J3 1))) (mOp aK (ac 1) (J3 1)))) ak)))
  aS)
 (av (mBr (aw (mOp pEq (ac 0) (J3 7)))
  (av (aV 4 (aY [2] 1 (bM (ad (J3 8) ak)) (tgN 1) bS (mOp kA (mOp p0 (ac 0) (ac 1)) (J3 1))))
 (av (aV 5 (aY [3] 1 (bM (ad (J3 8) ak)) (tgN 1) bS (mOp kA (mOp p0 (ac 0) (ac 1)) (J3 1))))
 (bp (jp 10 Ey (ad (ar (fC min) (ad (J3 8) (ad (mOp aK (ac 1) (J3 1)) ak))) (ad (J3 2) (ad (mC (.str "none")) (ad (ac 4) (ad (ac 5) ak)))))))))
  aS)
 (av (mBr (aw (mOp pEq (ac 0) (J3 8)))
  (bp (jp 1 jX (ad (ac 1) (ad (mOp aK (J3 1) (mOp cq (ac 2) (J3 9))) ak))))
  aS)
 (bp (ar (aL t9) (ad (ac 0) (ad (ar (aL x_) (ad (ac 1) (ad (ac 3) ak))) (ad (ac 2) ak)))))))))
def tX:=a_ 6 mI
def HQ:MS:=
 (av (mBr ((eP (aw (mOp pIn (ac 0) (cB (ad (J3 1) (ad (J3 2) (ad (J3 8) ak)))))) (fH (cF (mUn (lJ qg) (ac 1))))))
  (bp (mC (.bl false)))
  aS)
 (av (mBr ((eP (aw (mOp pIn (ac 0) (cB (ad (J3 3) (ad (J3 4) (ad (J3 5) ak)))))) (fH (cF (mUn (lJ oZ) (ac 1))))))
  (bp (mC (.bl false)))
  aS)
 (bp ((gn (mUn (lJ Bm) (ac 1)) (gn (qY (mUn (ap 8) (ac 1)) "bool") (mOp pEq (mUn (ap 8) (ac 1)) (mOp pIn (ac 0) (cB (ad (J3 3) (ad (J3 4) (ad (J3 5) (ad (J3 6) ak)))))))))))))
def x9:=a_ 2 HQ
def qM:MS:=
 (av (aV 3 (aY [2] 1 (bM (ad (ac 0) ak)) (tgN 1) (aw (mOp pEq (mOp kA (mOp p0 (ac 0) (ac 1)) (J3 1)) (J3 1))) (ac 1)))
 (av (aV 4 (mOp cq (mOp dE (ac 2) (J3 5)) (mOp aK (ar (p1 bV) (ad (ac 3) ak)) (J3 1))))
 (av (aV 3 (mOp aK (mUn fU (dB (ac 3) (eG (ac 4)) dr)) (dB (ac 3) dr (eG (ac 4)))))
 (av (mBr (cF (ac 1))
  (bp (dB (ac 3) dr (eG (J3 1))))
  aS)
 (fX 3)))))
def t5:=a_ 5 qM
def zu:MS:=
 (av (aV 4 (mOp lK (cB (ad (J3 0) (ad (J3 1) (ad (mOp cq (mOp dE (ac 3) (J3 24)) (mOp uQ (J3 10) (J3 59))) ak)))) (mOp cq (mOp dE (ac 3) (J3 8)) (J3 3))))
 (av (aV 5 (mOp lK (cB (ad (mOp aK (ac 0) (ac 4)) (ad (mOp iC (mUn jm (J3 1)) (ac 4)) ak))) (mOp cq (mOp dE (ac 3) (J3 2)) (J3 2))))
 (av (mBr ((eP (aw (mOp pEq (mOp cq (ac 3) (J3 2)) (J3 1))) (aw (mOp pNe (ac 2) (cB ak)))))
  (aV 5 (mOp aQ (ac 2) (mOp cq (mOp dE (ac 3) (J3 24)) (ar (p1 bV) (ad (ac 2) ak)))))
  aS)
 (av (mBr ((eP (aw (mOp pEq (mOp cq (ac 3) (J3 4)) (J3 2))) (eP (cF (ac 1)) (aw (mOp pGt (ac 0) (J3 1))))))
  (bp (cB (ad (mOp cq (mOp dE (ac 3) (J3 8)) (ac 0)) (ad (mOp cq (mOp aK (mOp aK (mOp dE (ac 3) (J3 8)) (J3 1)) (mOp cq (mOp dE (ac 3) (J3 80)) (mOp iC (ac 0) (J3 1)))) (ac 0)) ak))))
  aS)
 (av (aV 6 (mOp cq (mOp dE (ac 3) (J3 240)) (mOp aK (ar (p1 bV) (ad (ac 2) ak)) (J3 1))))
 (bp (mOp aK (mOp aK (dB (ac 2) dr (eG (ac 6))) (cB (ad (ac 5) ak))) (dB (ac 2) (eG (ac 6)) dr))))))))
def ym:=a_ 7 zu
def zd:MS:=
 (bp (mOp aQ (ac 1) (ac 2)))
def t3:=a_ 3 zd
def Fr:MS:=
 (bp (cB ak))
def EI:=a_ 2 Fr
def Ft:MS:=
 (bp (aY [1] 1 (da (bB b8 (mUn (ap 4) (ac 0)) (ad (ac 1) ak))) (tgN 1) (aw (mOp pLt (ac 1) (ac 0))) (ac 1)))
def EK:=a_ 2 Ft
def Fu:MS:=
 (bp (aY [1] 2 (Ba (mUn (ap 11) (ac 0))) (tgT 2 (cN (tgN 1) (cN (tgN 2) ja))) (aw (mOp pEq (ac 2) (ac 0))) (ac 1)))
def EL:=a_ 2 Fu
def aO:Nat->Option (JQ->JR)
 |1=>some EI
 |2=>some EK
 |3=>some EL
 |_=>none
def zH:MS:=
 (av (aV 3 (aY [1] 1 (da (bB aO (ac 0) (ad (ac 2) ak))) (tgN 1) bS (mOp aQ (ac 0) (ac 1))))
 (av (aV 4 (J3 0))
 (av (ij (aw (mOp pIn (ac 4) (ac 3)))
  (aV 4 (mOp aK (ac 4) (J3 1))))
 (fX 4))))
def yv:=a_ 5 zH
def zB:MS:=
 (bp (ar (fC min) (ad (mUn (ap 0) (ac 0)) (ad (mOp aK (J3 1) (ar (p1 jK) (ad (aY [1] 1 (da (bB aO (ac 0) (ad (ac 2) ak))) (tgN 1) bS (mOp aQ (ac 0) (ac 1))) ak))) ak))))
def yr:=a_ 3 zB
def Fv:MS:=
 (bp ((gn (mOp pNe (ac 1) (mUn (ap 3) (ac 0))) (mOp pNe (mOp cq (mOp aK (ac 1) (J3 1)) (mUn (ap 6) (ac 0))) (J3 0)))))
def vw:=a_ 2 Fv
def dJ:Nat->Option (JQ->JR)
 |4|5|6=>some vw
 |_=>none
def zE:MS:=
 (av (aV 3 (aY [1] 1 (da (bB b8 (mUn (ap 4) (ac 0)) (ad (ac 2) ak))) (tgN 1) bS (mOp aQ (ac 0) (ac 1))))
 (av (aV 4 (aY [0] 1 (da (ac 3)) (tgN 1) (cF (bB dJ (ac 0) (ad (ac 1) ak))) (mOp aK (ac 1) (J3 1))))
 (av (mBr (aw (mOp je (mOp aQ (mUn (ap 5) (ac 0)) (ac 2)) (mC .non)))
  (cJ 4 (mOp aQ (mUn (ap 5) (ac 0)) (ac 2)))
  aS)
 (bp (ar (p1 (gL gE)) (ad (mOp aK (ac 4) (cB (ad (mUn (ap 3) (ac 0)) ak))) ak))))))
def n6:=a_ 5 zE
def E_:MS:=
 (bp (aY [0] 1 (da (ac 1)) (tgN 1) bS (mW (ad (mOp dE (ac 1) (mOp aK (mUn (ap 0) (ac 0)) (J3 1))) (ad (mOp cq (ac 1) (mOp aK (mUn (ap 0) (ac 0)) (J3 1))) ak)))))
def Ez:=a_ 2 E_
def fv:Nat->Option (JQ->JR)
 |7=>some Ez
 |_=>none
def zL:MS:=
 (bp (aY [] 1 (da (bB fv (ac 0) (ad (ac 1) ak))) (tgN 0) bS (mOp aQ (ac 0) (J3 0))))
def yA:=a_ 2 zL
def dZ:Nat->Option (JQ->JR)
 |7=>some yA
 |_=>none
def kq:Nat->Option (JQ->JR)
 |5=>some n6
 |_=>none
def Fm:MS:=
 (bp (aY [] 1 (da (bB fv (ac 0) (ad (ac 1) ak))) (tgN 0) bS (mOp aQ (ac 0) (J3 1))))
def EH:=a_ 2 Fm
def cY:Nat->Option (JQ->JR)
 |7=>some EH
 |_=>none
def Fd:MS:=
 (av (mBr (aw (mOp pEq (ac 2) (mUn (ap 10) (ac 0))))
  (bp (mC .non))
  aS)
 (av (aV 3 (aY [1,2] 1 (da (bB b8 (mUn (ap 4) (ac 0)) (ad (ac 2) ak))) (tgN 2) (aw (mOp pEq (mOp aQ (ac 0) (ac 2)) (mOp iC (mOp aQ (ac 0) (ac 1)) (J3 1)))) (ac 2)))
 (bp (mUn nQ (ac 3)))))
def ED:=a_ 4 Fd
def iT:Nat->Option (JQ->JR)
 |7=>some ED
 |_=>none
def Fk:MS:=
 (av (aV 2 (bB dZ (ac 0) (ad (ac 1) ak)))
 (bp (aY [0,2] 1 (bM (ad (mUn (ap 0) (ac 0)) ak)) (tgN 2) bS (bB iT (ac 0) (ad (ac 1) (ad (ac 2) ak))))))
def EG:=a_ 3 Fk
def iy:Nat->Option (JQ->JR)
 |7=>some EG
 |_=>none
def Fs:MS:=
 (av (aV 3 (aY [2] 2 (jO (ad (bB cY (ac 0) (ad (ac 1) ak)) (ad (bB iy (ac 0) (ad (ac 1) ak)) ak))) (tgT 2 (cN (tgN 1) (cN (tgN 2) ja))) (aw (mOp pEq (ac 2) (ac 0))) (ac 1)))
 (bp (ar (fC min) (ad (mUn (ap 0) (ac 0)) (ad (mOp aK (J3 1) (ar (p1 jK) (ad (ac 3) ak))) ak)))))
def EJ:=a_ 4 Fs
def db:Nat->Option (JQ->JR)
 |7=>some EJ
 |_=>none
def zy:MS:=
 (av (aV 3 (bB dZ (ac 0) (ad (ac 1) ak)))
 (av (aV 4 (bB kq (mUn (ap 9) (ac 0)) (ad (ac 3) (ad (ac 2) ak))))
 (av (aV 5 (mOp aQ (bB cY (ac 0) (ad (ac 1) ak)) (ac 2)))
 (av (mBr (aw (mOp pEq (ac 4) (mOp aQ (ac 3) (ac 2))))
  (aV 5 (bB db (ac 0) (ad (ac 1) (ad (ac 2) ak))))
  aS)
 (bp (mOp aK (mOp dD (ac 4) (mOp aK (mUn (ap 0) (ac 0)) (J3 1))) (ac 5)))))))
def yp:=a_ 6 zy
def zA:MS:=
 (av (mBr (aw (mOp pNe (ac 2) (J3 0)))
  (bp (mOp aQ (ac 1) (mOp iC (ac 2) (J3 1))))
  aS)
 (av (mBr (aw (mOp pEq (mOp aQ (ac 1) (J3 0)) (mOp aQ (ac 1) (mOp iC (mUn (ap 0) (ac 0)) (J3 1)))))
  (bp (mOp cq (mOp aK (mOp aQ (ac 1) (J3 0)) (J3 1)) (mUn (ap 7) (ac 0))))
  aS)
 (bp (mOp aQ (ac 1) (J3 0)))))
def yq:=a_ 3 zA
def zM:MS:=
 (av (aV 3 (mOp aQ (ac 1) (mOp cq (mOp iC (ac 2) (J3 1)) (mUn (ap 0) (ac 0)))))
 (av (aV 4 (mOp aQ (ac 1) (mOp cq (mOp aK (ac 2) (J3 1)) (mUn (ap 0) (ac 0)))))
 (av (aV 5 (mOp aK (mOp aK (mOp dD (mOp dD (mOp aQ (ac 1) (ac 2)) (mUn (ap 7) (ac 0))) (mUn (ap 7) (ac 0))) (mOp dD (ac 3) (mUn (ap 7) (ac 0)))) (ac 4)))
 (bp (oX (aw (mOp pEq (ac 2) (J3 0))) (mOp aQ (mUn (ap 13) (ac 0)) (ac 5)) (mOp aQ (mUn (ap 14) (ac 0)) (ac 5)))))))
def qq:=a_ 6 zM
def ax:Nat->Option (JQ->JR)
 |0|1=>some t3
 |2=>some yv
 |3=>some yr
 |4|5|6=>some n6
 |7=>some yp
 |9=>some yq
 |10=>some qq
 |_=>none
def qP:MS:=
 (av (mBr ((eP (cF (mUn (ap 8) (ac 0))) (aw (mOp pGt (ar (p1 bV) (ad (ac 1) ak)) (J3 1)))))
  (bj 4 (ad (mC (.str "a rule that is alone gets one machine at a turn")) ak))
  aS)
 (av (dv (dO (ac 1)) (tgN 2)
  (mBr ((gF (aw (mOp pLt (ac 2) (J3 0))) (aw (mOp pGe (ac 2) (mUn (ap 0) (ac 0))))))
  (bj 4 (ad (mC (.str "a name is no machine")) ak))
  aS))
 (mBr (aw (mOp pNe (mUn h_ (ac 1)) (ar (p1 bV) (ad (ac 1) ak))))
  (bj 4 (ad (mC (.str "a machine is named twice")) ak))
  aS)))
def ua:=a_ 3 qP
def qO:MS:=
 (av (fI (ar (aL ua) (ad (ac 0) (ad (ac 2) ak))))
 (bp (aY [2,0,1] 1 (bM (ad (mUn (ap 0) (ac 0)) ak)) (tgN 3) bS (oX (aw (mOp pIn (ac 3) (ac 0))) (bB ax (ac 1) (ad (ac 2) (ad (ac 3) ak))) (mOp aQ (ac 2) (ac 3))))))
def gu:=a_ 3 qO
def aG:Nat->Option (JQ->JR)
 |0|1|2|3|4|5|6|7|9|10=>some gu
 |_=>none
def zh:MS:=
 (bp ((gn (qY (ac 0) "int") (tL (qY (ac 0) "bool")))))
def t6:=a_ 1 zh
def y7:MS:=
 (bp ((gn (qY (ac 0) "list") (gn (ar (p1 (mU pG)) (ad (aY [] 1 (da (ac 0)) (tgN 0) bS (ar (aL t6) (ad (ac 0) ak))) ak)) (mOp pEq (ac 0) (ac 1))))))
def iS:=a_ 2 y7
def zo:MS:=
 (bp (aY [0,1] 1 (bM (ad (mUn (ap 0) (ac 0)) ak)) (tgN 2) (aw (mOp pNe (bB ax (ac 0) (ad (ac 1) (ad (ac 2) ak))) (mOp aQ (ac 1) (ac 2)))) (ac 2)))
def gP:=a_ 2 zo
def ao:Nat->Option (JQ->JR)
 |0|1|2|3|4|5|6|7|9|10=>some gP
 |_=>none
def zb:MS:=
 (bp (ar (p1 b7) (ad (ac 2) ak)))
def tZ:=a_ 3 zb
def ze:MS:=
 (av (mBr (aw (mOp pNe (ar (p1 bV) (ad (ac 1) ak)) (mUn (ap 0) (ac 0))))
  (bj 3 (ad (mC (.str "there are not as many registers as machines")) ak))
  aS)
 (bp (aY [0] 1 (da (ac 1)) (tgN 1) bS (mOp cq (ac 1) (mUn (ap 7) (ac 0))))))
def gO:=a_ 2 ze
def aZ:Nat->Option (JQ->JR)
 |0|1|2|3|4|5|6|7|9|10=>some gO
 |_=>none
def qK:MS:=
 (av (aV 3 (bB aG (ac 0) (ad (ac 1) (ad (ac 2) ak))))
 (av (aV 4 (aY [2] 1 (da (bB ao (ac 0) (ad (ac 1) ak))) (tgN 1) (aw (mOp pIn (ac 1) (ac 0))) (ac 1)))
 (rZ 4 3)))
def mj:=a_ 5 qK
def zQ:MS:=
 (av (aV 3 (bB aZ (ac 0) (ad (ac 1) ak)))
 (av (aV 4 (cB ak))
 (av (i_ 2) (av (dv (dO (ac 2)) (tgN 5)
  (av (cJ 4 (mFz (ar (aL mj) (ad (ac 0) (ad (ac 3) (ad (ac 5) ak))))))
 (aV 3 (mOp aQ (mOp aQ (ac 4) (mUn jm (J3 1))) (J3 1)))))
 (fX 4)))))
def yD:=a_ 6 zQ
def y3:MS:=
 (av (aV 4 (bB aZ (ac 0) (ad (ac 1) ak)))
 (av (aV 5 (cB ak))
 (av (ij ((eP (aw (mOp pLt (ar (p1 bV) (ad (ac 5) ak)) (ac 3))) (aw (mOp pGt (ar (p1 bV) (ad (bB ao (ac 0) (ad (ac 4) ak)) ak)) (J3 0)))))
  (av (aV 6 (kf 2 99 tZ (ad (ar (p1 bV) (ad (ac 5) ak)) (ad (bB ao (ac 0) (ad (ac 4) ak)) ak))))
 (av (cJ 5 (mFz (ar (aL mj) (ad (ac 0) (ad (ac 4) (ad (ac 6) ak))))))
 (aV 4 (mOp aQ (mOp aQ (ac 5) (mUn jm (J3 1))) (J3 1))))))
 (fX 5))))
def x0:=a_ 7 y3
def y_:MS:=
 (av (nU 4 99 [3])
 (av (mBr (aw (mOp pEq (ac 0) (J3 0)))
  (bp (bB aG (ac 1) (ad (ac 2) (ad (ac 3) ak))))
  aS)
 (av (mBr (aw (mOp pEq (ac 0) (J3 1)))
  (bp (ar (aL yD) (ad (ac 1) (ad (ac 2) (ad (cB (ad (cB ak) (ad (ac 3) ak))) ak)))))
  aS)
 (bp (ar (aL x0) (ad (ac 1) (ad (ac 2) (ad (ac 4) (ad (J3 1) ak)))))))))
def yc:=a_ 5 y_
def zq:MS:=
 (av (aV 4 (cB ak))
 (av (xB (fI (ar (aL yc) (ad (ac 0) (ad (ac 1) (ad (ac 2) (ad (ac 3) ak)))))) ql 5
  (av (aV 6 (cB (ad (mUn (iN xK) (ac 5)) (ad (mUn (iN vi) (ac 5)) (ad (mUn (iN se) (ac 5)) (ad (mUn (iN vh) (ac 5)) ak))))))
 (av (aV 6 (mOp aK (ac 6) (cB (ad (mUn (iN qh) (ac 5)) (ad (mUn (iN sd) (ac 5)) ak)))))
 (aV 4 (cB (ad (mUn (iN vg) (ac 5)) (ad (mUn (iN o3) (ac 5)) (ad (mOp pIn (mC (.bl true)) (ac 6)) ak))))))) aS)
 (bp (mOp pEq (ac 4) (cB (ad (mC (.bl true)) (ad (mC (.bl true)) (ad (mC (.bl false)) ak))))))))
def yi:=a_ 7 zq
def zj:MS:=
 (av (aV 3 (ar (aL t5) (ad (mUn (ap 0) (ac 0)) (ad (mUn (ap 8) (ac 0)) (ad (ac 2) ak)))))
 (av (aV 4 (ar (aL ym) (ad (mUn (ap 0) (ac 0)) (ad (mUn (ap 8) (ac 0)) (ad (ac 3) (ad (mOp dE (ac 2) (J3 7)) ak))))))
 (av (aV 5 (cB (ad (ar (p1 b7) (ad (ac 1) ak)) (ad (ar (p1 b7) (ad (ac 3) ak)) (ad (ar (p1 b7) (ad (ac 4) ak)) ak)))))
 (av (aV 6 (aY [3,0,1] 1 (bM (ad (mUn (ap 0) (ac 0)) ak)) (tgN 3) bS (oX (aw (mOp pIn (ac 3) (ac 0))) (bB ax (ac 1) (ad (mFz (ar (p1 b7) (ad (ac 2) ak))) (ad (ac 3) ak))) (mOp aQ (ac 2) (ac 3)))))
 (av (aV 7 (bB aG (ac 0) (ad (mOp aQ (ac 5) (J3 0)) (ad (mOp aQ (ac 5) (J3 1)) ak))))
 (av (mBr (fH (cF (ar (aL iS) (ad (ac 7) (ad (ac 6) ak)))))
  (bp (mC (.bl false)))
  aS)
 (av (cJ 7 (J3 0))
 (av (dv (dO (dB (cB (ad (J3 0) (ad (J3 1) (ad (J3 2) ak)))) dr (eG (mOp aK (J3 2) (ar (p1 j9) (ad (mOp pNe (bB ao (ac 0) (ad (ar (p1 b7) (ad (ac 1) ak)) ak)) (cB ak)) ak)))))) (tgN 8)
  (mBr (fH (cF (ar (aL yi) (ad (ac 8) (ad (ac 0) (ad (mOp aQ (ac 5) (J3 0)) (ad (mOp aQ (ac 5) (J3 2)) ak)))))))
  (bp (mC (.bl false)))
  aS))
 (bp ((gn (mOp pEq (ac 5) (cB (ad (ac 1) (ad (ac 3) (ad (ac 4) ak))))) (ar (aL iS) (ad (bB aG (ac 0) (ad (mOp aQ (ac 5) (J3 0)) (ad (mOp aQ (ac 5) (J3 1)) ak))) (ad (ac 6) ak))))))))))))))
def yg:=a_ 9 zj
def zm:MS:=
 (bp (ar iY (ad (mUn (ap 0) (ac 0)) ak)))
def jV:=a_ 2 zm
def Fw:MS:=
 (bp (ar (p1 (mU pF)) (ad (aY [2] 1 (da (bB aO (ac 0) (ad (ac 1) ak))) (tgN 1) bS (mOp aQ (ac 0) (ac 1))) ak)))
def vx:=a_ 3 Fw
def bG:Nat->Option (JQ->JR)
 |1|2|3=>some vx
 |_=>none
def Fg:MS:=
 (av (aV 2 (aY [1] 1 (bM (ad (mUn (ap 0) (ac 0)) ak)) (tgN 1) bS (mOp pIn (ac 1) (ac 0))))
 (av (dv (bM (ad (mUn (ap 0) (ac 0)) ak)) (tgN 3)
  (aV 2 (aY [2,0] 1 (bM (ad (mUn (ap 0) (ac 0)) ak)) (tgN 2) bS ((u9 (mOp aQ (ac 0) (ac 2)) (bB bG (ac 1) (ad (ac 2) (ad (ac 0) ak))))))))
 (bp (aY [2] 1 (bM (ad (mUn (ap 0) (ac 0)) ak)) (tgN 1) (cF (mOp aQ (ac 0) (ac 1))) (ac 1)))))
def xZ:=a_ 4 Fg
def aq:Nat->Option (JQ->JR)
 |0=>some jV
 |1|2|3=>some xZ
 |4|5|6|7|9|10=>some jV
 |_=>none
def HR:MS:=
 (bj 7 (ad (mC (.str "this rule has no measure")) ak))
def yn:=a_ 2 HR
def zP:MS:=
 (bp (J3 0))
def yC:=a_ 2 zP
def E8:MS:=
 (bp (mOp iC (mOp iC (mUn (ap 0) (ac 0)) (J3 1)) (ac 1)))
def Ew:=a_ 2 E8
def HP:MS:=
 (fX 1)
def EA:=a_ 2 HP
def cf:Nat->Option (JQ->JR)
 |1=>some yC
 |2=>some Ew
 |3=>some EA
 |_=>none
def y4:MS:=
 (av (aV 2 (J3 1))
 (av (dv (bM (ad (ac 1) ak)) (tgN 3)
  (aV 2 (mOp dD (ac 2) (ac 0))))
 (fX 2)))
def n4:=a_ 4 y4
def Fo:MS:=
 (bp (ar (p1 jK) (ad (aY [0] 1 (da (bB ao (ac 0) (ad (ac 1) ak))) (tgN 1) bS (ar (aL n4) (ad (J3 2) (ad (bB cf (ac 0) (ad (ac 1) ak)) ak)))) ak)))
def o7:=a_ 2 Fo
def Fq:MS:=
 (av (aV 2 (aY [0,1] 1 (bM (ad (mUn (ap 0) (ac 0)) ak)) (tgN 2) bS (bB ax (ac 0) (ad (ac 1) (ad (ac 2) ak)))))
 (av (aV 3 (mOp aK (mUn (ap 0) (ac 0)) (J3 1)))
 (av (aV 4 (J3 0))
 (av (dv (bM (ad (mUn (ap 3) (ac 0)) ak)) (tgN 5)
  (av (aV 6 (aY [5] 2 (jO (ad (ac 1) (ad (ac 2) ak))) (tgT 2 (cN (tgN 1) (cN (tgN 2) ja))) ((eP (aw (mOp pEq (ac 1) (ac 0))) (aw (mOp pGt (ac 2) (ac 0))))) (ac 1)))
 (av (aV 7 (aY [5] 2 (jO (ad (ac 1) (ad (ac 2) ak))) (tgT 2 (cN (tgN 1) (cN (tgN 2) ja))) ((eP (aw (mOp pGt (ac 1) (ac 0))) (aw (mOp pEq (ac 2) (ac 0))))) (ac 1)))
 (aV 4 (mOp aK (mOp dD (mOp aK (mOp dD (ac 4) (ac 3)) (ar (p1 bV) (ad (ac 6) ak))) (ac 3)) (ar (p1 bV) (ad (ac 7) ak)))))))
 (fX 4)))))
def qp:=a_ 8 Fq
def zt:MS:=
 (av (aV 2 (aY [0,1] 1 (bM (ad (ar (p1 bV) (ad (ac 0) ak)) ak)) (tgN 2) (aw (mOp wO (mW (ad (mOp aQ (ac 0) (ac 2)) (ad (ac 2) ak))) (mW (ad (mOp aQ (ac 0) (ac 1)) (ad (ac 1) ak))))) (ac 2)))
 (bp (ar (p1 bV) (ad (ac 2) ak))))
def yk:=a_ 3 zt
def gH:Nat->Option (JQ->JR)
 |5=>some qp
 |_=>none
def Fn:MS:=
 (av (aV 2 (bB dZ (ac 0) (ad (ac 1) ak)))
 (av (aV 3 (bB cY (ac 0) (ad (ac 1) ak)))
 (av (aV 4 (aY [3,0,1] 1 (bM (ad (mUn (ap 0) (ac 0)) ak)) (tgN 3) (aw (mOp pNe (mOp aQ (ac 0) (ac 3)) (bB db (ac 1) (ad (ac 2) (ad (ac 3) ak))))) (ac 3)))
 (av (aV 5 (aY [2] 1 (da (ac 4)) (tgN 1) bS (ar (aL n4) (ad (J3 2) (ad (ar (aL yk) (ad (ac 0) (ad (ac 1) ak))) ak)))))
 (bp (mOp aK (mOp dD (bB gH (mUn (ap 9) (ac 0)) (ad (ac 2) ak)) (ar (aL n4) (ad (J3 2) (ad (mUn (ap 0) (ac 0)) ak)))) (ar (p1 jK) (ad (ac 5) ak))))))))
def BA:=a_ 6 Fn
def zf:MS:=
 (av (aV 1 (J3 1))
 (av (ij ((eP (aw (mOp pLt (ac 1) (ar (p1 bV) (ad (ac 0) ak)))) (aw (mOp pEq (mOp aQ (ac 0) (ac 1)) (mOp aQ (ac 0) (J3 0))))))
  (aV 1 (mOp aK (ac 1) (J3 1))))
 (fX 1)))
def ye:=a_ 2 zf
def Ff:MS:=
 (av (mBr (aw (mOp j8 (mOp aQ (ac 0) (J3 0)) (dB (ac 0) (eG (ar (aL ye) (ad (ac 0) ak))) dr)))
  (bp (J3 0))
  aS)
 (av (aV 2 (J3 1))
 (av (ij (aw (mOp pIn (mOp cq (mOp aK (mOp aQ (ac 0) (J3 0)) (ac 2)) (ac 1)) (dB (ac 0) (eG (J3 1)) dr)))
  (aV 2 (mOp aK (ac 2) (J3 1))))
 (fX 2))))
def EE:=a_ 3 Ff
def Fp:MS:=
 (av (aV 2 (aY [0] 1 (da (bB ao (ac 0) (ad (ac 1) ak))) (tgN 1) (aw (mOp pNe (ac 1) (J3 0))) (mOp iC (mUn (ap 0) (ac 0)) (ac 1))))
 (bp (mOp aK (mOp dD (mUn (ap 0) (ac 0)) (ar (aL EE) (ad (ac 1) (ad (mUn (ap 7) (ac 0)) ak)))) (ar (p1 jK) (ad (ac 2) ak)))))
def BB:=a_ 3 Fp
def aA:Nat->Option (JQ->JR)
 |0=>some yn
 |1|2|3=>some o7
 |4|5|6=>some qp
 |7=>some BA
 |9=>some BB
 |10=>some yn
 |_=>none
def zg:MS:=
 (bp (mOp pEq (ar (p1 bV) (ad (bB ao (ac 0) (ad (ac 1) ak)) ak)) (J3 0)))
def f7:=a_ 2 zg
def zF:MS:=
 (bp (mOp pEq (ar (p1 bV) (ad (bB ao (ac 0) (ad (ac 1) ak)) ak)) (J3 1)))
def ue:=a_ 2 zF
def Fj:MS:=
 (bp (mOp pEq (ar (p1 bV) (ad (bB ao (ac 0) (ad (ac 1) ak)) ak)) (mUn (ap 12) (ac 0))))
def Bz:=a_ 2 Fj
def aF:Nat->Option (JQ->JR)
 |0|1|2|3|4|5|6|7=>some f7
 |9=>some ue
 |10=>some Bz
 |_=>none
def qL:MS:=
 (av (aV 2 (J3 0))
 (av (mBr (fH (cF (mUn (lJ io) (ac 0))))
  (aV 2 (bB aA (ac 0) (ad (ac 1) ak)))
  aS)
 (bp (cB (ad (bB ao (ac 0) (ad (ac 1) ak)) (ad (bB aF (ac 0) (ad (ac 1) ak)) (ad (bB aG (ac 0) (ad (ac 1) (ad (cB (ad (J3 0) ak)) ak))) (ad (ac 2) ak))))))))
def n5:=a_ 3 qL
def y8:MS:=
 (av (aV 2 (ar (p1 b7) (ad (ac 1) ak)))
 (av (aV 3 (ar (aL n5) (ad (ac 0) (ad (ac 2) ak))))
 (av (im 2 (mUn jm (J3 1)) (mOp cq (mOp aK (mOp aQ (ac 2) (mUn jm (J3 1))) (J3 1)) (mUn (ap 7) (ac 0))))
 (av (aV 4 (ar (aL n5) (ad (ac 0) (ad (ac 2) ak))))
 (bp ((gn (mOp pEq (ar (aL n5) (ad (ac 0) (ad (ar (p1 b7) (ad (ac 1) ak)) ak))) (ac 3)) (mOp pEq (ar (aL n5) (ad (ac 0) (ad (ar (p1 b7) (ad (ac 2) ak)) ak))) (ac 4)))))))))
def ya:=a_ 5 y8
def zk:MS:=
 (av (aV 3 (bB ao (ac 0) (ad (ar (p1 b7) (ad (ac 1) ak)) ak)))
 (av (aV 4 (ar (p1 b7) (ad (ac 3) ak)))
 (av (cJ 3 (J3 0))
 (av (aV 5 (bB aq (ac 0) (ad (cB ak) ak)))
 (av (cJ 5 (J3 0))
 (bp ((gn (ar (aL iS) (ad (bB ao (ac 0) (ad (ar (p1 b7) (ad (ac 1) ak)) ak)) (ad (ac 4) ak))) (gn (mOp pEq (ac 5) (mOp aK (ac 2) (cB (ad (J3 0) ak)))) (ar (aL ya) (ad (ac 0) (ad (ac 1) ak))))))))))))
def yh:=a_ 6 zk
def zD:MS:=
 (bp (mOp iC (ar (aL n4) (ad (J3 2) (ad (mUn (ap 0) (ac 0)) ak))) (J3 1)))
def yt:=a_ 1 zD
def f9:Nat->Option (JQ->JR)
 |1=>some yt
 |_=>none
def zi:MS:=
 (bp (bB f9 (ac 0) ak))
def yf:=a_ 2 zi
def jr:Nat->Option (JQ->JR)
 |1=>some yf
 |_=>none
def zc:MS:=
 (av (dv (bM (ad (mUn (ap 0) (ac 0)) ak)) (tgN 3)
  (mBr ((gF (fH (cF (ar (aL iS) (ad (bB aO (ac 0) (ad (ac 3) ak)) (ad (cB ak) ak))))) (fH (cF (ar (aL iS) (ad (cB (ad (bB cf (ac 0) (ad (ac 3) ak)) ak)) (ad (cB (ad (J3 0) ak)) ak)))))))
  (bp (mC (.bl false)))
  aS))
 (av (aV 4 (mOp iC (mOp wM (J3 1) (mUn (ap 0) (ac 0))) (J3 1)))
 (av (mBr (fH (cF (ar (aL iS) (ad (cB (ad (bB aA (ac 0) (ad (ar (p1 b7) (ad (ac 1) ak)) ak)) (ad (bB f9 (ac 0) ak) (ad (bB jr (ac 0) (ad (ar (p1 bV) (ad (ac 2) ak)) ak)) ak)))) (ad (cB (ad (J3 0) (ad (ac 4) (ad (ac 4) ak)))) ak)))))
  (bp (mC (.bl false)))
  aS)
 (bp (ar (aL iS) (ad (bB aq (ac 0) (ad (ar (p1 b7) (ad (ac 2) ak)) ak)) (ad (aY [2] 1 (bM (ad (mUn (ap 0) (ac 0)) ak)) (tgN 1) (aw (mOp pIn (ac 1) (ac 0))) (ac 1)) ak)))))))
def yd:=a_ 5 zc
def zR:MS:=
 (av (aV 1 (ar (aL jW) (ad (ac 0) (ad (J3 0) ak))))
 (av (aV 2 (mOp cq (ac 1) (J3 9)))
 (av (aV 3 (mOp aK (J3 1) (mOp cq (mOp dE (ac 1) (J3 9)) (J3 8))))
 (av (aV 4 (ar (aL tX) (ad (ac 2) (ad (ac 3) (ad (mOp cq (ar (aL jW) (ad (ac 0) (ad (J3 1) ak))) (mOp uQ (J3 10) (J3 20))) (ad (mOp cq (ar (aL jW) (ad (ac 0) (ad (J3 2) ak))) (mOp uQ (J3 10) (J3 20))) ak))))))
 (av (mBr (fH (cF (ar (aL x9) (ad (ac 2) (ad (ac 4) ak)))))
  (bp (mC (.bl false)))
  aS)
 (av (aV 5 (aY [0,4] 1 (bM (ad (mUn (ap 0) (ac 4)) ak)) (tgN 2) bS (mOp cq (ar (aL jW) (ad (ac 0) (ad (mOp aK (J3 3) (ac 2)) ak))) (mUn (ap 7) (ac 1)))))
 (av (dv (dO (mOp aK (cB (ad (J3 2) (ad (J3 15) ak))) (dB (ac 0) (eG (J3 3)) (eG (J3 23))))) (tgN 6)
  (av (mBr (fH (cF (ar (aL yg) (ad (ac 4) (ad (ac 5) (ad (ac 6) ak))))))
  (bp (mC (.bl false)))
  aS)
 (im 5 (mOp cq (ac 6) (mUn (ap 0) (ac 4))) (mOp cq (mOp dE (ac 6) (J3 3)) (mUn (ap 7) (ac 4))))))
 (av (aV 7 (ar iY (ad (mUn (ap 0) (ac 4)) ak)))
 (av (mBr (aw (mOp pIn (ac 2) (cB (ad (J3 1) (ad (J3 2) (ad (J3 8) ak))))))
  (aV 7 (cB ak))
  aS)
 (av (aV 8 (ar (aL t5) (ad (mUn (ap 0) (ac 4)) (ad (mC (.bl false)) (ad (mOp dE (ac 1) (J3 72)) ak)))))
 (av (mBr ((gF (fH (cF (ar (aL yh) (ad (ac 4) (ad (ac 5) (ad (ac 7) ak)))))) (fH (cF (ar (aL iS) (ad (bB aq (ac 4) (ad (cB ak) ak)) (ad (ac 7) ak)))))))
  (bp (mC (.bl false)))
  aS)
 (av (mBr ((eP (aw (mOp pNe (ac 7) (cB ak))) (fH (cF (ar (aL iS) (ad (bB aq (ac 4) (ad (ar (p1 b7) (ad (ac 8) ak)) ak)) (ad (ac 7) ak)))))))
  (bp (mC (.bl false)))
  aS)
 (bp ((u9 (mOp pNe (ac 2) (J3 8)) (ar (aL yd) (ad (ac 4) (ad (ac 5) (ad (mOp nO (ac 8) (J3 2)) ak)))))))))))))))))))
def Ce:=a_ 9 zR
end G
namespace G
open PySem L2 PR
def top(i:Nat):Stmt:=PySem.Challenge.pw_calmring_k55_every_rule_at_its_turns.main.body.getD i (.Pass ⟨0,0,0,0⟩)
def tF(q:Str)(i k:Nat)(N:JL):FS:=⟨q,top i,k,N,none⟩
def tM(c:Nat)(q:Str)(i j k:Nat)(N:JL):FS:=⟨q,Bu (top i) j,k,N,some c⟩
def mE(c:Nat)(n:Str)(i:Nat):Nat×Str×Nat:=(c,n,i)
noncomputable def pt:PT:={
 F:=[tF "_law_cell_at" 61 2 ["_law_script", "_law_k"],
  tM 0 "Rule.__init__" 11 0 4 ["self","size","span","alone"],
  tM 9 "PassRule.__init__" 45 0 3 ["self","size","span"],
  tF "refuse_parents" 20 1 ["parents","kid","parent"],
  tM 1 "DownRule.__init__" 17 0 3 ["self","size","span"],
  tM 3 "CountRule.__init__" 19 0 2 ["self","parents"],
  tF "refuse_table" 59 2 ["table","span","number"],
  tM 10 "TableRule.__init__" 58 0 6 ["self","size","span","word","firsts","others"],
  tF "refuse_size" 39 2 ["size","least"],
  tF "ordered_pairs" 40 2 ["size","ways","pairs","way","pair"],
  tF "neighbours" 41 2 ["pairs","at","lower","higher"],
  tM 8 "Net.beside" 37 1 2 ["self","at"],
  tF "far_from" 38 2 ["net","root","far","steps","at","other"],
  tM 8 "Net.__init__" 37 0 3 ["self","size","ways"],
  tF "_law_net" 64 2 ["_law_size","_law_more","_law_ways","_law_at","_law_other"],
  tM 2 "PaintRule.__init__" 18 0 2 ["self","net"],
  tF "refuse_part" 28 1 ["part"],
  tF "refuse_starts" 29 3 ["net","starts","top","start"],
  tM 4 "LeastRule.__init__" 25 0 5 ["self","net","starts","stretch","blocks"],
  tM 5 "FarRule.__init__" 26 0 3 ["self","net","root","starts"],
  tF "refuse_names" 30 2 ["net","names","name"],
  tM 6 "LeadRule.__init__" 27 0 3 ["self","net","names","starts"],
  tM 7 "GrowRule.__init__" 32 0 3 ["self","net","root"],
  tF "_law_on_net" 65 3 ["_law_kind","_law_net_here","_law_number"],
  tF "_law_rule" 66 4 ["_law_kind","_law_size","_law_number","_law_more","_law_firsts","_law_others"],
  tF "_law_kin" 67 2 ["_law_kind","_law_rule_here"],
  tF "_law_named" 68 3 ["_law_size","_law_alone","_law_cell","_law_row","_law_cut"],
  tF "_law_spoiled" 69 4 ["_law_size","_law_alone","_law_named_here","_law_cell","_law_far","_law_wrong","_law_at"],
  tM 0 "Rule.due" 11 2 3 ["self","cells","at"],
  tM 1 "DownRule.hangs_on" 17 1 2 ["self","at"],
  tM 2 "PaintRule.hangs_on" 18 1 2 ["self","at"],
  tM 3 "CountRule.hangs_on" 19 1 2 ["self","at"],
  tM 2 "PaintRule.due" 18 3 3 ["self","cells","at","taken","colour"],
  tM 3 "CountRule.due" 19 3 3 ["self","cells","at"],
  tM 4 "LeastRule.has_offer" 25 2 2 ["self","cell"],
  tM 4 "LeastRule.due" 25 1 3 ["self","cells","at","near","offers"],
  tM 7 "GrowRule.parts" 32 1 2 ["self","cells"],
  tM 7 "GrowRule.fars" 32 6 2 ["self","cells"],
  tM 7 "GrowRule.counts" 32 7 2 ["self","cells"],
  tM 7 "GrowRule.elder" 32 8 3 ["self","fars","at","nearer"],
  tM 7 "GrowRule.elders" 32 2 2 ["self","cells","fars"],
  tM 7 "GrowRule.due_count" 32 9 3 ["self","cells","at","kids"],
  tM 7 "GrowRule.due" 32 3 3 ["self","cells","at","fars","due_far","count"],
  tM 9 "PassRule.due" 45 1 3 ["self","cells","at"],
  tM 10 "TableRule.due" 58 1 3 ["self","cells","at","left","right","entry"],
  tF "refuse_turn" 12 2 ["rule","named","at"],
  tM 0 "Rule.turned" 11 5 3 ["self","cells","named"],
  tF "_law_whole" 62 1 ["_law_found"],
  tF "_law_list" 63 2 ["_law_found","_law_due"],
  tM 0 "Rule.movers" 11 3 2 ["self","cells"],
  tM 0 "Rule.read" 11 1 2 ["self","registers"],
  tF "row_of" 51 3 ["rule","cells","named","behind","done"],
  tF "run" 49 3 ["rule","registers","turns","cells","rows","named"],
  tF "drive" 50 4 ["rule","registers","hand","most","cells","rows","named"],
  tF "_law_done" 70 4 ["_law_way","_law_rule_here","_law_cells","_law_named_here","_law_hand"],
  tF "_law_refused" 71 4 ["_law_way","_law_rule_here","_law_cells","_law_named_here","_law_seen","e","_law_others"],
  tF "_law_turns" 72 3 ["_law_rule_here","_law_cells","_law_cell","_law_named_here","_law_wrong","_law_handed","_law_due","_law_found","_law_way"],
  tM 0 "Rule.reach" 11 9 2 ["self","spoiled"],
  tM 1 "DownRule.hangs_on_some" 17 6 3 ["self","at","reached"],
  tM 1 "DownRule.reach" 17 5 2 ["self","spoiled","reached","step"],
  tM 0 "Rule.measure" 11 6 2 ["self","cells"],
  tM 1 "DownRule.rank" 17 2 2 ["self","at"],
  tM 2 "PaintRule.rank" 18 2 2 ["self","at"],
  tM 3 "CountRule.rank" 19 2 2 ["self","at"],
  tF "power" 14 2 ["base","exponent","product","step"],
  tM 1 "DownRule.measure" 17 3 2 ["self","cells"],
  tM 4 "LeastRule.measure" 25 3 2 ["self","cells","dues","base","number","mark","rising","falling"],
  tF "rank_by_far" 33 2 ["fars","at","lower"],
  tM 7 "GrowRule.measure" 32 4 2 ["self","cells","fars","counts","wrong","weights"],
  tF "beginning" 47 1 ["cells","length"],
  tF "steps_to_fresh" 46 2 ["cells","span","steps"],
  tM 9 "PassRule.measure" 45 3 2 ["self","cells","weights"],
  tM 0 "Rule.calm" 11 4 2 ["self","cells"],
  tM 9 "PassRule.calm" 45 2 2 ["self","cells"],
  tM 10 "TableRule.calm" 58 2 2 ["self","cells"],
  tF "_law_look" 74 2 ["_law_rule_here","_law_cells","_law_measure"],
  tF "_law_held" 75 2 ["_law_rule_here","_law_cells","_law_held_here","_law_ahead","_law_behind"],
  tF "_law_again" 76 3 ["_law_rule_here","_law_cells","_law_everyone","_law_movers","_law_kept","_law_reach"],
  tM 1 "DownRule.most" 17 4 1 ["self"],
  tM 0 "Rule.soon" 11 8 2 ["self","count"],
  tF "_law_base" 73 3 ["_law_rule_here","_law_cells","_law_spoiled_here","_law_at","_law_most"],
  tF "law" 77 1 ["_law_script","_law_first","_law_kind","_law_size","_law_rule_here","_law_cells","_law_cell","_law_everyone","_law_spoiled_here"]]
 C:=["Rule","DownRule","PaintRule","CountRule","LeastRule","FarRule","LeadRule","GrowRule","Net","PassRule","TableRule"]
 X:=["CalmError","BadNet","BadRule","BadState","BadTurn","BadText","TooGreat","NoMeasure"]
 A:=["size","pairs","near","top","net","starts","stretch","span","alone","far_rule","root","parents","calm_movers","firsts","others"]
 M:=[mE 8 "beside" 11,mE 1 "hangs_on" 29,mE 2 "hangs_on" 30,mE 3 "hangs_on" 31,mE 4 "has_offer" 34,mE 5 "has_offer" 34,mE 6 "has_offer" 34,mE 7 "parts" 36,mE 7 "fars" 37,mE 5 "due" 35,mE 7 "counts" 38,mE 7 "elder" 39,mE 7 "elders" 40,mE 7 "due_count" 41,mE 0 "due" 28,mE 1 "due" 28,mE 2 "due" 32,mE 3 "due" 33,mE 4 "due" 35,mE 6 "due" 35,mE 7 "due" 42,mE 9 "due" 43,mE 10 "due" 44,mE 0 "turned" 46,mE 1 "turned" 46,mE 2 "turned" 46,mE 3 "turned" 46,mE 4 "turned" 46,mE 5 "turned" 46,mE 6 "turned" 46,mE 7 "turned" 46,mE 9 "turned" 46,mE 10 "turned" 46,mE 0 "movers" 49,mE 1 "movers" 49,mE 2 "movers" 49,mE 3 "movers" 49,mE 4 "movers" 49,mE 5 "movers" 49,mE 6 "movers" 49,mE 7 "movers" 49,mE 9 "movers" 49,mE 10 "movers" 49,mE 0 "read" 50,mE 1 "read" 50,mE 2 "read" 50,mE 3 "read" 50,mE 4 "read" 50,mE 5 "read" 50,mE 6 "read" 50,mE 7 "read" 50,mE 9 "read" 50,mE 10 "read" 50,mE 1 "hangs_on_some" 58,mE 2 "hangs_on_some" 58,mE 3 "hangs_on_some" 58,mE 0 "reach" 57,mE 1 "reach" 59,mE 2 "reach" 59,mE 3 "reach" 59,mE 4 "reach" 57,mE 5 "reach" 57,mE 6 "reach" 57,mE 7 "reach" 57,mE 9 "reach" 57,mE 10 "reach" 57,mE 1 "rank" 61,mE 2 "rank" 62,mE 3 "rank" 63,mE 5 "measure" 66,mE 0 "measure" 60,mE 1 "measure" 65,mE 2 "measure" 65,mE 3 "measure" 65,mE 4 "measure" 66,mE 6 "measure" 66,mE 7 "measure" 68,mE 9 "measure" 71,mE 10 "measure" 60,mE 0 "calm" 72,mE 1 "calm" 72,mE 2 "calm" 72,mE 3 "calm" 72,mE 4 "calm" 72,mE 5 "calm" 72,mE 6 "calm" 72,mE 7 "calm" 72,mE 9 "calm" 73,mE 10 "calm" 74,mE 1 "most" 78,mE 1 "soon" 79]
 Mk:=[(3,5),(1,4),(5,19),(7,22),(6,21),(4,18),(8,13),(2,15),(9,2),(10,7)]
 U:=[(1,4),(4,18),(0,1)]
 B:=["len","range","enumerate","tuple","min","max","sorted","list","set","isinstance","bool","reversed","sum","zip","int","all","ValueError","any"]
 I:=[("LEAST_RING_passing",2),("GREATEST_RING_passing",20),("MOST_PARENTS",9),("LEAST_RING_tables",2),("GREATEST_RING_tables",8),("LEAST_SPAN",2),("GREATEST_SPAN",4),("GREATEST_NET",10),("LEAST_NET",1),("GREATEST_PART",10),("GREATEST_NAME",9),("LEAD_BLOCKS",10)]
 KT:=[(some 1,"BadNet",[false,true,false,false,false,false,false,false]),(some 2,"BadRule",[false,false,true,false,false,false,false,false]),(some 3,"BadState",[false,false,false,true,false,false,false,false]),(some 5,"BadText",[false,false,false,false,false,true,false,false]),(some 7,"NoMeasure",[false,false,false,false,false,false,false,true]),(some 6,"TooGreat",[false,false,false,false,false,false,true,false]),(some 4,"BadTurn",[false,false,false,false,true,false,false,false]),(none,"ValueError",[true,true,true,true,true,true,true,true])]
 HT:=[(0,[true,true,true,true,true,true,true,true])]
 G:=some ⟨54,0,"_law_done.<locals>._law_hand",2,["_law_named_here"],["_law_number","_law_movers","_law_named_here"]⟩}
def pe:PE:=⟨[],[("CALM_MOVERS",[("none",(0)),("one",(1))])],[],[]⟩
def kc:List (Nat×List Bool):=[(1,[false,true,true,true,false,false,false,false,false,false,false]),(4,[false,false,false,false,true,true,true,false,false,false,false]),(0,[true,true,true,true,true,true,true,true,false,true,true]),(10,[false,false,false,false,false,false,false,false,false,false,true])]
def hA:pt.attOk:=⟨by decide +kernel,by decide +kernel⟩
abbrev T(K:PySem.W.Frag):Tb:=pt.T hA K
section
variable{P:Program}{w:World}{K:PySem.W.Frag}{mg:JE}{base:Heap}(t:Ty pt pe w K mg)(hB:K.In base)(tg:TG pt K mg base)(tk:TK pt K kc)
include t hB tg tk
theorem oP:OkF pt hA P w K mg base 1 0 jW:=okC 0 t.tx fun _ _ _ _ _ _ cx nd=>
 (ah (a9 (fh (sv 1) (b_ cx.hK rfl (t.tx.b 0) (sv 0))) (am (aE (bT cx (sv 0) (sv 1) (fun _ _=>rfl)))) aN)
 (am (aE (ai))))
theorem lM:OkI pt hA P w K mg base 1 1 eQ:=okI 1 t.tx fun _ _ _ _ _ _ cx nd=>
 (ah (sFld 0 t.tx cx (sv 1))
 (ah (sFld 7 t.tx cx (sv 2))
 (am (sFld 8 t.tx cx (sv 3)))))
theorem DY:OkI pt hA P w K mg base 3 2 yz:=okI 2 t.tx fun _ _ _ _ _ _ cx nd=>
 (ah (a9 (SW.st (gg (fh (sv 1) (cS rfl (t.tx.c 0))) (er (gI (sv 1) (cS rfl (t.tx.c 1)))))) (am (ce 2 t.tx cx hB b9 (aa (b0) af))) aN)
 (ah (a9 (fh (sv 2) (sv 1)) (am (ce 2 t.tx cx hB b9 (aa (b0) af))) aN)
 (am (oH 0 t.tx (lM t hB tg tk) cx (aa (sv 1) (aa (sv 2) (aa (ee) af)))))))
theorem G0:OkF pt hA P w K mg base 1 3 EC:=okC 3 t.tx fun _ _ _ _ _ _ cx nd=>
 (ah (a9 (gI (b_ cx.hK rfl (t.tx.b 0) (sv 0)) (cS rfl (t.tx.c 2))) (am (ce 2 t.tx cx hB b9 (aa (b0) af))) aN)
 (am (dg cx.po cx.calm (Af cx.hK rfl (t.tx.b 2) (sv 0)) (ly cx.hK cx.calm (dL nd rfl (Or.inl rfl) (dL nd rfl (Or.inl rfl) jE))) (am (a9 (SW.st (gg (fh (sv 2) (ai)) (er (nB (sv 2) (sv 1))))) (am (ce 2 t.tx cx hB b9 (aa (b0) af))) aN)))))
theorem rQ:OkI pt hA P w K mg base 3 4 jX:=okI 4 t.tx fun _ _ _ _ _ _ cx nd=>
 (am (oH 0 t.tx (lM t hB tg tk) cx (aa (sv 1) (aa (sv 2) (aa (ee) af)))))
theorem G3:OkI pt hA P w K mg base 5 5 EF:=okI 5 t.tx fun _ _ _ _ _ _ cx nd=>
 (ah (e_ (bw t.tx (G0 t hB tg tk) cx (aa (sv 1) af)))
 (ah (sFld 11 t.tx cx (fR cx.hK rfl (t.tx.b 3) gc (sv 1)))
 (am (oH 1 t.tx (rQ t hB tg tk) cx (aa (aP (b_ cx.hK rfl (t.tx.b 0) (sv 1)) (ai)) (aa (aP (b_ cx.hK rfl (t.tx.b 0) (sv 1)) (ai)) af))))))
theorem w5:OkF pt hA P w K mg base 1 6 ub:=okC 6 t.tx fun _ _ _ _ _ _ cx nd=>
 (ah (a9 (iB cx.hK cx.hu (b_ cx.hK rfl (t.tx.b 0) (sv 0)) (dX (dX (sv 1) (sv 1)) (sv 1))) (am (ce 2 t.tx cx hB b9 (aa (b0) af))) aN)
 (am (dg cx.po cx.calm (gZ cx.hK (sv 0)) (sgN nd) (am (a9 (SW.st (gg (fh (sv 2) (ai)) (er (nB (sv 2) (sv 1))))) (am (ce 2 t.tx cx hB b9 (aa (b0) af))) aN)))))
theorem GW:OkI pt hA P w K mg base 3 7 Ey:=okI 7 t.tx fun _ _ _ _ _ _ cx nd=>
 (ah (a9 (SW.st (gg (fh (sv 1) (cS rfl (t.tx.c 3))) (er (gI (sv 1) (cS rfl (t.tx.c 4)))))) (am (ce 2 t.tx cx hB b9 (aa (b0) af))) aN)
 (ah (a9 (SW.st (gg (fh (sv 2) (cS rfl (t.tx.c 5))) (er (gI (sv 2) (cS rfl (t.tx.c 6)))))) (am (ce 2 t.tx cx hB b9 (aa (b0) af))) aN)
 (ah (a9 (uq rfl (t.gm 0) (t.gd 0) (sv 3)) (am (ce 2 t.tx cx hB b9 (aa (b0) af))) aN)
 (ah (e_ (bw t.tx (w5 t hB tg tk) cx (aa (sv 4) (aa (sv 2) af))))
 (ah (e_ (bw t.tx (w5 t hB tg tk) cx (aa (sv 5) (aa (sv 2) af))))
 (ah (sFld 12 t.tx cx (Aq rfl (t.gm 0) (t.gd 0) (sv 3) (fun _ _=>rfl)))
 (ah (sFld 13 t.tx cx (fR cx.hK rfl (t.tx.b 3) gc (sv 4)))
 (ah (sFld 14 t.tx cx (fR cx.hK rfl (t.tx.b 3) gc (sv 5)))
 (am (oH 0 t.tx (lM t hB tg tk) cx (aa (sv 1) (aa (sv 2) (aa (ee) af)))))))))))))
theorem DL:OkF pt hA P w K mg base 1 8 yj:=okC 8 t.tx fun _ _ _ _ _ _ cx nd=>
 (am (a9 (SW.st (gg (fh (sv 0) (sv 1)) (er (gI (sv 0) (cS rfl (t.tx.c 7)))))) (am (ce 1 t.tx cx hB b9 (aa (b0) af))) aN))
theorem D1:OkF pt hA P w K mg base 1 9 yB:=okC 9 t.tx fun _ _ _ _ _ _ cx nd=>
 (ah (bO nd (c_ af))
 (ah (dg cx.po cx.calm (gZ cx.hK (sv 1)) (sgN nd) (ah (bO nd (ux (aa (sP cx.hK cx.calm rfl (t.tx.b 4) (sv 3)) (aa (sQ cx.hK cx.calm rfl (t.tx.b 5) (sv 3)) af))))
 (ah (a9 (SW.st (gg (fh (bT cx (sv 4) (ai) (fun _ _=>rfl)) (ai)) (er (nB (bT cx (sv 4) (ai) (fun _ _=>rfl)) (sv 0))))) (am (ce 1 t.tx cx hB b9 (aa (b0) af))) aN)
 (ah (a9 (cE cx.hK cx.hu (bT cx (sv 4) (ai) (fun _ _=>rfl)) (bT cx (sv 4) (ai) (fun _ _=>rfl))) (am (ce 1 t.tx cx hB b9 (aa (b0) af))) aN)
 (ah (a9 (jb cx.hK cx.hu2 (sv 4) (sv 2)) (am (ce 1 t.tx cx hB b9 (aa (b0) af))) aN)
 (am (pR cx (sv 4))))))))
 (am (aE (nG cx.hK rfl (t.tx.b 6) (sv 2))))))
theorem DG:OkF pt hA P w K mg base 1 10 t7:=okC 10 t.tx fun _ _ _ _ _ _ cx nd=>
 (ah (dq ["pair"] cx nd (cw cx.hK (sv 0)) cr (fun _ _ _ _ nd=>⟨(sgN nd),(cH (cE cx.comp.hK cx.comp.hu (bT cx.comp (sv 1) (ai) (fun _ _=>rfl)) (sv 0))),(bT cx.comp (sv 1) (ai) (fun _ _=>rfl))⟩))
 (ah (dq ["pair"] cx nd (cw cx.hK (sv 0)) cr (fun _ _ _ _ nd=>⟨(sgN nd),(cH (cE cx.comp.hK cx.comp.hu (bT cx.comp (sv 1) (ai) (fun _ _=>rfl)) (sv 0))),(bT cx.comp (sv 1) (ai) (fun _ _=>rfl))⟩))
 (am (aE (nG cx.hK rfl (t.tx.b 6) (aP (sv 2) (sv 3)))))))
theorem DH:OkF pt hA P w K mg base 1 11 t8:=okC 11 t.tx fun _ _ _ _ _ _ cx nd=>
 (am (aE (cQ cx.hK rfl (t.tx.b 7) ck (bT cx (aI 2 t.tx cx (sv 0)) (sv 1) (fun _ _=>rfl)))))
omit t hB tg tk in
theorem dS{X:Cx}(t:Ty pt pe X.w X.K X.mg)(hB:X.K.In X.base)(tg:TG pt X.K X.mg X.base)(tk:TK pt X.K kc):eO X (T X.K) 1 "beside" ["self","at"] [] b8:=fun c _ hc e=>match c,hc,e with
 |8,_,e=>dm 0 t.tx (DH t hB tg tk) e
 |0,_,e|1,_,e|2,_,e|3,_,e|4,_,e|5,_,e|6,_,e|7,_,e|9,_,e|10,_,e=>nomatch e
 |_+11,h,_=>dno (n:=11) h
theorem Dy:OkF pt hA P w K mg base 2 12 tY:=okC 12 t.tx fun _ _ _ _ _ _ cx nd=>
 (ah (dq ["at"] cx nd (a6 rfl (t.tx.b 1) (aa (aI 0 t.tx cx (sv 0)) af)) cr (fun _ _ _ _ nd=>⟨(sgN nd),bH,(aI 0 t.tx cx.comp (sv 0))⟩))
 (ah (jB rfl (Or.inl rfl) (sv 1) (ai))
 (ah (dg cx.po cx.calm (d_ rfl (t.tx.b 1) (aa (aI 0 t.tx cx (sv 0)) af)) (sgN nd) (am (dg cx.po cx.calm (d_ rfl (t.tx.b 1) (aa (aI 0 t.tx cx (sv 0)) af)) (sgN nd) (am (a9 (cE cx.hK cx.hu (bT cx (sv 2) (sv 4) (fun _ _=>rfl)) (sv 3)) (am (dg cx.po cx.calm (gZ cx.hK (bY t.tx (dS t hB tg tk) cx (sv 0) (aa (sv 4) af))) (sgN nd) (am (jB rfl (Or.inl rfl) (sv 5) (kS cx.calm rfl (t.tx.b 4) (aa (bT cx (sv 2) (sv 5) (fun _ _=>rfl)) (aa (aP (sv 3) (ai)) af))))))) aN)))))
 (am (e9 rfl (Or.inl rfl))))))
theorem Dw:OkI pt hA P w K mg base 3 13 yb:=okI 13 t.tx fun _ _ _ _ _ _ cx nd=>
 (ah (e_ (bw t.tx (DL t hB tg tk) cx (aa (sv 1) (aa (cS rfl (t.tx.c 8)) af))))
 (ah (sFld 0 t.tx cx (sv 1))
 (ah (sFld 1 t.tx cx (fR cx.hK rfl (t.tx.b 3) gc (bw t.tx (D1 t hB tg tk) cx (aa (sv 1) (aa (sv 2) af)))))
 (ah (sFld 2 t.tx cx (fR cx.hK rfl (t.tx.b 3) gc (dM ["at"] cx (a6 rfl (t.tx.b 1) (aa (sv 1) af)) cr (fun _ _ _ _ nd=>⟨(sgN nd),bH,(fR cx.comp.hK rfl (t.tx.b 3) gc (bw t.tx (DG t hB tg tk) cx.comp (aa (aI 1 t.tx cx.comp (sv 0)) (aa (sv 1) af))))⟩))))
 (am (a9 (cE cx.hK cx.hu (sQ cx.hK cx.calm rfl (t.tx.b 5) (bw t.tx (Dy t hB tg tk) cx (aa (sv 0) (aa (ai) af)))) (sv 1)) (am (ce 1 t.tx cx hB b9 (aa (b0) af))) aN))))))
theorem Dt:OkF pt hA P w K mg base 5 14 x_:=okC 14 t.tx fun _ _ _ _ _ _ cx nd=>
 (ah (dq ["_law_at"] cx nd (a6 rfl (t.tx.b 1) (aa (dW (sv 0) (ai)) af)) cr (fun _ _ _ _ nd=>⟨(sgN nd),bH,(ux (aa (sv 0) (aa (aP (sv 0) (ai)) af)))⟩))
 (ah (dg cx.po cx.calm (d_ rfl (t.tx.b 1) (aa (sv 0) af)) (sgN nd) (am (dg cx.po cx.calm (d_ rfl (t.tx.b 1) (aa (dW (sv 3) (ai)) af)) (sgN nd) (ah (a9 (cE cx.hK cx.hu (bK (sv 1) (ai)) (ai)) (am (pR cx (ux (aa (sv 3) (aa (sv 4) af))))) aN)
 (am (bO nd (dH (sv 1) (ai))))))))
 (am (aE (lD 8 t.tx (Dw t hB tg tk) cx (aa (sv 0) (aa (sv 2) af)))))))
theorem GZ:OkI pt hA P w K mg base 5 15 EB:=okI 15 t.tx fun _ _ _ _ _ _ cx nd=>
 (gY (i:=1) (ah (sFld 4 t.tx cx (sv 1))
 (am (oH 1 t.tx (rQ t hB tg tk) cx (aa (aI 0 t.tx cx (sv 1)) (aa (aI 0 t.tx cx (sv 1)) af))))))
theorem wY:OkF pt hA P w K mg base 1 16 t_:=okC 16 t.tx fun _ _ _ _ _ _ cx nd=>
 (am (a9 (SW.st (gg (fh (sv 0) (ai)) (er (gI (sv 0) (cS rfl (t.tx.c 9)))))) (am (ce 2 t.tx cx hB b9 (aa (b0) af))) aN))
theorem DW:OkF pt hA P w K mg base 1 17 yw:=okC 17 t.tx fun _ _ _ _ _ _ cx nd=>
 (ah (a9 (iB cx.hK cx.hu (b_ cx.hK rfl (t.tx.b 0) (sv 1)) (aI 0 t.tx cx (sv 0))) (am (ce 2 t.tx cx hB b9 (aa (b0) af))) aN)
 (am (dg cx.po cx.calm (gZ cx.hK (sv 1)) (sgN nd) (am (a9 (SW.st (fB (sN (sv 3) (lB)) (et (SW.st (gg (fh (sv 3) (ai)) (er (nB (sv 3) (sv 2)))))))) (am (ce 2 t.tx cx hB b9 (aa (b0) af))) aN)))))
theorem wS:OkI pt hA P w K mg base 3 18 sw:=okI 18 t.tx fun _ _ _ _ _ _ cx nd=>
 (ah (e_ (bw t.tx (wY t hB tg tk) cx (aa (sv 3) af)))
 (ah (e_ (bw t.tx (wY t hB tg tk) cx (aa (sv 4) af)))
 (ah (sFld 3 t.tx cx (dX (sv 3) (sv 4)))
 (ah (e_ (bw t.tx (DW t hB tg tk) cx (aa (sv 1) (aa (sv 2) (aa (aI 3 t.tx cx (sv 0)) af)))))
 (gY (i:=1) (ah (sFld 4 t.tx cx (sv 1))
 (ah (sFld 5 t.tx cx (fR cx.hK rfl (t.tx.b 3) gc (sv 2)))
 (ah (sFld 6 t.tx cx (sv 3))
 (am (oH 0 t.tx (lM t hB tg tk) cx (aa (aI 0 t.tx cx (sv 1)) (aa (aP (aI 3 t.tx cx (sv 0)) (ai)) (aa (ee) af)))))))))))))
theorem w6:OkI pt hA P w K mg base 5 19 ud:=okI 19 t.tx fun _ _ _ _ _ _ cx nd=>
 (ah (a9 (SW.st (gg (fh (sv 2) (ai)) (er (nB (sv 2) (aI 0 t.tx cx (sv 1)))))) (am (ce 2 t.tx cx hB b9 (aa (b0) af))) aN)
 (ah (dq ["at"] cx nd (a6 rfl (t.tx.b 1) (aa (aI 0 t.tx cx (sv 1)) af)) cr (fun _ _ _ _ nd=>⟨(sgN nd),bH,(iF (cE cx.comp.hK cx.comp.hu (sv 1) (sv 0)) (ai) (lB))⟩))
 (gY (i:=3) (gY (i:=1) (am (oH 4 t.tx (wS t hB tg tk) cx (aa (sv 1) (aa (sv 3) (aa (aI 0 t.tx cx (sv 1)) (aa (ai) af))))))))))
theorem DO:OkF pt hA P w K mg base 1 20 yo:=okC 20 t.tx fun _ _ _ _ _ _ cx nd=>
 (ah (a9 (iB cx.hK cx.hu (b_ cx.hK rfl (t.tx.b 0) (sv 1)) (aI 0 t.tx cx (sv 0))) (am (ce 2 t.tx cx hB b9 (aa (b0) af))) aN)
 (ah (a9 (iB cx.hK cx.hu (nJ cx.hK cx.calm rfl (t.tx.b 0) rfl (t.tx.b 8) (sv 1)) (b_ cx.hK rfl (t.tx.b 0) (sv 1))) (am (ce 2 t.tx cx hB b9 (aa (b0) af))) aN)
 (am (dg cx.po cx.calm (gZ cx.hK (sv 1)) (sgN nd) (am (a9 (SW.st (gg (fh (sv 2) (ai)) (er (gI (sv 2) (cS rfl (t.tx.c 10)))))) (am (ce 2 t.tx cx hB b9 (aa (b0) af))) aN))))))
theorem DX:OkI pt hA P w K mg base 5 21 yx:=okI 21 t.tx fun _ _ _ _ _ _ cx nd=>
 (gY (i:=1) (ah (e_ (bw t.tx (DO t hB tg tk) cx (aa (sv 1) (aa (sv 2) af))))
 (ah (dq ["name"] cx nd (cw cx.hK (sv 2)) cr (fun _ _ _ _ nd=>⟨(sgN nd),bH,(dX (dW (cS rfl (t.tx.c 10)) (sv 1)) (aI 0 t.tx cx.comp (sv 0)))⟩))
 (gY (i:=3) (am (oH 4 t.tx (wS t hB tg tk) cx (aa (sv 1) (aa (sv 3) (aa (aI 0 t.tx cx (sv 1)) (aa (cS rfl (t.tx.c 11)) af))))))))))
theorem DU:OkI pt hA P w K mg base 7 22 yu:=okI 22 t.tx fun _ _ _ _ _ _ cx nd=>
 (gY (i:=1) (ah (sFld 9 t.tx cx (lD 5 t.tx (w6 t hB tg tk) cx (aa (sv 1) (aa (sv 2) af))))
 (ah (sFld 4 t.tx cx (sv 1))
 (ah (sFld 10 t.tx cx (sv 2))
 (am (oH 0 t.tx (lM t hB tg tk) cx (aa (aI 0 t.tx cx (sv 1)) (aa (dX (aP (aI 0 t.tx cx (sv 1)) (ai)) (aP (aI 0 t.tx cx (sv 1)) (ai))) (aa (ee) af)))))))))
theorem DI:OkF pt hA P w K mg base 9 23 t9:=okC 23 t.tx fun _ _ _ _ _ _ cx nd=>
 (gY (i:=1) (ah (a9 (cE cx.hK cx.hu (sv 0) (ai)) (am (aE (lD 2 t.tx (GZ t hB tg tk) cx (aa (sv 1) af)))) aN)
 (ah (a9 (cE cx.hK cx.hu (sv 0) (ai)) (am (aE (lD 4 t.tx (wS t hB tg tk) cx (aa (sv 1) (aa (dM ["_law_at"] cx (a6 rfl (t.tx.b 1) (aa (aI 0 t.tx cx (sv 1)) af)) cr (fun _ _ _ _ nd=>⟨(sgN nd),bH,(iF (gI (bK (aP (sv 0) (sv 1)) (ai)) (ai)) (bK (aP (sv 0) (sv 1)) (ai)) (lB))⟩)) (aa (ai) (aa (ai) af))))))) aN)
 (ah (a9 (cE cx.hK cx.hu (sv 0) (ai)) (am (aE (lD 5 t.tx (w6 t hB tg tk) cx (aa (sv 1) (aa (bK (sv 2) (aI 0 t.tx cx (sv 1))) af))))) aN)
 (ah (a9 (cE cx.hK cx.hu (sv 0) (ai)) (am (aE (lD 6 t.tx (DX t hB tg tk) cx (aa (sv 1) (aa (dM ["_law_at"] cx (a6 rfl (t.tx.b 1) (aa (aI 0 t.tx cx (sv 1)) af)) cr (fun _ _ _ _ nd=>⟨(sgN nd),bH,(bK (aP (sv 0) (dX (ai) (sv 1))) (ai))⟩)) af))))) aN)
 (am (aE (lD 7 t.tx (DU t hB tg tk) cx (aa (sv 1) (aa (bK (sv 2) (aI 0 t.tx cx (sv 1))) af))))))))))
theorem Du:OkF pt hA P w K mg base 10 24 tX:=okC 24 t.tx fun _ _ _ _ _ _ cx nd=>
 (ah (a9 (cE cx.hK cx.hu (sv 0) (ai)) (am (aE (lD 9 t.tx (DY t hB tg tk) cx (aa (aP (sv 1) (ai)) (aa (aP (aP (sv 1) (ai)) (bK (sv 2) (ai))) af))))) aN)
 (ah (a9 (cE cx.hK cx.hu (sv 0) (ai)) (am (aE (lD 3 t.tx (G3 t hB tg tk) cx (aa (dM ["_law_at"] cx (a6 rfl (t.tx.b 1) (aa (dW (sv 1) (ai)) af)) cr (fun _ _ _ _ nd=>⟨(sgN nd),bH,(bK (dH (sv 0) (aP (sv 1) (ai))) (aP (sv 1) (ai)))⟩)) af)))) aN)
 (ah (a9 (cE cx.hK cx.hu (sv 0) (ai)) (ah (dq ["_law_place"] cx nd (a6 rfl (t.tx.b 1) (aa (ai) af)) cr (fun _ _ _ _ nd=>⟨(sgN nd),bH,(oG (rB (sv 0) (sv 1)) (ai))⟩))
 (ah (dq ["_law_place"] cx nd (a6 rfl (t.tx.b 1) (aa (ai) af)) cr (fun _ _ _ _ nd=>⟨(sgN nd),bH,(oG (rB (sv 0) (sv 1)) (ai))⟩))
 (am (aE (lD 10 t.tx (GW t hB tg tk) cx (aa (kS cx.calm rfl (t.tx.b 4) (aa (ai) (aa (aP (sv 1) (ai)) af))) (aa (ai) (aa (b0) (aa (sv 4) (aa (sv 5) af)))))))))) aN)
 (ah (a9 (cE cx.hK cx.hu (sv 0) (ai)) (am (aE (lD 1 t.tx (rQ t hB tg tk) cx (aa (sv 1) (aa (aP (ai) (bK (sv 2) (ai))) af))))) aN)
 (am (aE (bw t.tx (DI t hB tg tk) cx (aa (sv 0) (aa (bw t.tx (Dt t hB tg tk) cx (aa (sv 1) (aa (sv 3) af))) (aa (sv 2) af))))))))))
theorem Ds:OkF pt hA P w K mg base 1 25 x9:=okC 25 t.tx fun _ _ _ _ _ _ cx nd=>
 (ah (a9 (SW.st (fB (jb cx.hK cx.hu2 (sv 0) (c_ (aa (ai) (aa (ai) (aa (ai) af))))) (et (eR (bZ cx.hK (kT cx.hK t.tx.cl (tk.at 0) rfl (t.tx.b 9) a5 rfl (t.tx.cg 1) (sv 1))))))) (am (aE (ee))) aN)
 (ah (a9 (SW.st (fB (jb cx.hK cx.hu2 (sv 0) (c_ (aa (ai) (aa (ai) (aa (ai) af))))) (et (eR (bZ cx.hK (kT cx.hK t.tx.cl (tk.at 1) rfl (t.tx.b 9) a5 rfl (t.tx.cg 4) (sv 1))))))) (am (aE (ee))) aN)
 (am (aE ((gw (kT cx.hK t.tx.cl (tk.at 2) rfl (t.tx.b 9) a5 rfl (t.tx.cg 0) (sv 1)) (gw (oF cx.hK qe rfl (t.tx.b 9) a5 rfl (t.tx.b 10) uj (aI 8 t.tx cx (sv 1))) (g8 (jd cx.hK cx.hu (aI 8 t.tx cx (sv 1)) (wa cx.hK cx.hu2 (sv 0) (c_ (aa (ai) (aa (ai) (aa (ai) (aa (ai) af)))))))))))))))
theorem wX:OkF pt hA P w K mg base 1 26 t5:=okC 26 t.tx fun _ _ _ _ _ _ cx nd=>
 (ah (dq ["_law_at"] cx nd (a6 rfl (t.tx.b 1) (aa (sv 0) af)) cr (fun _ _ _ _ nd=>⟨(sgN nd),(cH (cE cx.comp.hK cx.comp.hu (oG (rB (sv 0) (sv 1)) (ai)) (ai))),(sv 1)⟩))
 (ah (bO nd (bK (dH (sv 2) (ai)) (aP (b_ cx.hK rfl (t.tx.b 0) (sv 3)) (ai))))
 (ah (bO nd (aP (rD cx.hK cx.calm rfl (t.tx.b 7) rfl (t.tx.b 11) (eB cx.hK (sv 3) (fe (sv 4)) gh)) (eB cx.hK (sv 3) gh (fe (sv 4)))))
 (ah (a9 (bZ cx.hK (sv 1)) (am (aE (eB cx.hK (sv 3) gh (fe (ai))))) aN)
 (am (e9 rfl (Or.inl rfl)))))))
theorem DN:OkF pt hA P w K mg base 1 27 ym:=okC 27 t.tx fun _ _ _ _ _ _ cx nd=>
 (ah (bO nd (sS cx.hK (c_ (aa (ai) (aa (ai) (aa (bK (dH (sv 3) (ai)) (rC (ai) (ai))) af)))) (bK (dH (sv 3) (ai)) (ai)) (fun _ _=>rfl)))
 (ah (bO nd (sS cx.hK (c_ (aa (aP (sv 0) (sv 4)) (aa (dW (lC (ai)) (sv 4)) af))) (bK (dH (sv 3) (ai)) (ai)) (fun _ _=>rfl)))
 (ah (a9 (SW.st (fB (cE cx.hK cx.hu (bK (sv 3) (ai)) (ai)) (et (iB cx.hK cx.hu (sv 2) (c_ af))))) (am (bO nd (bT cx (sv 2) (bK (dH (sv 3) (ai)) (b_ cx.hK rfl (t.tx.b 0) (sv 2))) (fun _ _=>rfl)))) aN)
 (ah (a9 (SW.st (fB (cE cx.hK cx.hu (bK (sv 3) (ai)) (ai)) (fB (bZ cx.hK (sv 1)) (et (gI (sv 0) (ai)))))) (am (aE (c_ (aa (bK (dH (sv 3) (ai)) (sv 0)) (aa (bK (aP (aP (dH (sv 3) (ai)) (ai)) (bK (dH (sv 3) (ai)) (dW (sv 0) (ai)))) (sv 0)) af))))) aN)
 (ah (bO nd (bK (dH (sv 3) (ai)) (aP (b_ cx.hK rfl (t.tx.b 0) (sv 2)) (ai))))
 (am (aE (aP (aP (eB cx.hK (sv 2) gh (fe (sv 6))) (c_ (aa (sv 5) af))) (eB cx.hK (sv 2) (fe (sv 6)) gh)))))))))
theorem wW:OkF pt hA P w K mg base 1 28 t3:=okC 28 t.tx fun _ _ _ _ _ _ cx nd=>
 (am (aE (bT cx (sv 1) (sv 2) (fun _ _=>rfl))))
theorem G9:OkF pt hA P w K mg base 1 29 EI:=okC 29 t.tx fun _ _ _ _ _ _ cx nd=>
 (am (aE (c_ af)))
theorem Ha:OkF pt hA P w K mg base 2 30 EK:=okC 30 t.tx fun _ _ _ _ _ _ cx nd=>
 (am (aE (dM ["other"] cx (cw cx.hK (bY t.tx (dS t hB tg tk) cx (aI 4 t.tx cx (sv 0)) (aa (sv 1) af))) cr (fun _ _ _ _ nd=>⟨(sgN nd),(cH (fh (sv 1) (sv 0))),(sv 1)⟩))))
theorem Hb:OkF pt hA P w K mg base 1 31 EL:=okC 31 t.tx fun _ _ _ _ _ _ cx nd=>
 (am (aE (dM ["kid","parent"] cx (v8 cx.hK rfl (t.tx.b 2) (aI 11 t.tx cx (sv 0))) (kQ (d6 cr (d6 cr jy))) (fun _ _ _ _ nd=>⟨(ly cx.comp.hK cx.comp.calm (dL nd rfl (Or.inl rfl) (dL nd rfl (Or.inl rfl) jE))),(cH (cE cx.comp.hK cx.comp.hu (sv 2) (sv 0))),(sv 1)⟩))))
omit t hB tg tk in
theorem cD{X:Cx}(t:Ty pt pe X.w X.K X.mg)(hB:X.K.In X.base)(tg:TG pt X.K X.mg X.base)(tk:TK pt X.K kc):eO X (T X.K) 2 "hangs_on" ["self","at"] [] aO:=fun c _ hc e=>match c,hc,e with
 |1,_,e=>dm 1 t.tx (G9 t hB tg tk) e
 |2,_,e=>dm 2 t.tx (Ha t hB tg tk) e
 |3,_,e=>dm 3 t.tx (Hb t hB tg tk) e
 |0,_,e|4,_,e|5,_,e|6,_,e|7,_,e|8,_,e|9,_,e|10,_,e=>nomatch e
 |_+11,h,_=>dno (n:=11) h
theorem DV:OkF pt hA P w K mg base 3 32 yv:=okC 32 t.tx fun _ _ _ _ _ _ cx nd=>
 (ah (dq ["other"] cx nd (cw cx.hK (bY t.tx (cD t hB tg tk) cx (sv 0) (aa (sv 2) af))) cr (fun _ _ _ _ nd=>⟨(sgN nd),bH,(bT cx.comp (sv 0) (sv 1) (fun _ _=>rfl))⟩))
 (ah (bO nd (ai))
 (ah (jA cx.po (jb cx.hK cx.hu2 (sv 4) (sv 3)) (am (bO nd (aP (sv 4) (ai)))))
 (am (e9 rfl (Or.inl rfl))))))
theorem DR:OkF pt hA P w K mg base 3 33 yr:=okC 33 t.tx fun _ _ _ _ _ _ cx nd=>
 (am (aE (kS cx.calm rfl (t.tx.b 4) (aa (aI 0 t.tx cx (sv 0)) (aa (aP (ai) (lA cx.hK cx.calm rfl (t.tx.b 12) (dM ["kid"] cx (cw cx.hK (bY t.tx (cD t hB tg tk) cx (sv 0) (aa (sv 2) af))) cr (fun _ _ _ _ nd=>⟨(sgN nd),bH,(bT cx.comp (sv 0) (sv 1) (fun _ _=>rfl))⟩)))) af)))))
theorem wZ:OkF pt hA P w K mg base 1 34 vw:=okC 34 t.tx fun _ _ _ _ _ _ cx nd=>
 (am (aE ((gw (sO cx.hK cx.hu (sv 1) (aI 3 t.tx cx (sv 0))) (g8 (sO cx.hK cx.hu (bK (aP (sv 1) (ai)) (aI 6 t.tx cx (sv 0))) (ai)))))))
omit t hB tg tk in
theorem ie{X:Cx}(t:Ty pt pe X.w X.K X.mg)(hB:X.K.In X.base)(tg:TG pt X.K X.mg X.base)(tk:TK pt X.K kc):eO X (T X.K) 1 "has_offer" ["self","cell"] [] dJ:=fun c _ hc e=>match c,hc,e with
 |4,_,e=>dm 4 t.tx (wZ t hB tg tk) e
 |5,_,e=>dm 5 t.tx (wZ t hB tg tk) e
 |6,_,e=>dm 6 t.tx (wZ t hB tg tk) e
 |0,_,e|1,_,e|2,_,e|3,_,e|7,_,e|8,_,e|9,_,e|10,_,e=>nomatch e
 |_+11,h,_=>dno (n:=11) h
theorem oQ:OkF pt hA P w K mg base 2 35 n6:=okC 35 t.tx fun _ _ _ _ _ _ cx nd=>
 (ah (dq ["other"] cx nd (cw cx.hK (bY t.tx (dS t hB tg tk) cx (aI 4 t.tx cx (sv 0)) (aa (sv 2) af))) cr (fun _ _ _ _ nd=>⟨(sgN nd),bH,(bT cx.comp (sv 0) (sv 1) (fun _ _=>rfl))⟩))
 (ah (dq ["cell"] cx nd (cw cx.hK (sv 3)) cr (fun _ _ _ _ nd=>⟨(sgN nd),(cH (bZ cx.comp.hK (bY t.tx (ie t hB tg tk) cx.comp (sv 0) (aa (sv 1) af)))),(aP (sv 1) (ai))⟩))
 (ah (a9 (sN (bT cx (aI 5 t.tx cx (sv 0)) (sv 2) (fun _ _=>rfl)) (lB)) (am (pR cx (bT cx (aI 5 t.tx cx (sv 0)) (sv 2) (fun _ _=>rfl)))) aN)
 (am (aE (sP cx.hK cx.calm rfl (t.tx.b 4) (aP (sv 4) (c_ (aa (aI 3 t.tx cx (sv 0)) af)))))))))
theorem GX:OkF pt hA P w K mg base 1 36 Ez:=okC 36 t.tx fun _ _ _ _ _ _ cx nd=>
 (am (aE (dM ["cell"] cx (cw cx.hK (sv 1)) cr (fun _ _ _ _ nd=>⟨(sgN nd),bH,(ux (aa (dH (sv 1) (aP (aI 0 t.tx cx.comp (sv 0)) (ai))) (aa (bK (sv 1) (aP (aI 0 t.tx cx.comp (sv 0)) (ai))) af)))⟩))))
omit t hB tg tk in
theorem iP{X:Cx}(t:Ty pt pe X.w X.K X.mg)(hB:X.K.In X.base)(tg:TG pt X.K X.mg X.base)(tk:TK pt X.K kc):eO X (T X.K) 1 "parts" ["self","cells"] [] fv:=fun c _ hc e=>match c,hc,e with
 |7,_,e=>dm 7 t.tx (GX t hB tg tk) e
 |0,_,e|1,_,e|2,_,e|3,_,e|4,_,e|5,_,e|6,_,e|8,_,e|9,_,e|10,_,e=>nomatch e
 |_+11,h,_=>dno (n:=11) h
theorem DZ:OkF pt hA P w K mg base 2 37 yA:=okC 37 t.tx fun _ _ _ _ _ _ cx nd=>
 (am (aE (dM ["part"] cx (cw cx.hK (bY t.tx (iP t hB tg tk) cx (sv 0) (aa (sv 1) af))) cr (fun _ _ _ _ nd=>⟨(sgN nd),bH,(bT cx.comp (sv 0) (ai) (fun _ _=>rfl))⟩))))
omit t hB tg tk in
theorem gC{X:Cx}(t:Ty pt pe X.w X.K X.mg)(hB:X.K.In X.base)(tg:TG pt X.K X.mg X.base)(tk:TK pt X.K kc):eO X (T X.K) 2 "fars" ["self","cells"] [] dZ:=fun c _ hc e=>match c,hc,e with
 |7,_,e=>dm 8 t.tx (DZ t hB tg tk) e
 |0,_,e|1,_,e|2,_,e|3,_,e|4,_,e|5,_,e|6,_,e|8,_,e|9,_,e|10,_,e=>nomatch e
 |_+11,h,_=>dno (n:=11) h
omit t hB tg tk in
theorem oR{X:Cx}(t:Ty pt pe X.w X.K X.mg)(hB:X.K.In X.base)(tg:TG pt X.K X.mg X.base)(tk:TK pt X.K kc):eO X (T X.K) 2 "due" ["self","cells","at"] [] kq:=fun c _ hc e=>match c,hc,e with
 |5,_,e=>dm 9 t.tx (oQ t hB tg tk) e
 |0,_,e|1,_,e|2,_,e|3,_,e|4,_,e|6,_,e|7,_,e|8,_,e|9,_,e|10,_,e=>nomatch e
 |_+11,h,_=>dno (n:=11) h
theorem G6:OkF pt hA P w K mg base 2 38 EH:=okC 38 t.tx fun _ _ _ _ _ _ cx nd=>
 (am (aE (dM ["part"] cx (cw cx.hK (bY t.tx (iP t hB tg tk) cx (sv 0) (aa (sv 1) af))) cr (fun _ _ _ _ nd=>⟨(sgN nd),bH,(bT cx.comp (sv 0) (ai) (fun _ _=>rfl))⟩))))
omit t hB tg tk in
theorem fD{X:Cx}(t:Ty pt pe X.w X.K X.mg)(hB:X.K.In X.base)(tg:TG pt X.K X.mg X.base)(tk:TK pt X.K kc):eO X (T X.K) 2 "counts" ["self","cells"] [] cY:=fun c _ hc e=>match c,hc,e with
 |7,_,e=>dm 10 t.tx (G6 t hB tg tk) e
 |0,_,e|1,_,e|2,_,e|3,_,e|4,_,e|5,_,e|6,_,e|8,_,e|9,_,e|10,_,e=>nomatch e
 |_+11,h,_=>dno (n:=11) h
theorem G1:OkF pt hA P w K mg base 2 39 ED:=okC 39 t.tx fun _ _ _ _ _ _ cx nd=>
 (ah (a9 (cE cx.hK cx.hu (sv 2) (aI 10 t.tx cx (sv 0))) (am (aE (lB))) aN)
 (ah (dq ["other"] cx nd (cw cx.hK (bY t.tx (dS t hB tg tk) cx (aI 4 t.tx cx (sv 0)) (aa (sv 2) af))) cr (fun _ _ _ _ nd=>⟨(sgN nd),(cH (cE cx.comp.hK cx.comp.hu (bT cx.comp (sv 0) (sv 2) (fun _ _=>rfl)) (dW (bT cx.comp (sv 0) (sv 1) (fun _ _=>rfl)) (ai)))),(sv 2)⟩))
 (am (aE (Al cx.hK cx.calm rfl (t.tx.b 4) (sv 3))))))
omit t hB tg tk in
theorem lN{X:Cx}(t:Ty pt pe X.w X.K X.mg)(hB:X.K.In X.base)(tg:TG pt X.K X.mg X.base)(tk:TK pt X.K kc):eO X (T X.K) 2 "elder" ["self","fars","at"] [] iT:=fun c _ hc e=>match c,hc,e with
 |7,_,e=>dm 11 t.tx (G1 t hB tg tk) e
 |0,_,e|1,_,e|2,_,e|3,_,e|4,_,e|5,_,e|6,_,e|8,_,e|9,_,e|10,_,e=>nomatch e
 |_+11,h,_=>dno (n:=11) h
theorem G5:OkF pt hA P w K mg base 3 40 EG:=okC 40 t.tx fun _ _ _ _ _ _ cx nd=>
 (ah (bO nd (bY t.tx (gC t hB tg tk) cx (sv 0) (aa (sv 1) af)))
 (am (aE (dM ["at"] cx (a6 rfl (t.tx.b 1) (aa (aI 0 t.tx cx (sv 0)) af)) cr (fun _ _ _ _ nd=>⟨(sgN nd),bH,(bY t.tx (lN t hB tg tk) cx.comp (sv 0) (aa (sv 1) (aa (sv 2) af)))⟩)))))
omit t hB tg tk in
theorem kK{X:Cx}(t:Ty pt pe X.w X.K X.mg)(hB:X.K.In X.base)(tg:TG pt X.K X.mg X.base)(tk:TK pt X.K kc):eO X (T X.K) 3 "elders" ["self","cells"] [] iy:=fun c _ hc e=>match c,hc,e with
 |7,_,e=>dm 12 t.tx (G5 t hB tg tk) e
 |0,_,e|1,_,e|2,_,e|3,_,e|4,_,e|5,_,e|6,_,e|8,_,e|9,_,e|10,_,e=>nomatch e
 |_+11,h,_=>dno (n:=11) h
theorem G_:OkF pt hA P w K mg base 4 41 EJ:=okC 41 t.tx fun _ _ _ _ _ _ cx nd=>
 (ah (dq ["count", "elder"] cx nd (oE cx.hK rfl (t.tx.b 13) (aa (bY t.tx (fD t hB tg tk) cx (sv 0) (aa (sv 1) af)) (aa (bY t.tx (kK t hB tg tk) cx (sv 0) (aa (sv 1) af)) af))) (kQ (d6 cr (d6 cr jy))) (fun _ _ _ _ nd=>⟨(ly cx.comp.hK cx.comp.calm (dL nd rfl (Or.inl rfl) (dL nd rfl (Or.inl rfl) jE))),(cH (cE cx.comp.hK cx.comp.hu (sv 2) (sv 0))),(sv 1)⟩))
 (am (aE (kS cx.calm rfl (t.tx.b 4) (aa (aI 0 t.tx cx (sv 0)) (aa (aP (ai) (lA cx.hK cx.calm rfl (t.tx.b 12) (sv 3))) af))))))
omit t hB tg tk in
theorem fW{X:Cx}(t:Ty pt pe X.w X.K X.mg)(hB:X.K.In X.base)(tg:TG pt X.K X.mg X.base)(tk:TK pt X.K kc):eO X (T X.K) 4 "due_count" ["self","cells","at"] [] db:=fun c _ hc e=>match c,hc,e with
 |7,_,e=>dm 13 t.tx (G_ t hB tg tk) e
 |0,_,e|1,_,e|2,_,e|3,_,e|4,_,e|5,_,e|6,_,e|8,_,e|9,_,e|10,_,e=>nomatch e
 |_+11,h,_=>dno (n:=11) h
theorem DP:OkF pt hA P w K mg base 5 42 yp:=okC 42 t.tx fun _ _ _ _ _ _ cx nd=>
 (ah (bO nd (bY t.tx (gC t hB tg tk) cx (sv 0) (aa (sv 1) af)))
 (ah (bO nd (bY t.tx (oR t hB tg tk) cx (aI 9 t.tx cx (sv 0)) (aa (sv 3) (aa (sv 2) af))))
 (ah (bO nd (bT cx (bY t.tx (fD t hB tg tk) cx (sv 0) (aa (sv 1) af)) (sv 2) (fun _ _=>rfl)))
 (ah (a9 (cE cx.hK cx.hu (sv 4) (bT cx (sv 3) (sv 2) (fun _ _=>rfl))) (am (bO nd (bY t.tx (fW t hB tg tk) cx (sv 0) (aa (sv 1) (aa (sv 2) af))))) aN)
 (am (aE (aP (dX (sv 4) (aP (aI 0 t.tx cx (sv 0)) (ai))) (sv 5))))))))
theorem DQ:OkF pt hA P w K mg base 1 43 yq:=okC 43 t.tx fun _ _ _ _ _ _ cx nd=>
 (ah (a9 (iB cx.hK cx.hu (sv 2) (ai)) (am (aE (bT cx (sv 1) (dW (sv 2) (ai)) (fun _ _=>rfl)))) aN)
 (ah (a9 (cE cx.hK cx.hu (bT cx (sv 1) (ai) (fun _ _=>rfl)) (bT cx (sv 1) (dW (aI 0 t.tx cx (sv 0)) (ai)) (fun _ _=>rfl))) (am (aE (bK (aP (bT cx (sv 1) (ai) (fun _ _=>rfl)) (ai)) (aI 7 t.tx cx (sv 0))))) aN)
 (am (aE (bT cx (sv 1) (ai) (fun _ _=>rfl))))))
theorem D0:OkF pt hA P w K mg base 1 44 qq:=okC 44 t.tx fun _ _ _ _ _ _ cx nd=>
 (ah (bO nd (bT cx (sv 1) (bK (dW (sv 2) (ai)) (aI 0 t.tx cx (sv 0))) (fun _ _=>rfl)))
 (ah (bO nd (bT cx (sv 1) (bK (aP (sv 2) (ai)) (aI 0 t.tx cx (sv 0))) (fun _ _=>rfl)))
 (ah (bO nd (aP (aP (dX (dX (bT cx (sv 1) (sv 2) (fun _ _=>rfl)) (aI 7 t.tx cx (sv 0))) (aI 7 t.tx cx (sv 0))) (dX (sv 3) (aI 7 t.tx cx (sv 0)))) (sv 4)))
 (am (aE (iF (cE cx.hK cx.hu (sv 2) (ai)) (bT cx (aI 13 t.tx cx (sv 0)) (sv 5) (fun _ _=>rfl)) (bT cx (aI 14 t.tx cx (sv 0)) (sv 5) (fun _ _=>rfl))))))))
omit t hB tg tk in
theorem bI{X:Cx}(t:Ty pt pe X.w X.K X.mg)(hB:X.K.In X.base)(tg:TG pt X.K X.mg X.base)(tk:TK pt X.K kc):eO X (T X.K) 5 "due" ["self","cells","at"] [] ax:=fun c _ hc e=>match c,hc,e with
 |0,_,e=>dm 14 t.tx (wW t hB tg tk) e
 |1,_,e=>dm 15 t.tx (wW t hB tg tk) e
 |2,_,e=>dm 16 t.tx (DV t hB tg tk) e
 |3,_,e=>dm 17 t.tx (DR t hB tg tk) e
 |4,_,e=>dm 18 t.tx (oQ t hB tg tk) e
 |5,_,e=>dm 9 t.tx (oQ t hB tg tk) e
 |6,_,e=>dm 19 t.tx (oQ t hB tg tk) e
 |7,_,e=>dm 20 t.tx (DP t hB tg tk) e
 |9,_,e=>dm 21 t.tx (DQ t hB tg tk) e
 |10,_,e=>dm 22 t.tx (D0 t hB tg tk) e
 |8,_,e=>nomatch e
 |_+11,h,_=>dno (n:=11) h
theorem DK:OkF pt hA P w K mg base 1 45 ua:=okC 45 t.tx fun _ _ _ _ _ _ cx nd=>
 (ah (a9 (SW.st (fB (bZ cx.hK (aI 8 t.tx cx (sv 0))) (et (gI (b_ cx.hK rfl (t.tx.b 0) (sv 1)) (ai))))) (am (ce 4 t.tx cx hB b9 (aa (b0) af))) aN)
 (ah (dg cx.po cx.calm (gZ cx.hK (sv 1)) (sgN nd) (am (a9 (SW.st (gg (fh (sv 2) (ai)) (er (nB (sv 2) (aI 0 t.tx cx (sv 0)))))) (am (ce 4 t.tx cx hB b9 (aa (b0) af))) aN)))
 (am (a9 (iB cx.hK cx.hu (nJ cx.hK cx.calm rfl (t.tx.b 0) rfl (t.tx.b 8) (sv 1)) (b_ cx.hK rfl (t.tx.b 0) (sv 1))) (am (ce 4 t.tx cx hB b9 (aa (b0) af))) aN))))
theorem gB:OkF pt hA P w K mg base 6 46 gu:=okC 46 t.tx fun _ _ _ _ _ _ cx nd=>
 (ah (e_ (bw t.tx (DK t hB tg tk) cx (aa (sv 0) (aa (sv 2) af))))
 (am (aE (dM ["at"] cx (a6 rfl (t.tx.b 1) (aa (aI 0 t.tx cx (sv 0)) af)) cr (fun _ _ _ _ nd=>⟨(sgN nd),bH,(iF (jb cx.comp.hK cx.comp.hu2 (sv 3) (sv 0)) (bY t.tx (bI t hB tg tk) cx.comp (sv 1) (aa (sv 2) (aa (sv 3) af))) (bT cx.comp (sv 2) (sv 3) (fun _ _=>rfl)))⟩)))))
omit t hB tg tk in
theorem aX{X:Cx}(t:Ty pt pe X.w X.K X.mg)(hB:X.K.In X.base)(tg:TG pt X.K X.mg X.base)(tk:TK pt X.K kc):eO X (T X.K) 6 "turned" ["self","cells","named"] [] aG:=fun c _ hc e=>match c,hc,e with
 |0,_,e=>dm 23 t.tx (gB t hB tg tk) e
 |1,_,e=>dm 24 t.tx (gB t hB tg tk) e
 |2,_,e=>dm 25 t.tx (gB t hB tg tk) e
 |3,_,e=>dm 26 t.tx (gB t hB tg tk) e
 |4,_,e=>dm 27 t.tx (gB t hB tg tk) e
 |5,_,e=>dm 28 t.tx (gB t hB tg tk) e
 |6,_,e=>dm 29 t.tx (gB t hB tg tk) e
 |7,_,e=>dm 30 t.tx (gB t hB tg tk) e
 |9,_,e=>dm 31 t.tx (gB t hB tg tk) e
 |10,_,e=>dm 32 t.tx (gB t hB tg tk) e
 |8,_,e=>nomatch e
 |_+11,h,_=>dno (n:=11) h
theorem DC:OkF pt hA P w K mg base 1 47 t6:=okC 47 t.tx fun _ _ _ _ _ _ cx nd=>
 (am (aE ((gw (oF cx.hK Bf rfl (t.tx.b 9) a5 rfl (t.tx.b 14) y0 (sv 0)) (g8 (CG (oF cx.hK qe rfl (t.tx.b 9) a5 rfl (t.tx.b 10) uj (sv 0))))))))
theorem ib:OkF pt hA P w K mg base 2 48 iS:=okC 48 t.tx fun _ _ _ _ _ _ cx nd=>
 (am (aE ((gw (oF cx.hK xF rfl (t.tx.b 9) a5 rfl (t.tx.b 7) ck (sv 0)) (gw (CM cx.hK cx.calm rfl (t.tx.b 15) (dM ["_law_one"] cx (cw cx.hK (sv 0)) cr (fun _ _ _ _ nd=>⟨(sgN nd),bH,(bw t.tx (DC t hB tg tk) cx.comp (aa (sv 0) af))⟩))) (g8 (jd cx.hK cx.hu (sv 0) (sv 1))))))))
theorem gA:OkF pt hA P w K mg base 6 49 gP:=okC 49 t.tx fun _ _ _ _ _ _ cx nd=>
 (am (aE (dM ["at"] cx (a6 rfl (t.tx.b 1) (aa (aI 0 t.tx cx (sv 0)) af)) cr (fun _ _ _ _ nd=>⟨(sgN nd),(cH (iB cx.comp.hK cx.comp.hu (bY t.tx (bI t hB tg tk) cx.comp (sv 0) (aa (sv 1) (aa (sv 2) af))) (bT cx.comp (sv 1) (sv 2) (fun _ _=>rfl)))),(sv 2)⟩))))
omit t hB tg tk in
theorem au{X:Cx}(t:Ty pt pe X.w X.K X.mg)(hB:X.K.In X.base)(tg:TG pt X.K X.mg X.base)(tk:TK pt X.K kc):eO X (T X.K) 6 "movers" ["self","cells"] [] ao:=fun c _ hc e=>match c,hc,e with
 |0,_,e=>dm 33 t.tx (gA t hB tg tk) e
 |1,_,e=>dm 34 t.tx (gA t hB tg tk) e
 |2,_,e=>dm 35 t.tx (gA t hB tg tk) e
 |3,_,e=>dm 36 t.tx (gA t hB tg tk) e
 |4,_,e=>dm 37 t.tx (gA t hB tg tk) e
 |5,_,e=>dm 38 t.tx (gA t hB tg tk) e
 |6,_,e=>dm 39 t.tx (gA t hB tg tk) e
 |7,_,e=>dm 40 t.tx (gA t hB tg tk) e
 |9,_,e=>dm 41 t.tx (gA t hB tg tk) e
 |10,_,e=>dm 42 t.tx (gA t hB tg tk) e
 |8,_,e=>nomatch e
 |_+11,h,_=>dno (n:=11) h
omit t hB tg tk in
theorem BR:HY pt:=fun _ _ _ _ _ us hl=>match us,hl with|[_,_],_=>rfl
theorem Dz:OkN pt hA P w K mg base 1 tZ:=okN (by decide +kernel) fun _ _ _ _ _ _ _ _ cx nd=>
 (am (aE (cQ cx.hK rfl (t.tx.b 7) ck (sv 2))))
theorem gz:OkF pt hA P w K mg base 1 50 gO:=okC 50 t.tx fun _ _ _ _ _ _ cx nd=>
 (ah (a9 (iB cx.hK cx.hu (b_ cx.hK rfl (t.tx.b 0) (sv 1)) (aI 0 t.tx cx (sv 0))) (am (ce 3 t.tx cx hB b9 (aa (b0) af))) aN)
 (am (aE (dM ["number"] cx (cw cx.hK (sv 1)) cr (fun _ _ _ _ nd=>⟨(sgN nd),bH,(bK (sv 1) (aI 7 t.tx cx.comp (sv 0)))⟩)))))
omit t hB tg tk in
theorem cI{X:Cx}(t:Ty pt pe X.w X.K X.mg)(hB:X.K.In X.base)(tg:TG pt X.K X.mg X.base)(tk:TK pt X.K kc):eO X (T X.K) 1 "read" ["self","registers"] [] aZ:=fun c _ hc e=>match c,hc,e with
 |0,_,e=>dm 43 t.tx (gz t hB tg tk) e
 |1,_,e=>dm 44 t.tx (gz t hB tg tk) e
 |2,_,e=>dm 45 t.tx (gz t hB tg tk) e
 |3,_,e=>dm 46 t.tx (gz t hB tg tk) e
 |4,_,e=>dm 47 t.tx (gz t hB tg tk) e
 |5,_,e=>dm 48 t.tx (gz t hB tg tk) e
 |6,_,e=>dm 49 t.tx (gz t hB tg tk) e
 |7,_,e=>dm 50 t.tx (gz t hB tg tk) e
 |9,_,e=>dm 51 t.tx (gz t hB tg tk) e
 |10,_,e=>dm 52 t.tx (gz t hB tg tk) e
 |8,_,e=>nomatch e
 |_+11,h,_=>dno (n:=11) h
theorem wV:OkF pt hA P w K mg base 7 51 mj:=okC 51 t.tx fun _ _ _ _ _ _ cx nd=>
 (ah (bO nd (bY t.tx (aX t hB tg tk) cx (sv 0) (aa (sv 1) (aa (sv 2) af))))
 (ah (dq ["at"] cx nd (cw cx.hK (bY t.tx (au t hB tg tk) cx (sv 0) (aa (sv 1) af))) cr (fun _ _ _ _ nd=>⟨(sgN nd),(cH (jb cx.comp.hK cx.comp.hu2 (sv 1) (sv 0))),(sv 1)⟩))
 (am (v5 rfl (Or.inl rfl) rfl (Or.inl rfl)))))
theorem D3:OkF pt hA P w K mg base 8 52 yD:=okC 52 t.tx fun _ _ _ _ _ _ cx nd=>
 (ah (bO nd (bY t.tx (cI t hB tg tk) cx (sv 0) (aa (sv 1) af)))
 (ah (bO nd (c_ af))
 (gY (i:=2) (ah (dg cx.po cx.calm (gZ cx.hK (sv 2)) (sgN nd) (ah (pR cx (wc (bw t.tx (wV t hB tg tk) cx (aa (sv 0) (aa (sv 3) (aa (sv 5) af))))))
 (am (bO nd (bT cx (bT cx (sv 4) (lC (ai)) (fun _ _=>rfl)) (ai) (fun _ _=>rfl))))))
 (am (e9 rfl (Or.inl rfl)))))))
theorem Dr:OkF pt hA P w K mg base 8 53 x0:=okC 53 t.tx fun _ _ _ _ _ _ cx nd=>
 (ah (bO nd (bY t.tx (cI t hB tg tk) cx (sv 0) (aa (sv 1) af)))
 (ah (bO nd (c_ af))
 (ah (jA cx.po (SW.st (fB (fh (b_ cx.hK rfl (t.tx.b 0) (sv 5)) (sv 3)) (et (gI (b_ cx.hK rfl (t.tx.b 0) (bY t.tx (au t hB tg tk) cx (sv 0) (aa (sv 4) af))) (ai))))) (ah (bO nd (CO (Dz t hB tg tk) BR cx (aa (b_ cx.hK rfl (t.tx.b 0) (sv 5)) (aa (bY t.tx (au t hB tg tk) cx (sv 0) (aa (sv 4) af)) af))))
 (ah (pR cx (wc (bw t.tx (wV t hB tg tk) cx (aa (sv 0) (aa (sv 4) (aa (sv 6) af))))))
 (am (bO nd (bT cx (bT cx (sv 5) (lC (ai)) (fun _ _=>rfl)) (ai) (fun _ _=>rfl)))))))
 (am (e9 rfl (Or.inl rfl))))))
theorem Dx:OkF pt hA P w K mg base 9 54 yc:=IV 54 t.tx fun _ _ _ _ _ cx cl nd=>
 (Ej (fun _=>rfl) (ah (Gp 4 [3] tg nd)
 (ah (a9 (cE cl.hK cl.hu (sv 0) (ai)) (am (aE (bY t.tx (aX t hB tg tk) cl (sv 1) (aa (sv 2) (aa (sv 3) af))))) aN)
 (ah (a9 (cE cl.hK cl.hu (sv 0) (ai)) (am (aE (bw t.tx (D3 t hB tg tk) cl (aa (sv 1) (aa (sv 2) (aa (c_ (aa (c_ af) (aa (sv 3) af))) af)))))) aN)
 (am (aE (bw t.tx (Dr t hB tg tk) cl (aa (sv 1) (aa (sv 2) (aa (sv 4) (aa (ai) af)))))))))))
theorem DJ:OkF pt hA P w K mg base 10 55 yi:=okC 55 t.tx fun _ _ _ _ _ _ cx nd=>
 (ah (bO nd (c_ af))
 (ah (Cu cx rfl rfl nd rfl rfl (by decide) rfl (t.tx.xg 0) (t.tx.hO 0) (fun E pn Wb cy=>(am (e_ (bw t.tx (Dx t hB tg tk) cy (aa (sv 0) (aa (sv 1) (aa (sv 2) (aa (sv 3) af)))))))) (fun _=>(ah (bO nd (c_ (aa (g_ cx.hK t.tx.xc (t.tx.kO 0) rfl (t.tx.b 9) a5 rfl (t.tx.xg 1) (sv 5)) (aa (g_ cx.hK t.tx.xc (t.tx.kO 1) rfl (t.tx.b 9) a5 rfl (t.tx.xg 2) (sv 5)) (aa (g_ cx.hK t.tx.xc (t.tx.kO 2) rfl (t.tx.b 9) a5 rfl (t.tx.xg 3) (sv 5)) (aa (g_ cx.hK t.tx.xc (t.tx.kO 3) rfl (t.tx.b 9) a5 rfl (t.tx.xg 5) (sv 5)) af))))))
 (ah (bO nd (aP (sv 6) (c_ (aa (g_ cx.hK t.tx.xc (t.tx.kO 4) rfl (t.tx.b 9) a5 rfl (t.tx.xg 7) (sv 5)) (aa (g_ cx.hK t.tx.xc (t.tx.kO 5) rfl (t.tx.b 9) a5 rfl (t.tx.xg 6) (sv 5)) af)))))
 (am (bO nd (c_ (aa (g_ cx.hK t.tx.xc (t.tx.kO 6) rfl (t.tx.b 9) a5 rfl (t.tx.xg 4) (sv 5)) (aa (Ap cx.hK t.tx.xc (t.tx.kB 7) rfl (t.tx.b 9) a5 rfl (t.tx.b 16) nk (sv 5)) (aa (wa cx.hK cx.hu2 (ee) (sv 6)) af))))))))) aN)
 (am (aE (jd cx.hK cx.hu (sv 4) (c_ (aa (ee) (aa (ee) (aa (ee) af)))))))))
theorem DE:OkF pt hA P w K mg base 11 56 yg:=okC 56 t.tx fun _ _ _ _ _ _ cx nd=>
 (ah (bO nd (bw t.tx (wX t hB tg tk) cx (aa (aI 0 t.tx cx (sv 0)) (aa (aI 8 t.tx cx (sv 0)) (aa (sv 2) af)))))
 (ah (bO nd (bw t.tx (DN t hB tg tk) cx (aa (aI 0 t.tx cx (sv 0)) (aa (aI 8 t.tx cx (sv 0)) (aa (sv 3) (aa (dH (sv 2) (ai)) af))))))
 (ah (bO nd (c_ (aa (cQ cx.hK rfl (t.tx.b 7) ck (sv 1)) (aa (cQ cx.hK rfl (t.tx.b 7) ck (sv 3)) (aa (cQ cx.hK rfl (t.tx.b 7) ck (sv 4)) af)))))
 (ah (dq ["_law_at"] cx nd (a6 rfl (t.tx.b 1) (aa (aI 0 t.tx cx (sv 0)) af)) cr (fun _ _ _ _ nd=>⟨(sgN nd),bH,(iF (jb cx.comp.hK cx.comp.hu2 (sv 3) (sv 0)) (bY t.tx (bI t hB tg tk) cx.comp (sv 1) (aa (wc (cQ cx.comp.hK rfl (t.tx.b 7) ck (sv 2))) (aa (sv 3) af))) (bT cx.comp (sv 2) (sv 3) (fun _ _=>rfl)))⟩))
 (ah (bO nd (bY t.tx (aX t hB tg tk) cx (sv 0) (aa (bT cx (sv 5) (ai) (fun _ _=>rfl)) (aa (bT cx (sv 5) (ai) (fun _ _=>rfl)) af))))
 (ah (a9 (eR (bZ cx.hK (bw t.tx (ib t hB tg tk) cx (aa (sv 7) (aa (sv 6) af))))) (am (aE (ee))) aN)
 (ah (pR cx (ai))
 (ah (dg cx.po cx.calm (gZ cx.hK (eB cx.hK (c_ (aa (ai) (aa (ai) (aa (ai) af)))) gh (fe (aP (ai) (v_ rfl (t.tx.b 14) (sO cx.hK cx.hu (bY t.tx (au t hB tg tk) cx (sv 0) (aa (cQ cx.hK rfl (t.tx.b 7) ck (sv 1)) af)) (c_ af))))))) (sgN nd) (am (a9 (eR (bZ cx.hK (bw t.tx (DJ t hB tg tk) cx (aa (sv 8) (aa (sv 0) (aa (bT cx (sv 5) (ai) (fun _ _=>rfl)) (aa (bT cx (sv 5) (ai) (fun _ _=>rfl)) af))))))) (am (aE (ee))) aN)))
 (am (aE ((gw (jd cx.hK cx.hu (sv 5) (c_ (aa (sv 1) (aa (sv 3) (aa (sv 4) af))))) (g8 (bw t.tx (ib t hB tg tk) cx (aa (bY t.tx (aX t hB tg tk) cx (sv 0) (aa (bT cx (sv 5) (ai) (fun _ _=>rfl)) (aa (bT cx (sv 5) (ai) (fun _ _=>rfl)) af))) (aa (sv 6) af))))))))))))))))
theorem jo:OkF pt hA P w K mg base 1 57 jV:=okC 57 t.tx fun _ _ _ _ _ _ cx nd=>
 (am (aE (nH cx.calm rfl (t.tx.b 7) ck rfl (t.tx.b 1) (aa (aI 0 t.tx cx (sv 0)) af))))
theorem w8:OkF pt hA P w K mg base 3 58 vx:=okC 58 t.tx fun _ _ _ _ _ _ cx nd=>
 (am (aE (CL cx.hK cx.calm rfl (t.tx.b 17) (dM ["other"] cx (cw cx.hK (bY t.tx (cD t hB tg tk) cx (sv 0) (aa (sv 1) af))) cr (fun _ _ _ _ nd=>⟨(sgN nd),bH,(bT cx.comp (sv 0) (sv 1) (fun _ _=>rfl))⟩)))))
omit t hB tg tk in
theorem fV{X:Cx}(t:Ty pt pe X.w X.K X.mg)(hB:X.K.In X.base)(tg:TG pt X.K X.mg X.base)(tk:TK pt X.K kc):eO X (T X.K) 3 "hangs_on_some" ["self","at","reached"] [] bG:=fun c _ hc e=>match c,hc,e with
 |1,_,e=>dm 53 t.tx (w8 t hB tg tk) e
 |2,_,e=>dm 54 t.tx (w8 t hB tg tk) e
 |3,_,e=>dm 55 t.tx (w8 t hB tg tk) e
 |0,_,e|4,_,e|5,_,e|6,_,e|7,_,e|8,_,e|9,_,e|10,_,e=>nomatch e
 |_+11,h,_=>dno (n:=11) h
theorem wT:OkF pt hA P w K mg base 4 59 xZ:=okC 59 t.tx fun _ _ _ _ _ _ cx nd=>
 (ah (bO nd (dM ["at"] cx (a6 rfl (t.tx.b 1) (aa (aI 0 t.tx cx (sv 0)) af)) cr (fun _ _ _ _ nd=>⟨(sgN nd),bH,(wa cx.comp.hK cx.comp.hu2 (sv 1) (sv 0))⟩)))
 (ah (dg cx.po cx.calm (d_ rfl (t.tx.b 1) (aa (aI 0 t.tx cx (sv 0)) af)) (sgN nd) (am (bO nd (dM ["at"] cx (a6 rfl (t.tx.b 1) (aa (aI 0 t.tx cx (sv 0)) af)) cr (fun _ _ _ _ nd=>⟨(sgN nd),bH,((B3 (bT cx.comp (sv 0) (sv 2) (fun _ _=>rfl)) (g8 (bY t.tx (fV t hB tg tk) cx.comp (sv 1) (aa (sv 2) (aa (sv 0) af))))))⟩)))))
 (am (aE (dM ["at"] cx (a6 rfl (t.tx.b 1) (aa (aI 0 t.tx cx (sv 0)) af)) cr (fun _ _ _ _ nd=>⟨(sgN nd),(cH (bZ cx.comp.hK (bT cx.comp (sv 0) (sv 1) (fun _ _=>rfl)))),(sv 1)⟩))))))
omit t hB tg tk in
theorem bC{X:Cx}(t:Ty pt pe X.w X.K X.mg)(hB:X.K.In X.base)(tg:TG pt X.K X.mg X.base)(tk:TK pt X.K kc):eO X (T X.K) 4 "reach" ["self","spoiled"] [] aq:=fun c _ hc e=>match c,hc,e with
 |0,_,e=>dm 56 t.tx (jo t hB tg tk) e
 |1,_,e=>dm 57 t.tx (wT t hB tg tk) e
 |2,_,e=>dm 58 t.tx (wT t hB tg tk) e
 |3,_,e=>dm 59 t.tx (wT t hB tg tk) e
 |4,_,e=>dm 60 t.tx (jo t hB tg tk) e
 |5,_,e=>dm 61 t.tx (jo t hB tg tk) e
 |6,_,e=>dm 62 t.tx (jo t hB tg tk) e
 |7,_,e=>dm 63 t.tx (jo t hB tg tk) e
 |9,_,e=>dm 64 t.tx (jo t hB tg tk) e
 |10,_,e=>dm 65 t.tx (jo t hB tg tk) e
 |8,_,e=>nomatch e
 |_+11,h,_=>dno (n:=11) h
theorem w4:OkF pt hA P w K mg base 1 60 yn:=okC 60 t.tx fun _ _ _ _ _ _ cx nd=>
 (am (ce 7 t.tx cx hB b9 (aa (b0) af)))
theorem D2:OkF pt hA P w K mg base 1 61 yC:=okC 61 t.tx fun _ _ _ _ _ _ cx nd=>
 (am (aE (ai)))
theorem GV:OkF pt hA P w K mg base 1 62 Ew:=okC 62 t.tx fun _ _ _ _ _ _ cx nd=>
 (am (aE (dW (dW (aI 0 t.tx cx (sv 0)) (ai)) (sv 1))))
theorem GY:OkF pt hA P w K mg base 1 63 EA:=okC 63 t.tx fun _ _ _ _ _ _ cx nd=>
 (am (e9 rfl (Or.inl rfl)))
omit t hB tg tk in
theorem gj{X:Cx}(t:Ty pt pe X.w X.K X.mg)(hB:X.K.In X.base)(tg:TG pt X.K X.mg X.base)(tk:TK pt X.K kc):eO X (T X.K) 1 "rank" ["self","at"] [] cf:=fun c _ hc e=>match c,hc,e with
 |1,_,e=>dm 66 t.tx (D2 t hB tg tk) e
 |2,_,e=>dm 67 t.tx (GV t hB tg tk) e
 |3,_,e=>dm 68 t.tx (GY t hB tg tk) e
 |0,_,e|4,_,e|5,_,e|6,_,e|7,_,e|8,_,e|9,_,e|10,_,e=>nomatch e
 |_+11,h,_=>dno (n:=11) h
theorem oN:OkF pt hA P w K mg base 1 64 n4:=okC 64 t.tx fun _ _ _ _ _ _ cx nd=>
 (ah (bO nd (ai))
 (ah (dg cx.po cx.calm (d_ rfl (t.tx.b 1) (aa (sv 1) af)) (sgN nd) (am (bO nd (dX (sv 2) (sv 0)))))
 (am (e9 rfl (Or.inl rfl)))))
theorem wU:OkF pt hA P w K mg base 7 65 o7:=okC 65 t.tx fun _ _ _ _ _ _ cx nd=>
 (am (aE (lA cx.hK cx.calm rfl (t.tx.b 12) (dM ["at"] cx (cw cx.hK (bY t.tx (au t hB tg tk) cx (sv 0) (aa (sv 1) af))) cr (fun _ _ _ _ nd=>⟨(sgN nd),bH,(bw t.tx (oN t hB tg tk) cx.comp (aa (ai) (aa (bY t.tx (gj t hB tg tk) cx.comp (sv 0) (aa (sv 1) af)) af)))⟩)))))
theorem tB:OkF pt hA P w K mg base 6 66 qp:=okC 66 t.tx fun _ _ _ _ _ _ cx nd=>
 (ah (dq ["at"] cx nd (a6 rfl (t.tx.b 1) (aa (aI 0 t.tx cx (sv 0)) af)) cr (fun _ _ _ _ nd=>⟨(sgN nd),bH,(bY t.tx (bI t hB tg tk) cx.comp (sv 0) (aa (sv 1) (aa (sv 2) af)))⟩))
 (ah (bO nd (aP (aI 0 t.tx cx (sv 0)) (ai)))
 (ah (bO nd (ai))
 (ah (dg cx.po cx.calm (d_ rfl (t.tx.b 1) (aa (aI 3 t.tx cx (sv 0)) af)) (sgN nd) (ah (dq ["cell", "due"] cx nd (oE cx.hK rfl (t.tx.b 13) (aa (sv 1) (aa (sv 2) af))) (kQ (d6 cr (d6 cr jy))) (fun _ _ _ _ nd=>⟨(ly cx.comp.hK cx.comp.calm (dL nd rfl (Or.inl rfl) (dL nd rfl (Or.inl rfl) jE))),(cH (SW.st (fB (cE cx.comp.hK cx.comp.hu (sv 1) (sv 0)) (et (gI (sv 2) (sv 0)))))),(sv 1)⟩))
 (ah (dq ["cell", "due"] cx nd (oE cx.hK rfl (t.tx.b 13) (aa (sv 1) (aa (sv 2) af))) (kQ (d6 cr (d6 cr jy))) (fun _ _ _ _ nd=>⟨(ly cx.comp.hK cx.comp.calm (dL nd rfl (Or.inl rfl) (dL nd rfl (Or.inl rfl) jE))),(cH (SW.st (fB (gI (sv 1) (sv 0)) (et (cE cx.comp.hK cx.comp.hu (sv 2) (sv 0)))))),(sv 1)⟩))
 (am (bO nd (aP (dX (aP (dX (sv 4) (sv 3)) (b_ cx.hK rfl (t.tx.b 0) (sv 6))) (sv 3)) (b_ cx.hK rfl (t.tx.b 0) (sv 7))))))))
 (am (e9 rfl (Or.inl rfl)))))))
theorem DM:OkF pt hA P w K mg base 1 67 yk:=okC 67 t.tx fun _ _ _ _ _ _ cx nd=>
 (ah (dq ["other"] cx nd (a6 rfl (t.tx.b 1) (aa (b_ cx.hK rfl (t.tx.b 0) (sv 0)) af)) cr (fun _ _ _ _ nd=>⟨(sgN nd),(cH (Cs cx.comp.hK cx.comp.hu (ux (aa (bT cx.comp (sv 0) (sv 2) (fun _ _=>rfl)) (aa (sv 2) af))) (ux (aa (bT cx.comp (sv 0) (sv 1) (fun _ _=>rfl)) (aa (sv 1) af))))),(sv 2)⟩))
 (am (aE (b_ cx.hK rfl (t.tx.b 0) (sv 2)))))
omit t hB tg tk in
theorem j_{X:Cx}(t:Ty pt pe X.w X.K X.mg)(hB:X.K.In X.base)(tg:TG pt X.K X.mg X.base)(tk:TK pt X.K kc):eO X (T X.K) 6 "measure" ["self","cells"] [] gH:=fun c _ hc e=>match c,hc,e with
 |5,_,e=>dm 69 t.tx (tB t hB tg tk) e
 |0,_,e|1,_,e|2,_,e|3,_,e|4,_,e|6,_,e|7,_,e|8,_,e|9,_,e|10,_,e=>nomatch e
 |_+11,h,_=>dno (n:=11) h
theorem G7:OkF pt hA P w K mg base 7 68 BA:=okC 68 t.tx fun _ _ _ _ _ _ cx nd=>
 (ah (bO nd (bY t.tx (gC t hB tg tk) cx (sv 0) (aa (sv 1) af)))
 (ah (bO nd (bY t.tx (fD t hB tg tk) cx (sv 0) (aa (sv 1) af)))
 (ah (dq ["at"] cx nd (a6 rfl (t.tx.b 1) (aa (aI 0 t.tx cx (sv 0)) af)) cr (fun _ _ _ _ nd=>⟨(sgN nd),(cH (iB cx.comp.hK cx.comp.hu (bT cx.comp (sv 0) (sv 3) (fun _ _=>rfl)) (bY t.tx (fW t hB tg tk) cx.comp (sv 1) (aa (sv 2) (aa (sv 3) af))))),(sv 3)⟩))
 (ah (dq ["at"] cx nd (cw cx.hK (sv 4)) cr (fun _ _ _ _ nd=>⟨(sgN nd),bH,(bw t.tx (oN t hB tg tk) cx.comp (aa (ai) (aa (bw t.tx (DM t hB tg tk) cx.comp (aa (sv 0) (aa (sv 1) af))) af)))⟩))
 (am (aE (aP (dX (bY t.tx (j_ t hB tg tk) cx (aI 9 t.tx cx (sv 0)) (aa (sv 2) af)) (bw t.tx (oN t hB tg tk) cx (aa (ai) (aa (aI 0 t.tx cx (sv 0)) af)))) (lA cx.hK cx.calm rfl (t.tx.b 12) (sv 5)))))))))
theorem DB:OkF pt hA P w K mg base 1 69 ye:=okC 69 t.tx fun _ _ _ _ _ _ cx nd=>
 (ah (bO nd (ai))
 (ah (jA cx.po (SW.st (fB (fh (sv 1) (b_ cx.hK rfl (t.tx.b 0) (sv 0))) (et (cE cx.hK cx.hu (bT cx (sv 0) (sv 1) (fun _ _=>rfl)) (bT cx (sv 0) (ai) (fun _ _=>rfl)))))) (am (bO nd (aP (sv 1) (ai)))))
 (am (e9 rfl (Or.inl rfl)))))
theorem G2:OkF pt hA P w K mg base 2 70 EE:=okC 70 t.tx fun _ _ _ _ _ _ cx nd=>
 (ah (a9 (v4 cx.hK cx.hu2 (bT cx (sv 0) (ai) (fun _ _=>rfl)) (eB cx.hK (sv 0) (fe (bw t.tx (DB t hB tg tk) cx (aa (sv 0) af))) gh)) (am (aE (ai))) aN)
 (ah (bO nd (ai))
 (ah (jA cx.po (jb cx.hK cx.hu2 (bK (aP (bT cx (sv 0) (ai) (fun _ _=>rfl)) (sv 2)) (sv 1)) (eB cx.hK (sv 0) (fe (ai)) gh)) (am (bO nd (aP (sv 2) (ai)))))
 (am (e9 rfl (Or.inl rfl))))))
theorem G8:OkF pt hA P w K mg base 7 71 BB:=okC 71 t.tx fun _ _ _ _ _ _ cx nd=>
 (ah (dq ["at"] cx nd (cw cx.hK (bY t.tx (au t hB tg tk) cx (sv 0) (aa (sv 1) af))) cr (fun _ _ _ _ nd=>⟨(sgN nd),(cH (iB cx.comp.hK cx.comp.hu (sv 1) (ai))),(dW (aI 0 t.tx cx.comp (sv 0)) (sv 1))⟩))
 (am (aE (aP (dX (aI 0 t.tx cx (sv 0)) (bw t.tx (G2 t hB tg tk) cx (aa (sv 1) (aa (aI 7 t.tx cx (sv 0)) af)))) (lA cx.hK cx.calm rfl (t.tx.b 12) (sv 2))))))
omit t hB tg tk in
theorem cA{X:Cx}(t:Ty pt pe X.w X.K X.mg)(hB:X.K.In X.base)(tg:TG pt X.K X.mg X.base)(tk:TK pt X.K kc):eO X (T X.K) 7 "measure" ["self","cells"] [] aA:=fun c _ hc e=>match c,hc,e with
 |0,_,e=>dm 70 t.tx (w4 t hB tg tk) e
 |1,_,e=>dm 71 t.tx (wU t hB tg tk) e
 |2,_,e=>dm 72 t.tx (wU t hB tg tk) e
 |3,_,e=>dm 73 t.tx (wU t hB tg tk) e
 |4,_,e=>dm 74 t.tx (tB t hB tg tk) e
 |5,_,e=>dm 69 t.tx (tB t hB tg tk) e
 |6,_,e=>dm 75 t.tx (tB t hB tg tk) e
 |7,_,e=>dm 76 t.tx (G7 t hB tg tk) e
 |9,_,e=>dm 77 t.tx (G8 t hB tg tk) e
 |10,_,e=>dm 78 t.tx (w4 t hB tg tk) e
 |8,_,e=>nomatch e
 |_+11,h,_=>dno (n:=11) h
theorem iO:OkF pt hA P w K mg base 7 72 f7:=okC 72 t.tx fun _ _ _ _ _ _ cx nd=>
 (am (aE (jd cx.hK cx.hu (b_ cx.hK rfl (t.tx.b 0) (bY t.tx (au t hB tg tk) cx (sv 0) (aa (sv 1) af))) (ai))))
theorem DT:OkF pt hA P w K mg base 7 73 ue:=okC 73 t.tx fun _ _ _ _ _ _ cx nd=>
 (am (aE (jd cx.hK cx.hu (b_ cx.hK rfl (t.tx.b 0) (bY t.tx (au t hB tg tk) cx (sv 0) (aa (sv 1) af))) (ai))))
theorem G4:OkF pt hA P w K mg base 7 74 Bz:=okC 74 t.tx fun _ _ _ _ _ _ cx nd=>
 (am (aE (jd cx.hK cx.hu (b_ cx.hK rfl (t.tx.b 0) (bY t.tx (au t hB tg tk) cx (sv 0) (aa (sv 1) af))) (aI 12 t.tx cx (sv 0)))))
omit t hB tg tk in
theorem eD{X:Cx}(t:Ty pt pe X.w X.K X.mg)(hB:X.K.In X.base)(tg:TG pt X.K X.mg X.base)(tk:TK pt X.K kc):eO X (T X.K) 7 "calm" ["self","cells"] [] aF:=fun c _ hc e=>match c,hc,e with
 |0,_,e=>dm 79 t.tx (iO t hB tg tk) e
 |1,_,e=>dm 80 t.tx (iO t hB tg tk) e
 |2,_,e=>dm 81 t.tx (iO t hB tg tk) e
 |3,_,e=>dm 82 t.tx (iO t hB tg tk) e
 |4,_,e=>dm 83 t.tx (iO t hB tg tk) e
 |5,_,e=>dm 84 t.tx (iO t hB tg tk) e
 |6,_,e=>dm 85 t.tx (iO t hB tg tk) e
 |7,_,e=>dm 86 t.tx (iO t hB tg tk) e
 |9,_,e=>dm 87 t.tx (DT t hB tg tk) e
 |10,_,e=>dm 88 t.tx (G4 t hB tg tk) e
 |8,_,e=>nomatch e
 |_+11,h,_=>dno (n:=11) h
theorem oO:OkF pt hA P w K mg base 8 75 n5:=okC 75 t.tx fun _ _ _ _ _ _ cx nd=>
 (ah (bO nd (ai))
 (ah (a9 (eR (bZ cx.hK (kT cx.hK t.tx.cl (tk.at 3) rfl (t.tx.b 9) a5 rfl (t.tx.cg 10) (sv 0)))) (am (bO nd (bY t.tx (cA t hB tg tk) cx (sv 0) (aa (sv 1) af)))) aN)
 (am (aE (c_ (aa (bY t.tx (au t hB tg tk) cx (sv 0) (aa (sv 1) af)) (aa (bY t.tx (eD t hB tg tk) cx (sv 0) (aa (sv 1) af)) (aa (bY t.tx (aX t hB tg tk) cx (sv 0) (aa (sv 1) (aa (c_ (aa (ai) af)) af))) (aa (sv 2) af)))))))))
theorem Dv:OkF pt hA P w K mg base 9 76 ya:=okC 76 t.tx fun _ _ _ _ _ _ cx nd=>
 (ah (bO nd (cQ cx.hK rfl (t.tx.b 7) ck (sv 1)))
 (ah (bO nd (bw t.tx (oO t hB tg tk) cx (aa (sv 0) (aa (sv 2) af))))
 (ah (jB rfl (Or.inl rfl) (lC (ai)) (bK (aP (bT cx (sv 2) (lC (ai)) (fun _ _=>rfl)) (ai)) (aI 7 t.tx cx (sv 0))))
 (ah (bO nd (bw t.tx (oO t hB tg tk) cx (aa (sv 0) (aa (sv 2) af))))
 (am (aE ((gw (jd cx.hK cx.hu (bw t.tx (oO t hB tg tk) cx (aa (sv 0) (aa (cQ cx.hK rfl (t.tx.b 7) ck (sv 1)) af))) (sv 3)) (g8 (jd cx.hK cx.hu (bw t.tx (oO t hB tg tk) cx (aa (sv 0) (aa (cQ cx.hK rfl (t.tx.b 7) ck (sv 2)) af))) (sv 4)))))))))))
theorem DF:OkF pt hA P w K mg base 10 77 yh:=okC 77 t.tx fun _ _ _ _ _ _ cx nd=>
 (ah (bO nd (bY t.tx (au t hB tg tk) cx (sv 0) (aa (cQ cx.hK rfl (t.tx.b 7) ck (sv 1)) af)))
 (ah (bO nd (cQ cx.hK rfl (t.tx.b 7) ck (sv 3)))
 (ah (pR cx (ai))
 (ah (bO nd (bY t.tx (bC t hB tg tk) cx (sv 0) (aa (c_ af) af)))
 (ah (pR cx (ai))
 (am (aE ((gw (bw t.tx (ib t hB tg tk) cx (aa (bY t.tx (au t hB tg tk) cx (sv 0) (aa (cQ cx.hK rfl (t.tx.b 7) ck (sv 1)) af)) (aa (sv 4) af))) (gw (jd cx.hK cx.hu (sv 5) (aP (sv 2) (c_ (aa (ai) af)))) (g8 (bw t.tx (Dv t hB tg tk) cx (aa (sv 0) (aa (sv 1) af))))))))))))))
theorem DS:OkF pt hA P w K mg base 2 78 yt:=okC 78 t.tx fun _ _ _ _ _ _ cx nd=>
 (am (aE (dW (bw t.tx (oN t hB tg tk) cx (aa (ai) (aa (aI 0 t.tx cx (sv 0)) af))) (ai))))
omit t hB tg tk in
theorem jf{X:Cx}(t:Ty pt pe X.w X.K X.mg)(hB:X.K.In X.base)(tg:TG pt X.K X.mg X.base)(tk:TK pt X.K kc):eO X (T X.K) 2 "most" ["self"] [] f9:=fun c _ hc e=>match c,hc,e with
 |1,_,e=>dm 89 t.tx (DS t hB tg tk) e
 |0,_,e|2,_,e|3,_,e|4,_,e|5,_,e|6,_,e|7,_,e|8,_,e|9,_,e|10,_,e=>nomatch e
 |_+11,h,_=>dno (n:=11) h
theorem DD:OkF pt hA P w K mg base 3 79 yf:=okC 79 t.tx fun _ _ _ _ _ _ cx nd=>
 (am (aE (B5 t.tx (jf t hB tg tk) cx (sv 0))))
omit t hB tg tk in
theorem mV{X:Cx}(t:Ty pt pe X.w X.K X.mg)(hB:X.K.In X.base)(tg:TG pt X.K X.mg X.base)(tk:TK pt X.K kc):eO X (T X.K) 3 "soon" ["self","count"] [] jr:=fun c _ hc e=>match c,hc,e with
 |1,_,e=>dm 90 t.tx (DD t hB tg tk) e
 |0,_,e|2,_,e|3,_,e|4,_,e|5,_,e|6,_,e|7,_,e|8,_,e|9,_,e|10,_,e=>nomatch e
 |_+11,h,_=>dno (n:=11) h
theorem DA:OkF pt hA P w K mg base 8 80 yd:=okC 80 t.tx fun _ _ _ _ _ _ cx nd=>
 (ah (dg cx.po cx.calm (d_ rfl (t.tx.b 1) (aa (aI 0 t.tx cx (sv 0)) af)) (sgN nd) (am (a9 (SW.st (gg (eR (bZ cx.hK (bw t.tx (ib t hB tg tk) cx (aa (bY t.tx (cD t hB tg tk) cx (sv 0) (aa (sv 3) af)) (aa (c_ af) af))))) (er (eR (bZ cx.hK (bw t.tx (ib t hB tg tk) cx (aa (c_ (aa (bY t.tx (gj t hB tg tk) cx (sv 0) (aa (sv 3) af)) af)) (aa (c_ (aa (ai) af)) af)))))))) (am (aE (ee))) aN)))
 (ah (bO nd (dW (CF (ai) (aI 0 t.tx cx (sv 0))) (ai)))
 (ah (a9 (eR (bZ cx.hK (bw t.tx (ib t hB tg tk) cx (aa (c_ (aa (bY t.tx (cA t hB tg tk) cx (sv 0) (aa (cQ cx.hK rfl (t.tx.b 7) ck (sv 1)) af)) (aa (B5 t.tx (jf t hB tg tk) cx (sv 0)) (aa (bY t.tx (mV t hB tg tk) cx (sv 0) (aa (b_ cx.hK rfl (t.tx.b 0) (sv 2)) af)) af)))) (aa (c_ (aa (ai) (aa (sv 4) (aa (sv 4) af)))) af))))) (am (aE (ee))) aN)
 (am (aE (bw t.tx (ib t hB tg tk) cx (aa (bY t.tx (bC t hB tg tk) cx (sv 0) (aa (cQ cx.hK rfl (t.tx.b 7) ck (sv 2)) af)) (aa (dM ["_law_at"] cx (a6 rfl (t.tx.b 1) (aa (aI 0 t.tx cx (sv 0)) af)) cr (fun _ _ _ _ nd=>⟨(sgN nd),(cH (jb cx.comp.hK cx.comp.hu2 (sv 1) (sv 0))),(sv 1)⟩)) af))))))))
theorem D4:OkF pt hA P w K mg base 12 81 Ce:=okC 81 t.tx fun _ _ _ _ _ _ cx nd=>
 (ah (bO nd (bw t.tx (oP t hB tg tk) cx (aa (sv 0) (aa (ai) af))))
 (ah (bO nd (bK (sv 1) (ai)))
 (ah (bO nd (aP (ai) (bK (dH (sv 1) (ai)) (ai))))
 (ah (bO nd (bw t.tx (Du t hB tg tk) cx (aa (sv 2) (aa (sv 3) (aa (bK (bw t.tx (oP t hB tg tk) cx (aa (sv 0) (aa (ai) af))) (rC (ai) (ai))) (aa (bK (bw t.tx (oP t hB tg tk) cx (aa (sv 0) (aa (ai) af))) (rC (ai) (ai))) af))))))
 (ah (a9 (eR (bZ cx.hK (bw t.tx (Ds t hB tg tk) cx (aa (sv 2) (aa (sv 4) af))))) (am (aE (ee))) aN)
 (ah (dq ["_law_at"] cx nd (a6 rfl (t.tx.b 1) (aa (aI 0 t.tx cx (sv 4)) af)) cr (fun _ _ _ _ nd=>⟨(sgN nd),bH,(bK (bw t.tx (oP t hB tg tk) cx.comp (aa (sv 0) (aa (aP (ai) (sv 2)) af))) (aI 7 t.tx cx.comp (sv 1)))⟩))
 (ah (dg cx.po cx.calm (gZ cx.hK (aP (c_ (aa (ai) (aa (ai) af))) (eB cx.hK (sv 0) (fe (ai)) (fe (ai))))) (sgN nd) (ah (a9 (eR (bZ cx.hK (bw t.tx (DE t hB tg tk) cx (aa (sv 4) (aa (sv 5) (aa (sv 6) af)))))) (am (aE (ee))) aN)
 (am (jB rfl (Or.inl rfl) (bK (sv 6) (aI 0 t.tx cx (sv 4))) (bK (dH (sv 6) (ai)) (aI 7 t.tx cx (sv 4)))))))
 (ah (bO nd (nH cx.calm rfl (t.tx.b 7) ck rfl (t.tx.b 1) (aa (aI 0 t.tx cx (sv 4)) af)))
 (ah (a9 (jb cx.hK cx.hu2 (sv 2) (c_ (aa (ai) (aa (ai) (aa (ai) af))))) (am (bO nd (c_ af))) aN)
 (ah (bO nd (bw t.tx (wX t hB tg tk) cx (aa (aI 0 t.tx cx (sv 4)) (aa (ee) (aa (dH (sv 1) (ai)) af)))))
 (ah (a9 (SW.st (gg (eR (bZ cx.hK (bw t.tx (DF t hB tg tk) cx (aa (sv 4) (aa (sv 5) (aa (sv 7) af)))))) (er (eR (bZ cx.hK (bw t.tx (ib t hB tg tk) cx (aa (bY t.tx (bC t hB tg tk) cx (sv 4) (aa (c_ af) af)) (aa (sv 7) af)))))))) (am (aE (ee))) aN)
 (ah (a9 (SW.st (fB (iB cx.hK cx.hu (sv 7) (c_ af)) (et (eR (bZ cx.hK (bw t.tx (ib t hB tg tk) cx (aa (bY t.tx (bC t hB tg tk) cx (sv 4) (aa (cQ cx.hK rfl (t.tx.b 7) ck (sv 8)) af)) (aa (sv 7) af)))))))) (am (aE (ee))) aN)
 (am (aE ((B3 (sO cx.hK cx.hu (sv 2) (ai)) (g8 (bw t.tx (DA t hB tg tk) cx (aa (sv 4) (aa (sv 5) (aa (Ak (sv 8) (ai)) af)))))))))))))))))))))
end
end G
namespace G
open PySem L2 PR
variable{n i r k cc j:Nat}{ps ex ws:JF}{f fc g h fl:Fl}{cs l b hs a c ft ot:JI}{os:List (JM)}{sp st tp at_ x:Int}{env:En}{o:PV}{al:Bool}{p:Fl->Bool}{m:ME}
def rJ(n k:Int)(h1:k<=n)(h2:n<=10):yj [.int n,.int k]=.ok .non:=by refine nK (e:=[some (.int n),some (.int k)]) ?_;show zr [some (.int n),some (.int k)]=_;unfold zr;exact bF (by simp;rw[if_neg (by omega),decide_eq_false (by omega)]) az
def rP(g:vO n ws)(hf:fl.JS=fl)(hl:fl.JX=false):yB [.int n,.lst fl (prL ws)]=.ok (.lst .own (prL (cP (ws.map mm)))):=by
 refine ay (v:=.lst .own (prL (cP (ws.map mm)))) ?_;show zN [some (.int n),some (.lst fl (prL ws)),none,none,none]=_;unfold zN;refine ae (aC (v:=.lst .own []) (by simp)) ?_;simp only[s0_,s1_];refine g7 (fun k e=>∃c d,e=[some (.int n),some (.lst fl (prL ws)),some (.lst .own (prL ((ws.take k).map mm))),c,d]) (xs:=prL ws) (c9 (by simp[hf]) hl (by simp) (by simp)) ⟨_,_,rfl⟩ (fun k x e hx hP=>?_) (fun e hP=>?_)
 ·obtain⟨c,d,rfl⟩:=hP;rw[AK]at hx;obtain⟨w,hw,rfl⟩:∃w,ws[k]?=some w/\x=prV w:=by
   cases e:ws[k]? with
   |none=>rw[e]at hx;cases hx
   |some w=>rw[e]at hx;cases hx;exact⟨w,rfl,rfl⟩
  have hk:k<ws.length:=(List.getElem?_eq_some_iff.mp hw).1;obtain⟨r1,r2,r3,r4,r5⟩:=g.rg w (List.mem_of_getElem? hw);have hn:((ws.take k).map mm).contains (mm w)=false:=by
   rw[eq_false_iff];intro z;have z':mm w ∈(ws.take k).map mm:=by simpa using z
   have nd:=g.nd;rw[<- List.take_append_drop k ws,List.map_append,nodup_append]at nd;refine nd.2.2 _ z' (mm w) (List.mem_map_of_mem ?_) rfl;rw[List.drop_eq_getElem_cons hk];obtain⟨_,e⟩:=List.getElem?_eq_some_iff.mp hw;rw[e];exact mem_cons_self
  have hn':mm w ∉(ws.map mm).take k:=by rw[<- List.map_take];simpa using hn
  have ht:(ws.take (k+1)).map mm=(ws.take k).map mm++[mm w]:=by rw[take_add_one,hw];simp
  have hz:=g.sz;refine⟨_,cV rfl,eJ (aC (v:=prV (mm w)) (by simp[p1,Co,mm])) ?_⟩;simp only[s0_,s1_];refine eJ (bF (by simp[mm];rw[if_neg (by omega),decide_eq_false (by omega)]) az) ?_;refine eJ (bF (by simp[mm];omega) az) ?_;refine eJ (bF (by simp only[la,gQ,dC];simp[hn']) az) ?_;refine cG (eY (v:=prV (mm w)) (xs:=prL ((ws.take k).map mm)) (by simp) rfl (by simp) (by simp;omega)) ⟨some (prV w),some (prV (mm w)),?_⟩;simp only[s0_,s1_];rw[ht,<- AL];rfl
 ·obtain⟨c,d,rfl⟩:=hP;refine aU ?_ (by simp);have e:ws.take (prL ws).length=ws:=by rw[sY,take_length]
  simp only[e];simp[p1,q9 (f:=.lnt) (ps:=ws.map mm) (by simpa using g.sz) g.nd]
def ky(a:Int):∀(ps:JF),(∀x∈ps,x.1≠x.2)->(ps.filter fun x=>decide (x.2=a)).length+(ps.filter fun x=>decide (x.1=a)).length<=ps.length
 | [],_=>Nat.le_refl _
 |x::ps,h=>by
  have:=ky a ps fun y hy=>h y (mem_cons_of_mem _ hy);have hx:=h x mem_cons_self;rw[filter_cons,filter_cons];by_cases h1:x.2=a
  ·have h2:x.1≠a:=fun z=>hx (z.trans h1.symm);simp[h1,h2];omega
  ·by_cases h2:x.1=a
   ·simp[h1,h2];omega
   ·simp[h1,h2];omega
def xh(ps:JF)(a:Int)(h:ps.length<64)(hne:∀x∈ps,x.1≠x.2):t7 [.tup (prL ps),.int a]=.ok (.lst .own (iL (nbL ps a))):=by
 refine ay (v:=.lst .own (iL (nbL ps a))) ?_;show zl [some (.tup (prL ps)),some (.int a),none,none]=_;unfold zl;refine ae (aC (v:=.lst .own (iL ((ps.filter fun x=>decide (x.2=a)).map (·.1)))) ?_) ?_
 ·refine aR (xs:=prL ps) (by simp) (by simp;omega) ?_;unfold iL prL;rw[map_map];exact cL (a:=prV) (f:=PV.int ∘ Prod.fst) (p:=fun x=>decide (x.2=a)) ps fun x _=>⟨[some (.int a),some (prV x)],by simp[tgN,aT,bW],by simp,fun _=>⟨by simp,rfl,rfl⟩⟩
 simp only[s0_,s1_];refine ae (aC (v:=.lst .own (iL ((ps.filter fun x=>decide (x.1=a)).map (·.2)))) ?_) ?_
 ·refine aR (xs:=prL ps) (by simp) (by simp;omega) ?_;rw[show iL ((ps.filter fun x=>decide (x.1=a)).map (·.2))=(ps.filter fun x=>decide (x.1=a)).map (PV.int ∘ Prod.snd)from map_map ..];exact cL (a:=prV) (f:=PV.int ∘ Prod.snd) (p:=fun x=>decide (x.1=a)) ps fun x _=>⟨[some (.int a),some (prV x)],by simp[tgN,aT,bW],by simp,fun _=>⟨by simp,rfl,rfl⟩⟩
 simp only[s0_,s1_];refine aU ?_ (by simp);have h1:=ky a ps hne;simp only[fg,cj,gQ,dC,cX];simp[p1];rw[fk (by decide) (by decide) (by simp;omega)];simp;rw[uu _ (by simp;omega)];rfl
abbrev net(fl:Fl)(n:Nat)(ps:JF):PV:=.obj fl 8 [0,1,2] [.int n,.tup (prL ps),.tup ((range n).map fun k:Nat=>.tup (iL (nbL ps k)))]
@[simp] def Ig:hasL p ((range n).map fun k:Nat=>PV.tup (iL (nbL ps k)))=false:=by
 induction range n with
 |nil=>rfl
 |cons a l ih=>simp[hasL,PV.has,ih]
@[simp] def Ie{g:Fl->Fl}:mapL g ((range n).map fun k:Nat=>PV.tup (iL (nbL ps k)))=(range n).map fun k:Nat=>PV.tup (iL (nbL ps k)):=by
 induction range n with
 |nil=>rfl
 |cons a l ih=>simp[mapL,PV.J0,ih]
def vJ(hk:k<n):t8 [net .bor n ps,.int k]=.ok (.lst .own (iL (nbL ps k))):=by
 refine ay (v:=.lst .own (iL (nbL ps k))) ?_;show qN [some (net .bor n ps),some (.int k)]=_;unfold qN;refine aU ?_ (by simp);have e:aQ (.tup ((range n).map fun k:Nat=>PV.tup (iL (nbL ps k)))) (.int k)=.ok (.tup (iL (nbL ps k))):=by
  have hk':((range n).map fun k:Nat=>PV.tup (iL (nbL ps k)))[k]?=some (.tup (iL (nbL ps k))):=by simp[hk]
  exact ip rfl hk' (by simp[PV.has])
 simp[ap,bL,p1,b7,e,aM]
def pH(ps:JF)(i j:Nat):Prop:=((i:Int),(j:Int))∈ ps \/((j:Int),(i:Int))∈ ps
def Ev(hr:r<n)(hn:n<=10)(g:∀x∈ps,0<=x.1/\x.1<n/\0<=x.2/\x.2<n) :
  ∃far,tY [net .bor n ps,.int r]=.ok (.lst .own (iL far))/\sK n r (pH ps) far:=by
 have a0:ap 0 (net .bor n ps)=.ok (.int n):=by simp[ap,bL]
 have end_:∀e:En,(∃far a b c,e=[some (net .bor n ps),some (.int r),some (.lst .own (iL far)),a,b,c]/\Far n r (pH ps) n 0 (fun _=>False) far)->∃far,fX 2 e=.ret (.lst .own (iL far))/\sK n r (pH ps) far:=fun e ⟨far,a,b,c,he,F⟩=>⟨far,by subst he;exact iH rfl,F.dist⟩
 let P:Nat->En->Prop:=fun s e=>∃far a b c,e=[some (net .bor n ps),some (.int r),some (.lst .own (iL far)),a,b,c]/\Far n r (pH ps) s 0 (fun _=>False) far
 have loop:∃e2,dv (bM (ad (mUn (ap 0) (ac 0)) ak)) (tgN 3)
   (dv (bM (ad (mUn (ap 0) (ac 0)) ak)) (tgN 4)
   (mBr (aw (mOp pEq (mOp aQ (ac 2) (ac 4)) (ac 3)))
   (dv (dO (bB b8 (ac 0) (ad (ac 4) ak))) (tgN 5)
   (im 2 (ac 5) (ar (fC min) (ad (mOp aQ (ac 2) (ac 5)) (ad (mOp aK (ac 3) (J3 1)) ak)))))
   aS)) [some (net .bor n ps),some (.int r),some (.lst .own (iL (((range n).map fun _=>(n:Int)).set r 0))),none,none,none]=.next e2/\P (cC 0 n).length e2:=by
  refine jU P (bD (n:=n) (by simp[a0]) (by omega)) ⟨_,_,_,_,rfl,Far.start hr (fun i hi=>?_) (by simp)⟩ (fun s x e hx hP=>?_)
  ·rw[xR _ (by simpa using hr)];simp[gt,hi]
  ·obtain⟨far,a,b,c,rfl,F⟩:=hP;obtain⟨hs,rfl⟩:=fS hx
   suffices kx _ _ by obtain⟨e2,h1,h2⟩:=this;exact⟨_,e2,cV rfl,h1,h2⟩
   refine kn (fun k e=>∃far b c,e=[some (net .bor n ps),some (.int r),some (.lst .own (iL far)),some (.int (0+(s:Int))),b,c]/\Far n r (pH ps) s k (fun _=>False) far) (bD (n:=n) (by simp[a0]) (by omega)) ⟨_,_,_,rfl,F⟩ (fun k x e hx hP=>?_) (fun e hP=>?_)
   ·obtain⟨far,b,c,rfl,F⟩:=hP;obtain⟨hk,rfl⟩:=fS hx;have ix:∀ (f:Fl) (i:Nat),i < n->aQ (.lst f (iL far)) (.int i)=.ok (.int (gt far i)):=fun f i hi=>jT _ (by omega) (by
     have:i<far.length:=by rw[F.len];exact hi
     simp[gt,this])
    refine⟨_,cV rfl,?_⟩;simp only[s0_,s1_];by_cases hv:gt far k=s
    ·refine vt (by simp[ix _ k hk,hv]) ?_;have nbs:∀o∈nbL ps k,∃j:Nat,o=j/\j<n/\pH ps j k:=fun o ho=>by
      rcases oU.mp ho with q|q
      ·have:=g _ q;exact⟨o.toNat,by omega,by omega,.inl (by rw[show((o.toNat:Nat):Int)=o by omega];exact q)⟩
      ·have:=g _ q;exact⟨o.toNat,by omega,by omega,.inr (by rw[show((o.toNat:Nat):Int)=o by omega];exact q)⟩
     refine kn (fun q e=>∃far c,e=[some (net .bor n ps),some (.int r),some (.lst .own (iL far)),some (.int (0+(s:Int))),some (.int (0+(k:Int))),c]/\Far n r (pH ps) s k (fun j=>(j:Int)∈(nbL ps k).take q) far/\gt far k=s) (xs:=iL (nbL ps k)) ?_ ⟨far,_,rfl,F.none (by simp),hv⟩ (fun q x e hx hP=>?_) (fun e hP=>?_)
     ·have bk:=vJ (ps:=ps) hk;refine c9 (f:=.own) ?_ rfl (by simp) (by simp);simp[b8,bk,aB]
     ·obtain⟨far,c,rfl,F,hv⟩:=hP;rw[xN]at hx;obtain⟨o,ho,rfl⟩:∃o,(nbL ps k)[q]?=some o/\x=.int o:=by
       cases e:(nbL ps k)[q]? with
       |none=>rw[e]at hx;cases hx
       |some w=>rw[e]at hx;cases hx;exact⟨w,rfl,rfl⟩
      obtain⟨j,rfl,hj,aj⟩:=nbs o (List.mem_of_getElem? ho);have ix:∀ (f:Fl) (i:Nat),i < n->aQ (.lst f (iL far)) (.int i)=.ok (.int (gt far i)):=fun f i hi=>jT _ (by omega) (by
       have:i<far.length:=by rw[F.len];exact hi
       simp[gt,this])
      obtain⟨F',hv'⟩:=F.relax hk hv hj aj hs;refine⟨_,cV rfl,cG (jF (v:=.int (min (gt far j) ((s:Int)+1))) (xs:=iL far) (j:=j) (n:=j) (by simp[ix _ j hj,fC]) rfl (by simp) (kZ (by rw[bv,F.len];exact hj)) (by simp)) ⟨_,some (.int j),?_,?_,hv'⟩⟩
      ·rw[jR];rfl
      ·have e:∀i:Nat,((i:Int)∈(nbL ps k).take (q+1))=((i:Int)∈(nbL ps k).take q\/i=j):=fun i=>by rw[take_add_one,ho];simp;exact or_congr_right ⟨fun h=>by omega,fun h=>by omega⟩
       simp only[e];exact F'
     ·obtain⟨far,c,rfl,F,hv⟩:=hP;refine⟨far,_,_,rfl,F.close fun j hj a=>?_⟩;rw[bv,take_length];exact oU.mpr (a.elim .inr .inl)
    ·refine vv (by simp[ix _ k hk,hv]) (cG az ⟨far,_,_,rfl,F.skip hv⟩)
   ·obtain⟨far,b,c,rfl,F⟩:=hP;rw[bu]at F;exact⟨far,_,_,_,rfl,F.next⟩
 obtain⟨e2,h1,h2⟩:=loop;rw[bu]at h2;obtain⟨far,h3,h4⟩:=end_ e2 h2;refine⟨far,ay (v:=.lst .own (iL far)) ?_,h4⟩;show za [some (net .bor n ps),some (.int r),none,none,none,none]=_;unfold za;refine ae (aC (v:=.lst .own (iL ((range n).map fun _=>(n:Int)))) ?_) ?_
 ·refine aR (xs:=cC 0 n) (bD (n:=n) (by simp[a0]) (by omega)) (by rw[bu];omega) ?_;rw[show iL ((range n).map fun _=>(n:Int))=(range n).map (fun _=>PV.int n)from by simp[iL]];exact bN (a:=fun k:Nat=>PV.int (0+(k:Int))) (f:=fun _=>PV.int n) (range n) fun k _=>⟨[some (net .bor n ps),some (.int (0+k))],by simp[tgN,aT,bW,PV.JV],by simp[a0],rfl,rfl⟩
 simp only[s0_,s1_];refine ae (jF (v:=.int 0) (xs:=iL ((range n).map fun _=>(n:Int))) (j:=r) (n:=r) (by simp) rfl (by simp) (kZ (by simpa using hr)) (by simp)) ?_;rw[jR];exact ae h1 h3
def D_{far:JI}{b:Int}(h:far≠[])(hb:∀x∈far,x<b):jN far<b:=hb _ (lR h).1
def Bt(g:vO n ws)(h1:1<=n)(hn:n<=10)(hf:fl.JS.JT=.bor\/fl.JS.JT=.frz)(conn:∀S:Nat->Prop,S 0->(∀i<n,∀j<n,pH (cP (ws.map mm)) i j->S i->S j)->∀i<n,S i) :
  yb [.obj .own 8 [] [],.int n,.lst fl (prL ws)]=.ok (net .own n (cP (ws.map mm))):=by
 have hfl:fl.JS.JT.JS=fl.JS.JT:=by rcases hf with e|e<;>rw[e]<;>rfl
 have hfi:fl.JS.JT.JX=false:=by rcases hf with e|e<;>rw[e]<;>rfl
 have o1:=rP (fl:=fl.JS.JT) g hfl hfi;have rg:∀x∈cP (ws.map mm),0<=x.1/\x.1<n/\0<=x.2/\x.2<n/\x.1≠x.2:=fun x hx=>by obtain⟨w,hw,rfl⟩:=mem_map.mp ((dw _).mem_iff.mp hx);have:=g.rg w hw;simp only[mm];omega
 have sz:(cP (ws.map mm)).length<64:=by rw[(dw _).length_eq,length_map];exact g.sz
 generalize hps:cP (ws.map mm)=ps at *;have nb:∀k:Nat,t7 [.tup (prL ps),.int k]=.ok (.lst .own (iL (nbL ps k))):=fun k=>xh ps k sz fun x hx=>(rg x hx).2.2.2.2;obtain⟨far,e1,D⟩:=Ev (n:=n) (r:=0) (ps:=ps) (by omega) hn fun x hx=>⟨(rg x hx).1,(rg x hx).2.1,(rg x hx).2.2.1,(rg x hx).2.2.2.1⟩
 have hall:=D.all (by omega) conn;have hne:far≠[]:=fun z=>by have:=D.len;rw[z]at this;simp at this;omega
 have hmx:jN far<n:=D_ hne fun x hx=>by obtain⟨i,hi,rfl⟩:=getElem_of_mem hx;have:=hall i (by rw[<- D.len];exact hi);simpa[gt,hi]using this
 refine cz (e:=[some (net .own n ps),some (.int n),some (.lst fl (prL ws))]) ?_ rfl;show y9 [some (.obj .own 8 [] []),some (.int n),some (.lst fl (prL ws))]=_;unfold y9;have rf:=rJ n 1 (by omega) (by omega);refine ae (fL (v:=.non) (by simp[rf,aB])) ?_;refine ae (bE (v:=.int n) (ks:=[]) (vs:=[]) (by simp) rfl (by simp) rfl (by decide)) ?_;simp only[s0_,s1_];refine ae (bE (v:=.tup (prL ps)) (ks:=[0]) (vs:=[.int n]) ?_ rfl (by simp) rfl (by decide)) ?_
 ·simp[o1,aB,p1,dA,aM]
 simp only[s0_,s1_];refine ae (bE (v:=.tup ((range n).map fun k:Nat=>.tup (iL (nbL ps k)))) (ks:=[0,1]) (vs:=[.int n,.tup (prL ps)]) ?_ rfl (by simp) rfl (by decide)) ?_
 ·simp only[fg,cj,cX];rw [aR (xs:=cC 0 n) (ys:=(range n).map fun k:Nat=>.tup (iL (nbL ps k))) (bD (n:=n) (by simp) (by omega)) (by rw [bu];omega)
   (bN (a:=fun k:Nat=>PV.int (0+(k:Int))) (f:=fun k:Nat=>.tup (iL (nbL ps k))) (range n) fun k _=>⟨[some (.obj .bor 8 [0,1] [.int n,.tup (prL ps)]),some (.int (0+k))],by simp[tgN,aT,bW],by simp[ap,bL,nb,aB,p1,dA,aM],by simp[PV.has],by simp[PV.has]⟩)]
  simp[p1,dA,aM]
 simp only[s0_,s1_];refine bF ?_ az;have hi:far.isEmpty=false:=by cases far with|nil=>exact absurd rfl hne|cons a l=>rfl
 have e2:tY [net .bor n ps,.int 0]=.ok (.lst .own (iL far)):=e1;simp[e2,aB,p1,gL,aM,hi];omega
def cell(ns:JI)(k:Nat):Int:=ns.getD k 0
def lm(ns:JI)(k:Nat)(h:Scr fl):jW [.lst fl (iL ns),.int k]=.ok (.int (cell ns k)):=by
 refine ay ?_;show zv [some (.lst fl (iL ns)),some (.int k)]=_;unfold zv cell;by_cases hk:k<ns.length
 ·refine dh (fF (by simp[h.JS,hk]) (aU ?_));simp only[gQ,dC];simp[h.JS];rw[jT ns (by omega) (n:=ns.getD k 0) (by simp[hk])];simp[hk]
 ·refine ae (bF (by simp[h.JS,hk]) az) (aU (by simp[List.getElem?_eq_none (Nat.le_of_not_lt hk)]))
def oV:JM->PV
 |none=>.non
 |some s=>.int s
def oL(os:List (JM)):JQ:=os.map oV
@[simp] def IX(os:List (JM)):(oL os).length=os.length:=by simp[oL]
@[simp] def IY:hasL p (oL os)=false:=by
 induction os with
 |nil=>rfl
 |cons o os ih=>cases o<;>simpa[oL,oV,hasL,PV.has]using ih
@[simp] def IW{g:Fl->Fl}:mapL g (oL os)=oL os:=by
 induction os with
 |nil=>rfl
 |cons o os ih=>cases o<;>simpa[oL,oV,mapL,PV.J0]using ih
@[simp] def I_:PyData.canLayAll0 (dataL (oL os))=true:=by
 induction os with
 |nil=>rfl
 |cons o os ih=>cases o <;>(simp only[oL,map_cons,oV,dataL,PV.data,PyData.canLayAll0]at ih ⊢;rw[ih];rfl)
@[simp] def IZ:PyData.depthAll (dataL (oL os))=0:=by
 induction os with
 |nil=>rfl
 |cons o os ih=>cases o <;>(simp only[oL,map_cons,oV,dataL,PV.data,PyData.depthAll]at ih ⊢;rw[ih];rfl)
def OkS(tp:Int)(os:List (JM)):Prop:=∀s,some s∈os->0<=s/\s<tp
def Fc(f:Fl):Prop:=f=.bor\/f=.frz
def Fc.le(h:Fc f):f.JS=f:=by rcases h with rfl|rfl<;>rfl
def Fc.tb(h:Fc f):f.JT=f:=by rcases h with rfl|rfl<;>rfl
def Fc.bo(h:Fc f):f.JV=f:=by rcases h with rfl|rfl<;>rfl
def Fc.nl(h:Fc f):f.JX=false:=by rcases h with rfl|rfl<;>rfl
def Fc.of(h:Fc f\/f=.own):Fc f.JV:=by
 rcases h with(rfl|rfl)|rfl
 ·exact .inl rfl
 ·exact .inr rfl
 ·exact .inl rfl
def jv(hk:k<n):t8 [net .frz n ps,.int k]=.ok (.lst .own (iL (nbL ps k))):=by
 refine ay (v:=.lst .own (iL (nbL ps k))) ?_;show qN [some (net .frz n ps),some (.int k)]=_;unfold qN;refine aU ?_ (by simp);have e:aQ (.tup ((range n).map fun k:Nat=>PV.tup (iL (nbL ps k)))) (.int k)=.ok (.tup (iL (nbL ps k))):=by
  have hk':((range n).map fun k:Nat=>PV.tup (iL (nbL ps k)))[k]?=some (.tup (iL (nbL ps k))):=by simp[hk]
  exact ip rfl hk' (by simp[PV.has])
 simp[ap,bL,p1,b7,e,aM]
abbrev pnt(fl:Fl)(n:Nat)(ps:JF):PV:=.obj fl 2 [4,0,7,8] [net .frz n ps,.int n,.int n,.bl false]
def uz:eQ [.obj .own 2 [4] [net .frz n ps],.int n,.int n,.bl false]=.ok (pnt .own n ps):=by refine cz (e:=[some (pnt .own n ps),some (.int n),some (.int n),some (.bl false)]) ?_ rfl;show ge [some (.obj .own 2 [4] [net .frz n ps]),some (.int n),some (.int n),some (.bl false)]=_;unfold ge;refine ae (bE (v:=.int n) (ks:=[4]) (vs:=[net .frz n ps]) (by simp) rfl (by simp) rfl (by decide)) ?_;refine ae (bE (v:=.int n) (ks:=[4,0]) (vs:=[net .frz n ps,.int n]) (by simp) rfl (by simp) rfl (by decide)) ?_;exact bE (v:=.bl false) (ks:=[4,0,7]) (vs:=[net .frz n ps,.int n,.int n]) (by simp) rfl (by simp) rfl (by decide)
def vE:jX [.obj .own 2 [4] [net .frz n ps],.int n,.int n]=.ok (pnt .own n ps):=by refine cz (e:=[some (pnt .own n ps),some (.int n),some (.int n)]) ?_ rfl;show mK [some (.obj .own 2 [4] [net .frz n ps]),some (.int n),some (.int n)]=_;unfold mK;exact fP (xs:=[.int n,.int n,.bl false]) rfl (by simp) (by simp) (by simpa using uz (n:=n) (ps:=ps)) (by simp[PV.has])
def uL:EB [.obj .own 2 [] [],net .frz n ps]=.ok (pnt .own n ps):=by refine cz (e:=[some (pnt .own n ps),some (net .frz n ps)]) ?_ rfl;show Fa [some (.obj .own 2 [] []),some (net .frz n ps)]=_;unfold Fa;refine ae (iq (v:=net .frz n ps) rfl) ?_;simp only[s0_,s1_];refine ae (bE (v:=net .frz n ps) (ks:=[]) (vs:=[]) (by simp[PV.J0,Fl.JU]) rfl (by simp[PV.JZ,PV.has]) rfl (by decide)) ?_;simp only[s0_,s1_];have:=fP (env:=[some (.obj .own 2 [4] [net .frz n ps]),some (net .frz n ps)]) (m:=jX) (ms:=ad (mUn (ap 0) (ac 1)) (ad (mUn (ap 0) (ac 1)) ak)) (xs:=[.int n,.int n]) rfl (by simp[ap,bL]) (by simp) (by simpa using vE (n:=n) (ps:=ps)) (by simp[PV.has]);simpa[PV.J0,Fl.JU]using this
def kL(ps:JF)(i:Nat):JI:=(nbL ps i).filter fun x=>decide (x <(i:Int))
def qk(hi:i<n)(hl:(nbL ps i).length<=1000):EK [pnt .bor n ps,.int i]=.ok (.lst .own (iL (kL ps i))):=by
 refine ay ?_;show Ft [some (pnt .bor n ps),some (.int i)]=_;unfold Ft kL;have be:=jv (ps:=ps) hi;refine aU ?_ (by simp);have:=gv (env:=bW [1] 1 [some (pnt .bor n ps),some (.int i)]) (g:=tgN 1) (mc:=aw (mOp pLt (ac 1) (ac 0))) (me:=ac 1) (fun x=>decide (x <(i:Int))) (fun x=>x) (nbL ps i) fun x hx=>⟨[some (.int i),some (.int x)],by simp[tgN,aT,bW],by simp,fun _=>by simp⟩
 rw[List.map_id']at this;exact aR (xs:=iL (nbL ps i)) (by simp[ap,bL,b8,be,aB]) (by rw[bv];omega) this
def ke(l:JI):Nat:=((range (l.length+1)).find? fun j:Nat=>!l.contains (j:Int)).getD 0
def p_(l:JI):((ke l:Nat):Int)∉ l/\∀j,j<ke l->(j:Int)∈ l:=by
 have ex:∃j,j<l.length+1/\(j:Int)∉ l:=by
  apply Classical.byContradiction;intro no;have h:=p6 (l:=(range (l.length+1)).map fun k:Nat=>(k:Int)) (l':=l) (Pairwise.map _ (fun a b h e=>h (by omega)) nodup_range) fun x hx=>by obtain⟨k,hk,rfl⟩:=mem_map.mp hx;exact Classical.byContradiction fun z=>no ⟨k,mem_range.mp hk,z⟩
  simp at h;omega
 unfold ke;cases e:(range (l.length+1)).find? fun j:Nat=>!l.contains (j:Int)with
 |none=>exfalso;obtain⟨j,h1,h2⟩:=ex;have:=List.find?_eq_none.mp e j (mem_range.mpr h1);simp at this;exact h2 this
 |some m=>simp only[Option.getD_some];have h1:=List.find?_some e;refine⟨by simpa using h1,fun j hj=>?_⟩;have h2:=(List.find?_range_eq_some.mp e).2.2 j hj;simpa using h2
def xw{L':JI}(h:∀x∈l,x∈L'):ke l<=L'.length:=by
 have:=p6 (l:=(range (ke l)).map fun k:Nat=>(k:Int)) (l':=L') (Pairwise.map _ (fun a b h e=>h (by omega)) nodup_range) fun x hx=>by obtain⟨k,hk,rfl⟩:=mem_map.mp hx;exact h _ ((p_ l).2 k (mem_range.mp hk))
 simpa using this
def sC(ps:JF)(cs:JI)(i:Nat):Int:=ke ((kL ps i).map fun o=>gt cs o.toNat)
def oY(rg:∀x∈ps,0<=x.1/\x.1<n/\0<=x.2/\x.2<n/\x.1≠x.2){o:Int}(h:o∈kL ps i):0<=o/\o<n/\o<i/\((o,(i:Int))∈ ps \/((i:Int),o)∈ ps):=by
 obtain⟨h1,h2⟩:=mem_filter.mp h;have h3:=oU.mp h1;simp only[decide_eq_true_eq]at h2;rcases h3 with z|z
 ·have:=rg _ z;exact⟨this.1,this.2.1,h2,.inl z⟩
 ·have:=rg _ z;exact⟨this.2.2.1,this.2.2.2.1,h2,.inr z⟩
def BJ(rg:∀x∈ps,0<=x.1/\x.1<n/\0<=x.2/\x.2<n/\x.1≠x.2)(hi:i<n):0<=sC ps cs i/\sC ps cs i<n:=by
 unfold sC;have:=xw (l:=(kL ps i).map fun o=>gt cs o.toNat) (L':=(range i).map fun k=>gt cs k) fun x hx=>by obtain⟨o,ho,rfl⟩:=mem_map.mp hx;have:=oY rg ho;exact mem_map.mpr ⟨o.toNat,mem_range.mpr (by omega),rfl⟩
 simp at this;omega
def z9(rg:∀x∈ps,0<=x.1/\x.1<n/\0<=x.2/\x.2<n/\x.1≠x.2)(hfc:Fc fc)(hl:∀i,(nbL ps i).length<=1000)(hn:cs.length=n)(hi:i<n):yv [pnt .bor n ps,.lst fc (iL cs),.int i]=.ok (.int (sC ps cs i)):=by
 refine ay ?_;show zH [some (pnt .bor n ps),some (.lst fc (iL cs)),some (.int i),none,none]=_;unfold zH sC;have ha:=qk (ps:=ps) hi (hl i);have ll:(kL ps i).length<=1000:=Nat.le_trans (length_filter_le _ _) (hl i);refine ae (aC (v:=.lst .own (iL ((kL ps i).map fun o=>gt cs o.toNat))) ?_) ?_
 ·refine aR (xs:=iL (kL ps i)) (by simp[aO,ha,aB]) (by rw[bv];omega) (f_ (fun o=>gt cs o.toNat) (kL ps i) fun o ho=>⟨[some (.lst fc (iL cs)),some (.int o)],by simp[tgN,aT,bW,hfc.bo],?_⟩);have:=oY rg ho;simp[hfc.le,cT (f:=fc) (cs:=cs) (i:=o) this.1 (by omega)]
 simp only[s0_,s1_];have tkl:((kL ps i).map fun o=>gt cs o.toNat).length<=1000:=by rw[length_map];exact ll
 generalize(kL ps i).map (fun o=>gt cs o.toNat)=tk at *;obtain⟨m1,m2⟩:=p_ tk;refine ae (aC (v:=.int 0) (by simp)) ?_;simp only[s0_,s1_];have mb:ke tk<100000:=by have:=xw (l:=tk) (L':=tk) fun x hx=>hx;omega
 refine uv (Fin:=fun e=>e=[some (pnt .bor n ps),some (.lst fc (iL cs)),some (.int i),some (.lst .own (iL tk)),some (.int (ke tk))]) (fun m e=>∃c:Nat,e=[some (pnt .bor n ps),some (.lst fc (iL cs)),some (.int i),some (.lst .own (iL tk)),some (.int c)]/\m=ke tk-c/\c<=ke tk) (ke tk) mb ⟨0,rfl,by omega,by omega⟩ (fun m e hP=>?_) fun e hF=>?_
 ·obtain⟨c,rfl,rfl,hc⟩:=hP;by_cases q:c=ke tk
  ·subst q;exact .inl ⟨by simp;exact m1,rfl⟩
  ·have:=m2 c (by omega);exact .inr ⟨by simp;exact this,ke tk-(c+1),[some (pnt .bor n ps),some (.lst fc (iL cs)),some (.int i),some (.lst .own (iL tk)),some (.int (c+1:Nat))],by omega,.inl (aC (v:=.int ((c+1:Nat):Int)) (by simp)),c+1,rfl,rfl,by omega⟩
 ·subst hF;exact iH rfl
abbrev lea(fl:Fl)(c:Nat)(n:Nat)(ps:JF)(os:List (JM))(st tp:Int):PV:=.obj fl c [3,4,5,6,0,7,8] [.int tp,net .frz n ps,.tup (oL os),.int st,.int n,.int (tp+1),.bl true]
def tw(h1:1<=x)(h2:x<=10):t_ [.int x]=.ok .non:=by refine fM ⟨[some (.int x)],?_⟩;show zn [some (.int x)]=_;unfold zn;exact bF (by simp[show ¬x<1 by omega,show ¬10<x by omega]) az
def rF{gf:Fl}(hg:gf=.bor\/gf=.frz)(hf:f=.bor\/f=.frz)(hn:os.length=n)(ho:OkS tp os):yw [net gf n ps,.lst f (oL os),.int tp]=.ok .non:=by
 have hf1:f.JS=f:=by rcases hf with rfl|rfl<;>rfl
 have hf2:f.JX=false:=by rcases hf with rfl|rfl<;>rfl
 have hg1:gf.JS=gf:=by rcases hg with rfl|rfl<;>rfl
 refine fM ?_;show Ends (zI [some (net gf n ps),some (.lst f (oL os)),some (.int tp),none]);unfold zI;refine gR (bF (by simp[hf1,hg1,p1,bV,aM,ap,bL,hn]) az) ?_;refine iu (fun _ e=>∃x,e=[some (net gf n ps),some (.lst f (oL os)),some (.int tp),x]) (fun r=>∃e,r=.next e) (xs:=oL os) (c9 (f:=f) (by simp[hf1]) hf2 (by simp) (by simp)) ⟨_,rfl⟩ (fun k x e hx hP=>?_) (fun e hP=>⟨e,rfl⟩);obtain⟨y,rfl⟩:=hP;simp only[oL,getElem?_map]at hx;obtain⟨o,ho1,rfl⟩:=map_eq_some_iff.mp hx;refine⟨_,cV rfl,.inl ⟨_,.inl (bF ?_ az),_,rfl⟩⟩;cases o with
 |none=>simp[oV,je,PV.isNon]
 |some s=>have:=ho s (List.mem_of_getElem? ho1);simp[oV,je,PV.isNon,show ¬s<0 by omega,show ¬tp<=s by omega]
def uA:eQ [.obj .own cc [3,4,5,6] [.int tp,net .frz n ps,.tup (oL os),.int st],.int n,.int (tp+1),.bl true]=.ok (lea .own cc n ps os st tp):=by refine cz (e:=[some (lea .own cc n ps os st tp),some (.int n),some (.int (tp+1)),some (.bl true)]) ?_ rfl;show ge [some (.obj .own cc [3,4,5,6] [.int tp,net .frz n ps,.tup (oL os),.int st]),some (.int n),some (.int (tp+1)),some (.bl true)]=_;unfold ge;refine ae (bE (v:=.int n) (ks:=[3,4,5,6]) (vs:=[.int tp,net .frz n ps,.tup (oL os),.int st]) (by simp) rfl (by simp) rfl (by decide)) ?_;refine ae (bE (v:=.int (tp+1)) (ks:=[3,4,5,6,0]) (vs:=[.int tp,net .frz n ps,.tup (oL os),.int st,.int n]) (by simp) rfl (by simp) rfl (by decide)) ?_;exact bE (v:=.bl true) (ks:=[3,4,5,6,0,7]) (vs:=[.int tp,net .frz n ps,.tup (oL os),.int st,.int n,.int (tp+1)]) (by simp) rfl (by simp) rfl (by decide)
def lU{bk:Int}(hf:f.JS.JT=.bor\/f.JS.JT=.frz)(h1:1<=st)(h2:st<=10)(h3:1<=bk)(h4:bk<=10)(hn:os.length=n)(ho:OkS (st*bk) os):sw [.obj .own cc [] [],net .frz n ps,.lst f (oL os),.int st,.int bk]=.ok (lea .own cc n ps os st (st*bk)):=by refine cz (e:=[some (lea .own cc n ps os st (st*bk)),some (net .frz n ps),some (.lst f (oL os)),some (.int st),some (.int bk)]) ?_ rfl;show Fe [some (.obj .own cc [] []),some (net .frz n ps),some (.lst f (oL os)),some (.int st),some (.int bk)]=_;unfold Fe;have r1:=tw h1 h2;have r2:=tw h3 h4;have r3:=rF (ps:=ps) (gf:=.frz) (.inr rfl) hf hn ho;have mu:dD (.int st) (.int bk)=.ok (.int (st*bk)):=fE (.inl ⟨by omega,by omega⟩);generalize st*bk=tp at *;refine ae (fL (v:=.non) (by simp[r1,aB])) ?_;refine ae (fL (v:=.non) (by simp[r2,aB])) ?_;refine ae (bE (v:=.int tp) (ks:=[]) (vs:=[]) (by simp[mu]) rfl (by simp) rfl (by decide)) ?_;simp only[s0_,s1_];refine ae (fL (v:=.non) (by simp[ap,bL,r3,aB])) ?_;refine ae (iq (v:=net .frz n ps) rfl) ?_;simp only[s0_,s1_];refine ae (bE (v:=net .frz n ps) (ks:=[3]) (vs:=[.int tp]) (by simp[PV.J0,Fl.JU]) rfl (by simp[PV.JZ,PV.has]) rfl (by decide)) ?_;simp only[s0_,s1_];refine ae (bE (v:=.tup (oL os)) (ks:=[3,4]) (vs:=[.int tp,net .frz n ps]) (by simp[p1,dA,aM]) rfl (by simp[PV.JZ,PV.has]) rfl (by decide)) ?_;simp only[s0_,s1_];refine ae (bE (v:=.int st) (ks:=[3,4,5]) (vs:=[.int tp,net .frz n ps,.tup (oL os)]) (by simp) rfl (by simp) rfl (by decide)) ?_;simp only[s0_,s1_];have:=fP (env:=[some (.obj .own cc [3,4,5,6] [.int tp,net .frz n ps,.tup (oL os),.int st]),some (net .frz n ps),some (.lst f (oL os)),some (.int st),some (.int bk)]) (m:=eQ) (ms:=ad (mUn (ap 0) (ac 1)) (ad (mOp aK (mUn (ap 3) (ac 0)) (J3 1)) (ad (mC (.bl true)) ak))) (xs:=[.int n,.int (tp+1),.bl true]) rfl (by simp[ap,bL]) (by simp) (by simpa using uA (cc:=cc) (n:=n) (ps:=ps) (os:=os) (st:=st) (tp:=tp)) (by simp[PV.has]);simpa[PV.J0,Fl.JU]using this
def tH(st tp c:Int):Bool:=decide (c≠tp)&&decide ((c+1)%st≠0)
def oS(ps:JF)(st tp:Int)(cs:JI)(i:Nat):JI:=(((nbL ps i).map fun o=>gt cs o.toNat).filter (tH st tp)).map (· + 1)
def kN(ps:JF)(os:List (JM))(st tp:Int)(cs:JI)(i:Nat):Int:=gE (oS ps st tp cs i ++(os.getD i none).toList++[tp])
def sZ(h:l≠[]):gL gE (.lst f (iL l))=.ok (.int (gE l)):=by unfold gL;simp only[aM,gN];rw[if_neg (by simpa using h)]
def w9{c:Int}(hs:0<st):vw [lea .bor cc n ps os st tp,.int c]=.ok (.bl (tH st tp c)):=by
 refine ay ?_;show Fv [some (lea .bor cc n ps os st tp),some (.int c)]=_;unfold Fv tH;refine aU ?_ (by simp);by_cases h:c=tp
 ·simp[ap,bL,h]
 ·simp[ap,bL,h,bA hs]
def qd(hfc:Fc fc)(hcc:dJ cc=some vw)(hnb:∀x∈nbL ps i,0<=x/\x<n)(hl:(nbL ps i).length<=1000)(hs:0<st)(hn:cs.length=n)(ho:os.length=n)(hi:i<n):n6 [lea .bor cc n ps os st tp,.lst fc (iL cs),.int i]=.ok (.int (kN ps os st tp cs i)):=by
 refine ay ?_;show zE [some (lea .bor cc n ps os st tp),some (.lst fc (iL cs)),some (.int i),none,none]=_;unfold zE;have e3:=hfc.bo;have be:=jv (ps:=ps) hi;have l1:((nbL ps i).map fun o=>gt cs o.toNat).length<=1000:=by simpa using hl
 refine ae (aC (v:=.lst .own (iL ((nbL ps i).map fun o=>gt cs o.toNat))) ?_) ?_
 ·refine aR (xs:=iL (nbL ps i)) (by simp[ap,bL,b8,be,aB]) (by rw[bv];omega) (f_ (fun o=>gt cs o.toNat) _ fun x hx=>⟨[some (.lst fc (iL cs)),some (.int x)],by simp[tgN,aT,bW,e3],?_⟩);obtain⟨h1,h2⟩:=hnb x hx;simp[hfc.le,cT (f:=fc) (cs:=cs) (i:=x) (by omega) (by omega)]
 simp only[s0_,s1_];have l2:(oS ps st tp cs i).length<=1000:=by unfold oS;rw[length_map];exact Nat.le_trans (length_filter_le _ _) l1
 refine ae (aC (v:=.lst .own (iL (oS ps st tp cs i))) ?_) ?_
 ·unfold oS;exact aR (xs:=iL ((nbL ps i).map fun o=>gt cs o.toNat)) (by simp) (by rw[bv];omega) (gv (tH st tp) (· + 1) _ fun x hx=>⟨[some (lea .bor cc n ps os st tp),some (.int x)],by simp[tgN,aT,bW],by simp[hcc,w9 hs,aB],fun _=>by simp⟩)
 simp only[s0_,s1_];have hio:i<os.length:=by omega
 have ix:aQ (.tup (oL os)) (.int (i:Int))=.ok (oV os[i]):=ip rfl (by simp[oL,hio]) (by cases os[i]<;>rfl);have eg:os.getD i none=os[i]:=by simp[hio]
 unfold kN;rw[eg];generalize os[i]=o at *;generalize oS ps st tp cs i=of at *;cases o with
 |none=>
  refine ae (bF (by simp[ap,bL,ix,oV,je,PV.isNon]) az) (aU ?_);have pl:aK (.lst .lnt (iL of)) (.lst .own [.int tp])=.ok (.lst .own (iL (of++[tp]))):=by rw[fk (by decide) (by decide) (by simp;omega)];simp[iL]
  simp[ap,bL,pl,p1,sZ (l:=of++[tp]) (by simp)]
 |some s=>
  refine ae (fF (by simp[ap,bL,ix,oV,je,PV.isNon]) (eY (v:=.int s) (xs:=iL of) (by simp[ap,bL,ix,oV]) rfl (by simp) (by rw[bv];omega))) ?_;simp only[s0_,s1_];rw[show iL of++[PV.int s]=iL (of++[s]) by simp[iL]];refine aU ?_ (by simp);have pl:aK (.lst .lnt (iL (of++[s]))) (.lst .own [.int tp])=.ok (.lst .own (iL (of++[s]++ [tp]))):=by rw[fk (by decide) (by decide) (by simp;omega)];simp[iL]
  have pm:=sZ (f:=.own) (l:=of++[s]++ [tp]) (by simp);show _=Res.ok (PV.int (gE (of++[s]++ [tp])));generalize of++[s]=of2 at *;simp[ap,bL,pl,p1];exact pm
def fs(n r:Nat):List (JM):=(range n).map fun i=>if i=r then some 0 else none
def HI:oL (fs n r)=(range n).map fun i=>oV (if i=r then some 0 else none):=by simp[oL,fs]
def qo(hf:f=.frz\/f=.own)(n1:1<=n)(n10:n<=10)(hr:r<n):ud [.obj .own 5 [] [],net f n ps,.int r]=.ok (lea .own 5 n ps (fs n r) n n):=by
 refine cz (e:=[some (lea .own 5 n ps (fs n r) n n),some (net .frz n ps),some (.int r),some (.lst .frz (oL (fs n r)))]) ?_ rfl;show zz [some (.obj .own 5 [] []),some (net f n ps),some (.int r),none]=_;unfold zz;refine ae (bF (by simp[ap,bL,show ¬(r:Int)<0 by omega,show ¬(n:Int)<= r by omega]) az) ?_;refine ae (aC (v:=.lst .own (oL (fs n r))) ?_ (by simp[PV.JZ,PV.has]) rfl) ?_
 ·refine aR (xs:=cC 0 n) (bD (n:=n) (by simp[ap,bL]) (by omega)) (by rw[bu];omega) ?_;rw[HI];refine bN (a:=fun k:Nat=>PV.int (0+(k:Int))) (f:=fun i=>oV (if i=r then some 0 else none)) (range n) fun k hk=>⟨[some (.int r),some (.int (0+k))],by simp[tgN,aT,bW],?_,?_,?_⟩
  ·by_cases e:k=r
   ·simp[e,oV]
   ·simp[e,oV,show ¬(k:Int)=r by omega]
  ·by_cases e:k=r<;>simp[e,oV,PV.has]
  ·by_cases e:k=r<;>simp[e,oV,PV.has]
 simp only[s0_,s1_];refine ae (iq (v:=.lst .own (oL (fs n r))) rfl) ?_;simp only[s0_,s1_];refine ae (iq (v:=net f n ps) rfl) ?_;have efz:(net f n ps).J0 Fl.JU=net .frz n ps:=by rcases hf with rfl|rfl<;>simp[PV.J0,Fl.JU]
 simp only[s0_,s1_,efz];have li:=lU (cc:=5) (n:=n) (ps:=ps) (os:=fs n r) (st:=n) (bk:=1) (f:=.frz) (.inr rfl) (by omega) (by omega) (by decide) (by decide) (by simp [fs]) (fun s hs=>by
  simp only[fs,mem_map,mem_range]at hs;obtain⟨i,_,e⟩:=hs;split at e
  ·cases e;omega
  ·cases e)
 rw[Int.mul_one]at li;have:=fP (env:=[some (.obj .own 5 [] []),some (net .frz n ps),some (.int r),some (.lst .frz (oL (fs n r)))]) (m:=sw) (ms:=ad (ac 1) (ad (ac 3) (ad (mUn (ap 0) (ac 1)) (ad (J3 1) ak)))) (xs:=[net .frz n ps,.lst .frz (oL (fs n r)),.int n,.int 1]) rfl (by simp[ap,bL,Fl.JS]) (by simp[PV.has]) (by simpa[Fl.JT]using li) (by simp[PV.has]);simpa[PV.J0,Fl.JU]using this
structure OkM(n:Nat)(ms:JI):Prop where
 ml:ms.length=n
 nd:ms.Nodup
 mr:∀x∈ms,0<=x/\x<=9
def ls(n:Nat)(ms:JI):List (JM):=ms.map fun x=>some ((9-x)*n)
def xi{ms:JI}(N:OkM n ms)(n10:n<=10):yo [net .frz n ps,.lst .bor (iL ms)]=.ok .non:=by have lu:=N.ml;refine fM ?_;show Ends (zw [some (net .frz n ps),some (.lst .bor (iL ms)),none]);unfold zw;refine gR (bF (by simp[p1,bV,aM,ap,bL,lu,Fl.JS]) az) ?_;refine gR (bF (by simp[p1,bV,aM,kh (show ms.length<=1000 by omega),qy N.nd,Fl.JS]) az) ?_;refine iu (fun _ e=>∃x,e=[some (net .frz n ps),some (.lst .bor (iL ms)),x]) (fun r=>∃e,r=.next e) (xs:=iL ms) (c9 (f:=.bor) (by simp[Fl.JS]) rfl (by simp) (by simp)) ⟨_,rfl⟩ (fun k x e hx hP=>?_) (fun e hP=>⟨e,rfl⟩);obtain⟨y,rfl⟩:=hP;obtain⟨z,hz,rfl⟩:=iR hx;have:=N.mr z (List.mem_of_getElem? hz);refine⟨_,cV rfl,.inl ⟨_,.inl (bF ?_ az),_,rfl⟩⟩;simp[show ¬z<0 by omega,show ¬(9:Int)<z by omega]
def vd{ms:JI}{fm:Fl}(hf:fm=.bor\/fm=.own)(N:OkM n ms)(n1:1<=n)(n10:n<=10):yx [.obj .own 6 [] [],net .frz n ps,.lst fm (iL ms)]=.ok (lea .own 6 n ps (ls n ms) n (10*n)):=by
 refine cz (e:=[some (lea .own 6 n ps (ls n ms) n (10*n)),some (net .frz n ps),some (.lst fm (iL ms)),some (.lst .frz (oL (ls n ms)))]) ?_ rfl;show zJ [some (.obj .own 6 [] []),some (net .frz n ps),some (.lst fm (iL ms)),none]=_;unfold zJ;have e1:fm.JS.JT=.bor:=by rcases hf with rfl|rfl<;>rfl
 have rn:=xi (ps:=ps) N n10;refine ae (iq (v:=net .frz n ps) rfl) ?_;have efz:(net .frz n ps).J0 Fl.JU=net .frz n ps:=by simp[PV.J0,Fl.JU]
 simp only[s0_,s1_,efz];refine ae (fL (v:=.non) (by simp[e1,rn,aB,PV.J0])) ?_;have eL:oL (ls n ms)=iL (ms.map fun x=>(9-x)*n):=by simp[oL,ls,iL,oV]
 refine ae (aC (v:=.lst .own (oL (ls n ms))) ?_ (by simp[PV.JZ,PV.has]) rfl) ?_
 ·rw[eL];refine aR (xs:=iL ms) (by simp) (by rw[bv,N.ml];omega) (f_ (fun x=>(9-x)*n) ms fun x hx=>⟨[some (net .frz n ps),some (.int x)],by simp[tgN,aT,bW,PV.JV,Fl.JV,PV.J0],?_⟩);have m:dD (.int (9-x)) (.int (n:Int))=.ok (.int ((9-x)*n)):=fE (.inr ⟨by omega,by omega⟩);simp[ap,bL,m]
 simp only[s0_,s1_];refine ae (iq (v:=.lst .own (oL (ls n ms))) rfl) ?_;simp only[s0_,s1_];have li:=lU (cc:=6) (n:=n) (ps:=ps) (os:=ls n ms) (st:=n) (bk:=10) (f:=.frz) (.inr rfl) (by omega) (by omega) (by decide) (by decide) (by simp [ls,N.ml]) (fun s hs=>by
  simp only[ls,mem_map]at hs;obtain⟨x,hx,e⟩:=hs;have:=N.mr x hx;cases e;have h1:0 <=(9-x)*(n:Int):=Int.mul_nonneg (by omega) (by omega);have h2:(9-x)*(n:Int)<= 9*n:=Int.mul_le_mul_of_nonneg_right (by omega) (by omega);omega)
 rw[Int.mul_comm (n:Int) 10]at li;have:=fP (env:=[some (.obj .own 6 [] []),some (net .frz n ps),some (.lst fm (iL ms)),some (.lst .frz (oL (ls n ms)))]) (m:=sw) (ms:=ad (ac 1) (ad (ac 3) (ad (mUn (ap 0) (ac 1)) (ad (J3 10) ak)))) (xs:=[net .frz n ps,.lst .frz (oL (ls n ms)),.int n,.int 10]) rfl (by simp[ap,bL,Fl.JS]) (by simp[PV.has]) (by simpa[Fl.JT]using li) (by simp[PV.has]);simpa[PV.J0,Fl.JU]using this
abbrev gro(fl:Fl)(n:Nat)(ps:JF)(r:Nat):PV:=.obj fl 7 [9,4,10,0,7,8] [lea fl 5 n ps (fs n r) n n,net .frz n ps,.int r,.int n,.int (((n:Int)+1)*((n:Int)+1)),.bl true]
def uB:eQ [.obj .own 7 [9,4,10] [lea .own 5 n ps (fs n r) n n,net .frz n ps,.int r],.int n,.int (((n:Int)+1)*((n:Int)+1)),.bl true]=.ok (gro .own n ps r):=by refine cz (e:=[some (gro .own n ps r),some (.int n),some (.int (((n:Int)+1)*((n:Int)+1))),some (.bl true)]) ?_ rfl;show ge [some (.obj .own 7 [9,4,10] [lea .own 5 n ps (fs n r) n n,net .frz n ps,.int r]),some (.int n),some (.int (((n:Int)+1)*((n:Int)+1))),some (.bl true)]=_;unfold ge;refine ae (bE (v:=.int n) (ks:=[9,4,10]) (vs:=[lea .own 5 n ps (fs n r) n n,net .frz n ps,.int r]) (by simp) rfl (by simp) rfl (by decide)) ?_;refine ae (bE (v:=.int (((n:Int)+1)*((n:Int)+1))) (ks:=[9,4,10,0]) (vs:=[lea .own 5 n ps (fs n r) n n,net .frz n ps,.int r,.int n]) (by simp) rfl (by simp) rfl (by decide)) ?_;exact bE (v:=.bl true) (ks:=[9,4,10,0,7]) (vs:=[lea .own 5 n ps (fs n r) n n,net .frz n ps,.int r,.int n,.int (((n:Int)+1)*((n:Int)+1))]) (by simp) rfl (by simp) rfl (by decide)
def xU(hf:f=.frz\/f=.own)(n1:1<=n)(n10:n<=10)(hr:r<n):yu [.obj .own 7 [] [],net f n ps,.int r]=.ok (gro .own n ps r):=by
 refine cz (e:=[some (gro .own n ps r),some (net .frz n ps),some (.int r)]) ?_ rfl;show zG [some (.obj .own 7 [] []),some (net f n ps),some (.int r)]=_;unfold zG;have fi:=qo (f:=.frz) (ps:=ps) (.inl rfl) n1 n10 hr;have mu:dD (.int ((n:Int)+1)) (.int ((n:Int)+1))=.ok (.int (((n:Int)+1)*((n:Int)+1))):=fE (.inl ⟨by omega,by omega⟩);have ri:=uB (n:=n) (ps:=ps) (r:=r);generalize((n:Int)+1)*((n:Int)+1)=sq at mu ri;refine ae (iq (v:=net f n ps) rfl) ?_;have efz:(net f n ps).J0 Fl.JU=net .frz n ps:=by rcases hf with rfl|rfl<;>simp[PV.J0,Fl.JU]
 simp only[s0_,s1_,efz];refine ae (bE (v:=lea .own 5 n ps (fs n r) n n) (ks:=[]) (vs:=[]) (by simp[fi,aB,PV.has,Fl.JS,Fl.JT]) rfl (by simp[PV.JZ,PV.has]) rfl (by decide)) ?_;simp only[s0_,s1_];refine ae (bE (v:=net .frz n ps) (ks:=[9]) (vs:=[lea .own 5 n ps (fs n r) n n]) (by simp[PV.J0,Fl.JS]) rfl (by simp[PV.JZ,PV.has]) rfl (by decide)) ?_;simp only[s0_,s1_];refine ae (bE (v:=.int r) (ks:=[9,4]) (vs:=[lea .own 5 n ps (fs n r) n n,net .frz n ps]) (by simp) rfl (by simp) rfl (by decide)) ?_;simp only[s0_,s1_];have:=fP (env:=[some (.obj .own 7 [9,4,10] [lea .own 5 n ps (fs n r) n n,net .frz n ps,.int r]),some (net .frz n ps),some (.int r)]) (m:=eQ) (ms:=ad (mUn (ap 0) (ac 1)) (ad (mOp dD (mOp aK (mUn (ap 0) (ac 1)) (J3 1)) (mOp aK (mUn (ap 0) (ac 1)) (J3 1))) (ad (mC (.bl true)) ak))) (xs:=[.int n,.int sq,.bl true]) rfl (by simp[ap,bL,mu]) (by simp) (by simpa using ri) (by simp[PV.has]);simpa using this
def PT(n:Nat)(cs:JI):JF:=cs.map fun c=>(c / ((n:Int)+1),c%((n:Int)+1))
def FA(n:Nat)(cs:JI):JI:=cs.map (· / ((n:Int)+1))
def CN(n:Nat)(cs:JI):JI:=cs.map (· % ((n:Int)+1))
@[simp] def Ju:(FA n cs).length=cs.length:=by simp[FA]
@[simp] def FB:(CN n cs).length=cs.length:=by simp[CN]
def nea(ps:JF)(fa:JI)(i:Nat):JI:=(nbL ps i).filter fun o=>decide (gt fa o.toNat=gt fa i-1)
def eld(ps:JF)(r:Nat)(fa:JI)(i:Nat):JM:=if i=r then none else if(nea ps fa i).isEmpty then none else some (gE (nea ps fa i))
def mY(n:Nat)(ps:JF)(r:Nat)(cs:JI)(i:Nat):JI:=((range n).filter fun j=>decide (eld ps r (FA n cs) j=some (i:Int))).map (gt (CN n cs))
def dcn(n:Nat)(ps:JF)(r:Nat)(cs:JI)(i:Nat):Int:=min (n:Int) (1+(mY n ps r cs i).sum)
def sD(n:Nat)(ps:JF)(r:Nat)(cs:JI)(i:Nat):Int:=
 kN ps (fs n r) n n (FA n cs) i*((n:Int)+1)+(if kN ps (fs n r) n n (FA n cs) i=gt (FA n cs) i then dcn n ps r cs i else gt (CN n cs) i)
def pZ(hfc:Fc fc)(n10:n<=10)(hn:cs.length=n):Ez [gro .bor n ps r,.lst fc (iL cs)]=.ok (.lst .own (prL (PT n cs))):=by
 refine ay ?_;show E_ [some (gro .bor n ps r),some (.lst fc (iL cs))]=_;unfold E_;refine aU ?_ (by simp[PV.JZ,PV.has]);have e4:fc≠.mod:=by rcases hfc with rfl|rfl<;>decide
 rw[show prL (PT n cs)=cs.map fun c=>prV (c / ((n:Int)+1),c%((n:Int)+1)) by simp[prL,PT]];refine aR (xs:=iL cs) (by rcases hfc with rfl|rfl<;>simp) (by rw[bv];omega) (bN (a:=PV.int) (f:=fun c=>prV (c / ((n:Int)+1),c%((n:Int)+1))) cs fun c _=>⟨[some (gro .bor n ps r),some (.int c)],by simp[tgN,aT,bW,PV.J0,Fl.JV],?_,by simp,by simp⟩);have np:(0:Int) <(n:Int)+1:=by omega
 simp[ap,bL,bA np,eU np (show(n:Int)+1<1073741824 by omega),prV]
def o6(hfc:Fc fc)(n10:n<=10)(hn:cs.length=n):yA [gro .bor n ps r,.lst fc (iL cs)]=.ok (.lst .own (iL (FA n cs))):=by refine ay ?_;show zL [some (gro .bor n ps r),some (.lst fc (iL cs))]=_;unfold zL;refine aU ?_ (by simp);have pt:=pZ (ps:=ps) (r:=r) hfc n10 hn;rw[show iL (FA n cs)=(PT n cs).map fun x=>PV.int x.1 by simp[iL,FA,PT]];refine aR (xs:=prL (PT n cs)) (by rcases hfc with rfl|rfl<;>simp[fv,pt,aB,PV.has,Fl.JS,Fl.JT,PV.J0]) (by simp[PT];omega) (bN (a:=prV) (f:=fun x=>PV.int x.1) (PT n cs) fun x _=>⟨[some (prV x)],by simp[tgN,aT,bW,dY],?_,by simp,by simp⟩);simp
def kr(hfc:Fc fc)(n10:n<=10)(hn:cs.length=n):EH [gro .bor n ps r,.lst fc (iL cs)]=.ok (.lst .own (iL (CN n cs))):=by refine ay ?_;show Fm [some (gro .bor n ps r),some (.lst fc (iL cs))]=_;unfold Fm;refine aU ?_ (by simp);have pt:=pZ (ps:=ps) (r:=r) hfc n10 hn;rw[show iL (CN n cs)=(PT n cs).map fun x=>PV.int x.2 by simp[iL,CN,PT]];refine aR (xs:=prL (PT n cs)) (by rcases hfc with rfl|rfl<;>simp[fv,pt,aB,PV.has,Fl.JS,Fl.JT,PV.J0]) (by simp[PT];omega) (bN (a:=prV) (f:=fun x=>PV.int x.2) (PT n cs) fun x _=>⟨[some (prV x)],by simp[tgN,aT,bW,dY],?_,by simp,by simp⟩);simp
def A8:nQ (.lst f (iL l))=.ok (if l.isEmpty then .non else .int (gE l)):=by unfold nQ;simp only[aM,gN]
def yI{fa:JI}(hnb:∀x∈nbL ps i,0<=x/\x<n)(hl:(nbL ps i).length<=1000)(hn:fa.length=n)(hi:i<n):ED [gro .bor n ps r,.lst .bor (iL fa),.int i]=.ok (oV (eld ps r fa i)):=by
 refine ay ?_;show Fd [some (gro .bor n ps r),some (.lst .bor (iL fa)),some (.int i),none]=_;unfold Fd eld;by_cases q:i=r
 ·rw[if_pos q];exact dh (fF (by simp[ap,bL,q]) (aU (by simp[oV]) (by simp[oV])))
 rw[if_neg q];refine ae (bF (by simp[ap,bL,show ¬(i:Int)=r by omega]) az) ?_;have be:=jv (ps:=ps) hi;refine ae (aC (v:=.lst .own (iL (nea ps fa i))) ?_) ?_
 ·have hz:nea ps fa i=((nbL ps i).filter fun o=>decide (gt fa o.toNat=gt fa i-1)).map id:=by simp[nea]
  rw[hz];refine aR (xs:=iL (nbL ps i)) (by simp[ap,bL,b8,be,aB]) (by rw[bv];omega) (gv (fun o=>decide (gt fa o.toNat=gt fa i-1)) id _ fun x hx=>⟨[some (.lst .bor (iL fa)),some (.int i),some (.int x)],by simp[tgN,aT,bW,Fl.JV],?_,fun _=>by simp⟩);obtain⟨h1,h2⟩:=hnb x hx;simp[cT (f:=.bor) (cs:=fa) (i:=x) (by omega) (by omega),cT (f:=.bor) (cs:=fa) (i:=i) (by omega) (by omega)]
 simp only[s0_,s1_];generalize nea ps fa i=l;refine aU ?_ (by cases l<;>simp[oV]);simp only[Cf,dC,getElem?_cons_zero,getElem?_cons_succ,AV,Res.J2,PV.J0,Fl.JS,u7];rw[A8];cases l<;>simp[oV]
abbrev ELs(n:Nat)(ps:JF)(r:Nat)(fa:JI):List (JM):=(range n).map (eld ps r fa)
def vB(hfc:Fc fc)(n10:n<=10)(hnb:∀i:Nat,∀x∈nbL ps i,0<=x/\x<n)(hl:∀i:Nat,(nbL ps i).length<=1000)(hn:cs.length=n):EG [gro .bor n ps r,.lst fc (iL cs)]=.ok (.lst .own (oL (ELs n ps r (FA n cs)))):=by
 refine ay ?_;show Fk [some (gro .bor n ps r),some (.lst fc (iL cs)),none]=_;unfold Fk;have fo:=o6 (ps:=ps) (r:=r) hfc n10 hn;refine ae (aC (v:=.lst .own (iL (FA n cs))) (by rcases hfc with rfl|rfl<;>simp[dZ,fo,aB,PV.has,Fl.JS,Fl.JT,PV.J0])) ?_;simp only[s0_,s1_];refine aU ?_ (by simp[PV.JZ,PV.has]);rw[show oL (ELs n ps r (FA n cs))=(range n).map fun i=>oV (eld ps r (FA n cs) i) by simp[oL]];refine aR (xs:=cC 0 n) (bD (n:=n) (by simp[ap,bL]) (by omega)) (by rw[bu];omega) (bN (a:=fun k:Nat=>PV.int (0+(k:Int))) (f:=fun i=>oV (eld ps r (FA n cs) i)) (range n) fun k hk=>⟨[some (gro .bor n ps r),some (.lst .bor (iL (FA n cs))),some (.int (0+k))],by simp[tgN,aT,bW,Fl.JV,PV.J0],?_,?_,?_⟩)
 ·have el:=yI (r:=r) (hnb k) (hl k) (show(FA n cs).length=n by simpa using hn) (mem_range.mp hk);simp[iT,el,aB,PV.has,Fl.JS,Fl.JT,PV.J0];cases eld ps r (FA n cs) k<;>simp[oV,PV.has]
 ·cases eld ps r (FA n cs) k<;>simp[oV,PV.has]
 ·cases eld ps r (FA n cs) k<;>simp[oV,PV.has]
def pM(f:Nat->Int)(g:Nat->JM):∀l:List Nat,iD (iL (l.map f)) (oL (l.map g))=l.map fun i=>PV.tup [.int (f i),oV (g i)]
 | []=>rfl
 |i::l=>by have:=pM f g l;simp only[iL,oL,map_cons,iD]at this ⊢;rw[this]
def eqO(o:JM)(i:Int):pEq (oV o) (.int i)=.ok (.bl (decide (o=some i))):=by
 cases o with
 |none=>simp[oV,pEq,PV.data];rfl
 |some s=>simp[oV]
def gtR(l:JI):(range l.length).map (gt l)=l:=by apply List.ext_getElem (by simp);intro i h1 h2;simp[gt,h2]
def zY(hn:cs.length=n):∀i,i<n->0<=gt (CN n cs) i/\gt (CN n cs) i<=n:=fun i hi=>by have hm:=eH (far:=CN n cs) (i:=i) (by simpa using hn▸hi);obtain⟨c,_,e⟩:=mem_map.mp hm;rw[<- e];have:=emod_nonneg c (show(n:Int)+1≠0 by omega);have:=emod_lt_of_pos c (show(0:Int) <(n:Int)+1 by omega);omega
def qf(hn:cs.length=n)(hx:x∈mY n ps r cs i):0<=x/\x<=n:=by obtain⟨j,hj,rfl⟩:=mem_map.mp hx;exact zY hn j (mem_range.mp (mem_filter.mp hj).1)
def xG:(mY n ps r cs i).length<=n:=by have:=length_filter_le (fun j=>decide (eld ps r (FA n cs) j=some (i:Int))) (range n);simpa[mY]using this
def yP(hfc:Fc fc)(n10:n<=10)(hnb:∀i:Nat,∀x∈nbL ps i,0<=x/\x<n)(hl:∀i:Nat,(nbL ps i).length<=1000)(hn:cs.length=n):EJ [gro .bor n ps r,.lst fc (iL cs),.int i]=.ok (.int (dcn n ps r cs i)):=by
 refine ay ?_;show Fs [some (gro .bor n ps r),some (.lst fc (iL cs)),some (.int i),none]=_;unfold Fs;have co:=kr (ps:=ps) (r:=r) hfc n10 hn;have eo:=vB (ps:=ps) (r:=r) hfc n10 hnb hl hn;have zp:iD (iL (CN n cs)) (oL (ELs n ps r (FA n cs)))=(range n).map fun j=>PV.tup [.int (gt (CN n cs) j),oV (eld ps r (FA n cs) j)]:=by
  have:=pM (gt (CN n cs)) (eld ps r (FA n cs)) (range n)
  rwa [show(range n).map (gt (CN n cs))=CN n cs by have:=gtR (CN n cs);rw[FB,hn]at this;exact this]at this
 refine ae (aC (v:=.lst .own (iL (mY n ps r cs i))) ?_) ?_
 ·rw[show iL (mY n ps r cs i)=((range n).filter fun j=>decide (eld ps r (FA n cs) j=some (i:Int))).map fun j=>PV.int (gt (CN n cs) j) by simp[iL,mY]];refine aR (xs:=(range n).map fun j=>PV.tup [.int (gt (CN n cs) j),oV (eld ps r (FA n cs) j)]) ?_ (by simp;omega) (cL (a:=fun j=>PV.tup [.int (gt (CN n cs) j),oV (eld ps r (FA n cs) j)]) (f:=fun j=>.int (gt (CN n cs) j)) (p:=fun j=>decide (eld ps r (FA n cs) j=some (i:Int))) (range n) fun j hj=>⟨[some (.int i),some (.int (gt (CN n cs) j)),some (oV (eld ps r (FA n cs) j))],?_,?_,fun _=>⟨by simp,rfl,rfl⟩⟩)
  ·unfold jO;rcases hfc with rfl|rfl<;>simp[cY,iy,co,eo,aB,PV.has,Fl.JS,Fl.JT,PV.J0,dI,zp]
  ·cases eld ps r (FA n cs) j<;>rfl
  ·have ob:∀o:JM,PV.J0 Fl.JS (oV o)=oV o:=fun o=>by cases o<;>rfl
   simp[ob,eqO]
 simp only[s0_,s1_];have sm:jK (.lst .lnt (iL (mY n ps r cs i)))=.ok (.int (mY n ps r cs i).sum):=kR (by have:=xG (n:=n) (ps:=ps) (r:=r) (cs:=cs) (i:=i);omega) fun x hx=>by have:=qf hn hx;omega
 refine aU ?_ (by simp);simp[ap,bL,p1,sm,dcn,fC]
def BL(hfc:Fc fc)(n1:1<=n)(n10:n<=10)(hnb:∀i:Nat,∀x∈nbL ps i,0<=x/\x<n)(hl:∀i:Nat,(nbL ps i).length<=1000)(hn:cs.length=n)(hi:i<n):yp [gro .bor n ps r,.lst fc (iL cs),.int i]=.ok (.int (sD n ps r cs i)):=by
 refine ay ?_;show zy [some (gro .bor n ps r),some (.lst fc (iL cs)),some (.int i),none,none,none]=_;unfold zy;have fo:=o6 (ps:=ps) (r:=r) hfc n10 hn;have co:=kr (ps:=ps) (r:=r) hfc n10 hn;have dc:=yP (ps:=ps) (r:=r) (i:=i) hfc n10 hnb hl hn;have fl:(FA n cs).length=n:=by simpa using hn
 have cl:(CN n cs).length=n:=by simpa using hn
 have ld:=qd (.inl rfl) (cc:=5) (os:=fs n r) (st:=n) (tp:=n) (cs:=FA n cs) rfl (hnb i) (hl i) (by omega) fl (by simp[fs]) hi;refine ae (aC (v:=.lst .own (iL (FA n cs))) (by rcases hfc with rfl|rfl<;>simp[dZ,fo,aB,PV.has,Fl.JS,Fl.JT,PV.J0])) ?_;simp only[s0_,s1_];unfold sD;generalize kN ps (fs n r) n n (FA n cs) i=df at *;refine ae (aC (v:=.int df) (by simp[ap,bL,kq,ld,aB,PV.has,Fl.JS,Fl.JT,PV.J0])) ?_;simp only[s0_,s1_];have ic:∀f,aQ (.lst f (iL (CN n cs))) (.int (i:Int))=.ok (.int (gt (CN n cs) i)):=fun f=>by simpa using cT (f:=f) (cs:=CN n cs) (i:=i) (by omega) (by omega)
 have ia:∀f,aQ (.lst f (iL (FA n cs))) (.int (i:Int))=.ok (.int (gt (FA n cs) i)):=fun f=>by simpa using cT (f:=f) (cs:=FA n cs) (i:=i) (by omega) (by omega)
 refine ae (aC (v:=.int (gt (CN n cs) i)) (by rcases hfc with rfl|rfl<;>simp[cY,co,ic,aB,PV.has,Fl.JS,Fl.JT,PV.J0])) ?_;simp only[s0_,s1_];have mu:dD (.int df) (.int ((n:Int)+1))=.ok (.int (df*((n:Int)+1))):=fE (.inr ⟨by omega,by omega⟩);by_cases q:df=gt (FA n cs) i
 ·rw[if_pos q];refine ae (fF (by simp[ia,q]) (aC (v:=.int (dcn n ps r cs i)) (by rcases hfc with rfl|rfl<;>simp[db,dc,aB,PV.has,Fl.JS,Fl.JT,PV.J0]))) ?_;simp only[s0_,s1_];exact aU (by simp[ap,bL,mu]) (by simp)
 ·rw[if_neg q];refine ae (bF (by simp[ia,q]) az) ?_;exact aU (by simp[ap,bL,mu]) (by simp)
def dP(at_:Int):Int->JI->JI
 |_,[]=>[]
 |k,p::ps=>if p=at_ then k::dP at_ (k+1) ps else dP at_ (k+1) ps
def iQ:∀{k:Int}{ps:JI}{x:Int},x∈dP at_ k ps->k<=x/\x<k+ps.length/\ps[(x-k).toNat]?=some at_
 |_,[],x,h=>by simp[dP]at h
 |k,p::ps,x,h=>by
  have key:x∈dP at_ (k+1) ps->k<=x/\x<k+(p::ps).length/\(p::ps)[(x-k).toNat]?=some at_:=fun h=>by obtain⟨h1,h2,h3⟩:=iQ h;refine⟨by omega,by simp only[length_cons];omega,?_⟩;rw[show(x-k).toNat=(x-(k+1)).toNat+1 by omega,getElem?_cons_succ];exact h3
  unfold dP at h;split at h
  ·rename_i hp
   rcases mem_cons.mp h with rfl|h
   ·refine⟨by omega,by simp only[length_cons];omega,by simp[hp]⟩
   ·exact key h
  ·exact key h
def lX{at_:Int}:∀{k:Int}{ps:JI},(dP at_ k ps).length<=ps.length
 |_,[]=>by simp[dP]
 |k,p::ps=>by have:=lX (at_:=at_) (k:=k+1) (ps:=ps);unfold dP;split<;>simp<;>omega
def lx(cs l:JI):Int:=(l.map fun k=>gt cs k.toNat).sum
def yJ(n:Nat)(ps cs:JI)(i:Nat):Int:=min (n:Int) (1+lx cs (dP i 1 ps))
def pN{cs:JI}:∀{l:JI},(∀k∈l,0<=gt cs k.toNat)->0<=lx cs l
 | [],_=>by simp[lx]
 |k::l,h=>by have:=pN (cs:=cs) (l:=l) fun x hx=>h x (mem_cons_of_mem _ hx);have h2:=h k mem_cons_self;simp only[lx,map_cons,List.sum_cons]at this ⊢;omega
def Tree(ps:JI):Prop:=∀i (h:i<ps.length),0<=ps[i]/\ps[i]<= i
structure JC(ps hs:JI)(j:Nat):Prop where
 len:hs.length=ps.length+1
 eqn:∀i:Nat,i<=ps.length->gt hs i=1+lx hs (dP i (j+1) (ps.drop j))
 bnd:∀i:Nat,i<=ps.length->1<=gt hs i/\gt hs i<=ps.length+1
 sum:(hs.take (j+1)).sum=ps.length+1
structure JB(ps hs:JI):Prop where
 len:hs.length=ps.length+1
 eqn:∀i:Nat,i<=ps.length->gt hs i=1+lx hs (dP i 1 ps)
 bnd:∀i:Nat,i<=ps.length->1<=gt hs i/\gt hs i<=ps.length+1
abbrev cnt(fl:Fl)(ps:JI):PV:=.obj fl 3 [11,0,7,8] [.tup (iL ps),.int (ps.length+1),.int (ps.length+2),.bl false]
def uC{ps:JI}:eQ [.obj .own 3 [11] [.tup (iL ps)],.int (ps.length+1),.int (ps.length+2),.bl false]=.ok (cnt .own ps):=by refine cz (e:=[some (cnt .own ps),some (.int (ps.length+1)),some (.int (ps.length+2)),some (.bl false)]) ?_ rfl;show ge [some (.obj .own 3 [11] [.tup (iL ps)]),some (.int (ps.length+1)),some (.int (ps.length+2)),some (.bl false)]=_;unfold ge;refine ae (bE (v:=.int (ps.length+1)) (ks:=[11]) (vs:=[.tup (iL ps)]) (by simp) rfl (by simp) rfl (by decide)) ?_;refine ae (bE (v:=.int (ps.length+2)) (ks:=[11,0]) (vs:=[.tup (iL ps),.int (ps.length+1)]) (by simp) rfl (by simp) rfl (by decide)) ?_;exact bE (v:=.bl false) (ks:=[11,0,7]) (vs:=[.tup (iL ps),.int (ps.length+1),.int (ps.length+2)]) (by simp) rfl (by simp) rfl (by decide)
def vF{ps:JI}:jX [.obj .own 3 [11] [.tup (iL ps)],.int (ps.length+1),.int (ps.length+2)]=.ok (cnt .own ps):=by refine cz (e:=[some (cnt .own ps),some (.int (ps.length+1)),some (.int (ps.length+2))]) ?_ rfl;show mK [some (.obj .own 3 [11] [.tup (iL ps)]),some (.int (ps.length+1)),some (.int (ps.length+2))]=_;unfold mK;exact fP (xs:=[.int (ps.length+1),.int (ps.length+2),.bl false]) rfl (by simp) (by simp) (by simpa using uC (ps:=ps)) (by simp[PV.has])
def ER{ps:JI}(h:m env=.ok (.lst f (iL ps)))(hf:f.JX=false):u_ m env=.ok (enP 1 (iL ps)):=by unfold u_;rw[h];simp[hf,dI]
def rK{ps:JI}(T:Tree ps)(hl:ps.length<=9)(hf:f=.bor\/f=.frz):EC [.lst f (iL ps)]=.ok .non:=by
 have hf1:f.JS=f:=by rcases hf with rfl|rfl<;>rfl
 have hf2:f.JX=false:=by rcases hf with rfl|rfl<;>rfl
 have key:∃e,Fb [some (.lst f (iL ps)),none,none]=.next e:=by
  unfold Fb;have s1:∀a:MS,mBr (aw (mOp pGt (ar (p1 bV) (ad (ac 0) ak)) (J3 9))) a aS [some (.lst f (iL ps)),none,none]=.next [some (.lst f (iL ps)),none,none]:=fun a=>bF (by simp[p1,bV,aM];omega) az
  suffices hh:∃e,dv (u_ (ac 0)) (tgT 2 (cN (tgN 1) (cN (tgN 2) ja))) (mBr ((gF (aw (mOp pLt (ac 2) (J3 0))) (aw (mOp pGe (ac 2) (ac 1))))) (bj 2 (ad (mC (.str "a parent is no machine of a lower number than its kid")) ak)) aS) [some (.lst f (iL ps)),none,none]=.next e by obtain⟨e,h⟩:=hh;exact⟨e,ae (s1 _) h⟩
  refine iu (fun _ e=>∃a b,e=[some (.lst f (iL ps)),a,b]) (fun r=>∃e,r=.next e) (xs:=enP 1 (iL ps)) (ER (f:=f) (by simp[hf1]) hf2) ⟨_,_,rfl⟩ (fun k x e hx hP=>?_) (fun e hP=>⟨e,rfl⟩);obtain⟨a,b,rfl⟩:=hP;rw[lh]at hx;obtain⟨y,hy,rfl⟩:=map_eq_some_iff.mp hx;obtain⟨v,hv,rfl⟩:=iR hy;obtain⟨hk,ev⟩:=List.getElem?_eq_some_iff.mp hv;have:=T k hk;rw[ev]at this;refine⟨[some (.lst f (iL ps)),some (.int (1+k)),some (.int v)],rfl,.inl ⟨_,.inl (bF ?_ az),_,_,rfl⟩⟩;simp[show ¬v<0 by omega,show ¬1+(k:Int)<= v by omega]
 obtain⟨e,h⟩:=key;exact fM ⟨e,h⟩
def yS{ps:JI}(T:Tree ps)(hl:ps.length<=9)(hf:f.JS.JT=.bor\/f.JS.JT=.frz):EF [.obj .own 3 [] [],.lst f (iL ps)]=.ok (cnt .own ps):=by refine cz (e:=[some (cnt .own ps),some (.lst f (iL ps))]) ?_ rfl;show Fh [some (.obj .own 3 [] []),some (.lst f (iL ps))]=_;unfold Fh;have rf:=rK T hl hf;refine ae (fL (v:=.non) (by simp[rf,aB])) ?_;refine ae (bE (v:=.tup (iL ps)) (ks:=[]) (vs:=[]) (by simp[p1,dA,aM]) rfl (by simp[PV.JZ,PV.has]) rfl (by decide)) ?_;have:=fP (env:=[some (.obj .own 3 [11] [.tup (iL ps)]),some (.lst f (iL ps))]) (m:=jX) (ms:=ad (mOp aK (ar (p1 bV) (ad (ac 1) ak)) (J3 1)) (ad (mOp aK (ar (p1 bV) (ad (ac 1) ak)) (J3 2)) ak)) (xs:=[.int (ps.length+1),.int (ps.length+2)]) rfl (by simp[p1,bV,aM]) (by simp) (by simpa using vF (ps:=ps)) (by simp[PV.has]);exact this
def qA{env:En}{g:TgM}{mc:MT}{me:ME}{at_:Int}:∀(ps:JI) (k:Int),(∀j v:Int,v∈ps->∃e1,g (.tup [.int j,.int v]) env=some e1/\mc e1=.ok (decide (v=at_))/\me e1=.ok (.int j))->eK g mc me env (enP k (iL ps))=.ok (iL (dP at_ k ps))
 | [],_,_=>rfl
 |p::ps,k,h=>by
  obtain⟨e1,h1,h2,h3⟩:=h k p mem_cons_self;have ih:=qA (at_:=at_) ps (k+1) fun j v hv=>h j v (mem_cons_of_mem _ hv);simp only[gM,enP,eK];have b:(PV.tup [.int k,.int p]).JV=.tup [.int k,.int p]:=by simp[PV.JV]
  rw[b,h1];simp only[h2,Res.J2];unfold dP;by_cases hc:p=at_
  ·simp[hc,h3,ih]
  ·simp[hc,ih]
def nZ{ps:JI}{i:Int}(hl:ps.length<=1000):EL [cnt .bor ps,.int i]=.ok (.lst .own (iL (dP i 1 ps))):=by refine ay ?_;show Fu [some (cnt .bor ps),some (.int i)]=_;unfold Fu;refine aU (aR (xs:=enP 1 (iL ps)) ?_ (by rw[lf,bv];omega) (qA ps 1 fun j v _=>⟨[some (.int i),some (.int j),some (.int v)],by simp[tgT,cN,tgN,ja,aT,bW],by simp,by simp⟩)) (by simp);unfold Ba;simp[ap,bL,aM]
def Sm(cs:JI):Prop:=∀c∈cs,0<=c/\c<=1000
def BP{ps:JI}(hfc:Fc fc)(hl:ps.length<=9)(hs:Sm cs)(hn:cs.length=ps.length+1):yr [cnt .bor ps,.lst fc (iL cs),.int i]=.ok (.int (yJ (ps.length+1) ps cs i)):=by
 refine ay ?_;show zB [some (cnt .bor ps),some (.lst fc (iL cs)),some (.int i)]=_;unfold zB yJ lx;have ho:=nZ (ps:=ps) (i:=(i:Int)) (by omega);have kl:=lX (at_:=(i:Int)) (k:=1) (ps:=ps);have hc:aY [1] 1 (da (bB aO (ac 0) (ad (ac 2) ak))) (tgN 1) bS (mOp aQ (ac 0) (ac 1)) [some (cnt .bor ps),some (.lst fc (iL cs)),some (.int i)]=.ok (.lst .own (iL ((dP i 1 ps).map fun k=>gt cs k.toNat))):=by refine aR (xs:=iL (dP i 1 ps)) (by simp[aO,ho,aB]) (by rw[bv];omega) (f_ (fun k=>gt cs k.toNat) _ fun x hx=>⟨[some (.lst fc (iL cs)),some (.int x)],by simp[tgN,aT,bW,hfc.bo],?_⟩);obtain⟨h1,h2,_⟩:=iQ hx;simp[hfc.le,cT (f:=fc) (cs:=cs) (i:=x) (by omega) (by omega)]
 have sm:jK (.lst .own (iL ((dP i 1 ps).map fun k=>gt cs k.toNat)))=.ok (.int ((dP i 1 ps).map fun k=>gt cs k.toNat).sum):=kR (by simp;omega) fun x hx=>by obtain⟨k,hk,rfl⟩:=mem_map.mp hx;obtain⟨h1,h2,_⟩:=iQ hk;have:=hs _ (eH (far:=cs) (i:=k.toNat) (by omega));omega
 refine aU ?_ (by simp);simp only[fg,cj,cX,gQ,hc];simp[ap,bL,p1,sm,fC]
def InS(sp:Int)(cs:JI):Prop:=∀c∈cs,0<=c/\c<sp
structure Rl(o:PV)(n:Nat)(sp:Int)(al:Bool)(D:JI->Nat->Int):Prop where
 le:o.J0 Fl.JS=o:=by simp
 tb:o.J0 Fl.JT=o:=by simp
 bo:o.J0 Fl.JV=o:=by simp
 a0:ap 0 o=.ok (.int n):=by simp[ap,bL]
 a7:ap 7 o=.ok (.int sp):=by simp[ap,bL]
 a8:ap 8 o=.ok (.bl al):=by simp[ap,bL]
 s0:0<sp:=by omega
 n1:1<=n:=by omega
 n20:n<=20:=by omega
 due:∀fc cs k,Fc fc->cs.length=n->InS sp cs->k<n->gy ax (.ok [.lst fc (iL cs),.int k]) o=.ok (.int (D cs k))/\0<=D cs k/\D cs k<sp
 rd:∀r,gy aZ r o=r.bind fun xs=>aL gO (o::xs):=by intro r;simp[aZ]
 mv:∀r,gy ao r o=r.bind fun xs=>aL gP (o::xs):=by intro r;simp[ao]
 tu:∀r,gy aG r o=r.bind fun xs=>aL gu (o::xs):=by intro r;simp[aG]
def mvR(n:Nat)(D:JI->Nat->Int)(cs:JI):JI:=((range n).filter fun i=>decide (D cs i≠gt cs i)).map fun i:Nat=>(i:Int)
def stR(n:Nat)(D:JI->Nat->Int)(cs nm:JI):JI:=(range n).map fun i:Nat=>if nm.contains (i:Int)then D cs i else gt cs i
def mP(n:Nat)(al:Bool)(nm:JI):Prop:=nm.Nodup/\(∀x∈nm,0<=x/\x<n)/\(al=true->nm.length<=1)/\nm.length<=1000
section
variable{o:PV}{n:Nat}{sp:Int}{al:Bool}{D:JI->Nat->Int}{cs nm:JI}{f fn:Fl}
def Ct(r:Rl o n sp al D)(hn:cs.length=n)(hc:InS sp cs)(nm:JI):(stR n D cs nm).length=n/\InS sp (stR n D cs nm):=by
 refine⟨by simp[stR],fun c hc'=>?_⟩;unfold stR at hc';obtain⟨i,hi,rfl⟩:=mem_map.mp hc';have hi:=mem_range.mp hi;split
 ·exact(r.due .bor cs i (.inl rfl) hn hc hi).2
 ·exact hc _ (eH (by omega))
def kX:(mvR n D cs).length<=n:=by
 unfold mvR;rw[length_map];have:=length_filter_le (fun i=>decide (D cs i≠gt cs i)) (range n)
 rwa [length_range]at this
def de(r:Rl o n sp al D)(hf:Fc f\/f=.own)(hn:cs.length=n)(hc:InS sp cs):gP [o,.lst f (iL cs)]=.ok (.lst .own (iL (mvR n D cs))):=by
 have n20:=r.n20;have fb:=Fc.of hf;refine ay ?_;show zo [some o,some (.lst f (iL cs))]=_;unfold zo mvR;refine aU ?_ (by simp);refine aR (xs:=cC 0 n) (bD (n:=n) (by simp[r.le,r.a0]) (by omega)) (by rw[bu];omega) (eV (fun k=>decide (D cs k≠gt cs k)) (fun k=>(k:Int)) n fun k hk=>⟨[some o,some (.lst f.JV (iL cs)),some (.int (0+k))],by simp[tgN,aT,bW,PV.JV,r.bo],?_,fun _=>by simp⟩);generalize f.JV=fc at *;have gk:aQ (.lst fc (iL cs)) (.int (k:Int))=.ok (.int (gt cs k)):=by simpa using cT (f:=fc) (cs:=cs) (i:=k) (by omega) (by omega)
 simp[r.le,fb.le,(r.due fc cs k fb hn hc hk).1,gk]
def uF(r:Rl o n sp al D)(hf:Fc fn)(hg:mP n al nm):ua [o,.lst fn (iL nm)]=.ok .non:=by
 obtain⟨hd,hr,ha,hl⟩:=hg;refine fM ?_;show Ends (qP [some o,some (.lst fn (iL nm)),none]);unfold qP;refine gR (bF ?_ az) ?_
 ·cases al with
  |false=>simp[r.le,r.a8]
  |true=>have:=ha rfl;simp[r.le,r.a8];omega
 refine yG (fun _ e=>∃x,e=[some o,some (.lst fn (iL nm)),x]) (xs:=iL nm) (c9 (f:=fn) (by simp[hf.le]) hf.nl (by simp) (by simp)) ⟨_,rfl⟩ (fun k x e hx hP=>?_) (fun e hP=>?_)
 ·obtain⟨y,rfl⟩:=hP;obtain⟨m,hm,rfl⟩:=iR hx;obtain⟨h1,h2⟩:=hr m (List.mem_of_getElem? hm);refine⟨_,cV rfl,cG (bF ?_ az) ⟨_,rfl⟩⟩;simp[r.le,r.a0,show ¬m<0 by omega,show ¬(n:Int)<= m by omega]
 ·obtain⟨y,rfl⟩:=hP;exact vA (bF (by simp[kh hl,qy hd]) az)
def Fc.call(h:Fc f\/f=.own):Fc f.JS.JT:=by
 rcases h with(rfl|rfl)|rfl
 ·exact .inl rfl
 ·exact .inr rfl
 ·exact .inl rfl
def j0(r:Rl o n sp al D)(hf:Fc f\/f=.own)(hfn:Fc fn\/fn=.own)(hn:cs.length=n)(hc:InS sp cs)(hg:mP n al nm):gu [o,.lst f (iL cs),.lst fn (iL nm)]=.ok (.lst .own (iL (stR n D cs nm))):=by
 have n20:=r.n20;have fb:=Fc.of hf;refine ay ?_;show qO [some o,some (.lst f (iL cs)),some (.lst fn (iL nm))]=_;unfold qO stR;refine ae (fL (v:=.non) (by simp[r.le,r.tb,uF r (Fc.call hfn) hg,aB])) (aU ?_);refine aR (xs:=cC 0 n) (bD (n:=n) (by simp[r.le,r.a0]) (by omega)) (by rw[bu];omega) (eW 0 (fun i:Nat=>if nm.contains (i:Int)then D cs i else gt cs i) n fun k hk=>⟨[some (.lst fn.JV (iL nm)),some o,some (.lst f.JV (iL cs)),some (.int (0+k))],by simp[tgN,aT,bW,PV.JV,r.bo],?_⟩);generalize f.JV=fc at *;have gk:∀f,aQ (.lst f (iL cs)) (.int (k:Int))=.ok (.int (gt cs k)):=fun f=>by simpa using cT (f:=f) (cs:=cs) (i:=k) (by omega) (by omega)
 have dk:=(r.due fc cs k fb hn hc hk).1;by_cases q:nm.contains (k:Int)=true
 ·simp only[q,if_true];simp at q;simp[q,r.le,fb.le,dk,aB]
 ·simp only[q];simp at q;simp[q,gk]
def dnR(n:Nat)(D:JI->Nat->Int)(cs nm:JI):JI:=(mvR n D cs).filter fun a=>nm.contains a
def uy(r:Rl o n sp al D)(hf:Fc f)(hfn:Fc fn)(hn:cs.length=n)(hc:InS sp cs)(hg:mP n al nm):mj [o,.lst f (iL cs),.lst fn (iL nm)]=.ok (.tup [.lst .own (iL (dnR n D cs nm)),.lst .own (iL (stR n D cs nm))]):=by
 have n20:=r.n20;have ml:=kX (n:=n) (D:=D) (cs:=cs);refine ay ?_;show qK [some o,some (.lst f (iL cs)),some (.lst fn (iL nm)),none,none]=_;unfold qK;refine ae (aC (v:=.lst .own (iL (stR n D cs nm))) (by simp[r.le,r.tb,r.tu,hf.le,hf.tb,hfn.le,hfn.tb,j0 r (.inl hf) (.inl hfn) hn hc hg,aB])) ?_;simp only[s0_,s1_];refine ae (aC (v:=.lst .own (iL (dnR n D cs nm))) ?_) ?_
 ·refine aR (xs:=iL (mvR n D cs)) (by simp[r.le,r.tb,r.mv,hf.le,hf.tb,de r (.inl hf) hn hc,aB]) (by simp;omega) ?_;have:=gv (env:=bW [2] 1 [some o,some (.lst f (iL cs)),some (.lst fn (iL nm)),some (.lst .own (iL (stR n D cs nm))),none]) (g:=tgN 1) (mc:=aw (mOp pIn (ac 1) (ac 0))) (me:=ac 1) (fun a=>nm.contains a) (fun a=>a) (mvR n D cs) fun x hx=>⟨[some (.lst fn (iL nm)),some (.int x)],by simp[tgN,aT,bW,PV.JV,hfn.bo],by simp,fun _=>by simp⟩
  unfold dnR;rw[List.map_id']at this;exact this
 ·simp only[s0_,s1_];rfl
def i8(f:Fl)(p:JI×JI):PV:=.tup [.lst f (iL p.1),.lst f (iL p.2)]
def Gs(n:Nat)(D:JI->Nat->Int):JI->List (JI)->List (JI×JI)
 |_,[]=>[]
 |cs,nm::tns=>(dnR n D cs nm,stR n D cs nm)::Gs n D (stR n D cs nm) tns
@[simp] def Gu{g:Fl->Fl}(ps:List (JI×JI)):mapL g (ps.map (i8 f))=ps.map (i8 (g f)):=by
 induction ps with
 |nil=>simp
 |cons a l ih=>simp[ih,i8]
def sV{rs:JI}(r:Rl o n sp al D)(hn:rs.length=n):gO [o,.lst f (iL rs)]=.ok (.lst .own (iL (rs.map (· % sp)))):=by have n20:=r.n20;refine ay ?_;show ze [some o,some (.lst f (iL rs))]=_;unfold ze;refine ae (bF (by simp[r.le,r.a0,hn]) az) (aU ?_);refine aR (xs:=iL rs) (by simp) (by simp;omega) ?_;exact f_ (· % sp) rs fun x hx=>⟨[some o,some (.int x)],by simp[tgN,aT,bW,PV.JV,r.bo],by simp[r.le,r.a7,bA r.s0]⟩
def D7{rs:JI}(r:Rl o n sp al D):InS sp (rs.map (· % sp)):=fun c hc=>by obtain⟨x,_,rfl⟩:=mem_map.mp hc;have:=r.s0;exact⟨emod_nonneg _ (by omega),emod_lt_of_pos _ r.s0⟩
end
abbrev j2(f:Fl)(size span:Int):PV:=.obj f 9 [0,7,8] [.int size,.int span,.bl false]
def wC{size span:Int}(h1:2<=size)(h2:size<=20)(h3:size<=span):yz [.obj .own 9 [] [],.int size,.int span]=.ok (j2 .own size span):=by
 refine cz (e:=[some (j2 .own size span),some (.int size),some (.int span)]) ?_ rfl;show zK [some (.obj .own 9 [] []),some (.int size),some (.int span)]=_;unfold zK;refine ae (bF (by simp[show ¬size<2 by omega,show ¬20<size by omega]) az) ?_;refine ae (bF (by simp[show ¬span<size by omega]) az) ?_;have ri:eQ [.obj .own 9 [] [],.int size,.int span,.bl false]=.ok (j2 .own size span):=by refine cz (e:=[some (j2 .own size span),some (.int size),some (.int span),some (.bl false)]) ?_ rfl;show ge [some (.obj .own 9 [] []),some (.int size),some (.int span),some (.bl false)]=_;unfold ge;refine ae (bE (v:=.int size) (ks:=[]) (vs:=[]) (by simp) rfl (by simp) rfl (by decide)) ?_;refine ae (bE (v:=.int span) (ks:=[0]) (vs:=[.int size]) (by simp) rfl (by simp) rfl (by decide)) ?_;exact bE (v:=.bl false) (ks:=[0,7]) (vs:=[.int size,.int span]) (by simp) rfl (by simp) rfl (by decide)
 have:=fP (env:=[some (.obj .own 9 [] []),some (.int size),some (.int span)]) (m:=eQ) (ms:=ad (ac 1) (ad (ac 2) (ad (mC (.bl false)) ak))) (xs:=[.int size,.int span,.bl false]) rfl (by simp) (by simp) (by simpa using ri) (by simp[PV.has]);simpa using this
def m5(sp:Int)(cs:JI)(i:Nat):Int:=if i=0 then(if gt cs 0=gt cs (cs.length-1)then(gt cs 0+1)%sp else gt cs 0)else gt cs (i-1)
def AU(hfc:Fc fc)(hn:cs.length=n)(hi:i<n)(hs:0<sp):yq [j2 .bor n sp,.lst fc (iL cs),.int i]=.ok (.int (m5 sp cs i)):=by
 refine ay ?_;show zA [some (j2 .bor n sp),some (.lst fc (iL cs)),some (.int i)]=_;unfold zA m5;by_cases h0:i=0
 ·subst h0;rw[if_pos rfl];have g0:aQ (.lst fc (iL cs)) (.int 0)=.ok (.int (gt cs 0)):=cT (by omega) (by omega);have gl:aQ (.lst fc (iL cs)) (.int ((n:Int)-1))=.ok (.int (gt cs (cs.length-1))):=by rw[cT (by omega) (by omega)];congr 3;omega
  refine ae (bF (by simp) az) ?_;by_cases hc:gt cs 0=gt cs (cs.length-1)
  ·rw[if_pos hc];exact dh (fF (by simp[ap,bL,hfc.le,g0,gl,<- hc]) (aU (by simp[ap,bL,hfc.le,g0,bA hs])))
  ·rw[if_neg hc];exact ae (bF (by simp[ap,bL,hfc.le,g0,gl,hc]) az) (aU (by simp[hfc.le,g0]))
 ·rw[if_neg h0];have gl:aQ (.lst fc (iL cs)) (.int ((i:Int)-1))=.ok (.int (gt cs (i-1))):=by rw[cT (by omega) (by omega)];congr 3;omega
  exact dh (fF (by simp;omega) (aU (by simp[hfc.le,gl])))
def BK(hn:cs.length=n)(hc:InS sp cs)(hi:i<n)(hs:0<sp):0<=m5 sp cs i/\m5 sp cs i<sp:=by
 unfold m5;split
 ·split
  ·exact⟨emod_nonneg _ (by omega),emod_lt_of_pos _ hs⟩
  ·exact hc _ (eH (by omega))
 ·exact hc _ (eH (by omega))
def kU(h1:1<=n)(h20:n<=20)(hs:0<sp):Rl (j2 .bor n sp) n sp false (m5 sp) where
 due:=fun fc cs k hfc hn hc hk=>⟨by simp[ax,hfc.tb,AU hfc hn hk hs,aB],BK hn hc hk hs⟩
def wm(h1:1<=n)(h20:n<=20)(rg:∀x∈ps,0<=x.1/\x.1<n/\0<=x.2/\x.2<n/\x.1≠x.2)(hl:∀i,(nbL ps i).length<=1000):Rl (pnt .bor n ps) n n false (sC ps) where
 due:=fun fc cs k hfc hn hc hk=>⟨by simp[ax,hfc.tb,z9 rg hfc hl hn hk,aB],BJ rg hk⟩
def wn{ps:JI}(hl:ps.length<=9):Rl (cnt .bor ps) (ps.length+1) ((ps.length:Int)+2) false (yJ (ps.length+1) ps) where
 due:=fun fc cs k hfc hn hc hk=>by
  have sm:Sm cs:=fun c hc'=>by have:=hc c hc';omega
  refine⟨by simp[ax,hfc.tb,BP (i:=k) hfc hl sm hn,aB],?_⟩;have nn:=pN (cs:=cs) (l:=dP k 1 ps) fun j hj=>by obtain⟨h1,h2,_⟩:=iQ hj;exact(hc _ (eH (far:=cs) (i:=j.toNat) (by omega))).1
  unfold yJ;omega
def ug(ht:0<=tp)(ho:OkS tp os)(hn:cs.length=n)(hnb:∀x∈nbL ps i,0<=x/\x<n)(hc:∀c∈cs,0<=c):0<=kN ps os st tp cs i/\kN ps os st tp cs i<=tp:=by
 unfold kN;obtain⟨m1,m2⟩:=lQ (l:=oS ps st tp cs i ++(os.getD i none).toList++[tp]) (by simp);have h2:=m2 tp (by simp);generalize gE (oS ps st tp cs i ++(os.getD i none).toList++[tp])=M at *;refine⟨?_,h2⟩;rcases mem_append.mp m1 with q|q
 ·rcases mem_append.mp q with q|q
  ·unfold oS at q;obtain⟨c,hc1,rfl⟩:=mem_map.mp q;obtain⟨o,ho1,rfl⟩:=mem_map.mp (mem_filter.mp hc1).1;have:=hnb o ho1;have:=hc _ (eH (far:=cs) (i:=o.toNat) (by omega));omega
  ·have e:os.getD i none=some M:=by
    cases eo:os.getD i none with
    |none=>rw[eo]at q;cases q
    |some s=>rw[eo]at q;exact congrArg some (mem_singleton.mp q).symm
   have hm:some M∈os:=by
    rw[getD_eq_getElem?_getD]at e;cases e2:os[i]? with
    |none=>rw[e2]at e;cases e
    |some x=>rw[e2]at e;rw[<- show x=some M from e];exact List.mem_of_getElem? e2
   exact(ho M hm).1
 ·have:=mem_singleton.mp q;omega
def pS(hcc:cc=4\/cc=5\/cc=6)(h1:1<=n)(h20:n<=20)(hst:0<st)(ht:0<=tp)(ho:OkS tp os)(hol:os.length=n)(hnb:∀i:Nat,∀x∈nbL ps i,0<=x/\x<n)(hl:∀i,(nbL ps i).length<=1000):Rl (lea .bor cc n ps os st tp) n (tp+1) true (kN ps os st tp) where
 due:=fun fc cs k hfc hn hc hk=>by have d:=qd (cc:=cc) (ps:=ps) (os:=os) (st:=st) (tp:=tp) (cs:=cs) (i:=k) hfc (by rcases hcc with rfl|rfl|rfl<;>rfl) (hnb k) (hl k) hst hn hol hk;have b:=ug (st:=st) (i:=k) ht ho hn (hnb k) fun c hc'=>(hc c hc').1;refine⟨?_,b.1,by omega⟩;rcases hcc with rfl|rfl|rfl<;>simp[ax,hfc.tb,d,aB]
 rd:=fun r=>by rcases hcc with rfl|rfl|rfl<;>simp[aZ]
 mv:=fun r=>by rcases hcc with rfl|rfl|rfl<;>simp[ao]
 tu:=fun r=>by rcases hcc with rfl|rfl|rfl<;>simp[aG]
def ss(h:1<=n):OkS n (fs n r):=fun s hs=>by
 simp only[fs,mem_map,mem_range]at hs;obtain⟨i,_,e⟩:=hs;split at e
 ·cases e;omega
 ·cases e
def BM(h1:1<=n)(hn:cs.length=n)(hi:i<n)(hnb:∀i:Nat,∀x∈nbL ps i,0<=x/\x<n)(hc:InS (((n:Int)+1)*((n:Int)+1)) cs):0<=sD n ps r cs i/\sD n ps r cs i <((n:Int)+1)*((n:Int)+1):=by
 have hfa:∀c∈FA n cs,0<=c:=fun c hc'=>by obtain⟨x,hx,rfl⟩:=mem_map.mp hc';exact Int.ediv_nonneg (hc x hx).1 (by omega)
 obtain⟨b1,b2⟩:=ug (ps:=ps) (os:=fs n r) (st:=n) (tp:=n) (cs:=FA n cs) (i:=i) (by omega) (ss h1) (show(FA n cs).length=n by simpa using hn) (hnb i) hfa;have c1:=zY hn i hi;have sn:0 <=(mY n ps r cs i).sum:=by
  have:∀l:JI,(∀x∈l,0<=x)->0<=l.sum:=fun l=>by
   induction l with
   |nil=>simp
   |cons a l ih=>intro h;have:=ih fun x hx=>h x (mem_cons_of_mem _ hx);have:=h a mem_cons_self;simp;omega
  exact this _ fun x hx=>(qf hn hx).1
 unfold sD dcn;generalize kN ps (fs n r) n n (FA n cs) i=d at *;have m1:0<=d*((n:Int)+1):=Int.mul_nonneg b1 (by omega);have m2:d*((n:Int)+1)<= n*((n:Int)+1):=Int.mul_le_mul_of_nonneg_right b2 (by omega);have m3:((n:Int)+1)*((n:Int)+1)=n*((n:Int)+1)+((n:Int)+1):=by rw[Int.add_mul,Int.one_mul]
 split<;>omega
def AA(h1:1<=n)(h10:n<=10)(hnb:∀i:Nat,∀x∈nbL ps i,0<=x/\x<n)(hl:∀i:Nat,(nbL ps i).length<=1000):Rl (gro .bor n ps r) n (((n:Int)+1)*((n:Int)+1)) true (sD n ps r) where
 s0:=Int.mul_pos (by omega) (by omega)
 due:=fun fc cs k hfc hn hc hk=>⟨by simp[ax,hfc.tb,BL (r:=r) hfc h1 h10 hnb hl hn hk,aB],BM h1 hn hk hnb hc⟩
def iW{e:Nat}{b:Int}(h1:0<b)(h2:b<=1000)(he:e<=1000):n4 [.int b,.int e]=.ok (.int (b ^ e)):=by
 refine ay ?_;show y4 [some (.int b),some (.int e),none,none]=_;unfold y4;refine ae (aC (v:=.int 1) (by simp)) ?_;simp only[s0_,s1_];refine g7 (fun k en=>∃x,en=[some (.int b),some (.int e),some (.int (b ^ k)),x]) (bD (n:=e) (by simp) (by omega)) ⟨none,by simp⟩ (fun k x en hx hP=>?_) (fun en hP=>?_)
 ·obtain⟨y,rfl⟩:=hP;obtain⟨hk,rfl⟩:=fS hx;have m1:dD (.int (b ^ k)) (.int b)=.ok (.int (b ^ k*b)):=fE (.inr ⟨by omega,by omega⟩);exact⟨_,cV rfl,cG (aC (v:=.int (b ^ (k+1))) (by simp[m1,Int.pow_succ])) ⟨_,rfl⟩⟩
 ·obtain⟨y,rfl⟩:=hP;rw[bu];exact iH rfl
def vT(h:n<=10):(0:Int)<2 ^ n/\(2:Int) ^ n<=1024:=by
 refine⟨Int.pow_pos (by decide),?_⟩;rcases Nat.lt_or_ge n 10 with q|q
 ·exact Int.le_of_lt (Int.pow_lt_pow_of_lt (c:=10) (by decide) q)
 ·rw[show n=10 by omega];decide
section
variable{n:Nat}{D:JI->Nat->Int}{cs nm:JI}{i:Nat}
def Wl(rk:Nat->Nat)(n:Nat)(p:Nat->Bool):Int:=(((range n).filter p).map fun i=>(2:Int) ^ rk i).sum
variable{rk:Nat->Nat}{p p':Nat->Bool}
def vQ(n10:n<=10)(hr:∀i,i<n->rk i<n):jK (.lst f (iL (((range n).filter p).map fun i=>(2:Int) ^ rk i)))=.ok (.int (Wl rk n p)):=by
 refine kR ?_ fun x hx=>?_
 ·rw[length_map];exact Nat.le_trans (length_filter_le _ _) (by simp;omega)
 ·obtain⟨i,hi,rfl⟩:=mem_map.mp hx;have:=hr i (mem_range.mp (mem_filter.mp hi).1);have:=vT (n:=rk i) (by omega);omega
abbrev mvB(D:JI->Nat->Int)(cs:JI)(i:Nat):Bool:=decide (D cs i≠gt cs i)
def mq(r:Rl o n sp al D)(n10:n<=10)(hr:∀i:Nat,i<n->gy cf (.ok [.int i]) o=.ok (.int (rk i))/\rk i<n)(hf:Fc f\/f=.own)(hn:cs.length=n)(hc:InS sp cs):o7 [o,.lst f (iL cs)]=.ok (.int (Wl rk n (mvB D cs))):=by
 refine ay ?_;show Fo [some o,some (.lst f (iL cs))]=_;unfold Fo;have mo:=de r (.inl (Fc.call hf)) hn hc;have ml:=kX (n:=n) (D:=D) (cs:=cs);refine aU ?_ (by simp);simp only[fg,cj,cX];rw[aR (xs:=iL (mvR n D cs)) (ys:=iL (((range n).filter (mvB D cs)).map fun i=>(2:Int) ^ rk i)) (by simp[r.le,r.tb,r.mv,mo,aB]) (by rw[bv];omega) ?_]
 ·simp[p1,vQ n10 fun i hi=>(hr i hi).2]
 ·unfold mvR;rw[show ∀l:List Nat,iL (l.map fun i:Nat=>(i:Int))=l.map fun i:Nat=>PV.int i from fun l=>by simp[iL],show ∀l:List Nat,iL (l.map fun i=>(2:Int) ^ rk i)=l.map fun i=>PV.int (2 ^ rk i)from fun l=>by simp[iL]];refine bN (a:=fun i:Nat=>PV.int i) (f:=fun i=>PV.int (2 ^ rk i)) _ fun x hx=>⟨[some o,some (.int x)],by simp[tgN,aT,bW,r.bo],?_,by simp,by simp⟩
  have hx:=hr x (mem_range.mp (mem_filter.mp hx).1);have pw:=iW (e:=rk x) (b:=2) (by decide) (by decide) (by omega);simp[r.le,hx.1,pw,aB]
end
def num(b:Int)(r f:Nat->Nat):Nat->Int
 |0=>0
 |m+1=>(num b r f m*b+r m)*b+f m
def wo(n:Nat)(A x:Nat->Int)(m:Nat):Nat:=((range n).filter fun i=>decide (x i=m)&&decide ((m:Int)<A i)).length
def xY(n:Nat)(A x:Nat->Int)(m:Nat):Nat:=((range n).filter fun i=>decide ((m:Int)<x i)&&decide (A i=m)).length
def Eu{p:Nat->Bool}:((range n).filter p).length<=n:=by
 have:=length_filter_le p (range n)
 rwa [length_range]at this
def mL(n T:Nat)(A x:Nat->Int):Int:=num ((n:Int)+1) (wo n A x) (xY n A x) T
def pJ(f g:Nat->Int):∀l:List Nat,iD (iL (l.map f)) (iL (l.map g))=l.map fun i=>prV (f i,g i)
 | []=>rfl
 |i::l=>by have:=pJ f g l;simp only[iL,map_cons,iD]at this ⊢;rw[this];rfl
def qc{T:Nat}{D:Nat->Int}(hf:Fc fc\/fc=.own)(hd:∀f k,Fc f->k<n->gy ax (.ok [.lst f (iL cs),.int k]) (lea .bor cc n ps os st T)=.ok (.int (D k)))(hn:cs.length=n)(n10:n<=10)(hT:T<=1000) :
  qp [lea .bor cc n ps os st T,.lst fc (iL cs)]=.ok (.int (mL n T D (gt cs))):=by
 have fb:=Fc.of hf;refine ay ?_;show Fq [some (lea .bor cc n ps os st T),some (.lst fc (iL cs)),none,none,none,none,none,none]=_;unfold Fq mL;refine ae (aC (v:=.lst .own (iL ((range n).map D))) ?_) ?_
 ·refine aR (xs:=cC 0 n) (bD (n:=n) (by simp[ap,bL]) (by omega)) (by rw[bu];omega) (eW 0 D n fun k hk=>⟨[some (lea .bor cc n ps os st T),some (.lst fc.JV (iL cs)),some (.int (0+k))],by simp[tgN,aT,bW],?_⟩);have:=hd _ k fb hk;simp[fb.le,this]
 simp only[s0_,s1_];refine ae (aC (v:=.int ((n:Int)+1)) (by simp[ap,bL])) ?_;simp only[s0_,s1_];refine ae (aC (v:=.int 0) (by simp)) ?_;simp only[s0_,s1_];have zp:iD (iL cs) (iL ((range n).map D))=(range n).map fun i=>prV (gt cs i,D i):=by have:=pJ (gt cs) D (range n);rw[<- hn,gtR]at this;rw[<- hn];exact this
 refine g7 (fun k e=>∃x5 x6 x7,e=[some (lea .bor cc n ps os st T),some (.lst fc (iL cs)),some (.lst .own (iL ((range n).map D))),some (.int ((n:Int)+1)),some (.int (num ((n:Int)+1) (wo n D (gt cs)) (xY n D (gt cs)) k)),x5,x6,x7]) (bD (n:=T) (by simp[ap,bL]) (by omega)) ⟨_,_,_,rfl⟩ (fun k x e hx hP=>?_) (fun e hP=>?_)
 ·obtain⟨x5,x6,x7,rfl⟩:=hP;obtain⟨hk,rfl⟩:=fS hx;generalize hN:num ((n:Int)+1) (wo n D (gt cs)) (xY n D (gt cs)) k=N;have mz:∀x6 x7,jO (ad (ac 1) (ad (ac 2) ak)) [some (lea .bor cc n ps os st T),some (.lst fc (iL cs)),some (.lst .own (iL ((range n).map D))),some (.int ((n:Int)+1)),some (.int N),some (.int k),x6,x7]=.ok ((range n).map fun i=>prV (gt cs i,D i)):=fun x6 x7=>by unfold jO;simp only[cj,dC,cX,getElem?_cons_zero,getElem?_cons_succ,AV];simp[dI,zp]
  have row:∀(p:Nat->Bool) (mc:MT) (x6 x7:Option PV),(∀i,mc [some (.int k),some (.int (gt cs i)),some (.int (D i))]=.ok (p i))->aY [5] 2 (jO (ad (ac 1) (ad (ac 2) ak))) (tgT 2 (cN (tgN 1) (cN (tgN 2) ja))) mc (ac 1) [some (lea .bor cc n ps os st T),some (.lst fc (iL cs)),some (.lst .own (iL ((range n).map D))),some (.int ((n:Int)+1)),some (.int N),some (.int k),x6,x7]=.ok (.lst .own (iL (((range n).filter p).map (gt cs)))):=fun p mc x6 x7 hp=>by rw[show iL (((range n).filter p).map (gt cs))=((range n).filter p).map fun i=>PV.int (gt cs i) by simp[iL]];exact aR (mz _ _) (by simp;omega) (cL (a:=fun i=>prV (gt cs i,D i)) (f:=fun i=>.int (gt cs i)) (p:=p) (range n) fun i hi=>⟨[some (.int k),some (.int (gt cs i)),some (.int (D i))],rfl,hp i,fun _=>⟨by simp,rfl,rfl⟩⟩)
  refine⟨_,cV rfl,?_⟩;simp only[s0_,s1_,Int.zero_add];refine eJ (aC (v:=.lst .own (iL (((range n).filter fun i=>decide (gt cs i=k)&&decide ((k:Int)<D i)).map (gt cs)))) (row _ _ _ _ fun i=>by by_cases q:gt cs i=k<;>simp[q])) ?_;simp only[s0_,s1_];refine eJ (aC (v:=.lst .own (iL (((range n).filter fun i=>decide ((k:Int)<gt cs i)&&decide (D i=k)).map (gt cs)))) (row _ _ _ _ fun i=>by by_cases q:(k:Int)<gt cs i<;>simp[q])) ?_;simp only[s0_,s1_];have m1:∀x:Int,dD (.int x) (.int ((n:Int)+1))=.ok (.int (x*((n:Int)+1))):=fun x=>fE (.inr ⟨by omega,by omega⟩);exact cG (aC (v:=.int ((N*((n:Int)+1)+wo n D (gt cs) k)*((n:Int)+1)+xY n D (gt cs) k)) (by simp[m1,p1,bV,aM,wo,xY])) ⟨_,_,_,by subst hN;rfl⟩
 ·obtain⟨x5,x6,x7,rfl⟩:=hP;rw[bu];exact iH rfl
abbrev mT(n:Nat)(ps:JF)(os:List (JM))(st:Int)(T:Nat)(cs:JI):Int:=mL n T (kN ps os st T cs) (gt cs)
def kH{p q:Nat->Bool}:∀(l:List Nat) (i:Nat),i∈l->(∀j∈l,q j=true->p j=true)->p i=true->q i=false->(l.filter q).length <(l.filter p).length
 | [],_,h,_,_,_=>nomatch h
 |a::l,i,h,hs,hp,hq=>by
  have le:∀l:List Nat,(∀j∈l,q j=true->p j=true)->(l.filter q).length <=(l.filter p).length:=fun l hl=>by
   induction l with
   |nil=>simp
   |cons b l ih=>have:=ih fun j hj=>hl j (mem_cons_of_mem _ hj);have hb:=hl b mem_cons_self;rw[filter_cons,filter_cons];cases e1:q b<;>cases e2:p b<;>simp_all<;>omega
  rw[filter_cons,filter_cons];rcases mem_cons.mp h with rfl|h
  ·have:=le l fun j hj=>hs j (mem_cons_of_mem _ hj);rw[hp,hq];simp;omega
  ·have ih:=kH l i h (fun j hj=>hs j (mem_cons_of_mem _ hj)) hp hq;have ha:=hs a mem_cons_self;cases e1:q a<;>cases e2:p a<;>simp_all<;>omega
def ltF(fa:JI)(j i:Nat):Bool:=decide (gt fa j<gt fa i) ||(decide (gt fa j=gt fa i)&&decide (j<i))
def rnk(n:Nat)(fa:JI)(i:Nat):Nat:=((range n).filter fun j=>ltF fa j i).length
section
variable{n:Nat}{ps:JF}{r:Nat}{cs fa:JI}{i j:Nat}{fc:Fl}
def AC(hn:fa.length=n)(n10:n<=10)(hi:i<n):yk [.lst .bor (iL fa),.int i]=.ok (.int (rnk n fa i)):=by
 refine ay ?_;show zt [some (.lst .bor (iL fa)),some (.int i),none]=_;unfold zt;refine ae (aC (v:=.lst .own (iL (((range n).filter fun j=>ltF fa j i).map fun j:Nat=>(j:Int)))) ?_) ?_
 ·refine aR (xs:=cC 0 n) (bD (n:=n) (by simp[p1,bV,aM,hn]) (by omega)) (by rw[bu];omega) (eV (fun j=>ltF fa j i) (fun j:Nat=>(j:Int)) n fun k hk=>⟨[some (.lst .bor (iL fa)),some (.int i),some (.int (0+k))],by simp[tgN,aT,bW,Fl.JV],?_,fun _=>by simp⟩);have a1:∀(f:Fl) (k:Nat),k<n->aQ (.lst f (iL fa)) (.int (k:Int))=.ok (.int (gt fa k)):=fun f k hk=>by simpa using cT (f:=f) (cs:=fa) (i:=k) (by omega) (by omega)
  have e:HT.lexLt [gt fa k,(k:Int)] [gt fa i,(i:Int)]=ltF fa k i:=by
   simp only[HT.lexLt,ltF];by_cases h:gt fa k=gt fa i
   ·rw[if_pos h];by_cases h2:k=i
    ·subst h2;simp
    ·rw[if_neg (by omega)];simp[h]
   ·rw[if_neg h];simp[h]
  rw[<- e];simp[a1 _ k hk,a1 _ i hi,wO,bR]
 simp only[s0_,s1_];exact aU (by simp[p1,bV,aM,rnk]) (by simp)
def sT(hi:i<n):rnk n fa i<n:=by
 have:=kH (p:=fun _=>true) (q:=fun j=>ltF fa j i) (range n) i (mem_range.mpr hi) (fun _ _ _=>rfl) rfl (by simp[ltF])
 rwa [List.filter_eq_self.mpr (fun _ _=>rfl),length_range]at this
abbrev wrg(n:Nat)(ps:JF)(r:Nat)(cs:JI)(i:Nat):Bool:=decide (gt (CN n cs) i≠dcn n ps r cs i)
def xT{M:Int}(hf:Fc fc\/fc=.own)(n10:n<=10)(hnb:∀i:Nat,∀x∈nbL ps i,0<=x/\x<n)(hl:∀i:Nat,(nbL ps i).length<=1000)(hn:cs.length=n)
  (hM:qp [lea .bor 5 n ps (fs n r) n n,.lst .bor (iL (FA n cs))]=.ok (.int M)):BA [gro .bor n ps r,.lst fc (iL cs)]=.ok (.int (M*2 ^ n+Wl (rnk n (FA n cs)) n (wrg n ps r cs))):=by
 refine ay ?_;show Fn [some (gro .bor n ps r),some (.lst fc (iL cs)),none,none,none,none]=_;unfold Fn;have fo:=o6 (ps:=ps) (r:=r) (Fc.call hf) n10 hn;have co:=kr (ps:=ps) (r:=r) (Fc.call hf) n10 hn;have fb:=Fc.of hf;have fl:(FA n cs).length=n:=by simpa using hn
 refine ae (aC (v:=.lst .own (iL (FA n cs))) (by simp[dZ,fo,aB])) ?_;simp only[s0_,s1_];refine ae (aC (v:=.lst .own (iL (CN n cs))) (by simp[cY,co,aB])) ?_;simp only[s0_,s1_];refine ae (aC (v:=.lst .own (iL (((range n).filter (wrg n ps r cs)).map fun j:Nat=>(j:Int)))) ?_) ?_
 ·refine aR (xs:=cC 0 n) (bD (n:=n) (by simp[ap,bL]) (by omega)) (by rw[bu];omega) (eV (wrg n ps r cs) (fun j:Nat=>(j:Int)) n fun k hk=>⟨[some (.lst .bor (iL (CN n cs))),some (gro .bor n ps r),some (.lst fc.JV (iL cs)),some (.int (0+k))],by simp[tgN,aT,bW,Fl.JV],?_,fun _=>by simp⟩);have a1:∀f,aQ (.lst f (iL (CN n cs))) (.int (k:Int))=.ok (.int (gt (CN n cs) k)):=fun f=>by simpa using cT (f:=f) (cs:=CN n cs) (i:=k) (by omega) (by simp;omega)
  have dc:=yP (ps:=ps) (r:=r) (i:=k) fb n10 hnb hl hn;generalize fc.JV=g at fb dc ⊢;simp[a1,db,fb.le,fb.tb,dc,aB]
 simp only[s0_,s1_];refine ae (aC (v:=.lst .own (iL (((range n).filter (wrg n ps r cs)).map fun i=>(2:Int) ^ rnk n (FA n cs) i))) ?_) ?_
 ·rw[show ∀l:List Nat,iL (l.map fun i=>(2:Int) ^ rnk n (FA n cs) i)=l.map fun i=>PV.int (2 ^ rnk n (FA n cs) i)from fun l=>by simp[iL]];have hx:∀l:List Nat,iL (l.map fun j:Nat=>(j:Int))=l.map fun j:Nat=>PV.int (j:Int):=fun l=>by simp[iL]
  refine aR (xs:=((range n).filter (wrg n ps r cs)).map fun j:Nat=>PV.int (j:Int)) (by rw[<- hx];simp) (by have:=Eu (n:=n) (p:=wrg n ps r cs);rw[length_map];omega) (bN (a:=fun j:Nat=>PV.int (j:Int)) (f:=fun i=>PV.int ((2:Int) ^ rnk n (FA n cs) i)) _ fun k hk=>⟨[some (.lst .bor (iL (FA n cs))),some (.int k)],by simp[tgN,aT,bW,Fl.JV],?_,by simp,by simp⟩);have hk:=mem_range.mp (mem_filter.mp hk).1;have rl:=sT (fa:=FA n cs) hk;have pw:=iW (e:=rnk n (FA n cs) k) (b:=2) (by decide) (by decide) (by omega);simp[AC fl n10 hk,pw,aB,Fl.JS,Fl.JT]
 simp only[s0_,s1_];have pn:=iW (e:=n) (b:=2) (by decide) (by decide) (by omega);have p2:=vT n10;have mu:dD (.int M) (.int (2 ^ n))=.ok (.int (M*2 ^ n)):=fE (.inr ⟨by omega,by omega⟩);have sm:=fun f=>vQ (f:=f) (p:=wrg n ps r cs) n10 fun i hi=>sT (fa:=FA n cs) hi;generalize((range n).filter (wrg n ps r cs)).map (fun i=>(2:Int) ^ rnk n (FA n cs) i)=WS at *;generalize(2:Int) ^ n=PN at *;exact aU (by simp[ap,bL,gH,hM,pn,mu,p1,sm,aB]) (by simp)
end
def oy(cs:JI):Prop:=∃j i,j<i/\i<cs.length/\gt cs j≠gt cs 0/\gt cs i=gt cs 0
def IsJ(sp:Int)(cs:JI)(J:Nat):Prop:=(¬oy cs/\J=0)\/(oy cs/\1<=J/\J<cs.length/\(gt cs 0+J)%sp∉cs.drop 1/\∀s:Nat,1<=s->s<J->(gt cs 0+s)%sp∈cs.drop 1)
def yH{c:Int}{a b:Nat}(h:(c+a)%sp=(c+b)%sp)(ha:(a:Int)<sp)(hb:(b:Int)<sp):a=b:=by
 have h1:((c+a)-(c+b))%sp=0:=Int.emod_eq_emod_iff_emod_sub_eq_zero.mp h;rw[show(c+(a:Int))-(c+b)=(a:Int)-b by omega]at h1;obtain⟨k,hk⟩:=Int.dvd_of_emod_eq_zero h1;rcases Int.lt_trichotomy k 0 with q|q|q
 ·have:sp*k<=sp*(-1):=Int.mul_le_mul_of_nonneg_left (by omega) (by omega);omega
 ·subst q;omega
 ·have:sp*1<=sp*k:=Int.mul_le_mul_of_nonneg_left (by omega) (by omega);omega
section
variable{sp:Int}{cs nm:JI}{n:Nat}
def xW(hs:(cs.length:Int)<= sp)(hc:0<=gt cs 0/\gt cs 0<sp)(h:oy cs):∃s:Nat,1<=s/\s<cs.length/\(gt cs 0+s)%sp∉cs.drop 1:=by
 apply Classical.byContradiction;intro no;obtain⟨j,i,h1,h2,h3,e⟩:=h;have nd:((range cs.length).map fun s:Nat=>(gt cs 0+s)%sp).Nodup:=by rw[List.Nodup,pairwise_map];refine Pairwise.imp_of_mem (fun {a b} ha hb hab z=>?_) (nodup_range (n:=cs.length));have ha':=mem_range.mp ha;have hb':=mem_range.mp hb;exact hab (yH z (by omega) (by omega))
 have le:=p6 (l':=cs.drop 1) nd fun x hx=>by
  obtain⟨s,hs',rfl⟩:=mem_map.mp hx;have hs2:=mem_range.mp hs';by_cases q:s=0
  ·subst q;refine kD.mpr ⟨i,by omega,h2,?_⟩;rw[e,show gt cs 0+((0:Nat):Int)=gt cs 0 by omega,Int.emod_eq_of_lt hc.1 hc.2]
  ·exact Classical.byContradiction fun z=>no ⟨s,by omega,hs2,z⟩
 simp at le;omega
def v3(hfc:Fc fc)(h1:1<=cs.length)(h2:cs.length<=1000)(hs:(cs.length:Int)<= sp)(hc:0<=gt cs 0/\gt cs 0<sp):∃J:Nat,EE [.lst fc (iL cs),.int sp]=.ok (.int J)/\IsJ sp cs J:=by
 have g0:aQ (.lst fc (iL cs)) (.int 0)=.ok (.int (gt cs 0)):=cT (by omega) (by omega);have bg:∃b:Nat,ye [.lst fc (iL cs)]=.ok (.int b)/\b<=cs.length/\(gt cs 0∈cs.drop b↔oy cs):=by
  suffices hh:ku (zf [some (.lst fc (iL cs)),none]) (fun v=>∃b:Nat,v=.int b/\b<=cs.length/\(gt cs 0∈cs.drop b↔oy cs)) by obtain⟨v,h3,b,rfl,h4⟩:=hh;exact⟨b,ay h3,h4⟩
  unfold zf;refine dy (aC (v:=.int 1) (by simp)) ?_;simp only[s0_,s1_];refine lE (Fin:=fun e=>∃b:Nat,e=[some (.lst fc (iL cs)),some (.int b)]/\b<=cs.length/\(∀i,i<b->gt cs i=gt cs 0)/\(b<cs.length->gt cs b≠gt cs 0)) (fun m e=>∃b:Nat,e=[some (.lst fc (iL cs)),some (.int b)]/\m=cs.length-b/\b<=cs.length/\∀i,i<b->gt cs i=gt cs 0) (cs.length-1) (by omega) ⟨1,rfl,rfl,h1,fun i hi=>by rw[show i=0 by omega]⟩ (fun m e hP=>?_) fun e hF=>?_
  ·obtain⟨b,rfl,rfl,b2,al⟩:=hP;by_cases q:b<cs.length
   ·have gb:aQ (.lst fc (iL cs)) (.int (b:Int))=.ok (.int (gt cs b)):=by simpa using cT (f:=fc) (cs:=cs) (i:=b) (by omega) (by omega)
    by_cases q2:gt cs b=gt cs 0
    ·refine .inr ⟨by simp[p1,bV,aM,hfc.le,g0,gb,q2];omega,cs.length-(b+1),[some (.lst fc (iL cs)),some (.int (b+1:Nat))],by omega,.inl (aC (v:=.int ((b+1:Nat):Int)) (by simp)),b+1,rfl,rfl,by omega,fun i hi=>?_⟩;by_cases z:i=b
     ·rw[z];exact q2
     ·exact al i (by omega)
    ·exact .inl ⟨by simp[p1,bV,aM,hfc.le,g0,gb,q2],b,rfl,b2,al,fun _=>q2⟩
   ·exact .inl ⟨by simp[p1,bV,aM];omega,b,rfl,b2,al,fun z=>absurd z q⟩
  ·obtain⟨b,rfl,hb,al,nx⟩:=hF;refine fN (iH rfl) ⟨b,rfl,hb,?_⟩;rw[kD];constructor
   ·rintro⟨i,h1,h2,e⟩;have hb:=nx (by omega);refine⟨b,i,?_,h2,hb,e⟩;rcases Nat.lt_or_eq_of_le h1 with q|q
    ·exact q
    ·subst q;exact absurd e hb
   ·rintro⟨j,i,h1,h2,h3,e⟩;have:¬j<b:=fun z=>h3 (al j z);exact⟨i,by omega,h2,e⟩
 obtain⟨b,e1,bl,B⟩:=bg
 suffices hh:ku (Ff [some (.lst fc (iL cs)),some (.int sp),none]) (fun v=>∃J:Nat,v=.int J/\IsJ sp cs J) by obtain⟨v,h3,J,rfl,h4⟩:=hh;exact⟨J,ay h3,h4⟩
 unfold Ff;have cb:gS (iL cs) (some (b:Int)) none=iL (cs.drop b):=n_ cs b bl;have c1:gS (iL cs) (some 1) none=iL (cs.drop 1):=n_ cs 1 h1;have sp0:0<sp:=by omega
 by_cases st:oy cs
 ·have hm:=B.mpr st;refine dy (bF (by simp only[la,gQ,f8,iw,fO,dC,qr,fg,cj,cX];simp[hfc.le,hfc.tb,g0,e1,aB,cb];exact hm) az) ?_;refine dy (aC (v:=.int 1) (by simp)) ?_;simp only[s0_,s1_];obtain⟨s0,f1,f2,f3⟩:=xW hs hc st;refine lE (Fin:=fun e=>∃J:Nat,e=[some (.lst fc (iL cs)),some (.int sp),some (.int J)]/\IsJ sp cs J) (fun m e=>∃s:Nat,e=[some (.lst fc (iL cs)),some (.int sp),some (.int s)]/\m=s0-s/\1<=s/\s<=s0/\∀t:Nat,1<=t->t<s->(gt cs 0+t)%sp∈cs.drop 1) (s0-1) (by omega) ⟨1,rfl,rfl,by omega,f1,fun t a b=>by omega⟩ (fun m e hP=>?_) fun e hF=>?_
  ·obtain⟨s,rfl,rfl,b1,b2,al⟩:=hP;have tst:aw (mOp pIn (mOp cq (mOp aK (mOp aQ (ac 0) (J3 0)) (ac 2)) (ac 1)) (dB (ac 0) (eG (J3 1)) dr)) [some (.lst fc (iL cs)),some (.int sp),some (.int s)]=.ok (decide ((gt cs 0+s)%sp∈cs.drop 1)):=by simp only[la,gQ,f8,iw,fO,dC,qr];simp[hfc.le,g0,c1,bA sp0]
   by_cases q:(gt cs 0+s)%sp∈cs.drop 1
   ·have ns:s≠s0:=fun z=>f3 (by rw[<- z];exact q);refine .inr ⟨by rw[tst,decide_eq_true q],s0-(s+1),[some (.lst fc (iL cs)),some (.int sp),some (.int (s+1:Nat))],by omega,.inl (aC (v:=.int ((s+1:Nat):Int)) (by simp)),s+1,rfl,rfl,by omega,by omega,fun t t1 t2=>?_⟩;by_cases z:t=s
    ·rw[z];exact q
    ·exact al t t1 (by omega)
   ·exact .inl ⟨by rw[tst,decide_eq_false q],s,rfl,.inr ⟨st,b1,by omega,q,al⟩⟩
  ·obtain⟨J,rfl,hJ⟩:=hF;exact fN (iH rfl) ⟨J,rfl,hJ⟩
 ·have hm:gt cs 0∉cs.drop b:=fun z=>st (B.mp z);exact pT (by simp only[la,gQ,f8,iw,fO,dC,qr,fg,cj,cX];simp[hfc.le,hfc.tb,g0,e1,aB,cb];exact hm) (fN (v:=.int ((0:Nat):Int)) (aU (by simp)) ⟨0,rfl,.inl ⟨st,rfl⟩⟩)
def Fy{J J':Nat}(h:IsJ sp cs J)(h':IsJ sp cs J'):J=J':=by
 rcases h with⟨s,rfl⟩ |⟨s,a1,a2,a3,a4⟩<;>rcases h' with⟨s',rfl⟩ |⟨s',b1,b2,b3,b4⟩
 ·rfl
 ·exact absurd s' s
 ·exact absurd s s'
 ·rcases Nat.lt_trichotomy J J' with q|q|q
  ·exact absurd (b4 J a1 q) a3
  ·exact q
  ·exact absurd (a4 J' b1 q) b3
end
def nt(n:Nat)(al:Bool)(nm:JI):Prop:=(∃x∈nm,x<0 \/(n:Int)<= x)\/ ¬nm.Nodup \/(al=true/\1<nm.length)
section
variable{o:PV}{n:Nat}{sp:Int}{al:Bool}{D:JI->Nat->Int}{cs nm:JI}{f fn:Fl}
def uG(r:Rl o n sp al D)(hf:Fc fn)(hb:nt n al nm)(hl:nm.length<=1000):ua [o,.lst fn (iL nm)]=.exc 4:=by
 have key:∃e,qP [some o,some (.lst fn (iL nm)),none]=.exc 4 e:=by
  unfold qP;by_cases ha:al=true/\1<nm.length
  ·refine⟨_,ff (fF ?_ (j5 (xs:=[.str "a rule that is alone gets one machine at a turn"]) rfl))⟩;simp[r.le,r.a8,p1,bV,aM,ha.1];omega
  have s1:∀(a b:MS),mBr (eP (cF (mUn (ap 8) (ac 0))) (aw (mOp pGt (ar (p1 bV) (ad (ac 1) ak)) (J3 1)))) a aS [some o,some (.lst fn (iL nm)),none]=.next [some o,some (.lst fn (iL nm)),none]:=fun a b=>by
   refine bF ?_ az;cases al with
   |false=>simp[r.le,r.a8]
   |true=>simp[r.le,r.a8,p1,bV,aM];have:¬1<nm.length:=fun z=>ha ⟨rfl,z⟩;omega
  suffices hh:∃e,av (dv (dO (ac 1)) (tgN 2) (mBr ((gF (aw (mOp pLt (ac 2) (J3 0))) (aw (mOp pGe (ac 2) (mUn (ap 0) (ac 0)))))) (bj 4 (ad (mC (.str "a name is no machine")) ak)) aS))
    (mBr (aw (mOp pNe (mUn h_ (ac 1)) (ar (p1 bV) (ad (ac 1) ak)))) (bj 4 (ad (mC (.str "a machine is named twice")) ak)) aS) [some o,some (.lst fn (iL nm)),none]=.exc 4 e by
   obtain⟨e,h⟩:=hh;exact⟨e,ae (s1 _ aS) h⟩
  by_cases hr:∃x∈nm,x<0 \/(n:Int)<= x
  ·suffices h2:∃e,dv (dO (ac 1)) (tgN 2) (mBr ((gF (aw (mOp pLt (ac 2) (J3 0))) (aw (mOp pGe (ac 2) (mUn (ap 0) (ac 0)))))) (bj 4 (ad (mC (.str "a name is no machine")) ak)) aS) [some o,some (.lst fn (iL nm)),none]=.exc 4 e by obtain⟨e,h⟩:=h2;exact⟨e,ff h⟩
   refine iu (fun k e=>(∀x∈nm.take k,¬(x<0 \/(n:Int)<= x))/\∃y,e=[some o,some (.lst fn (iL nm)),y]) (fun o=>∃e,o=.exc 4 e) (xs:=iL nm) (c9 (f:=fn) (by simp[hf.le]) hf.nl (by simp) (by simp)) ⟨by simp,_,rfl⟩ (fun k x e hx hP=>?_) (fun e hP=>?_)
   ·obtain⟨hk,y,rfl⟩:=hP;obtain⟨m,hm,rfl⟩:=iR hx;refine⟨_,cV rfl,?_⟩;simp only[s0_,s1_];by_cases hc:m<0 \/(n:Int)<= m
    ·refine .inr (.inr (.inr ⟨4,_,fF ?_ (j5 (xs:=[.str "a name is no machine"]) rfl),_,rfl⟩));rcases hc with hc|hc
     ·simp[r.le,r.a0,hc]
     ·by_cases h0:m<0
      ·simp[r.le,r.a0,h0]
      ·simp[r.le,r.a0,h0,hc]
    ·refine .inl ⟨_,.inl (bF ?_ az),fun x hx=>?_,_,rfl⟩
     ·simp[r.le,r.a0,show ¬m<0 by omega,show ¬(n:Int)<= m by omega]
     ·rw[take_add_one,hm]at hx;simp at hx;rcases hx with hx|rfl
      ·exact hk x hx
      ·exact hc
   ·obtain⟨hk,y,rfl⟩:=hP;obtain⟨x,hx,hc⟩:=hr;exact absurd hc (hk x (by rw[show(iL nm).length=nm.length from bv _,take_length];exact hx))
  ·have hnd:¬nm.Nodup:=by
    rcases hb with hb|hb|hb
    ·exact absurd hb hr
    ·exact hb
    ·exact absurd hb ha
   have dt:=yN hnd
   suffices h2:∃y,dv (dO (ac 1)) (tgN 2) (mBr ((gF (aw (mOp pLt (ac 2) (J3 0))) (aw (mOp pGe (ac 2) (mUn (ap 0) (ac 0)))))) (bj 4 (ad (mC (.str "a name is no machine")) ak)) aS) [some o,some (.lst fn (iL nm)),none]=.next [some o,some (.lst fn (iL nm)),y] by obtain⟨y,h⟩:=h2;refine⟨_,ae h (fF ?_ (j5 (xs:=[.str "a machine is named twice"]) rfl))⟩;simp[p1,bV,aM,kh hl];omega
   refine iu (fun _ e=>∃y,e=[some o,some (.lst fn (iL nm)),y]) (fun r=>∃y,r=.next [some o,some (.lst fn (iL nm)),y]) (xs:=iL nm) (c9 (f:=fn) (by simp[hf.le]) hf.nl (by simp) (by simp)) ⟨_,rfl⟩ (fun k x e hx hP=>?_) (fun e hP=>?_)
   ·obtain⟨y,rfl⟩:=hP;obtain⟨m,hm,rfl⟩:=iR hx;have hc:¬(m<0 \/(n:Int)<= m):=fun z=>hr ⟨m,List.mem_of_getElem? hm,z⟩;refine⟨_,cV rfl,.inl ⟨_,.inl (bF ?_ az),_,rfl⟩⟩;simp[r.le,r.a0,show ¬m<0 by omega,show ¬(n:Int)<= m by omega]
   ·obtain⟨y,rfl⟩:=hP;exact⟨y,rfl⟩
 obtain⟨e,h⟩:=key;exact gJ h
def nv(r:Rl o n sp al D)(hfn:Fc fn)(hb:nt n al nm)(hl:nm.length<=1000):gu [o,.lst f (iL cs),.lst fn (iL nm)]=.exc 4:=by refine gJ (e:=[some o,some (.lst f (iL cs)),some (.lst fn (iL nm))]) ?_;show qO [some o,some (.lst f (iL cs)),some (.lst fn (iL nm))]=_;unfold qO;refine ff (qx ?_);simp[r.le,r.tb,hfn.le,hfn.tb,uG r hfn hb hl]
def nM(r:Rl o n sp al D)(hf:Fc f)(hfn:Fc fn)(hb:nt n al nm)(hl:nm.length<=1000):mj [o,.lst f (iL cs),.lst fn (iL nm)]=.exc 4:=by refine gJ (e:=[some o,some (.lst f (iL cs)),some (.lst fn (iL nm)),none,none]) ?_;show qK [some o,some (.lst f (iL cs)),some (.lst fn (iL nm)),none,none]=_;unfold qK;refine ff (Ai ?_);simp[r.le,r.tb,r.tu,hf.le,hf.tb,hfn.le,hfn.tb,nv r hfn hb hl]
def mM{c:Nat}{xs:JQ}(ho:env[i]?=some (some (.lst .own xs)))(h:m env=.exc c):cJ i m env=.exc c env:=by unfold cJ;rw[h,ho]
@[simp] def Jz:mFz m env=(m env).bind fun v=>.ok (v.J0 Fl.JU):=rfl
def lZ(h:0<n):ixN n (-1)=some (n-1):=by unfold ixN;rw[if_neg (by decide),if_pos (by omega)];congr 1;omega
def xD(hg:g.JW=false)(ps:List (JI×JI))(p:JI×JI):aQ (.lst f (ps.map (i8 g)++ [i8 g p])) (.int (-1))=.ok (i8 g p):=by unfold aQ;simp only[aM,atI];rw[lZ (by simp)];simp[i8,hg]
def Aw(hg:g.JW=false)(p:JI×JI):aQ (i8 g p) (.int 1)=.ok (.lst g (iL p.2)):=by exact ip (k:=1) rfl rfl (by simp[hg])
end
def vR(n:Int):t6 [.int n]=.ok (.bl true):=by refine ay (v:=.bl true) ?_;show zh [some (.int n)]=_;unfold zh;exact aU (by simp[l7]) (by simp)
def gq(l:JI)(hl:l.length<=1000):iS [.lst f (iL l),.lst g (iL l)]=.ok (.bl true):=by
 refine ay (v:=.bl true) ?_;show y7 [some (.lst f (iL l)),some (.lst g (iL l))]=_;unfold y7;refine aU ?_ (by simp);have hc:aY [] 1 (da (ac 0)) (tgN 0) bS (ar (aL t6) (ad (ac 0) ak)) [some (.lst f (iL l)),some (.lst g (iL l))]=.ok (.lst .own ((l.map fun _=>true).map .bl)):=by refine aR (xs:=iL l) (by simp) (by rw[bv];omega) ?_;rw[map_map];exact bN (a:=PV.int) (f:=PV.bl ∘ fun _=>true) l fun x _=>⟨[some (.int x)],by simp[tgN,aT,bW,dY],by simp[vR,aB],by simp,by simp⟩
 have hb:mU pG (.lst .own ((l.map fun _=>true).map .bl))=.ok (.bl true):=by unfold mU;dsimp only;rw[on];simp[pG]
 simp only[BF,fg,cj,cX,hc];simp only[Res.J2,p1,hb];simp[l7,uR]
abbrev dwn(f:Fl)(n:Nat)(sp:Int):PV:=.obj f 1 [0,7,8] [.int n,.int sp,.bl false]
def Gv{c:Nat}:eQ [.obj .own c [] [],.int n,.int sp,.bl al]=.ok (.obj .own c [0,7,8] [.int n,.int sp,.bl al]):=by refine cz (e:=[some (.obj .own c [0,7,8] [.int n,.int sp,.bl al]),some (.int n),some (.int sp),some (.bl al)]) ?_ rfl;show ge [some (.obj .own c [] []),some (.int n),some (.int sp),some (.bl al)]=_;unfold ge;refine ae (bE (v:=.int n) (ks:=[]) (vs:=[]) (by simp) rfl (by simp) rfl (by decide)) ?_;refine ae (bE (v:=.int sp) (ks:=[0]) (vs:=[.int n]) (by simp) rfl (by simp) rfl (by decide)) ?_;exact bE (v:=.bl al) (ks:=[0,7]) (vs:=[.int n,.int sp]) (by simp) rfl (by simp) rfl (by decide)
def vC:jX [.obj .own 1 [] [],.int n,.int sp]=.ok (dwn .own n sp):=by refine cz (e:=[some (dwn .own n sp),some (.int n),some (.int sp)]) ?_ rfl;show mK [some (.obj .own 1 [] []),some (.int n),some (.int sp)]=_;unfold mK;have:=fP (env:=[some (.obj .own 1 [] []),some (.int n),some (.int sp)]) (m:=eQ) (ms:=ad (ac 1) (ad (ac 2) (ad (mC (.bl false)) ak))) (xs:=[.int n,.int sp,.bl false]) rfl (by simp) (by simp) (by simpa using Gv) (by simp[PV.has]);simpa using this
def AB(h1:1<=n)(h20:n<=20)(hs:0<sp):Rl (dwn .bor n sp) n sp false gt where
 due:=fun fc cs k hfc hn hc hk=>by
  have gk:aQ (.lst fc (iL cs)) (.int (k:Int))=.ok (.int (gt cs k)):=by simpa using cT (f:=fc) (cs:=cs) (i:=k) (by omega) (by omega)
  have e:t3 [dwn .bor n sp,.lst fc (iL cs),.int k]=.ok (.int (gt cs k)):=by refine ay ?_;show zd [some (dwn .bor n sp),some (.lst fc (iL cs)),some (.int k)]=_;unfold zd;exact aU (by simp[hfc.le,gk]) (by simp)
  exact⟨by simp[ax,hfc.tb,e,aB],hc _ (eH (by omega))⟩
abbrev tab(f:Fl)(n:Nat)(ft ot:JI):PV:=.obj f 10 [12,13,14,0,7,8] [.int 0,.tup (iL ft),.tup (iL ot),.int n,.int 2,.bl false]
structure iV(t:JI):Prop where
 len:t.length=8
 rng:∀x∈t,0<=x/\x<2
def nL{t:JI}(ht:iV t):ub [.lst .bor (iL t),.int 2]=.ok .non:=by refine fM ?_;show Ends (zx [some (.lst .bor (iL t)),some (.int 2),none]);unfold zx;have m1:dD (.int 2) (.int 2)=.ok (.int 4):=rfl;have m2:dD (.int 4) (.int 2)=.ok (.int 8):=rfl;refine gR (bF (by simp[Fl.JS,p1,bV,aM,m1,m2,ht.len]) az) ?_;refine iu (fun _ e=>∃x,e=[some (.lst .bor (iL t)),some (.int 2),x]) (fun r=>∃e,r=.next e) (xs:=iL t) (c9 (f:=.bor) (by simp[Fl.JS]) rfl (by simp) (by simp)) ⟨_,rfl⟩ (fun k x e hx hP=>?_) (fun e hP=>⟨e,rfl⟩);obtain⟨y,rfl⟩:=hP;obtain⟨z,hz,rfl⟩:=iR hx;have:=ht.rng z (List.mem_of_getElem? hz);exact⟨_,cV rfl,.inl ⟨_,.inl (bF (by simp[show ¬z<0 by omega,show ¬(2:Int)<= z by omega]) az),_,rfl⟩⟩
def vW(n2:2<=n)(n8:n<=8)(hf:iV ft)(ho:iV ot):Ey [.obj .own 10 [] [],.int n,.int 2,.str "none",.lst .bor (iL ft),.lst .bor (iL ot)]=.ok (tab .own n ft ot):=by
 refine cz (e:=[some (tab .own n ft ot),some (.int n),some (.int 2),some (.str "none"),some (.lst .bor (iL ft)),some (.lst .bor (iL ot))]) ?_ rfl;show E9 [some (.obj .own 10 [] []),some (.int n),some (.int 2),some (.str "none"),some (.lst .bor (iL ft)),some (.lst .bor (iL ot))]=_;unfold E9;have r1:=nL hf;have r2:=nL ho;have d1:kW [("none",(0)),("one",(1))] (.str "none")=.ok (.bl false):=rfl;have d2:p4 [("none",(0)),("one",(1))] (.str "none")=.ok (.int 0):=rfl;refine ae (bF (by simp[show ¬(n:Int)<2 by omega,show ¬(8:Int)<n by omega]) az) ?_;refine ae (bF (by simp) az) ?_;refine ae (bF (by simp[d1]) az) ?_;refine ae (fL (v:=.non) (by simp[r1,aB,Fl.JS,Fl.JT])) ?_;refine ae (fL (v:=.non) (by simp[r2,aB,Fl.JS,Fl.JT])) ?_;refine ae (bE (v:=.int 0) (ks:=[]) (vs:=[]) (by simp[d2]) rfl (by simp) rfl (by decide)) ?_;simp only[s0_,s1_];refine ae (bE (v:=.tup (iL ft)) (ks:=[12]) (vs:=[.int 0]) (by simp[p1,dA,aM]) rfl (by simp[PV.JZ,PV.has]) rfl (by decide)) ?_;simp only[s0_,s1_];refine ae (bE (v:=.tup (iL ot)) (ks:=[12,13]) (vs:=[.int 0,.tup (iL ft)]) (by simp[p1,dA,aM]) rfl (by simp[PV.JZ,PV.has]) rfl (by decide)) ?_;simp only[s0_,s1_];have ri:eQ [.obj .own 10 [12,13,14] [.int 0,.tup (iL ft),.tup (iL ot)],.int n,.int 2,.bl false]=.ok (tab .own n ft ot):=by refine cz (e:=[some (tab .own n ft ot),some (.int n),some (.int 2),some (.bl false)]) ?_ rfl;show ge [some (.obj .own 10 [12,13,14] [.int 0,.tup (iL ft),.tup (iL ot)]),some (.int n),some (.int 2),some (.bl false)]=_;unfold ge;refine ae (bE (v:=.int n) (ks:=[12,13,14]) (vs:=[.int 0,.tup (iL ft),.tup (iL ot)]) (by simp) rfl (by simp) rfl (by decide)) ?_;refine ae (bE (v:=.int 2) (ks:=[12,13,14,0]) (vs:=[.int 0,.tup (iL ft),.tup (iL ot),.int n]) (by simp) rfl (by simp) rfl (by decide)) ?_;exact bE (v:=.bl false) (ks:=[12,13,14,0,7]) (vs:=[.int 0,.tup (iL ft),.tup (iL ot),.int n,.int 2]) (by simp) rfl (by simp) rfl (by decide)
 have:=fP (env:=[some (.obj .own 10 [12,13,14] [.int 0,.tup (iL ft),.tup (iL ot)]),some (.int n),some (.int 2),some (.str "none"),some (.lst .bor (iL ft)),some (.lst .bor (iL ot))]) (m:=eQ) (ms:=ad (ac 1) (ad (ac 2) (ad (mC (.bl false)) ak))) (xs:=[.int n,.int 2,.bl false]) rfl (by simp) (by simp) (by simpa using ri) (by simp[PV.has]);simpa using this
section
variable{n:Nat}{ft ot cs:JI}
def uo(n2:2<=n)(hf:iV ft)(ho:iV ot)(hn:cs.length=n)(hc:InS 2 cs)(hi:i<n):∃d:Int,(∀fc,Fc fc->qq [tab .bor n ft ot,.lst fc (iL cs),.int i]=.ok (.int d))/\0<=d/\d<2:=by
 have np:(0:Int)<n:=by omega
 have l1:=emod_nonneg ((i:Int)-1) (show(n:Int)≠ 0 by omega);have l2:=emod_lt_of_pos ((i:Int)-1) np;have r1:=emod_nonneg ((i:Int)+1) (show(n:Int)≠ 0 by omega);have r2:=emod_lt_of_pos ((i:Int)+1) np;have ix:∀(p:Int),0<=p->p<n->∀f,aQ (.lst f (iL cs)) (.int p)=.ok (.int (gt cs p.toNat)):=fun p h1 h2 f=>cT h1 (by omega);have bd:∀(p:Int),0<=p->p<n->0<=gt cs p.toNat/\gt cs p.toNat<2:=fun p h1 h2=>hc _ (eH (far:=cs) (i:=p.toNat) (by omega));have il:=ix _ l1 l2;have ir:=ix _ r1 r2;have bl:=bd _ l1 l2;have br:=bd _ r1 r2;have ic:=ix (i:Int) (by omega) (by omega);have bc:=bd (i:Int) (by omega) (by omega);have ml:=bA (i:=(i:Int)-1) np;have mr:=bA (i:=(i:Int)+1) np;generalize gt cs (((i:Int)-1)%(n:Int)).toNat=l at *;generalize gt cs (((i:Int)+1)%(n:Int)).toNat=r at *;generalize gt cs ((i:Int)).toNat=c at *;have q1:dD (.int c) (.int 2)=.ok (.int (c*2)):=fE (.inr ⟨by omega,by omega⟩);have q2:dD (.int (c*2)) (.int 2)=.ok (.int (c*2*2)):=fE (.inr ⟨by omega,by omega⟩);have q3:dD (.int l) (.int 2)=.ok (.int (l*2)):=fE (.inr ⟨by omega,by omega⟩);obtain⟨p,hp⟩:∃p:Nat,(p:Int)=c*2*2+l*2+r:=⟨(c*2*2+l*2+r).toNat,by omega⟩
 have at_:∀t:JI,iV t->aQ (.tup (iL t)) (.int (c*2*2+l*2+r))=.ok (.int (gt t p))/\0<=gt t p/\gt t p<2:=fun t ht=>by
  have hl:p<t.length:=by have:=ht.len;omega
  rw[<- hp];exact⟨ip rfl (by simp[iL,gt,hl]) (by simp),ht.rng _ (eH hl)⟩
 obtain⟨tf,bf⟩:=at_ ft hf;obtain⟨to,bo⟩:=at_ ot ho;refine⟨if i=0 then gt ft p else gt ot p,fun fc hfc=>ay ?_,by split<;>omega⟩;show zM [some (tab .bor n ft ot),some (.lst fc (iL cs)),some (.int i),none,none,none]=_;unfold zM;refine ae (aC (v:=.int l) (by simp[ap,bL,hfc.le,ml,il])) ?_;simp only[s0_,s1_];refine ae (aC (v:=.int r) (by simp[ap,bL,hfc.le,mr,ir])) ?_;simp only[s0_,s1_];refine ae (aC (v:=.int (c*2*2+l*2+r)) (by simp[ap,bL,hfc.le,ic,q1,q2,q3])) ?_;simp only[s0_,s1_];refine aU ?_ (by simp);by_cases e:i=0
 ·simp[ap,bL,tf,e]
 ·simp[ap,bL,to,e,show ¬(i:Int)=0 by omega]
def wl(n2:2<=n)(n8:n<=8)(hf:iV ft)(ho:iV ot):∃D,Rl (tab .bor n ft ot) n 2 false D:=by
 obtain⟨D,hD⟩:∃D:JI->Nat->Int,∀cs (i:Nat),cs.length=n->InS 2 cs->i<n->(∀fc,Fc fc->qq [tab .bor n ft ot,.lst fc (iL cs),.int i]=.ok (.int (D cs i)))/\0<=D cs i/\D cs i<2:=
  ⟨fun cs i=>Classical.epsilon fun d=>(∀fc,Fc fc->qq [tab .bor n ft ot,.lst fc (iL cs),.int i]=.ok (.int d))/\0<=d/\d<2,fun cs i h1 h2 h3=>Classical.epsilon_spec (uo n2 hf ho h1 h2 h3)⟩
 exact ⟨D,{
  due:=fun fc cs k hfc hn hc hk=>⟨by simp[ax,hfc.tb,(hD cs k hn hc hk).1 fc hfc,aB],(hD cs k hn hc hk).2⟩
 }⟩
end
section
variable{o:PV}{n:Nat}{sp:Int}{al:Bool}{D:JI->Nat->Int}{cs:JI}{f:Fl}
def iJ(r:Rl o n sp al D)(hf:Fc f)(hn:cs.length=n)(hc:InS sp cs):f7 [o,.lst f (iL cs)]=.ok (.bl (decide ((mvR n D cs).length=0))):=by have mo:=de r (.inl hf) hn hc;refine ay ?_;show zg [some o,some (.lst f (iL cs))]=_;unfold zg;exact aU (by simp[r.le,r.tb,r.mv,hf.le,hf.tb,mo,aB]) (by simp)
def wL(r:Rl o n sp al D)(hf:Fc f)(hn:cs.length=n)(hc:InS sp cs):ue [o,.lst f (iL cs)]=.ok (.bl (decide (((mvR n D cs).length:Int)=1))):=by have mo:=de r (.inl hf) hn hc;refine ay ?_;show zF [some o,some (.lst f (iL cs))]=_;unfold zF;exact aU (by simp[r.le,r.tb,r.mv,hf.le,hf.tb,mo,aB]) (by simp)
def vY(r:Rl (tab .bor n ft ot) n sp al D)(hf:Fc f)(hn:cs.length=n)(hc:InS sp cs):Bz [tab .bor n ft ot,.lst f (iL cs)]=.ok (.bl (decide ((mvR n D cs).length=0))):=by have mo:=de r (.inl hf) hn hc;refine ay ?_;show Fj [some (tab .bor n ft ot),some (.lst f (iL cs))]=_;unfold Fj;exact aU (by simp[ap,bL,r.mv,hf.le,hf.tb,mo,aB]) (by simp)
structure Lk(o:PV)(n:Nat)(sp:Int):Prop where
 ca:∃fc,(∀r,gy aF r o=r.bind fun xs=>aL fc (o::xs))/\∀cs,cs.length=n->InS sp cs->∃b:Bool,∀f,Fc f->fc [o,.lst f (iL cs)]=.ok (.bl b)
 me:lJ io o=.ok (.bl true)\/ lJ io o=.ok (.bl false)/\∃fm,(∀r,gy aA r o=r.bind fun xs=>aL fm (o::xs))/\∀cs,cs.length=n->InS sp cs->∃m:Int,∀f,Fc f->fm [o,.lst f (iL cs)]=.ok (.int m)
abbrev qb(mv:JI)(b:Bool)(st:JI)(m:Int):PV:=.lst .own [.lst .own (iL mv),.bl b,.lst .own (iL st),.int m]
def HG(n1:1<=n):mP n al [0]:=⟨by simp,fun x hx=>by rw[mem_singleton.mp hx];omega,fun _=>by simp,by simp⟩
def tP(r:Rl o n sp al D)(K:Lk o n sp)(hn:cs.length=n)(hc:InS sp cs):∃(b:Bool) (m:Int),∀f,Fc f\/f=.own->n5 [o,.lst f (iL cs)]=.ok (qb (mvR n D cs) b (stR n D cs [0]) m):=by
 obtain⟨fc,hfc,hcb⟩:=K.ca;obtain⟨b,hb⟩:=hcb cs hn hc;have sh:∀(f:Fl) (m:Int),Fc f\/f=.own->bp (cB (ad (bB ao (ac 0) (ad (ac 1) ak)) (ad (bB aF (ac 0) (ad (ac 1) ak)) (ad (bB aG (ac 0) (ad (ac 1) (ad (cB (ad (J3 0) ak)) ak))) (ad (ac 2) ak))))) [some o,some (.lst f (iL cs)),some (.int m)]=.ret (qb (mvR n D cs) b (stR n D cs [0]) m):=fun f m hf=>by have fc':=Fc.call hf;have mo:=de r (.inl fc') hn hc;have tu:=j0 (fn:=.own) r (.inl fc') (.inr rfl) hn hc (HG (al:=al) r.n1);have hb':=hb _ fc';rw[show iL [(0:Int)]=[.int 0]from rfl]at tu;refine aU ?_ (by simp[PV.JZ,PV.has]);simp only[o8,cj,cX,sA,dC,qr,getElem?_cons_zero,getElem?_cons_succ,eT,Res.J2,r.le,r.mv,hfc,r.tu];simp[r.tb,mo,hb',tu,aB]
 rcases K.me with ht |⟨ht,fm,hfm,hmm⟩
 ·refine⟨b,0,fun f hf=>ay ?_⟩;show qL [some o,some (.lst f (iL cs)),none]=_;unfold qL;refine ae (aC (v:=.int 0) (by simp)) ?_;simp only[s0_,s1_];exact ae (bF (by simp[r.le,ht]) az) (sh f 0 hf)
 ·obtain⟨m,hm⟩:=hmm cs hn hc;refine⟨b,m,fun f hf=>ay ?_⟩;show qL [some o,some (.lst f (iL cs)),none]=_;unfold qL;refine ae (aC (v:=.int 0) (by simp)) ?_;simp only[s0_,s1_];refine ae (fF (by simp[r.le,ht]) (aC (v:=.int m) ?_)) (sh f m hf);simp only[cj,cX,sA,dC,getElem?_cons_zero,getElem?_cons_succ,eT,Res.J2,r.le,hfm];simp[r.tb,hm _ (Fc.call hf),aB]
def BU(bs:List Bool):mU pF (.lst g (bs.map .bl))=.ok (.bl (bs.any id)):=by unfold mU;dsimp only;rw[on];simp[pF]
def j4{H:Nat->JI}{B:Nat->Bool}(r:Rl o n sp al D)(hs:∀r,gy bG r o=r.bind fun xs=>aL vx (o::xs))
  (hh:∀i:Nat,i<n->gy aO (.ok [.int i]) o=.ok (.lst .own (iL (H i)))/\(H i).length<=1000/\∀x∈H i,0<=x/\x<n)
  (hB:∀i,i<n->∀x∈H i,B x.toNat=true->B i=true) (hl:∀i,i<n->l.contains (i:Int)=B i) (hf:Fc f\/f=.own):xZ [o,.lst f (iL l)]=.ok (.lst .own (iL (((range n).filter B).map fun i:Nat=>(i:Int)))):=by
 have n20:=r.n20;have fb:=Fc.of hf;obtain⟨bs,hbs⟩:∃bs:JQ,bs=(range n).map fun i=>PV.bl (B i):=⟨_,rfl⟩
 have bl:bs.length=n:=by rw[hbs];simp
 have bm:∀g:Fl->Fl,mapL g bs=bs:=fun g=>by
  rw[hbs];generalize range n=L
  induction L with
  |nil=>simp
  |cons a L ih=>simp[ih]
 have bh:∀p:Fl->Bool,hasL p bs=false:=fun p=>by
  rw[hbs];generalize range n=L
  induction L with
  |nil=>simp
  |cons a L ih=>simp[ih]
 have ix:∀(g:Fl) (x:Int),0<=x->x<n->aQ (.lst g bs) (.int x)=.ok (.bl (B x.toNat)):=fun g x h1 h2=>by
  obtain⟨k,rfl⟩:∃k:Nat,x=(k:Int):=⟨x.toNat,by omega⟩
  exact ip rfl (by rw[hbs];simp[show k<n by omega]) (by simp)
 have so:∀i:Nat,i<n->vx [o,.int i,.lst .bor bs]=.ok (.bl ((H i).any fun x=>B x.toNat)):=fun i hi=>by
  obtain⟨h1,h2,h3⟩:=hh i hi;refine ay ?_;show Fw [some o,some (.int i),some (.lst .bor bs)]=_;unfold Fw;refine aU ?_ (by simp);have cm:aY [2] 1 (da (bB aO (ac 0) (ad (ac 1) ak))) (tgN 1) bS (mOp aQ (ac 0) (ac 1)) [some o,some (.int i),some (.lst .bor bs)]=.ok (.lst .own (((H i).map fun x=>B x.toNat).map .bl)):=by refine aR (xs:=iL (H i)) (by simp[r.le,h1]) (by rw[bv];omega) ?_;rw[map_map];exact bN (a:=PV.int) (f:=PV.bl ∘ fun x=>B x.toNat) (H i) fun x hx=>⟨[some (.lst .bor bs),some (.int x)],by simp[tgN,aT,bW,PV.JV,bm,Fl.JV],by simp[bm,Fl.JS,ix .bor x (h3 x hx).1 (h3 x hx).2],by simp,by simp⟩
  simp only[fg,cj,cX,cm,Res.J2];simp only[p1,BU];simp[List.any_map,Function.comp_def]
 refine ay ?_;show Fg [some o,some (.lst f (iL l)),none,none]=_;unfold Fg;refine ae (aC (v:=.lst .own bs) ?_ (by simp[PV.JZ,PV.has,bh]) rfl) ?_
 ·rw[hbs];refine aR (xs:=cC 0 n) (bD (n:=n) (by simp[r.le,r.a0]) (by omega)) (by rw[bu];omega) ?_;exact bN (a:=fun k:Nat=>PV.int (0+(k:Int))) (f:=fun k=>PV.bl (B k)) (range n) fun k hk=>⟨[some (.lst f.JV (iL l)),some (.int (0+k))],by simp [tgN,aT,bW,PV.JV],by
   have:=hl k (mem_range.mp hk);simp at this;simp[fb.le,this],by simp,by simp⟩
 simp only[s0_,s1_];refine g7 (fun _ e=>∃x3,e=[some o,some (.lst f (iL l)),some (.lst .own bs),x3]) (bD (n:=n) (by simp[r.le,r.a0]) (by omega)) ⟨none,rfl⟩ (fun j x e hx hP=>?_) (fun e hP=>?_)
 ·obtain⟨x3,rfl⟩:=hP;refine⟨_,cV rfl,?_⟩;simp only[s0_,s1_];refine cG (aC (v:=.lst .own bs) ?_ (by simp[PV.JZ,PV.has,bh]) rfl) ⟨some x,rfl⟩
  conv=>rhs;rw[hbs]
  refine aR (xs:=cC 0 n) (bD (n:=n) (by simp[r.le,r.a0]) (by omega)) (by rw[bu];omega) ?_;refine bN (a:=fun k:Nat=>PV.int (0+(k:Int))) (f:=fun k=>PV.bl (B k)) (range n) fun k hk=>⟨[some (.lst .bor bs),some o,some (.int (0+k))],by simp[tgN,aT,bW,PV.JV,bm,r.bo,Fl.JV],?_,by simp,by simp⟩
  have hk:=mem_range.mp hk;have s1:=so k hk;have i1:=ix .bor (k:Int) (by omega) (by omega);have hb:=hB k hk;simp only[EO,gQ,sA,dC,cj,cX,getElem?_cons_zero,getElem?_cons_succ,eT,Res.J2,r.le,hs];simp[bm,Fl.JS,Fl.JT,r.tb,i1,s1,aB];cases q:B k with
  |true=>simp[pOr]
  |false=>
   have:((H k).any fun x=>B x.toNat)=false:=by rw[eq_false_iff];intro z;obtain⟨x,hx,hx2⟩:=any_eq_true.mp z;rw[hb x hx hx2]at q;cases q
   simp[pOr,this]
 ·obtain⟨x3,rfl⟩:=hP;refine aU ?_ (by simp);refine aR (xs:=cC 0 n) (bD (n:=n) (by simp[r.le,r.a0]) (by omega)) (by rw[bu];omega) (eV B (fun k=>(k:Int)) n fun k hk=>⟨[some (.lst .bor bs),some (.int (0+k))],by simp[tgN,aT,bW,PV.JV,bm,Fl.JV],?_,fun _=>by simp⟩);have i1:=ix .bor (k:Int) (by omega) (by omega);simp[bm,Fl.JS,i1]
end
structure Ex(n:Nat)(k j:Nat)(ex:JF):Prop where
 nd:ex.Nodup
 rg:∀p∈ex,0<=p.2/\p.2+1<p.1/\p.1<n/\(p.1<k \/(p.1=k/\p.2<j))
 ln:ex.length<=6*k+j
def Ex.put(h:Ex n k j ex)(hj:j+1<k)(hk:k<n):Ex n k (j+1) (ex++[((k:Int),(j:Int))]) where
 nd:=by refine nodup_append.mpr ⟨h.nd,by simp,fun a ha b hb e=>?_⟩;rw[mem_singleton.mp hb]at e;have:=h.rg a ha;rw[e]at this;simp only at this;omega
 rg:=fun p hp=>by
  rcases mem_append.mp hp with hp|hp
  ·have:=h.rg p hp;omega
  ·obtain rfl:=mem_singleton.mp hp;exact⟨Int.natCast_nonneg j,by show(j:Int)+1<k;omega,by show(k:Int)<n;omega,.inr ⟨rfl,by show(j:Int) <((j+1:Nat):Int);omega⟩⟩
 ln:=by have:=h.ln;simp;omega
def Ex.no(h:Ex n k j ex):Ex n k (j+1) ex:=⟨h.nd,fun p hp=>by have:=h.rg p hp;omega,by have:=h.ln;omega⟩
def Ex.up(h:Ex n k j ex)(hj:j<=6)(hk:j<k\/j=0):Ex n (k+1) 0 ex:=⟨h.nd,fun p hp=>by have:=h.rg p hp;omega,by have:=h.ln;omega⟩
def fZ(n:Nat):JF:=(range (n-1)).map fun i:Nat=>((i:Int),(i:Int)+1)
def Ex.good(h:Ex n k 0 ex)(hk:k<=8)(hn:n<=8):vO n (fZ n++ex):=by
 have l1:∀p∈fZ n,∃i:Nat,i<n-1/\p=((i:Int),(i:Int)+1):=fun p hp=>by obtain⟨i,hi,rfl⟩:=mem_map.mp hp;exact⟨i,mem_range.mp hi,rfl⟩
 have e1:∀i:Int,mm (i,i+1)=(i,i+1):=fun i=>by simp only[mm];rw[Int.min_eq_left (by omega),Int.max_eq_right (by omega)]
 have e2:∀p∈ex,mm p=(p.2,p.1):=fun p hp=>by have:=h.rg p hp;simp only[mm];rw[Int.min_eq_right (by omega),Int.max_eq_left (by omega)]
 refine⟨fun w hw=>?_,?_,?_⟩
 ·rcases mem_append.mp hw with hw|hw
  ·obtain⟨i,hi,rfl⟩:=l1 w hw;simp only;omega
  ·have:=h.rg w hw;omega
 ·rw[List.map_append];refine nodup_append.mpr ⟨?_,?_,fun a ha b hb e=>?_⟩
  ·rw [show (fZ n).map mm=fZ n from by
    unfold fZ;rw[map_map];exact List.map_congr_left fun i _=>e1 i]
   exact pairwise_map.mpr (nodup_range.imp fun h e=>h (by have:=congrArg Prod.fst e;simp only at this;omega))
  ·exact pairwise_map.mpr (h.nd.imp_of_mem fun {a b} ha hb hab e=>hab (by rw[e2 a ha,e2 b hb]at e;have e1:=congrArg Prod.fst e;have e3:=congrArg Prod.snd e;exact Prod.ext e3 e1))
  ·obtain⟨p,hp,rfl⟩:=mem_map.mp ha;obtain⟨q,hq,rfl⟩:=mem_map.mp hb;obtain⟨i,hi,rfl⟩:=l1 p hp;rw[e1,e2 q hq]at e;have h1:=congrArg Prod.fst e;have h2:=congrArg Prod.snd e;have:=h.rg q hq;simp only at h1 h2;omega
 ·have:=h.ln;simp[fZ];omega
def nW(S:Nat->Prop)(h0:S 0)(hs:∀i<n,∀j<n,pH (cP ((fZ n++ex).map mm)) i j->S i->S j):∀i<n,S i
 |0,_=>h0
 |i+1,hi=>by refine hs i (by omega) (i+1) hi (.inl ?_) (nW S h0 hs i (by omega));refine(dw _).mem_iff.mpr (mem_map.mpr ⟨((i:Int),(i:Int)+1),mem_append_left _ (mem_map.mpr ⟨i,mem_range.mpr (by omega),rfl⟩),?_⟩);simp only[mm];rw[Int.min_eq_left (by omega),Int.max_eq_right (by omega)];simp
def Bc(w:Int)(n1:1<=n)(n8:n<=8):∃ws,x_ [.int n,.int w]=.ok (net .own n (cP (ws.map mm)))/\vO n ws:=by
 suffices hh:ku (y6 [some (.int n),some (.int w),none,none,none]) (fun v=>∃ws,v=net .own n (cP (ws.map mm))/\vO n ws) by obtain⟨v,h1,ws,rfl,h2⟩:=hh;exact⟨ws,ay h1,h2⟩
 unfold y6;refine dy (aC (v:=.lst .own (prL (fZ n))) ?_) ?_
 ·refine aR (xs:=cC 0 (n-1)) (bD (n:=n-1) (by simp;omega) (by omega)) (by rw[bu];omega) ?_;rw[show prL (fZ n)=(range (n-1)).map fun i:Nat=>prV ((i:Int),(i:Int)+1) by simp[prL,fZ]];exact bN (a:=fun k:Nat=>PV.int (0+(k:Int))) (f:=fun k:Nat=>prV ((k:Int),(k:Int)+1)) (range (n-1)) fun k hk=>⟨[some (.int (0+k))],by simp[tgN,aT,bW,dY],by simp;rfl,by simp[prV],by simp[prV]⟩
 simp only[s0_,s1_];refine wp (fun k e=>k<=n/\∃w ex x3 x4,e=[some (.int n),some (.int w),some (.lst .own (prL (fZ n++ex))),x3,x4]/\Ex n k 0 ex) (bD (n:=n) (by simp) (by omega)) ⟨by omega,w,[],none,none,by simp,by simp,fun p hp=>by simp at hp,by simp⟩ (fun k x e hx hP=>?_) (fun e hP=>?_)
 ·obtain⟨_,w,ex,x3,x4,rfl,hE⟩:=hP;obtain⟨hk,rfl⟩:=fS hx;refine⟨_,cV rfl,?_⟩;simp only[s0_,s1_];refine kn (fun j e=>j<=k-1/\∃w ex x4,e=[some (.int n),some (.int w),some (.lst .own (prL (fZ n++ex))),some (.int (0+(k:Int))),x4]/\Ex n k j ex) (xs:=cC 0 (k-1)) ?_ ⟨by omega,w,ex,x4,rfl,hE⟩ (fun j y e hy hP=>?_) (fun e hP=>?_)
  ·cases k with
   |zero=>rfl
   |succ k=>exact bD (n:=k) (by simp) (by omega)
  ·obtain⟨_,w,ex,x4,rfl,hE⟩:=hP;obtain⟨hj,rfl⟩:=fS hy;refine⟨_,cV rfl,?_⟩;simp only[s0_,s1_];have d3:dE (.int w) (.int 3)=.ok (.int (w / 3)):=eU (by decide) (by decide);by_cases q:w%3=1
   ·refine eJ (fF (by simp[bA,q]) (eY (v:=prV ((k:Int),(j:Int))) (xs:=prL (fZ n++ex)) (by simp;rfl) rfl (by simp[PV.JZ,prV,PV.has]) (by have:=hE.ln;simp[fZ];omega))) ?_;simp only[s0_,s1_];exact cG (aC (v:=.int (w / 3)) (by simp[d3])) ⟨by omega,w / 3,ex++[((k:Int),(j:Int))],some (.int (0+(j:Int))),by simp[prL],hE.put (by omega) hk⟩
   ·refine eJ (bF (by simp[bA,q]) az) ?_;exact cG (aC (v:=.int (w / 3)) (by simp[d3])) ⟨by omega,w / 3,ex,_,rfl,hE.no⟩
  ·obtain⟨_,w,ex,x4,rfl,hE⟩:=hP;rw[bu]at hE;exact⟨by omega,w,ex,_,_,rfl,hE.up (by omega) (by omega)⟩
 ·obtain⟨_,w,ex,x3,x4,rfl,hE⟩:=hP;rw[bu]at hE;have g:=hE.good n8 n8;have hi:=Bt (fl:=.bor) g n1 (by omega) (.inl rfl) fun S h0 hs=>nW S h0 hs;generalize fZ n++ex=W at *;exact fN (aU (v:=net .own n (cP (W.map mm))) (by simp[hi,aB,PV.has]) (by simp[PV.JZ,PV.has])) ⟨_,rfl,g⟩
section
variable{n:Nat}{sp:Int}{cs:JI}
def wA(n2:2<=n)(n20:n<=20)(hs:(n:Int)<= sp)(hn:cs.length=n)(hc:InS sp cs):∃m:Int,∀f,Fc f->BB [j2 .bor n sp,.lst f (iL cs)]=.ok (.int m):=by
 have r:=kU (n:=n) (sp:=sp) (by omega) n20 (by omega);have hc0:=hc _ (eH (far:=cs) (i:=0) (by omega));have so:=fun f hf=>v3 (fc:=f) hf (cs:=cs) (by omega) (by omega) (by omega) hc0;obtain⟨J,_,hJ⟩:=so .bor (.inl rfl);obtain⟨WS,hWS⟩:∃WS:JI,WS=(((range n).filter fun i=>decide (m5 sp cs i≠gt cs i)).filter fun i=>decide (i≠0)).map fun i:Nat=>(n:Int)-i:=⟨_,rfl⟩
 have sm:∀g:Fl,jK (.lst g (iL WS))=.ok (.int WS.sum):=fun g=>by
  rw[hWS];refine kR ?_ fun x hx=>?_
  ·rw[length_map];refine Nat.le_trans (length_filter_le _ _) (Nat.le_trans (length_filter_le _ _) (by simp;omega))
  ·obtain⟨i,hi,rfl⟩:=mem_map.mp hx;have:=mem_range.mp (mem_filter.mp (mem_filter.mp hi).1).1;omega
 refine⟨n*J+WS.sum,fun f hf=>ay ?_⟩;obtain⟨J',e1,hJ'⟩:=so _ hf;rw[Fy hJ' hJ]at e1;show Fp [some (j2 .bor n sp),some (.lst f (iL cs)),none]=_;unfold Fp;have mo:=de r (.inl hf) hn hc;have ml:=kX (n:=n) (D:=m5 sp) (cs:=cs);refine ae (aC (v:=.lst .own (iL WS)) ?_) ?_
 ·rw[hWS];refine aR (xs:=iL (mvR n (m5 sp) cs)) (by simp[r.mv,hf.le,hf.tb,mo,aB]) (by rw[bv];omega) ?_;unfold mvR;rw[show ∀l:List Nat,iL (l.map fun i:Nat=>(i:Int))=l.map fun i:Nat=>PV.int i from fun l=>by simp[iL],show ∀l:List Nat,iL (l.map fun i:Nat=>(n:Int)-i)=l.map fun i:Nat=>PV.int ((n:Int)-i)from fun l=>by simp[iL]];exact cL (a:=fun i:Nat=>PV.int i) (f:=fun i:Nat=>PV.int ((n:Int)-i)) (p:=fun i=>decide (i≠0)) _ fun x _=>⟨[some (j2 .bor n sp),some (.int x)],by simp[tgN,aT,bW],by simp,fun _=>by simp[ap,bL]⟩
 simp only[s0_,s1_];have mu:dD (.int (n:Int)) (.int (J:Int))=.ok (.int (n*J)):=fE (.inl ⟨by omega,by omega⟩);exact aU (by simp[ap,bL,hf.le,hf.tb,e1,aB,mu,p1,sm]) (by simp)
end
structure Kd(k:Nat)(O o:PV)(n:Nat)(sp:Int)(al:Bool)(D:JI->Nat->Int):Prop where
 own:O.has Fl.JY=false:=by simp[PV.has]
 nl:O.JZ=true:=by simp[PV.JZ,PV.has]
 lb:(O.J0 Fl.JS).J0 Fl.JT=o:=by simp[Fl.JS,Fl.JT]
 bb:O.J0 Fl.JV=o:=by simp[Fl.JV]
 la0:ap 0 (O.J0 Fl.JS)=.ok (.int n):=by simp[ap,bL]
 la7:ap 7 (O.J0 Fl.JS)=.ok (.int sp):=by simp[ap,bL]
 n9:n<=9:=by omega
 r:Rl o n sp al D
 lk:Lk o n sp
 kin:x9 [.int k,o]=.ok (.bl true):=by rfl
 re:k=1\/k=2\/k=8->gy aq (.ok [.lst .own (iL [])]) o=.ok (.lst .own (iL [])):=by omega
 ra:¬(k=1\/k=2\/k=8)->∀l:JI,gy aq (.ok [.lst .own (iL l)]) o=.ok (.lst .own (iL (lw n)))
 ba:k=8->∀cs l:JI,cs.length=n->InS sp cs->l.length<=1000->yd [o,.lst .bor (iL cs),.lst .own (iL l)]=.ok (.bl true):=by omega
def jI{x:PV}{D:JI->Nat->Int}(r:Rl o n sp al D):jV [o,x]=.ok (.lst .own (iL (lw n))):=by have n20:=r.n20;refine ay ?_;show zm [some o,some x]=_;unfold zm;exact aU (by simp[r.le,r.a0,nV (n:=n) (by omega)]) (by simp)
def Bg(n2:2<=n)(n9:n<=9)(hs:(n:Int)<= sp):Kd 0 (j2 .own n sp) (j2 .bor n sp) n sp false (m5 sp) where
 r:=kU (by omega) (by omega) (by omega)
 lk:=⟨⟨ue,fun r=>by simp[aF],fun cs hn hc=>⟨_,fun f hf=>wL (kU (by omega) (by omega) (by omega)) hf hn hc⟩⟩,.inr ⟨rfl,BB,fun r=>by simp[aA],fun cs hn hc=>wA n2 (by omega) hs hn hc⟩⟩
 ra:=fun _ l=>by simp[aq,jI (kU (n:=n) (sp:=sp) (by omega) (by omega) (by omega)),aB]
def xH(n2:2<=n)(n8:n<=8)(hf:iV ft)(ho:iV ot):∃D,Kd 7 (tab .own n ft ot) (tab .bor n ft ot) n 2 false D:=by
 obtain⟨D,r⟩:=wl n2 n8 hf ho;exact ⟨D,{
  r:=r
  lk:=⟨⟨Bz,fun r=>by simp[aF],fun cs hn hc=>⟨_,fun f hf=>vY r hf hn hc⟩⟩,.inl rfl⟩
  ra:=fun _ l=>by simp[aq,jI r,aB]
 }⟩
def lY{T:Nat}(hk:k=3/\cc=4\/k=4/\cc=5\/k=5/\cc=6)(h1:1<=n)(h9:n<=9)(hst:0<st)(hT:T<=1000)(ho:OkS T os)(hol:os.length=n)(hnb:∀i:Nat,∀x∈nbL ps i,0<=x/\x<n)(hl:∀i,(nbL ps i).length<=1000):Kd k (lea .own cc n ps os st T) (lea .bor cc n ps os st T) n ((T:Int)+1) true (kN ps os st T):=by
 have r:=pS (cc:=cc) (n:=n) (ps:=ps) (os:=os) (st:=st) (tp:=T) (by omega) h1 (by omega) hst (by omega) ho hol hnb hl;exact {
  r:=r
  lk:=⟨⟨f7,fun r=>by rcases hk with⟨_,rfl⟩ |⟨_,rfl⟩ |⟨_,rfl⟩<;>simp[aF],fun cs hn hc=>⟨_,fun f hf=>iJ r hf hn hc⟩⟩,.inr ⟨by rcases hk with⟨_,rfl⟩ |⟨_,rfl⟩ |⟨_,rfl⟩<;>rfl,qp,fun r=>by rcases hk with⟨_,rfl⟩ |⟨_,rfl⟩ |⟨_,rfl⟩<;>simp[aA],fun cs hn hc=>⟨_,fun f hf=>qc (.inl hf) (fun g i hg hi=>(r.due g cs i hg hn hc hi).1) hn (by omega) hT⟩⟩⟩
  kin:=by rcases hk with⟨rfl,rfl⟩ |⟨rfl,rfl⟩ |⟨rfl,rfl⟩<;>rfl
  ra:=fun _ l=>by rcases hk with⟨_,rfl⟩ |⟨_,rfl⟩ |⟨_,rfl⟩<;>simp[aq,jI r,aB]
 }
def Bk{q:Nat}(h1:1<=n)(h9:n<=9)(hnb:∀i:Nat,∀x∈nbL ps i,0<=x/\x<n)(hl:∀i,(nbL ps i).length<=1000):Kd 6 (gro .own n ps q) (gro .bor n ps q) n (((n:Int)+1)*((n:Int)+1)) true (sD n ps q):=by
 have r:=AA (n:=n) (r:=q) (ps:=ps) h1 (by omega) hnb fun i=>hl i;have r5:=pS (cc:=5) (n:=n) (ps:=ps) (os:=fs n q) (st:=n) (tp:=n) (by omega) h1 (by omega) (by omega) (by omega) (ss h1) (by simp[fs]) hnb hl;exact {
  r:=r
  lk:=⟨⟨f7,fun r=>by simp [aF],fun cs hn hc=>⟨_,fun f hf=>iJ r hf hn hc⟩⟩,.inr ⟨rfl,BA,fun r=>by simp [aA],fun cs hn hc=>⟨_,fun f hf=>xT (.inl hf) (by omega) hnb (fun i=>hl i) hn (qc (T:=n) (.inl (.inl rfl)) (fun g i hg hi=>(r5.due g (FA n cs) i hg (by simpa using hn) (fun c hc'=>by
   obtain⟨x,hx,rfl⟩:=mem_map.mp hc';have b:=hc x hx;exact⟨Int.ediv_nonneg b.1 (by omega),Int.ediv_lt_of_lt_mul (by omega) b.2⟩) hi).1) (by simpa using hn) (by omega) (by omega))⟩⟩⟩
  ra:=fun _ l=>by simp[aq,jI r,aB]
 }
def xI(h1:1<=n)(h9:n<=9)(rg:∀x∈ps,0<=x.1/\x.1<n/\0<=x.2/\x.2<n/\x.1≠x.2)(hl:∀i,(nbL ps i).length<=1000):Kd 1 (pnt .own n ps) (pnt .bor n ps) n n false (sC ps):=by
 have r:=wm (n:=n) (ps:=ps) h1 (by omega) rg hl;have rk:∀i:Nat,i<n->Ew [pnt .bor n ps,.int i]=.ok (.int ((n-1-i:Nat):Int)):=fun i hi=>by refine ay ?_;show E8 [some (pnt .bor n ps),some (.int i)]=_;unfold E8;exact aU (by simp[ap,bL];omega) (by simp)
 have rc:=j4 (o:=pnt .bor n ps) (f:=.own) (H:=kL ps) (B:=fun _=>false) (l:=[]) r (fun r=>by simp[bG]) (fun i hi=>⟨by simp[aO,qk hi (hl i),aB],Nat.le_trans (length_filter_le _ _) (hl i),fun x hx=>let h:=oY rg hx;⟨h.1,h.2.1⟩⟩) (fun _ _ _ _ z=>z) (fun _ _=>rfl) (.inr rfl);rw[show(range n).filter (fun _=>false)=[]from List.filter_eq_nil_iff.mpr (by simp)]at rc;exact {
  r:=r
  lk:=⟨⟨f7,fun r=>by simp[aF],fun cs hn hc=>⟨_,fun f hf=>iJ r hf hn hc⟩⟩,.inr ⟨rfl,o7,fun r=>by simp[aA],fun cs hn hc=>⟨_,fun f hf=>mq (rk:=fun i=>n-1-i) r (by omega) (fun i hi=>⟨by simp[cf,rk i hi,aB],by omega⟩) (.inl hf) hn hc⟩⟩⟩
  re:=fun _=>by simpa[aq,aB]using congrArg (fun x=>Res.bind x aB) rc
  ra:=fun h=>absurd (.inl rfl) h
 }
def xJ{ps:JI}(T:Tree ps)(hl:ps.length<=8):Kd 2 (cnt .own ps) (cnt .bor ps) (ps.length+1) ((ps.length:Int)+2) false (yJ (ps.length+1) ps):=by
 have r:=wn (ps:=ps) (by omega);have rk:∀i:Nat,EA [cnt .bor ps,.int i]=.ok (.int i):=fun i=>by refine ay ?_;show HP [some (cnt .bor ps),some (.int i)]=_;exact iH rfl
 have rc:=j4 (o:=cnt .bor ps) (f:=.own) (H:=fun i=>dP i 1 ps) (B:=fun _=>false) (l:=[]) r (fun r=>by simp[bG]) (fun i hi=>⟨by simp[aO,nZ (ps:=ps) (i:=i) (by omega),aB],Nat.le_trans lX (by omega),fun x hx=>by have:=iQ hx;omega⟩) (fun _ _ _ _ z=>z) (fun _ _=>rfl) (.inr rfl);rw[show(range (ps.length+1)).filter (fun _=>false)=[]from List.filter_eq_nil_iff.mpr (by simp)]at rc;exact {
  r:=r
  lk:=⟨⟨f7,fun r=>by simp[aF],fun cs hn hc=>⟨_,fun f hf=>iJ r hf hn hc⟩⟩,.inr ⟨rfl,o7,fun r=>by simp[aA],fun cs hn hc=>⟨_,fun f hf=>mq (rk:=id) r (by omega) (fun i hi=>⟨by simp[cf,rk i,aB],hi⟩) (.inl hf) hn hc⟩⟩⟩
  re:=fun _=>by simpa[aq,aB]using congrArg (fun x=>Res.bind x aB) rc
  ra:=fun h=>absurd (.inr (.inl rfl)) h
 }
section
variable{n:Nat}{sp:Int}
def yM(h9:n<=9):yt [dwn .bor n sp]=.ok (.int (2 ^ n-1)):=by have pw:=iW (e:=n) (b:=2) (by decide) (by decide) (by omega);refine ay ?_;show zD [some (dwn .bor n sp)]=_;unfold zD;exact aU (by simp[ap,bL,pw,aB]) (by simp)
def Bl(h1:1<=n)(h9:n<=9)(hs:0<sp):Kd 8 (dwn .own n sp) (dwn .bor n sp) n sp false gt:=by
 have r:=AB (n:=n) (sp:=sp) h1 (by omega) hs;have ho:∀i:Nat,EI [dwn .bor n sp,.int i]=.ok (.lst .own []):=fun i=>by refine ay ?_;show Fr [some (dwn .bor n sp),some (.int i)]=_;unfold Fr;exact aU (by simp) (by simp)
 have rk:∀i:Nat,yC [dwn .bor n sp,.int i]=.ok (.int 0):=fun i=>by refine ay ?_;show zP [some (dwn .bor n sp),some (.int i)]=_;unfold zP;exact aU (by simp) (by simp)
 have rc:=fun(l:JI)=>j4 (o:=dwn .bor n sp) (f:=.own) (H:=fun _=>[]) (B:=fun i:Nat=>l.contains (i:Int)) (l:=l) r (fun r=>by simp[bG]) (fun i hi=>⟨by simp[aO,ho,aB,iL],by simp,fun x hx=>by simp at hx⟩) (fun _ _ x hx=>by simp at hx) (fun _ _=>rfl) (.inr rfl);have dm:∀(cs:JI) (f:Fl),Fc f\/f=.own->cs.length=n->InS sp cs->o7 [dwn .bor n sp,.lst f (iL cs)]=.ok (.int 0):=fun cs f hf hn hc=>by have:=mq (rk:=fun _=>0) r (by omega) (fun i hi=>⟨by simp[cf,rk i,aB],by omega⟩) hf hn hc;rw[this];have e:(range n).filter (mvB gt cs)=[]:=List.filter_eq_nil_iff.mpr (by simp);unfold Wl;rw[e];rfl
 exact {
  r:=r
  lk:=⟨⟨f7,fun r=>by simp[aF],fun cs hn hc=>⟨_,fun f hf=>iJ r hf hn hc⟩⟩,.inr ⟨rfl,o7,fun r=>by simp[aA],fun cs hn hc=>⟨_,fun f hf=>dm cs f (.inl hf) hn hc⟩⟩⟩
  re:=fun _=>by have:=rc [];rw[show(range n).filter (fun i:Nat=>List.contains ([]:JI) (i:Int))=[]from List.filter_eq_nil_iff.mpr (by simp)]at this;simpa[aq,aB]using congrArg (fun x=>Res.bind x aB) this
  ra:=fun h=>absurd (.inr (.inr rfl)) h
  ba:=fun _ cs l hn hc hl=>by
   have l0:=gq (f:=.own) (g:=.own) [] (by simp);have l1:=gq (f:=.own) (g:=.own) [0] (by simp);have l3:=gq (f:=.own) (g:=.own) [0,2 ^ n-1,2 ^ n-1] (by simp);have l4:=gq (f:=.own) (g:=.own) (((range n).filter fun i:Nat=>l.contains (i:Int)).map fun i:Nat=>(i:Int)) (by
    rw[length_map];exact Nat.le_trans (length_filter_le _ _) (by simp;omega))
   rw[show iL ([]:JI)=[]from rfl]at l0;rw[show iL [(0:Int)]=[.int 0]from rfl]at l1;rw[show iL [(0:Int),2 ^ n-1,2 ^ n-1]=[.int 0,.int (2 ^ n-1),.int (2 ^ n-1)]from rfl]at l3;have mo:=yM (n:=n) (sp:=sp) h9;have so:yf [dwn .bor n sp,.int l.length]=.ok (.int (2 ^ n-1)):=by refine ay ?_;show zi [some (dwn .bor n sp),some (.int l.length)]=_;unfold zi;exact aU (by simp[f9,mo,aB]) (by simp)
   refine ay ?_;show zc [some (dwn .bor n sp),some (.lst .bor (iL cs)),some (.lst .own (iL l)),none,none]=_;unfold zc;refine g7 (fun _ e=>∃x3,e=[some (dwn .bor n sp),some (.lst .bor (iL cs)),some (.lst .own (iL l)),x3,none]) (bD (n:=n) (by simp[ap,bL]) (by omega)) ⟨none,rfl⟩ (fun j x e hx hP=>?_) (fun e hP=>?_)
   ·obtain⟨x3,rfl⟩:=hP;obtain⟨hj,rfl⟩:=fS hx;refine⟨_,cV rfl,?_⟩;simp only[s0_,s1_];refine cG (bF ?_ az) ⟨_,rfl⟩;simp[aO,cf,ho,rk,l0,l1,aB]
   ·obtain⟨x3,rfl⟩:=hP;have sh:wM (.int 1) (.int n)=.ok (.int (1*2 ^ n)):=CA (by omega) (by omega) (by decide);refine ae (aC (v:=.int (2 ^ n-1)) (by simp[ap,bL,sh])) ?_;simp only[s0_,s1_];refine ae (bF ?_ az) (aU (v:=.bl true) ?_)
    ·simp[aA,f9,jr,dm cs .own (.inr rfl) hn hc,mo,so,l3,aB,p1,b7,aM]
    ·have cm:aY [2] 1 (bM (ad (mUn (ap 0) (ac 0)) ak)) (tgN 1) (aw (mOp pIn (ac 1) (ac 0))) (ac 1) [some (dwn .bor n sp),some (.lst .bor (iL cs)),some (.lst .own (iL l)),x3,some (.int (2 ^ n-1))]=.ok (.lst .own (iL (((range n).filter fun i:Nat=>l.contains (i:Int)).map fun i:Nat=>(i:Int)))):=
      aR (xs:=cC 0 n) (bD (n:=n) (by simp[ap,bL]) (by omega)) (by rw[bu];omega) (eV (fun i:Nat=>l.contains (i:Int)) (fun k=>(k:Int)) n fun k hk=>⟨[some (.lst .bor (iL l)),some (.int (0+k))],by simp[tgN,aT,bW,PV.JV,Fl.JV],by simp[Fl.JS],fun _=>by simp⟩)
     have rl:=rc l;generalize((range n).filter fun i:Nat=>l.contains (i:Int)).map (fun i:Nat=>(i:Int))=R at *;simp only[fg,cj,cX,cm,Res.J2];simp[aq,rl,l4,aB,p1,b7,aM]}
end
def uV{z:Int}(hn:n<=8):OkM n ((range n).map fun i:Nat=>(z+7*i)%10):=by
 refine⟨by simp,pairwise_map.mpr (nodup_range.imp_of_mem fun {a b} ha hb hab e=>hab ?_),fun x hx=>?_⟩
 ·obtain⟨i,_,rfl⟩:=mem_map.mp hx;omega
 ·have ha:=mem_range.mp ha;have hb:=mem_range.mp hb;omega
def Dq{z:Int}(g:vO n ws)(n1:1<=n)(n8:n<=8)(hk:k=1\/k=3\/k=4\/k=5\/k=6):∃O o sp al D,t9 [.int k,net .own n (cP (ws.map mm)),.int z]=.ok O/\Kd k O o n sp al D:=by
 have rg:∀x∈cP (ws.map mm),0<=x.1/\x.1<n/\0<=x.2/\x.2<n/\x.1≠x.2:=fun x hx=>by obtain⟨w,hw,rfl⟩:=mem_map.mp ((dw _).mem_iff.mp hx);have:=g.rg w hw;simp only[mm];omega
 have hl:∀i,(nbL (cP (ws.map mm)) i).length<=1000:=fun i=>by
  unfold nbL;rw[(fQ _).length_eq,length_append,length_map,length_map];have h1:=length_filter_le (fun x:Int×Int=>decide (x.2=(i:Int))) (cP (ws.map mm));have h2:=length_filter_le (fun x:Int×Int=>decide (x.1=(i:Int))) (cP (ws.map mm));have h3:(cP (ws.map mm)).length<64:=by rw[(dw _).length_eq,length_map];exact g.sz
  omega
 generalize cP (ws.map mm)=ps at *;have hnb:∀i:Nat,∀x∈nbL ps i,0<=x/\x<n:=fun i x hx=>by
  rcases oU.mp hx with q|q
  ·have:=rg _ q;omega
  ·have:=rg _ q;omega
 have np:(0:Int)<n:=by omega
 have b1:=emod_nonneg z (show(n:Int)≠ 0 by omega);have b2:=emod_lt_of_pos z np;obtain⟨q,hq⟩:∃q:Nat,z%(n:Int)=q:=⟨(z%(n:Int)).toNat,by omega⟩
 have md:cq (.int z) (.int n)=.ok (.int q):=by rw[bA np,hq]
 have qn:q<n:=by omega
 have fz:(i_ 1) [some (.int k),some (net .own n ps),some (.int z)]=.next [some (.int k),some (net .frz n ps),some (.int z)]:=by have:=iq (env:=[some (.int (k:Int)),some (net .own n ps),some (.int z)]) (i:=1) (v:=net .own n ps) rfl;simpa[Fl.JU]using this
 have go:∀O,mJ [some (.int k),some (net .own n ps),some (.int z)]=.ret O->t9 [.int k,net .own n ps,.int z]=.ok O:=fun O h=>ay h;have a0:ap 0 (net .frz n ps)=.ok (.int n):=by simp[ap,bL]
 rcases hk with rfl|rfl|rfl|rfl|rfl
 ·refine⟨_,_,_,_,_,go _ ?_,xI n1 (by omega) rg hl⟩;unfold mJ;exact ae fz (dh (fF (by simp) (aU (by simp[uL,aB,PV.has,Fl.JS,Fl.JT]) (by simp[PV.JZ,PV.has]))))
 ·obtain⟨os,hos⟩:∃os:List (JM),os=(range n).map fun i:Nat=>if 0 <(z+i)%4 then some ((z+i)%6)else none:=⟨_,rfl⟩
  have ol:os.length=n:=by rw[hos];simp
  have oo:OkS 6 os:=fun s hs=>by
   rw[hos]at hs;obtain⟨i,_,e⟩:=mem_map.mp hs;split at e
   ·cases e;omega
   ·cases e
  have li:=lU (cc:=4) (n:=n) (ps:=ps) (os:=os) (st:=3) (bk:=2) (f:=.own) (.inl rfl) (by decide) (by decide) (by decide) (by decide) ol oo;refine⟨_,_,_,_,_,go _ ?_,lY (k:=3) (cc:=4) (T:=6) (ps:=ps) (os:=os) (st:=3) (by omega) n1 (by omega) (by decide) (by decide) oo ol hnb hl⟩;unfold mJ;have cm:aY [2] 1 (bM (ad (mUn (ap 0) (ac 1)) ak)) (tgN 1) bS (oX (aw (mOp pGt (mOp cq (mOp aK (ac 0) (ac 1)) (J3 4)) (J3 0))) (mOp cq (mOp aK (ac 0) (ac 1)) (J3 6)) (mC .non)) [some (.int (3:Nat)),some (net .frz n ps),some (.int z)]=.ok (.lst .own (oL os)):=by
   refine aR (xs:=cC 0 n) (bD (n:=n) (by simp[Fl.JS,a0]) (by omega)) (by rw[bu];omega) ?_;rw[show oL os=(range n).map fun i:Nat=>oV (if 0 <(z+i)%4 then some ((z+i)%6)else none) by rw[hos];simp[oL]];refine bN (a:=fun k:Nat=>PV.int (0+(k:Int))) (f:=fun i:Nat=>oV (if 0 <(z+i)%4 then some ((z+i)%6)else none)) (range n) fun k hk=>⟨[some (.int z),some (.int (0+k))],by simp[tgN,aT,bW],?_,by split<;>simp[oV],by split<;>simp[oV]⟩
   by_cases c:0 <(z+k)%4
   ·simp[bA,c,oV]
   ·simp[bA,c,oV]
  refine ae fz (ae (bF (by simp) az) (dh (fF (by simp) (aU ?_ (by simp[PV.JZ,PV.has])))));simp only[sy,cj,cm];simp[li,aB,PV.has,Fl.JS,Fl.JT]
 ·have fi:=qo (f:=.frz) (ps:=ps) (r:=q) (.inl rfl) n1 (by omega) qn;refine⟨_,_,_,_,_,go _ ?_,lY (k:=4) (cc:=5) (T:=n) (ps:=ps) (os:=fs n q) (st:=n) (by omega) n1 (by omega) np (by omega) (ss n1) (by simp[fs]) hnb hl⟩;unfold mJ;exact ae fz (ae (bF (by simp) az) (ae (bF (by simp) az) (dh (fF (by simp) (aU (by simp[md,fi,aB,PV.has,Fl.JS,Fl.JT,ap,bL]) (by simp[PV.JZ,PV.has]))))))
 ·have N:=uV (z:=z) n8;have ld:=vd (ps:=ps) (fm:=.own) (.inr rfl) N n1 (by omega);have lk:=lY (k:=5) (cc:=6) (T:=10 * n) (ps:=ps) (os:=ls n ((range n).map fun i:Nat=>(z+7 * i) % 10)) (st:=n) (by omega) n1 (by omega) np (by omega) (fun s hs=>by
   simp only[ls,mem_map]at hs;obtain⟨x,hx,e⟩:=hs;obtain⟨i,_,rfl⟩:=hx;cases e;have h1:0 <=(9-(z+7*(i:Int))%10)*(n:Int):=Int.mul_nonneg (by omega) (by omega);have h2:(9-(z+7*(i:Int))%10)*(n:Int)<= 9*n:=Int.mul_le_mul_of_nonneg_right (by omega) (by omega);omega) (by simp[ls]) hnb hl
  rw[show((10*n:Nat):Int)=10*(n:Int) by omega]at lk;refine⟨_,_,_,_,_,go _ ?_,lk⟩;unfold mJ;have cm:aY [2] 1 (bM (ad (mUn (ap 0) (ac 1)) ak)) (tgN 1) bS (mOp cq (mOp aK (ac 0) (mOp dD (J3 7) (ac 1))) (J3 10)) [some (.int (5:Nat)),some (net .frz n ps),some (.int z)]=.ok (.lst .own (iL ((range n).map fun i:Nat=>(z+7*i)%10))):=
   aR (xs:=cC 0 n) (bD (n:=n) (by simp [Fl.JS,a0]) (by omega)) (by rw [bu];omega) (eW 0 (fun i:Nat=>(z+7 * i) % 10) n fun k hk=>⟨[some (.int z),some (.int (0+k))],by simp [tgN,aT,bW],by
    have m7:dD (.int 7) (.int (k:Int))=.ok (.int (7*k)):=fE (.inl ⟨by decide,by decide⟩);simp[m7,bA]⟩)
  refine ae fz (ae (bF (by simp) az) (ae (bF (by simp) az) (ae (bF (by simp) az) (dh (fF (by simp) (aU ?_ (by simp[PV.JZ,PV.has])))))));simp only[sy,cj,cX,cm];simp[ld,aB,PV.has,Fl.JS,Fl.JT]
 ·have gi:=xU (f:=.frz) (ps:=ps) (r:=q) (.inl rfl) n1 (by omega) qn;refine⟨_,_,_,_,_,go _ ?_,Bk (q:=q) n1 (by omega) hnb hl⟩;unfold mJ;exact ae fz (ae (bF (by simp) az) (ae (bF (by simp) az) (ae (bF (by simp) az) (ae (bF (by simp) az) (aU (by simp[md,gi,aB,PV.has,Fl.JS,Fl.JT,ap,bL]) (by simp[PV.JZ,PV.has]))))))
def y2(x:Int):Builtin.bitAnd x 1=0\/Builtin.bitAnd x 1=1:=by
 unfold Builtin.bitAnd;by_cases h:0<=x
 ·simp only[h,decide_true,show(0:Int)<= 1 by decide];have:x.toNat &&& (1:Int).toNat=x.toNat%2:=Nat.and_one_is_mod _;omega
 ·simp only[h,decide_false,show decide ((0:Int)<= 1)=true by decide];have:(1:Int).toNat &&& (Builtin.bitNot x).toNat=(Builtin.bitNot x).toNat%2:=by rw[Nat.and_comm];exact Nat.and_one_is_mod _
  omega
def Av(z w:Int)(hk:k<9)(n1:1<=n)(n8:n<=8):∃O o n' sp al D,tX [.int k,.int n,.int z,.int w]=.ok O/\Kd k O o n' sp al D:=by
 have run:∀O,mI [some (.int k),some (.int n),some (.int z),some (.int w),none,none]=.ret O->tX [.int k,.int n,.int z,.int w]=.ok O:=fun O h=>ay h;by_cases h0:k=0
 ·subst h0;have m4:0<=z%4:=by omega
  have pi:=wC (size:=(n:Int)+1) (span:=(n:Int)+1+z%4) (by omega) (by omega) (by omega);have kp:=Bg (n:=n+1) (sp:=(n:Int)+1+z%4) (by omega) (by omega) (by omega);refine⟨_,_,_,_,_,_,run (j2 .own ((n+1:Nat):Int) ((n:Int)+1+z%4)) ?_,kp⟩;unfold mI;exact dh (fF (by simp) (aU (by simp[bA,pi,aB,PV.has]) (by simp[PV.JZ,PV.has])))
 have k0:¬(k:Int)=0:=by omega
 by_cases h2:k=2
 ·subst h2;obtain⟨ps,hps⟩:∃ps:JI,ps=(range (n-1)).map fun i:Nat=>z / ((i:Int)+1)%((i:Int)+1):=⟨_,rfl⟩
  have pl:ps.length=n-1:=by rw[hps];simp
  have T:Tree ps:=fun i h=>by
   have e:ps[i]=z / ((i:Int)+1)%((i:Int)+1):=by simp[hps]
   rw[e];have:=emod_nonneg (z / ((i:Int)+1)) (show(i:Int)+1≠0 by omega);have:=emod_lt_of_pos (z / ((i:Int)+1)) (show(0:Int) <(i:Int)+1 by omega);omega
  have ci:=yS (f:=.own) T (by omega) (.inl rfl);refine⟨_,_,_,_,_,_,run _ ?_,xJ T (by omega)⟩;unfold mI;have cm:∀x4 x5,aY [2] 1 (bM (ad (mOp iC (ac 1) (J3 1)) ak)) (tgN 1) bS (mOp cq (mOp dE (ac 0) (mOp aK (ac 1) (J3 1))) (mOp aK (ac 1) (J3 1))) [some (.int (2:Nat)),some (.int n),some (.int z),some (.int w),x4,x5]=.ok (.lst .own (iL ps)):=fun x4 x5=>by
   rw[hps];exact aR (xs:=cC 0 (n - 1)) (bD (n:=n - 1) (by simp;omega) (by omega)) (by rw [bu];omega) (eW 0 (fun i:Nat=>z / ((i:Int)+1) % ((i:Int)+1)) (n - 1) fun i hi=>⟨[some (.int z),some (.int (0+i))],by simp [tgN,aT,bW],by
    have d:dE (.int z) (.int ((i:Int)+1))=.ok (.int (z / ((i:Int)+1))):=eU (by omega) (by omega);simp[d,bA (show(0:Int) <(i:Int)+1 by omega)]⟩)
  refine ae (bF (by simp) az) (dh (fF (by simp) (aU ?_ (by simp[PV.JZ,PV.has]))));simp only[sy,cj,cX,cm];simp[ci,aB,PV.has]
 have k2:¬(k:Int)=2:=by omega
 by_cases h7:k=7
 ·subst h7;have tb:∀ y:Int,iV ((range 8).map fun i:Nat=>Builtin.bitAnd (y / 2 ^ i) 1):=fun y=>⟨by simp,fun x hx=>by
   obtain⟨i,_,rfl⟩:=mem_map.mp hx;have:=y2 (y / 2 ^ i);omega⟩
  have cm:∀(i:Nat) (y:Int) (e:En),bW [i] 1 e=[some (.int y),none]->aY [i] 1 (bM (ad (J3 8) ak)) (tgN 1) bS (mOp kA (mOp p0 (ac 0) (ac 1)) (J3 1)) e=.ok (.lst .own (iL ((range 8).map fun i:Nat=>Builtin.bitAnd (y / 2 ^ i) 1))):=fun i y e he=>
   aR (xs:=cC 0 8) (bD (n:=8) (by simp) (by omega)) (by rw[bu];omega) (eW 0 (fun i:Nat=>Builtin.bitAnd (y / 2 ^ i) 1) 8 fun p hp=>⟨[some (.int y),some (.int (0+p))],by rw[he];simp[tgN,aT],by simp[p0,eC,kA,jL]⟩)
  obtain⟨m,hm,m2,m8⟩:∃m:Nat,fC min [.int 8,.int ((n:Int)+1)]=.ok (.int (m:Int))/\2<=m/\m<=8:=⟨min 8 (n+1),by simp[fC];omega,by omega,by omega⟩
  have ti:=vW m2 m8 (tb z) (tb w);obtain⟨D,kd⟩:=xH m2 m8 (tb z) (tb w);refine⟨_,_,_,_,_,_,run _ ?_,kd⟩;unfold mI;refine ae (bF (by simp) az) (ae (bF (by simp) az) (dh (fF (by simp) ?_)));refine ae (aC (v:=.lst .own (iL ((range 8).map fun i:Nat=>Builtin.bitAnd (z / 2 ^ i) 1))) (cm 2 z _ rfl)) ?_;simp only[s0_,s1_];refine ae (aC (v:=.lst .own (iL ((range 8).map fun i:Nat=>Builtin.bitAnd (w / 2 ^ i) 1))) (cm 3 w _ rfl)) ?_;simp only[s0_,s1_];generalize(range 8).map (fun i:Nat=>Builtin.bitAnd (z / 2 ^ i) 1)=ft at *;generalize(range 8).map (fun i:Nat=>Builtin.bitAnd (w / 2 ^ i) 1)=ot at *;exact aU (by simp[hm,ti,aB,PV.has,Fl.JS,Fl.JT]) (by simp[PV.JZ,PV.has])
 have k7:¬(k:Int)=7:=by omega
 by_cases h8:k=8
 ·subst h8;have m9:0<=z%9:=by omega
  have di:=vC (n:=n) (sp:=1+z%9);refine⟨_,_,_,_,_,_,run _ ?_,Bl (n:=n) (sp:=1+z%9) n1 (by omega) (by omega)⟩;unfold mI;exact ae (bF (by simp) az) (ae (bF (by simp) az) (ae (bF (by simp) az) (dh (fF (by simp) (aU (by simp[bA,di,aB,PV.has]) (by simp[PV.JZ,PV.has]))))))
 have k8:¬(k:Int)=8:=by omega
 obtain⟨ws,hn,g⟩:=Bc (n:=n) w n1 n8;obtain⟨O,o,sp,al,D,ho,kd⟩:=Dq (k:=k) (z:=z) g n1 n8 (by omega);refine⟨O,o,n,sp,al,D,run _ ?_,kd⟩;unfold mI;refine ae (bF (by simp[h0]) az) (ae (bF (by simp[k2]) az) (ae (bF (by simp[k7]) az) (ae (bF (by simp[k8]) az) (aU ?_ kd.nl))));generalize cP (ws.map mm)=ps at *;simp[hn,ho,aB,PV.has,kd.own]
def r9(h:l.length<=1000000):fU (.lst f (iL l))=.ok (.lst .own (iL l.reverse)):=by unfold fU;dsimp only;rw[gN];dsimp only;rw[if_pos h];rfl
section
variable{n:Nat}{al:Bool}
def p7(c:Int)(n9:n<=9):∃nm,t5 [.int n,.bl al,.int c]=.ok (.lst .own (iL nm))/\mP n al nm/\nm.length<=9:=by
 have d5:dE (.int c) (.int 5)=.ok (.int (c / 5)):=eU (by decide) (by decide);obtain⟨row,hrow⟩:∃row:JI,row=((range n).filter fun k=>decide (Builtin.bitAnd (c / 2 ^ k) 1=1)).map fun k:Nat=>(k:Int):=⟨_,rfl⟩
 have rnd:row.Nodup:=by rw[hrow];exact Pairwise.map _ (fun a b h e=>h (by omega)) (nodup_range.filter _)
 have rrg:∀x∈row,0<=x/\x<n:=fun x hx=>by rw[hrow]at hx;obtain⟨k,hk,rfl⟩:=mem_map.mp hx;have:=mem_range.mp (mem_filter.mp hk).1;omega
 have rln:row.length<=n:=by rw[hrow,length_map];exact Nat.le_trans (length_filter_le _ _) (by simp)
 have lp:(0:Int)<row.length+1:=by omega
 have a1:=emod_nonneg (c / 5) (show(row.length:Int)+1≠0 by omega);have a2:=emod_lt_of_pos (c / 5) lp;obtain⟨q,hq⟩:∃q:Nat,c / 5%((row.length:Int)+1)=q:=⟨(c / 5%((row.length:Int)+1)).toNat,by omega⟩
 have cl:q <=(iL row).length:=by rw[bv];omega
 have pm:((row.drop q).reverse++row.take q).Perm row:=((List.reverse_perm _).append_right _).trans (List.perm_append_comm.trans (.of_eq (List.take_append_drop q row)));have s1:aV 3 (aY [2] 1 (bM (ad (ac 0) ak)) (tgN 1) (aw (mOp pEq (mOp kA (mOp p0 (ac 0) (ac 1)) (J3 1)) (J3 1))) (ac 1)) [some (.int n),some (.bl al),some (.int c),none,none]=.next [some (.int n),some (.bl al),some (.int c),some (.lst .own (iL row)),none]:=by refine aC (v:=.lst .own (iL row)) ?_ (by simp) rfl;rw[hrow];exact aR (xs:=cC 0 n) (bD (n:=n) (by simp) (by omega)) (by rw[bu];omega) (eV (fun k=>decide (Builtin.bitAnd (c / 2 ^ k) 1=1)) (fun k=>(k:Int)) n fun k hk=>⟨[some (.int c),some (.int (0+k))],by simp[tgN,aT,bW],by simp[p0,eC,kA,jL],fun _=>by simp⟩)
 have lr:=r9 (f:=.own) (l:=row.drop q) (by rw[length_drop];omega);have fr:gS (iL row) (some (q:Int)) none=iL (row.drop q):=by rw[mw _ q cl];simp[iL]
 have to:gS (iL row) none (some (q:Int))=iL (row.take q):=by rw[sE _ q cl];simp[iL]
 obtain⟨nw,hnw⟩:∃nw,nw=(row.drop q).reverse++row.take q:=⟨_,rfl⟩
 rw[<- hnw]at pm;have nl:=pm.length_eq;have n1:nw.Nodup:=pm.symm.nodup rnd;have n2:∀x∈nw,0<=x/\x<n:=fun x hx=>rrg x (pm.mem_iff.mp hx);have pl:aK (.lst .own (iL (row.drop q).reverse)) (.lst .own (iL (row.take q)))=.ok (.lst .own (iL nw)):=by rw[fk (by decide) (by decide) (by simp;omega),hnw];simp[iL]
 have s3:aV 3 (mOp aK (mUn fU (dB (ac 3) (eG (ac 4)) dr)) (dB (ac 3) dr (eG (ac 4)))) [some (.int n),some (.bl al),some (.int c),some (.lst .own (iL row)),some (.int q)]=.next [some (.int n),some (.bl al),some (.int c),some (.lst .own (iL nw)),some (.int q)]:=by refine aC (v:=.lst .own (iL nw)) ?_ (by simp) rfl;simp only[gQ,Cf,f8,dC,iw,fO];simp[fr,to,lr,pl]
 have to1:gS (iL nw) none (some 1)=iL (nw.take 1):=by
  cases nw with
  |nil=>rfl
  |cons a l=>exact sE (iL (a::l)) 1 (by simp)
 cases al with
 |true=>refine⟨nw.take 1,ay ?_,⟨n1.sublist (List.take_sublist _ _),fun x hx=>n2 x (List.mem_of_mem_take hx),fun _=>by rw[length_take];omega,by rw[length_take];omega⟩,by rw[length_take];omega⟩;show qM [some (.int n),some (.bl true),some (.int c),none,none]=_;unfold qM;refine ae s1 (ae (aC (v:=.int q) (by simp[d5,p1,bV,aM,bA lp,hq])) ?_);simp only[s0_,s1_];refine ae s3 (dh (fF (by simp) (aU ?_)));simp only[f8,dC,iw,fO,qr];simp[to1]
 |false=>refine⟨nw,ay ?_,⟨n1,n2,fun z=>(by cases z),by omega⟩,by omega⟩;show qM [some (.int n),some (.bl false),some (.int c),none,none]=_;unfold qM;refine ae s1 (ae (aC (v:=.int q) (by simp[d5,p1,bV,aM,bA lp,hq])) ?_);simp only[s0_,s1_];exact ae s3 (ae (bF (by simp) az) (iH rfl))
end
section
variable{o:PV}{n:Nat}{sp:Int}{al:Bool}{D:JI->Nat->Int}{cs nm:JI}{f:Fl}
def E7{q:Nat}(h:(x<0 \/(n:Int)<= x)\/ x∈nm):nt n al (nm.take q++[x]++ nm.drop q):=by
 rcases h with h|h
 ·exact .inl ⟨x,by simp,h⟩
 ·refine .inr (.inl fun nd=>?_);simp only[append_assoc,List.singleton_append]at nd;have pm:(nm.take q++x::nm.drop q).Perm (x::nm):=List.perm_middle.trans (.of_eq (by rw[List.take_append_drop]));exact(nodup_cons.mp (pm.nodup nd)).1 h
def qZ(c:Int)(n1:1<=n)(hg:mP n al nm)(hl:nm.length<=9):∃b,ym [.int n,.bl al,.lst .bor (iL nm),.int c]=.ok (.lst .own (iL b))/\nt n al b/\b.length<=10:=by
 suffices hh:ku (zu [some (.int n),some (.bl al),some (.lst .bor (iL nm)),some (.int c),none,none,none]) (fun v=>∃b,v=.lst .own (iL b)/\nt n al b/\b.length<=10) by obtain⟨v,h1,b,rfl,h2⟩:=hh;exact⟨b,ay h1,h2⟩
 have p59:uQ (.int 10) (.int 59)=.ok (.int 100000000000000000000000000000000000000000000000000000000000):=by rfl
 have d24:dE (.int c) (.int 24)=.ok (.int (c / 24)):=eU (by decide) (by decide);have d8:dE (.int c) (.int 8)=.ok (.int (c / 8)):=eU (by decide) (by decide);have d2:dE (.int c) (.int 2)=.ok (.int (c / 2)):=eU (by decide) (by decide);have d80:dE (.int c) (.int 80)=.ok (.int (c / 80)):=eU (by decide) (by decide);have d240:dE (.int c) (.int 240)=.ok (.int (c / 240)):=eU (by decide) (by decide);have m59:cq (.int (c / 24)) (.int 100000000000000000000000000000000000000000000000000000000000)=.ok (.int (c / 24%100000000000000000000000000000000000000000000000000000000000)):=bA (by decide);have b59:=emod_nonneg (c / 24) (show(100000000000000000000000000000000000000000000000000000000000:Int)≠ 0 by decide);generalize c / 24%100000000000000000000000000000000000000000000000000000000000=w at m59 b59;obtain⟨u,hu,hu0⟩:∃u:Int,lK (.lst .own [.int 0,.int 1,.int w]) (.int (c / 8%3))=.ok (.int u)/\0<=u:=by
  have:c / 8%3=0\/c / 8%3=1\/c / 8%3=2:=by omega
  rcases this with e|e|e
  ·exact⟨0,by rw[e];rfl,by omega⟩
  ·exact⟨1,by rw[e];rfl,by omega⟩
  ·exact⟨w,by rw[e];rfl,b59⟩
 obtain⟨x,hx,hx0⟩:∃x:Int,lK (.lst .own [.int ((n:Int)+u),.int (-1-u)]) (.int (c / 2%2))=.ok (.int x)/\(x<0 \/(n:Int)<= x):=by
  have:c / 2%2=0\/c / 2%2=1:=by omega
  rcases this with e|e
  ·exact⟨(n:Int)+u,by rw[e];rfl,by omega⟩
  ·exact⟨-1-u,by rw[e];rfl,by omega⟩
 unfold zu;refine dy (aC (v:=.int u) ?_) ?_
 ·simp only[gQ,o8,cj,cX,dC,qr,getElem?_cons_zero,getElem?_cons_succ,eT,Res.J2,p59];simp[d24,d8,m59,bA,hu]
 simp only[s0_,s1_];refine dy (aC (v:=.int x) (by simp[d2,bA,hx,jm])) ?_;simp only[s0_,s1_];have ne:pNe (.lst .bor (iL nm)) (.lst .own [])=.ok (.bl (!decide (nm=[]))):=oT nm [] _ _;obtain⟨y,hy,hs⟩:∃y:Int,((y<0 \/(n:Int)<= y)\/ y∈nm)/\mBr (eP (aw (mOp pEq (mOp cq (ac 3) (J3 2)) (J3 1))) (aw (mOp pNe (ac 2) (cB ak)))) (aV 5 (mOp aQ (ac 2) (mOp cq (mOp dE (ac 3) (J3 24)) (ar (p1 bV) (ad (ac 2) ak))))) aS [some (.int n),some (.bl al),some (.lst .bor (iL nm)),some (.int c),some (.int u),some (.int x),none]=.next [some (.int n),some (.bl al),some (.lst .bor (iL nm)),some (.int c),some (.int u),some (.int y),none]:=by
  by_cases h1:c%2=1
  ·by_cases h2:nm=[]
   ·rw[decide_eq_true h2]at ne;exact⟨x,.inl hx0,bF (by simp[bA,h1,ne,Fl.JS]) az⟩
   ·have lp:(0:Int)<nm.length:=by have:=List.length_pos_iff.mpr h2;omega
    have b1:=emod_nonneg (c / 24) (show(nm.length:Int)≠ 0 by omega);have b2:=emod_lt_of_pos (c / 24) lp;have ix:aQ (.lst .bor (iL nm)) (.int (c / 24%(nm.length:Int)))=.ok (.int (gt nm (c / 24%(nm.length:Int)).toNat)):=cT (by omega) (by omega);exact⟨_,.inr (eH (by omega)),fF (by simp[bA,h1,ne,h2,Fl.JS]) (aC (v:=.int (gt nm (c / 24%(nm.length:Int)).toNat)) (by simp[Fl.JS,d24,bA lp,ix]))⟩
  ·exact⟨x,.inl hx0,bF (by simp[bA,h1]) az⟩
 refine dy hs ?_;by_cases h3:c%4=2/\al=true/\1<n
 ·obtain⟨h3,h4,h5⟩:=h3;subst h4;refine pT (by simp[bA,h3];omega) (fN (v:=.lst .own (iL [c / 8%(n:Int),(c / 8+1+c / 80%((n:Int)-1))%(n:Int)])) (aU ?_) ⟨_,rfl,.inr (.inr ⟨rfl,by simp⟩),by simp⟩);simp[d8,d80,bA (show(0:Int)<n by omega),bA (show(0:Int) <(n:Int)-1 by omega),iL]
 ·refine dy (bF ?_ az) ?_
  ·by_cases h4:c%4=2
   ·cases al with
    |false=>simp[bA,h4]
    |true=>have:¬1<n:=fun z=>h3 ⟨h4,rfl,z⟩;simp[bA,h4];omega
   ·simp[bA,h4]
  ·have lp:(0:Int) <(nm.length:Int)+1:=by omega
   have b1:=emod_nonneg (c / 240) (show(nm.length:Int)+1≠0 by omega);have b2:=emod_lt_of_pos (c / 240) lp;obtain⟨q,hq⟩:∃q:Nat,c / 240%((nm.length:Int)+1)=q:=⟨(c / 240%((nm.length:Int)+1)).toNat,by omega⟩
   have cl:q <=(iL nm).length:=by rw[bv];omega
   refine dy (aC (v:=.int q) (by simp[Fl.JS,d240,bA lp,hq])) ?_;simp only[s0_,s1_];have fr:gS (iL nm) (some (q:Int)) none=iL (nm.drop q):=by rw[mw _ q cl];simp[iL]
   have to:gS (iL nm) none (some (q:Int))=iL (nm.take q):=by rw[sE _ q cl];simp[iL]
   have pl:(aK (.lst .own (iL (nm.take q))) (.lst .own [.int y])).bind (fun a=>aK a (.lst .own (iL (nm.drop q))))=.ok (.lst .own (iL (nm.take q++[y]++ nm.drop q))):=by rw[fk (by decide) (by decide) (by simp;omega)];simp only[Res.J2];rw[fk (by decide) (by decide) (by simp;omega)];simp[iL]
   refine fN (v:=.lst .own (iL (nm.take q++[y]++ nm.drop q))) (aU ?_) ⟨_,rfl,E7 hy,by simp;omega⟩;simp only[gQ,f8,dC,iw,fO,o8,cj,cX];simp only[getElem?_cons_zero,getElem?_cons_succ,eT,Res.J2];have m1:(PV.lst .bor (iL nm)).J0 Fl.JS=.lst .bor (iL nm):=by simp[Fl.JS]
   simp only[m1];simp[fr,to];simp only[append_assoc,List.singleton_append]at pl;exact pl
def Bw{k:Int}{mv:PV}:tZ [.int k,mv,.lst .bor (iL b)]=.ok (.lst .own (iL b)):=by refine ay ?_;show zb [some (.int k),some mv,some (.lst .bor (iL b))]=_;unfold zb;exact aU (by simp[Fl.JS,p1,b7,aM]) (by simp)
def HF:mP n al []:=⟨by simp,fun x hx=>by simp at hx,fun _=>by simp,by simp⟩
def Au(r:Rl o n sp al D)(hn:cs.length=n)(hb:nt n al b)(hl:b.length<=10):yD [o,.lst .bor (iL cs),.lst .own [.lst .own [],.lst .bor (iL b)]]=.exc 4:=by
 have s1:(cs.map (· % sp)).length=n:=by simpa using hn
 have s2:InS sp (cs.map (· % sp)):=D7 r
 suffices h:∃e,zQ [some o,some (.lst .bor (iL cs)),some (.lst .own [.lst .own [],.lst .bor (iL b)]),none,none,none]=.exc 4 e by obtain⟨e,h⟩:=h;exact gJ h
 have key:∀s0:JI,s0.length=n->InS sp s0->∃e,dv (dO (ac 2)) (tgN 5) (av (cJ 4 (mFz (ar (aL mj) (ad (ac 0) (ad (ac 3) (ad (ac 5) ak)))))) (aV 3 (mOp aQ (mOp aQ (ac 4) (mUn jm (J3 1))) (J3 1)))) [some o,some (.lst .bor (iL cs)),some (.lst .frz [.lst .frz [],.lst .bor (iL b)]),some (.lst .own (iL s0)),some (.lst .own []),none]=.exc 4 e:=fun s0 t1 t2=>by
  refine iu (fun k e=>k<2/\∃f2 c2 ps x5,e=[some o,some (.lst .bor (iL cs)),some (.lst .frz [.lst .frz [],.lst .bor (iL b)]),some (.lst f2 (iL c2)),some (.lst .own (ps.map (i8 .frz))),x5]/\(Fc f2\/f2=.own)/\c2.length=n/\InS sp c2/\ps.length=k) (fun out=>∃e,out=.exc 4 e) (xs:=[.lst .frz [],.lst .bor (iL b)]) (c9 (f:=.frz) (by simp[Fl.JS]) rfl (by simp) (by simp)) ⟨by omega,.own,s0,[],none,by simp,.inr rfl,t1,t2,rfl⟩ (fun k x e hx hP=>?_) (fun e hP=>?_)
  ·obtain⟨k2,f2,c2,ps,x5,rfl,hf,c1,c3,pl⟩:=hP;have fc:=Fc.call hf;refine⟨_,cV rfl,?_⟩;simp only[s0_,s1_];have:k=0\/k=1:=by omega
   rcases this with rfl|rfl
   ·obtain rfl:x=.lst .frz (iL []):=by simpa[iL]using hx.symm
    have ro:=uy (fn:=.frz) (nm:=[]) r fc (.inr rfl) c1 c3 HF;rw[show iL ([]:JI)=[]from rfl]at ro;obtain⟨u1,u2⟩:=Ct r c1 c3 [];obtain rfl:ps=[]:=eq_nil_of_length_eq_zero pl;refine .inl ⟨_,.inl (ae (eY (v:=i8 .frz (dnR n D c2 [],stR n D c2 [])) (xs:=[]) ?_ rfl (by simp[i8]) (by simp)) ?_),by omega,.frz,stR n D c2 [],[(dnR n D c2 [],stR n D c2 [])],some (.lst .frz (iL [])),rfl,.inl (.inr rfl),u1,u2,rfl⟩
    ·simp[r.le,r.tb,show Fl.JS .frz=.frz from rfl,show Fl.JT .frz=.frz from rfl,ro,aB,i8]
    ·simp only[s0_,s1_,List.nil_append];have li:=xD (f:=.lnt) (g:=.frz) rfl [] (dnR n D c2 [],stR n D c2 []);have:=Aw (g:=.frz) rfl (dnR n D c2 [],stR n D c2 []);refine aC (v:=.lst .frz (iL (stR n D c2 []))) ?_ (by simp) rfl;have ml:(i8 .frz (dnR n D c2 [],stR n D c2 [])).J0 Fl.JS=i8 .frz (dnR n D c2 [],stR n D c2 []):=by simp[i8,Fl.JS]
     simp at li;simp[ml,li,this,jm]
   ·obtain rfl:x=.lst .bor (iL b):=by simpa using hx.symm
    have ro:=nM (cs:=c2) r fc (.inl rfl) hb (by omega);refine .inr (.inr (.inr ⟨4,_,ff (mM (xs:=ps.map (i8 .frz)) rfl ?_),_,rfl⟩));simp[r.le,r.tb,show Fl.JS .bor=.bor from rfl,show Fl.JT .bor=.bor from rfl,ro]
  ·obtain⟨h,_⟩:=hP;simp at h
 unfold zQ;obtain⟨e,h⟩:=key _ s1 s2;refine⟨e,ae (aC (v:=.lst .own (iL (cs.map (· % sp)))) (by simp[r.le,r.tb,r.rd,sV r hn,aB])) (ae (aC (v:=.lst .own []) (by simp)) (ae (iq (v:=.lst .own [.lst .own [],.lst .bor (iL b)]) rfl) ?_))⟩;simp only[s0_,s1_];have efz:(PV.lst .own [.lst .own [],.lst .bor (iL b)]).J0 Fl.JU=.lst .frz [.lst .frz [],.lst .bor (iL b)]:=by simp[Fl.JU]
 rw[efz];exact ff h
def vD(r:Rl o n sp al D)(hn:cs.length=n)(hc:InS sp cs)(hm:mvR n D cs≠[])(hb:nt n al b)(hl:b.length<=10):x0 [o,.lst .bor (iL cs),.box 99 [.lst .bor (iL b)],.int 1]=.exc 4:=by
 have e0:cs.map (· % sp)=cs:=by
  conv=>rhs;rw[<- List.map_id cs]
  exact List.map_congr_left fun x hx=>Int.emod_eq_of_lt (hc x hx).1 (hc x hx).2
 have rd:=sV (f:=.bor) r hn;rw[e0]at rd;have mo:=de (f:=.bor) r (.inl (.inl rfl)) hn hc;have lp:0 <(mvR n D cs).length:=List.length_pos_iff.mpr hm
 suffices h:∃e,y3 [some o,some (.lst .bor (iL cs)),some (.box 99 [.lst .bor (iL b)]),some (.int 1),none,none,none]=.exc 4 e by obtain⟨e,h⟩:=h;exact gJ h
 unfold y3;refine⟨_,ae (aC (v:=.lst .own (iL cs)) (by simp[r.le,r.tb,r.rd,Fl.JS,Fl.JT,rd,aB])) (ae (aC (v:=.lst .own []) (by simp)) (ff (e:=[some o,some (.lst .bor (iL cs)),some (.box 99 [.lst .bor (iL b)]),some (.int 1),some (.lst .own (iL cs)),some (.lst .own []),some (.lst .own (iL b))]) ?_))⟩;simp only[s0_,s1_];unfold ij whL;have c1:(eP (aw (mOp pLt (ar (p1 bV) (ad (ac 5) ak)) (ac 3))) (aw (mOp pGt (ar (p1 bV) (ad (bB ao (ac 0) (ad (ac 4) ak)) ak)) (J3 0)))) [some o,some (.lst .bor (iL cs)),some (.box 99 [.lst .bor (iL b)]),some (.int 1),some (.lst .own (iL cs)),some (.lst .own []),none]=.ok true:=by simp[r.le,r.tb,r.mv,mo,aB,p1,bV,aM];omega
 rw[c1];dsimp only;have ro:=nM (f:=.bor) (fn:=.bor) (cs:=cs) r (.inl rfl) (.inl rfl) hb (by omega);have b1:(av (aV 6 (kf 2 99 tZ (ad (ar (p1 bV) (ad (ac 5) ak)) (ad (bB ao (ac 0) (ad (ac 4) ak)) ak)))) (av (cJ 5 (mFz (ar (aL mj) (ad (ac 0) (ad (ac 4) (ad (ac 6) ak)))))) (aV 4 (mOp aQ (mOp aQ (ac 5) (mUn jm (J3 1))) (J3 1))))) [some o,some (.lst .bor (iL cs)),some (.box 99 [.lst .bor (iL b)]),some (.int 1),some (.lst .own (iL cs)),some (.lst .own []),none]=.exc 4 [some o,some (.lst .bor (iL cs)),some (.box 99 [.lst .bor (iL b)]),some (.int 1),some (.lst .own (iL cs)),some (.lst .own []),some (.lst .own (iL b))]:=by
  refine ae (aC (v:=.lst .own (iL b)) ?_) ?_
  ·unfold kf;have no:dI [PV.lst .bor (iL b)]=true:=by simp[dI,Fl.JW,Fl.JX]
   simp[no,r.le,r.tb,r.mv,mo,aB,Bw,p1,bV,aM,Fl.JT]
  ·simp only[s0_,s1_];refine ff (mM (xs:=[]) rfl ?_);simp[r.le,r.tb,ro]
 rw[b1]
end
@[simp] def Ho{g:Fl->Fl}{xs:JQ}:(PV.box k xs).J0 g=.box k (mapL g xs):=by simp[PV.J0]
section
variable{o:PV}{n:Nat}{sp:Int}{al:Bool}{D:JI->Nat->Int}{cs nm b:JI}{f:Fl}
def yL{w:Nat}(r:Rl o n sp al D)(hn:cs.length=n)(hc:InS sp cs)(hb:nt n al b)(hl:b.length<=10)(hw:w=0\/w=1\/w=2/\mvR n D cs≠[]):yc [.int w,o,.lst .bor (iL cs),.lst .bor (iL b)]=.exc 4:=by
 suffices h:∃e,y_ [some (.int w),some o,some (.lst .bor (iL cs)),some (.lst .bor (iL b)),none]=.exc 4 e by obtain⟨e,h⟩:=h;exact gJ h
 have dd:nU 4 99 [3] [some (.int w),some o,some (.lst .bor (iL cs)),some (.lst .bor (iL b)),none]=.next [some (.int w),some o,some (.lst .bor (iL cs)),some (.lst .bor (iL b)),some (.box 99 [.lst .bor (iL b)])]:=by
  unfold nU;have e:yU [3] [some (.int w),some o,some (.lst .bor (iL cs)),some (.lst .bor (iL b)),none]=some [.lst .bor (iL b)]:=rfl;rw[e];have no:dI [PV.lst .bor (iL b)]=true:=by simp[dI,Fl.JW,Fl.JX]
  dsimp only;rw[no];rfl
 have lb:Fl.JS .bor=.bor:=rfl;have tb:Fl.JT .bor=.bor:=rfl;unfold y_;rcases hw with rfl|rfl |⟨rfl,hm⟩
 ·have t:=nv (f:=.bor) (fn:=.bor) (cs:=cs) r (.inl rfl) hb (by omega);exact⟨_,ae dd (ff (fF (by simp) (oI (by simp[r.le,r.tb,r.tu,lb,tb,t]))))⟩
 ·have t:=Au r hn hb hl;exact⟨_,ae dd (ae (bF (by simp) az) (ff (fF (by simp) (oI (by simp[r.le,r.tb,lb,tb,t])))))⟩
 ·have t:=vD r hn hc hm hb hl;exact⟨_,ae dd (ae (bF (by simp) az) (ae (bF (by simp) az) (oI (by simp[r.le,r.tb,lb,tb,t]))))⟩
def rH{w:Nat}(r:Rl o n sp al D)(hn:cs.length=n)(hc:InS sp cs)(hb:nt n al b)(hl:b.length<=10)(hw:w=0\/w=1\/w=2/\mvR n D cs≠[]):yi [.int w,o,.lst .bor (iL cs),.lst .bor (iL b)]=.ok (.bl true):=by
 have d:=yL r hn hc hb hl hw;have lb:Fl.JS .bor=.bor:=rfl;have tb:Fl.JT .bor=.bor:=rfl;refine ay ?_;show zq [some (.int w),some o,some (.lst .bor (iL cs)),some (.lst .bor (iL b)),none,none,none]=_;unfold zq;refine ae (aC (v:=.lst .own []) (by simp)) ?_;simp only[s0_,s1_];refine ae (e:=[some (.int w),some o,some (.lst .bor (iL cs)),some (.lst .bor (iL b)),some (.lst .own [.bl true,.bl true,.bl false]),none,some (.lst .own [.bl false,.bl false,.bl false,.bl false,.bl false,.bl false])]) (z8 (qx (c:=4) ?_) rfl ?_) (aU rfl rfl)
 ·simp[r.le,r.tb,lb,tb,d]
 ·simp only[s0_,s1_];rfl
def Gn{k:Fl}:shp (.lst f [.lst g (iL a),.lst h (iL b),.lst k (iL c)])=true:=by simp[shp,SeqAt.shaped,PV.data,PyData.canLay0,PyData.depth,dataL,PyData.canLayAll0,PyData.depthAll]
def vz{k f' g' h' k':Fl}:pEq (.lst f [.lst g (iL a),.lst h (iL b),.lst k (iL c)]) (.lst f' [.lst g' (iL a),.lst h' (iL b),.lst k' (iL c)])=.ok (.bl true):=by unfold pEq;rw[Gn,Gn];simp[PV.data,dataL,PyData.eqv,PyData.eqvAll,i4]
def Gm{b:Bool}{m:Int}:shp (.lst f [.lst g (iL a),.bl b,.lst h (iL c),.int m])=true:=by simp[shp,SeqAt.shaped,PV.data,PyData.canLay0,PyData.depth,dataL,PyData.canLayAll0,PyData.depthAll]
def BG{f' g' h':Fl}{b:Bool}{m:Int}:pEq (.lst f [.lst g (iL a),.bl b,.lst h (iL c),.int m]) (.lst f' [.lst g' (iL a),.bl b,.lst h' (iL c),.int m])=.ok (.bl true):=by unfold pEq;rw[Gm,Gm];simp[PV.data,dataL,PyData.eqv,PyData.eqvAll,i4]
def vU(c:Int)(r:Rl o n sp al D)(n9:n<=9)(hn:cs.length=n)(hc:InS sp cs):yg [o,.lst .bor (iL cs),.int c]=.ok (.bl true):=by
 have n1:=r.n1;obtain⟨nm,e1,hg,hl⟩:=p7 (n:=n) (al:=al) c n9;obtain⟨b,e2,hb,hbl⟩:=qZ (c / 7) n1 hg hl;have d7:dE (.int c) (.int 7)=.ok (.int (c / 7)):=eU (by decide) (by decide);have lb:Fl.JS .bor=.bor:=rfl;have tb:Fl.JT .bor=.bor:=rfl;have tu:=j0 (f:=.bor) (fn:=.bor) r (.inl (.inl rfl)) (.inl (.inl rfl)) hn hc hg;have sl:(stR n D cs nm).length=n:=by simp[stR]
 have lk:=gq (f:=.bor) (g:=.bor) (stR n D cs nm) (by omega);have lk2:=gq (f:=.own) (g:=.bor) (stR n D cs nm) (by omega);have mo:=de (f:=.own) r (.inr rfl) hn hc;have rf:=fun w hw=>rH (w:=w) r hn hc hb hbl hw;refine ay ?_;show zj [some o,some (.lst .bor (iL cs)),some (.int c),none,none,none,none,none,none]=_;unfold zj;refine ae (aC (v:=.lst .own (iL nm)) (by simp[r.le,r.a0,r.a8,e1,aB])) ?_;simp only[s0_,s1_];refine ae (aC (v:=.lst .own (iL b)) (by simp[r.le,r.a0,r.a8,d7,e2,aB])) ?_;simp only[s0_,s1_];refine ae (aC (v:=.lst .own [.lst .own (iL cs),.lst .own (iL nm),.lst .own (iL b)]) (by simp[p1,b7,aM,lb]) (by simp[PV.JZ,PV.has]) rfl) ?_;simp only[s0_,s1_];refine ae (aC (v:=.lst .own (iL (stR n D cs nm))) ?_) ?_
 ·unfold stR;refine aR (xs:=cC 0 n) (bD (n:=n) (by simp[r.le,r.a0]) (by omega)) (by rw[bu];omega) (eW 0 (fun i:Nat=>if nm.contains (i:Int)then D cs i else gt cs i) n fun k hk=>⟨[some (.lst .bor (iL nm)),some o,some (.lst .bor (iL cs)),some (.int (0+k))],by simp[tgN,aT,bW,PV.JV,r.bo,Fl.JV],?_⟩);have gk:∀f,aQ (.lst f (iL cs)) (.int (k:Int))=.ok (.int (gt cs k)):=fun f=>by simpa using cT (f:=f) (cs:=cs) (i:=k) (by omega) (by omega)
  have dk:=(r.due .bor cs k (.inl rfl) hn hc hk).1;by_cases q:nm.contains (k:Int)=true
  ·simp only[q,if_true];simp at q;have dk:=(r.due .frz cs k (.inr rfl) hn hc hk).1;simp[q,r.le,lb,p1,b7,aM,Fl.JU,dk]
  ·simp only[q];simp at q;simp[q,lb,gk]
 simp only[s0_,s1_];have i0:aQ (.lst .lnt [.lst .lnt (iL cs),.lst .lnt (iL nm),.lst .lnt (iL b)]) (.int 0)=.ok (.lst .lnt (iL cs)):=ip (k:=0) rfl rfl (by simp);have i1:aQ (.lst .lnt [.lst .lnt (iL cs),.lst .lnt (iL nm),.lst .lnt (iL b)]) (.int 1)=.ok (.lst .lnt (iL nm)):=ip (k:=1) rfl rfl (by simp);have i2:aQ (.lst .lnt [.lst .lnt (iL cs),.lst .lnt (iL nm),.lst .lnt (iL b)]) (.int 2)=.ok (.lst .lnt (iL b)):=ip (k:=2) rfl rfl (by simp);have tn:Fl.JT .lnt=.bor:=rfl;refine ae (aC (v:=.lst .own (iL (stR n D cs nm))) ?_) ?_
 ·simp[r.le,r.tb,r.tu,i0,i1,tn,tu,aB]
 simp only[s0_,s1_];refine ae (bF (by simp[lk,aB]) az) ?_;refine ae (eY (v:=.int 0) (xs:=iL (stR n D cs nm)) (by simp) rfl (by simp) (by rw[bv];omega)) ?_;simp only[s0_,s1_];have nm0:pNe (.lst .own (iL (mvR n D cs))) (.lst .own [])=.ok (.bl (!decide (mvR n D cs=[]))):=oT _ [] _ _;obtain⟨xs,hxs,hall⟩:∃xs:List Nat,dO (dB (cB (ad (J3 0) (ad (J3 1) (ad (J3 2) ak)))) dr (eG (mOp aK (J3 2) (ar (p1 j9) (ad (mOp pNe (bB ao (ac 0) (ad (ar (p1 b7) (ad (ac 1) ak)) ak)) (cB ak)) ak))))) [some o,some (.lst .bor (iL cs)),some (.int c),some (.lst .own (iL nm)),some (.lst .own (iL b)),some (.lst .own [.lst .own (iL cs),.lst .own (iL nm),.lst .own (iL b)]),some (.lst .own (iL (stR n D cs nm))),some (.lst .own (iL (stR n D cs nm)++ [.int 0])),none]=.ok (iL (xs.map fun w:Nat=>(w:Int)))/\∀w∈xs,w=0\/w=1\/w=2/\mvR n D cs≠[]:=by
  by_cases q:mvR n D cs=[]
  ·refine⟨[0,1],?_,fun w hw=>by simp at hw;omega⟩;rw[decide_eq_true q]at nm0;have cp:gS [PV.int 0,PV.int 1,PV.int 2] none (some 2)=[.int 0,.int 1]:=rfl;refine c9 (f:=.own) ?_ rfl (by simp) (by simp);simp[r.le,r.tb,r.mv,p1,b7,aM,lb,mo,aB,nm0,j9,cp]
  ·refine⟨[0,1,2],?_,fun w hw=>by simp at hw;rcases hw with h|h|h<;>simp[h,q]⟩;rw[decide_eq_false q]at nm0;have cp:gS [PV.int 0,PV.int 1,PV.int 2] none (some 3)=[.int 0,.int 1,.int 2]:=rfl;refine c9 (f:=.own) ?_ rfl (by simp) (by simp);simp[r.le,r.tb,r.mv,p1,b7,aM,lb,mo,aB,nm0,j9,cp]
 refine g7 (fun _ e=>∃x8,e=[some o,some (.lst .bor (iL cs)),some (.int c),some (.lst .own (iL nm)),some (.lst .own (iL b)),some (.lst .own [.lst .own (iL cs),.lst .own (iL nm),.lst .own (iL b)]),some (.lst .own (iL (stR n D cs nm))),some (.lst .own (iL (stR n D cs nm)++ [.int 0])),x8]) hxs ⟨none,rfl⟩ (fun j x e hx hP=>?_) (fun e hP=>?_)
 ·obtain⟨x8,rfl⟩:=hP;obtain⟨w',hw',rfl⟩:=iR hx;rw[getElem?_map]at hw';obtain⟨w,hw,rfl⟩:=map_eq_some_iff.mp hw';have:=rf w (hall w (List.mem_of_getElem? hw));refine⟨_,cV rfl,?_⟩;simp only[s0_,s1_];refine cG (bF ?_ az) ⟨_,rfl⟩;simp[r.le,r.tb,i0,i2,tn,this,aB]
 ·obtain⟨x8,rfl⟩:=hP;refine aU (v:=.bl true) ?_ (by simp);have eh:=vz (f:=.lnt) (g:=.lnt) (h:=.lnt) (k:=.lnt) (f':=.own) (g':=.bor) (h':=.lnt) (k':=.lnt) (a:=cs) (b:=nm) (c:=b);simp[lb,eh,r.le,r.tb,r.tu,i0,i1,tn,tu,lk2,aB,uR]
end
def D8{d:Nat->Option (JQ->JR)}{r:Res (JQ)}{x:PV}(h:x.J0 Fl.JT=o)(ho:o.J0 Fl.JT=o):gy d r x=gy d r o:=by
 subst h;cases x with
 |obj f c ks vs=>
  rw[PV.J0]at ho ⊢;unfold gy;dsimp only;cases d c with
  |none=>rfl
  |some m=>
   cases r with
   |ok xs=>simp only[Res.J2,yW,u8,ho];rfl
   |exc c|stuck=>rfl
 |_=>first|rfl|simp[PV.J0,gy]
section
variable{o:PV}{n:Nat}{sp:Int}{al:Bool}{D:JI->Nat->Int}{cs:JI}
def Bv(r:Rl o n sp al D)(K:Lk o n sp)(n9:n<=9)(hn:cs.length=n)(hc:InS sp cs):ya [o,.lst .bor (iL cs)]=.ok (.bl true):=by
 have n1:=r.n1;have s0:=r.s0;have lb:Fl.JS .bor=.bor:=rfl;have tn:Fl.JT .lnt=.bor:=rfl;obtain⟨b,m,h1⟩:=tP r K hn hc;obtain⟨v,hv⟩:∃v:Int,v=(gt cs (n-1)+1)%sp:=⟨_,rfl⟩
 have c1:(cs.set (n-1) v).length=n:=by simpa using hn
 have c2:InS sp (cs.set (n-1) v):=fun x hx=>by
  rcases List.mem_or_eq_of_mem_set hx with h|h
  ·exact hc x h
  ·rw[h,hv];exact⟨emod_nonneg _ (by omega),emod_lt_of_pos _ s0⟩
 obtain⟨b',m',h2⟩:=tP r K c1 c2;have il:aQ (.lst .lnt (iL cs)) (.int (-1))=.ok (.int (gt cs (n-1))):=by
  unfold aQ;simp only[aM,atI,bv];rw[lZ (by omega)];simp[hn,gt]
  try rw[getElem?_eq_getElem (by omega)]
  try simp
 refine ay ?_;show y8 [some o,some (.lst .bor (iL cs)),none,none,none]=_;unfold y8;refine ae (aC (v:=.lst .own (iL cs)) (by simp[lb,p1,b7,aM])) ?_;simp only[s0_,s1_];have k1:=h1 .bor (.inl (.inl rfl));have k2:=h1 .own (.inr rfl);have k3:=h2 .bor (.inl (.inl rfl));have k4:=h2 .own (.inr rfl);refine ae (aC (v:=qb (mvR n D cs) b (stR n D cs [0]) m) (by simp[r.le,r.tb,tn,k1,aB,PV.has]) (by simp[PV.JZ,PV.has]) rfl) ?_;simp only[s0_,s1_];have sx:=jF (env:=[some o,some (.lst .bor (iL cs)),some (.lst .own (iL cs)),some (qb (mvR n D cs) b (stR n D cs [0]) m),none]) (i:=2) (m:=mOp cq (mOp aK (mOp aQ (ac 2) (mUn jm (J3 1))) (J3 1)) (mUn (ap 7) (ac 0))) (mk:=mUn jm (J3 1)) (v:=.int v) (xs:=iL cs) (j:=-1) (n:=n-1) (by simp[jm,il,r.le,r.a7,bA s0,hv]) rfl (by simp[jm]) (by rw[bv,hn];exact lZ (by omega)) rfl;refine ae sx ?_;simp only[s0_,s1_,jR];refine ae (aC (v:=qb (mvR n D (cs.set (n-1) v)) b' (stR n D (cs.set (n-1) v) [0]) m') (by simp[r.le,r.tb,tn,k3,aB,PV.has]) (by simp[PV.JZ,PV.has]) rfl) ?_;simp only[s0_,s1_];refine aU (v:=.bl true) ?_ (by simp);generalize cs.set (n-1) v=cs' at *;simp[r.le,r.tb,lb,p1,b7,aM,k2,k4,aB,PV.has,BG,uR]
def zT{E:JI}(r:Rl o n sp al D)(K:Lk o n sp)(n9:n<=9)(hn:cs.length=n)(hc:InS sp cs)(hE:E.length<=9)(re:gy aq (.ok [.lst .own (iL [])]) o=.ok (.lst .own (iL E))):yh [o,.lst .bor (iL cs),.lst .bor (iL E)]=.ok (.bl true):=by
 have lb:Fl.JS .bor=.bor:=rfl;have tb:Fl.JT .bor=.bor:=rfl;have tn:Fl.JT .lnt=.bor:=rfl;have mo:=de (f:=.own) r (.inr rfl) hn hc;have ml:=kX (n:=n) (D:=D) (cs:=cs);have lk:=gq (f:=.own) (g:=.bor) (mvR n D cs) (by omega);have hd:=Bv r K n9 hn hc;rw[show iL ([]:JI)=[]from rfl]at re;refine ay ?_;show zk [some o,some (.lst .bor (iL cs)),some (.lst .bor (iL E)),none,none,none]=_;unfold zk;refine ae (aC (v:=.lst .own (iL (mvR n D cs))) (by simp[r.le,r.tb,r.mv,lb,p1,b7,aM,mo,aB])) ?_;simp only[s0_,s1_];refine ae (aC (v:=.lst .own (iL (mvR n D cs))) (by simp[p1,b7,aM])) ?_;simp only[s0_,s1_];refine ae (eY (v:=.int 0) (xs:=iL (mvR n D cs)) (by simp) rfl (by simp) (by rw[bv];omega)) ?_;simp only[s0_,s1_];refine ae (aC (v:=.lst .own (iL E)) (by simp[r.le,re])) ?_;simp only[s0_,s1_];refine ae (eY (v:=.int 0) (xs:=iL E) (by simp) rfl (by simp) (by rw[bv];omega)) ?_;simp only[s0_,s1_];refine aU (v:=.bl true) ?_ (by simp);have e0:iL E++[.int 0]=iL (E++[0]):=by simp[iL]
 have pl:aK (.lst .bor (iL E)) (.lst .own [.int 0])=.ok (.lst .own (iL (E++[0]))):=by rw[fk (by decide) (by decide) (by simp;omega),e0]
 rw[e0];simp[r.le,r.tb,r.mv,lb,tb,p1,b7,aM,mo,lk,pl,hd,aB,uR]
end
def Bj{O:PV}{D:JI->Nat->Int}(K:Kd k O o n sp al D)(hk:k<9):∃E:JI,E.length<=9/\E=(if k=1\/k=2\/k=8 then []else lw n)/\gy aq (.ok [.lst .own (iL [])]) o=.ok (.lst .own (iL E))/\(E≠[]->∀l:JI,gy aq (.ok [.lst .own (iL l)]) o=.ok (.lst .own (iL E))):=by
 have n9:=K.n9;by_cases h:k=1\/k=2\/k=8
 ·exact⟨[],by simp,by rw[if_pos h],K.re h,fun z=>absurd rfl z⟩
 ·exact⟨lw n,by simp[lw];omega,by rw[if_neg h],K.ra h [],fun _ l=>K.ra h l⟩
def law_true(fl:Fl)(ns:JI)(h:Scr fl)(hl:ns.length<=63):Ce [.lst fl (ns.map .int)]=.ok (.bl true):=by
 rw[xO];obtain⟨k,hk⟩:∃k:Nat,cell ns 0%9=k:=⟨(cell ns 0%9).toNat,by omega⟩
 obtain⟨m,hm⟩:∃m:Nat,1+cell ns 0 / 9%8=m:=⟨(1+cell ns 0 / 9%8).toNat,by omega⟩
 have c0:jW [.lst fl (iL ns),.int 0]=.ok (.int (cell ns 0)):=lm ns 0 h;have c1:jW [.lst fl (iL ns),.int 1]=.ok (.int (cell ns 1)):=lm ns 1 h;have c2:jW [.lst fl (iL ns),.int 2]=.ok (.int (cell ns 2)):=lm ns 2 h;have p20:uQ (.int 10) (.int 20)=.ok (.int 100000000000000000000):=by rfl
 have m20:∀x:Int,cq (.int x) (.int 100000000000000000000)=.ok (.int (x%100000000000000000000)):=fun x=>bA (by decide);generalize cell ns 0=z0 at *;generalize cell ns 1=z1 at *;generalize cell ns 2=z2 at *;obtain⟨O,o,n,sp,al,D,hr,K⟩:=Av (k:=k) (n:=m) (z1%100000000000000000000) (z2%100000000000000000000) (by omega) (by omega) (by omega);have d9:dE (.int z0) (.int 9)=.ok (.int (z0 / 9)):=eU (by decide) (by decide);have d72:dE (.int z0) (.int 72)=.ok (.int (z0 / 72)):=eU (by decide) (by decide);have n9:=K.n9;have n1:=K.r.n1;have s0:=K.r.s0;have tb:Fl.JT .bor=.bor:=rfl;have tn:Fl.JT .lnt=.bor:=rfl;refine ay (v:=.bl true) ?_;show zR [some (.lst fl (iL ns)),none,none,none,none,none,none,none,none]=_;unfold zR;refine ae (aC (v:=.int z0) (by simp[h.JS,h.JT,c0,aB])) ?_;simp only[s0_,s1_];refine ae (aC (v:=.int k) (by simp[bA,hk])) ?_;simp only[s0_,s1_];refine ae (aC (v:=.int m) (by simp[d9,bA,hm])) ?_;simp only[s0_,s1_];refine ae (aC (v:=O) ?_ K.nl rfl) ?_
 ·simp only[fg,cj,cX,gQ,dC,qr,getElem?_cons_zero,getElem?_cons_succ,eT,Res.J2,p20];simp[h.JS,h.JT,c1,c2,aB,m20,hr,K.own]
 simp only[s0_,s1_];refine ae (bF ?_ az) ?_
 ·simp[K.lb,K.kin,aB]
 obtain⟨cs,hcs⟩:∃cs:JI,cs=(range n).map fun i:Nat=>cell ns (3+i)%sp:=⟨_,rfl⟩
 have hn:cs.length=n:=by rw[hcs];simp
 have hc:InS sp cs:=fun x hx=>by rw[hcs]at hx;obtain⟨i,_,rfl⟩:=mem_map.mp hx;exact⟨emod_nonneg _ (by omega),emod_lt_of_pos _ s0⟩
 refine ae (aC (v:=.lst .own (iL cs)) ?_) ?_
 ·rw[hcs];refine aR (xs:=cC 0 n) (bD (n:=n) (by simp[K.la0]) (by omega)) (by rw[bu];omega) (eW 0 (fun i:Nat=>cell ns (3+i)%sp) n fun i hi=>⟨[some (.lst fl.JV (iL ns)),some o,some (.int (0+i))],by simp[tgN,aT,bW,PV.JV,K.bb],?_⟩);have c:=lm ns (3+i) h;rw[show((3+i:Nat):Int)=3+(i:Int) by omega]at c;simp[h.JV,h.JS,h.JT,c,aB,K.r.le,K.r.a7,bA s0]
 simp only[s0_,s1_];clear hcs;obtain⟨ys,hys⟩:∃ys:JI,dO (mOp aK (cB (ad (J3 2) (ad (J3 15) ak))) (dB (ac 0) (eG (J3 3)) (eG (J3 23)))) [some (.lst fl (iL ns)),some (.int z0),some (.int k),some (.int m),some O,some (.lst .own (iL cs)),none,none,none]=.ok (iL ys):=by
  refine⟨[2,15]++(ns.take 23).drop 3,c9 (f:=.own) ?_ rfl (by simp) (by simp)⟩;have cu:gS (iL ns) (some 3) (some 23)=iL ((ns.take 23).drop 3):=ES ns 3 23 rfl rfl;have pl:aK (.lst .own [.int 2,.int 15]) (.lst .own (iL ((ns.take 23).drop 3)))=.ok (.lst .own (iL ([2,15]++(ns.take 23).drop 3))):=by rw[fk (by decide) (by decide) (by simp;omega)];simp[iL]
  simp only[gQ,o8,cj,cX,qr,f8,dC,iw,getElem?_cons_zero,eT,Res.J2];simp[h.JS,cu];simpa using pl
 refine g7 (fun _ e=>∃cs x6,e=[some (.lst fl (iL ns)),some (.int z0),some (.int k),some (.int m),some O,some (.lst .own (iL cs)),x6,none,none]/\cs.length=n/\InS sp cs) hys ⟨cs,none,rfl,hn,hc⟩ (fun j x e hx hP=>?_) (fun e hP=>?_)
 ·obtain⟨cs,x6,rfl,hn,hc⟩:=hP;obtain⟨y,hy,rfl⟩:=iR hx;have tk:=vU y K.r n9 hn hc;refine⟨_,cV rfl,?_⟩;simp only[s0_,s1_];refine eJ (bF (by simp[K.lb,tn,tk,aB]) az) ?_;have np:(0:Int)<n:=by omega
  have b1:=emod_nonneg y (show(n:Int)≠ 0 by omega);have b2:=emod_lt_of_pos y np;obtain⟨q,hq⟩:∃q:Nat,y%(n:Int)=q:=⟨(y%(n:Int)).toNat,by omega⟩
  have d3:dE (.int y) (.int 3)=.ok (.int (y / 3)):=eU (by decide) (by decide);have sx:=jF (env:=[some (.lst fl (iL ns)),some (.int z0),some (.int k),some (.int m),some O,some (.lst .own (iL cs)),some (.int y),none,none]) (i:=5) (m:=mOp cq (mOp dE (ac 6) (J3 3)) (mUn (ap 7) (ac 4))) (mk:=mOp cq (ac 6) (mUn (ap 0) (ac 4))) (v:=.int (y / 3%sp)) (xs:=iL cs) (j:=q) (n:=q) (by simp[d3,K.la7,bA s0]) rfl (by simp[K.la0,bA np,hq]) (kZ (by rw[bv];omega)) rfl;refine cG sx ⟨cs.set q (y / 3%sp),some (.int y),by simp only[s0_,s1_,jR],by simpa using hn,fun x hx=>?_⟩;rcases List.mem_or_eq_of_mem_set hx with h|h
  ·exact hc x h
  ·rw[h];exact⟨emod_nonneg _ (by omega),emod_lt_of_pos _ s0⟩
 ·obtain⟨cs,x6,rfl,hn,hc⟩:=hP;obtain⟨E,hE,eE,re,ra⟩:=Bj K (by omega);have ag:=zT K.r K.lk n9 hn hc hE re;have lk:=gq (f:=.own) (g:=.bor) E (by omega);obtain⟨nm,e1,_,nl⟩:=p7 (n:=n) (al:=false) (z0 / 72) n9;refine ae (aC (v:=.lst .own (iL (lw n))) (by simp[K.la0,nV (n:=n) (by omega)])) ?_;simp only[s0_,s1_];refine ae (e:=[some (.lst fl (iL ns)),some (.int z0),some (.int k),some (.int m),some O,some (.lst .own (iL cs)),x6,some (.lst .own (iL E)),none]) ?_ ?_
  ·have inK:pIn (.int (k:Int)) (.lst .own [.int 1,.int 2,.int 8])=.ok (.bl (decide (k=1\/k=2\/k=8))):=by
    have k9:k<9:=by omega
    have:k=0\/k=1\/k=2\/k=3\/k=4\/k=5\/k=6\/k=7\/k=8:=by omega
    rcases this with rfl|rfl|rfl|rfl|rfl|rfl|rfl|rfl|rfl<;>rfl
   by_cases q:k=1\/k=2\/k=8
   ·rw[decide_eq_true q]at inK;rw[if_pos q]at eE;subst eE;exact fF (by simp[inK]) (aC (v:=.lst .own []) (by simp))
   ·rw[decide_eq_false q]at inK;rw[if_neg q]at eE;subst eE;exact bF (by simp[inK]) az
  refine ae (aC (v:=.lst .own (iL nm)) (by simp[K.la0,d72,e1,aB])) ?_;simp only[s0_,s1_];rw[show iL ([]:JI)=[]from rfl]at re;have mt:=fun r=>D8 (d:=aq) (r:=r) K.lb K.r.tb;refine ae (bF ?_ az) ?_
  ·simp[K.lb,tn,ag,mt,re,lk,aB]
  refine ae (bF ?_ az) ?_
  ·have ne:pNe (.lst .lnt (iL E)) (.lst .own [])=.ok (.bl (!decide (E=[]))):=oT _ [] _ _;by_cases q:E=[]
   ·rw[decide_eq_true q]at ne;simp[ne]
   ·rw[decide_eq_false q]at ne;have ra':=ra q nm;simp[ne,mt,p1,b7,aM,ra',tn,lk,aB]
  ·refine aU (v:=.bl true) ?_ (by simp);by_cases q:k=8
   ·have ba:=K.ba q cs (nm++nm) hn hc (by simp;omega);have rp:nO (.lst .lnt (iL nm)) (.int 2)=.ok (.lst .own (iL (nm++nm))):=by
     unfold nO;have e:(dI (iL nm)&&decide ((0:Int)<= 2/\(2:Int)<= 1000000)&&decide ((iL nm).length*(2:Int).toNat<=10000000))=true:=by simp[dI];omega
     show(if(dI (iL nm)&&decide ((0:Int)<= 2/\(2:Int)<= 1000000)&&decide ((iL nm).length*(2:Int).toNat<=10000000))=true then Res.ok (PV.lst .own (uD (2:Int).toNat (iL nm)))else .stuck)=_;rw[if_pos e];simp[uD,iL,replicate]
    simp[q,rp,K.lb,tn,ba,aB,pOr]
   ·simp[show ¬(k:Int)=8 by omega,pOr]
end G
namespace G
open PySem L2 PR
def hb:z5 pt.F:=⟨bn2,bn4,bn3,bn1,bn3,bn2,bn2,bn6,bn2,bn2,bn2,bn2,bn2,bn3,bn2,bn2,bn1,bn3,bn5,bn3,bn2,bn3,bn3,bn3,bn4,bn2,bn3,bn4,bn3,bn2,bn2,bn2,bn3,bn3,bn2,bn3,bn2,bn2,bn2,bn3,bn2,bn3,bn3,bn3,bn3,bn2,bn3,bn1,bn2,bn2,bn2,bn3,bn3,bn4,bn4,bn4,bn3,bn2,bn3,bn2,bn2,bn2,bn2,bn2,bn2,bn2,bn2,bn2,bn2,bn1,bn2,bn2,bn2,bn2,bn2,bn2,bn2,bn3,bn1,bn2,bn3,bn1,trivial⟩
def hd:zZ pe.D:=trivial
def hds:pe.D.all (fun y=>scB y.1)=true:=by decide +kernel
def hs:pt.F.all scB=true:=by decide +kernel
def fin{l:PySem.W.OpenLaw}{w:World}{K:PySem.W.Frag}{mg:JE}{fa:Addr}(t:Ty pt pe w K mg)(tk:TK pt K kc)(hfa:mg "law"=some (.ref fa)) :
  ∃fd:FuncData,(∀(s:Shared) (u:Value),BindsTo s fd ⟨[u],[]⟩ [("_law_script",u)])/\∀base:Heap,K.In base->TG pt K mg base->dG l.prog w K mg base (CXP l.prog w) 12 fa fd ["_law_script"] (v7 K (pt.T hA K).tb):=by
 have e:=hfa.symm.trans (t.tx.gl 81 rfl);cases e;refine⟨dAt K (pt.fa K 81),fun s u=>?_,fun base hB tg=>Ea (T:=T K) (D4 t hB tg tk) law_true⟩;obtain⟨oc,od,kV,doc,pm,an,cdv,ct,osl,e,_⟩:=(t.tx.fn 81).ex;rw[e];exact .of_eq rfl
end G
namespace PySem.W.Fast
theorem t:True:=trivial
def tw1469019246305892382:=t
def tw7552239174558374408:=t
def tw7696040118196982116:=t
def tw18197599858055897729:=t
def tw13909144514782806156:=t
def tw17756873991637909402:=t
def tw1369738442616788645:=t
def tw5505261032315045558:=t
def tw13169163587327590652:=t
def tw14768367257470147664:=t
def tw11035736216999342921:=t
def tw6192674863438451126:=t
def tw4334786420728851119:=t
def tw2920561728319785097:=t
def tw15126325388844667919:=t
def tw18217493991825505530:=t
def tw5452332639118814320:=t
def tw3109558511042331489:=t
def tw5344934461456538557:=t
def tw5895740944409434411:=t
def tw18059365863679104602:=t
def tw2676636366812747696:=t
def tw14223778102184693499:=t
def tw8106620906177841679:=t
def tw10578437300166098567:=t
def tw14395582301086601154:=t
def tw6982038839707058447:=t
def tw17835379541621830150:=t
def tw2694211293603646521:=t
def tw10983047241459111411:=t
def tw12694354565064389461:=t
def tw9465346806165474662:=t
def tw607203431149595743:=t
def tw7540766265173709753:=t
def tw8345204186811597215:=t
def tw13496406607331028701:=t
def tw11132410893721504989:=t
def tw13418701584962435810:=t
def tw13918907894061186395:=t
def tw5272613676435414019:=t
def tw4606082973588818567:=t
def tw7676479148263074379:=t
def tw10669001126552209600:=t
def tw11270544392438057349:=t
def tw383249410158272727:=t
def tw3305961811102719444:=t
def tw5356100151671402978:=t
def tw11992760213110096972:=t
def tw8969671726713948560:=t
def tw2125231178681203590:=t
def tw15320460039236248637:=t
def tw4311041316637999511:=t
def tw9816495611329694851:=t
def tw10084923037599129149:=t
def tw15383283452522619798:=t
def tw15017816858778231330:=t
def tw5464146378613891273:=t
def tw1132297833417286623:=t
def tw13498377160472201888:=t
def tw14927052328087379559:=t
def tw18207064921859160159:=t
def tw822636955263343239:=t
def tw14329730372439738506:=t
def tw8407339152418540665:=t
def tw763203238461409593:=t
def tw11292202906411592658:=t
def tw4979195674974851460:=t
def tw14323687287875781417:=t
def tw6759695191617210309:=t
def tw17323872208968726577:=t
def tw526154718748031910:=t
def tw14776489127855345189:=t
def tw2640837467186228343:=t
def tw9236029162805889877:=t
def tw3508867858270531582:=t
def tw10881195627393099001:=t
def tw18129732672157370324:=t
def tw15928517063237403126:=t
def tw7954048575739442859:=t
def tw10188988793216367694:=t
def tw16802010866521508112:=t
def tw8880747747676231480:=t
def tw1678390921939604319:=t
def tw14853379265447011476:=t
def tw18095806695309360882:=t
def tw3235516670596858376:=t
def tw1005157759280068599:=t
def tw1649326032046482701:=t
def tw7956753028721391250:=t
def tw14510152462517095249:=t
def tw18282505557463890259:=t
def tw12463125779160418312:=t
def tw14104742229657315580:=t
def tw3163513288014930340:=t
def tw12703918059211725949:=t
def tw3381517763908352481:=t
def tw10133033793157584551:=t
def tw8322812658401778588:=t
def tw10677833044659019402:=t
def tw12246128418263980641:=t
def tw16097107959218303669:=t
def tw2723422071705124870:=t
def tw5667469775269360571:=t
def tw1738819254721671166:=t
def tw3313250217874301724:=t
def tw12536638403511652494:=t
def tw5534105822985733003:=t
def tw1166672149541370133:=t
def tw7747869539157296791:=t
def tw11781339243002466629:=t
def tw15449511351977445164:=t
def tw10390282856276041582:=t
def tw16185172862482874905:=t
def tw8751175551887803775:=t
def tw7264684629423114436:=t
def tw13012651226066421234:=t
def tw805942673213522279:=t
def tw36166297803235206:=t
def tw2171835966186316325:=t
def tw14622657650661472439:=t
def tw16547615773333973240:=t
def tw49331030159111781:=t
def tw12951617906461015377:=t
def tw50259861766305480:=t
def tw448873501170982265:=t
def tw3198795436619576509:=t
def tw1168560759470212411:=t
def tw7350719083202092204:=t
def tw18171871433463714646:=t
def tw8237147294939235523:=t
def tw16617151105243465468:=t
def tw2349959077230320119:=t
def tw3945557332604487459:=t
def tw16765232974327508190:=t
def tw2679130847789478756:=t
def tw16257095340240093936:=t
def tw4714873359244209263:=t
def tw7303639837289036587:=t
def tw1826903474839692659:=t
def tw17947679289410532745:=t
def tw5817092623871890023:=t
def tw8706516484501991972:=t
def tw16150870062682711283:=t
def tw10716222409183510862:=t
def tw6149496841172545539:=t
def tw10578571367093388424:=t
def tw15763404371107285699:=t
def tw227357360554526826:=t
def tw5165848988255648603:=t
def tw5488506145047630527:=t
def tw14832112545951193396:=t
def tw13897836068427974404:=t
def tw18231074031248471038:=t
def tw18335102035015129280:=t
def tw3911273033220091093:=t
def tw14133595503989783982:=t
def tw1556088475862167858:=t
def tw7629955774282821988:=t
def tw11693533360120671138:=t
def tw10615243389833853439:=t
def tw17453010603779023447:=t
def tw7691467666912938922:=t
def tw5553837457583170090:=t
def tw4659024502411600319:=t
def tw892976702907315291:=t
def tw11145623921348190014:=t
def tw18357678394712818895:=t
def tw10271732782971745957:=t
def tw2682147370885312812:=t
def tw2223986836505808070:=t
def tw15329784831466344650:=t
def tw6567914452399766864:=t
def tw2286657291055539785:=t
def tw1017219782240762402:=t
def tw2995951483261445951:=t
def tw15707038804710462572:=t
def tw16363637524199043946:=t
def tw11077081917249857727:=t
def tw17987966074270966777:=t
def tw15989861712353403261:=t
def tw15312910394739811221:=t
def tw5296119819751225521:=t
def tw10163861906068545600:=t
def tw11816659015489730380:=t
def tw4705584965881611179:=t
def tw12574160683023184025:=t
def tw3993792793947638272:=t
def tw1038529386359878011:=t
def tw15963884537914542206:=t
def tw8662015159592363697:=t
def tw9224167525445419645:=t
def tw2883020468005785264:=t
def tw9368986904707284542:=t
def tw12635093858708547104:=t
def tw870812166832161679:=t
def tw9718896966563377540:=t
def tw11939921912896569554:=t
def tw9754167236025507502:=t
def tw3012212322485158276:=t
def tw4412057397647019691:=t
def tw2267165102713975240:=t
def tw15841536784467101440:=t
def tw3287534293080158890:=t
def tw16411023846079825458:=t
def tw3715032000143079552:=t
def tw2271811805452626426:=t
def tw10166660089901720652:=t
def tw12672577699130045950:=t
def tw4579734139264287971:=t
def tw1911639339242343417:=t
def tw9902111180390952720:=t
def tw18418440551368879796:=t
def tw8086948466003698782:=t
def tw16433010391609995760:=t
def tw2452072976755569765:=t
def tw13216427800973283430:=t
def tw514211964550994367:=t
def tw9652665983179244688:=t
def tw12630994165847970917:=t
def tw16478293349759977238:=t
def tw14903744529175150244:=t
def tw3272925401364145463:=t
def tw13087921349016896424:=t
def tw9228791874938033890:=t
def tw38000854768653484:=t
def tw13408405146985164566:=t
def tw13646956209838822171:=t
def tw14077866205918395263:=t
def tw13021211066896128019:=t
def tw17906257627162047441:=t
def tw11152186359589466994:=t
def tw15609129743372151704:=t
def tw17555821340044038487:=t
def tw5707846236736746091:=t
def tw6894046094013041647:=t
def tw3050747621268947222:=t
def tw15169082772002387545:=t
def tw947181144322010059:=t
def tw9458142867379049753:=t
def tw17876296314743530720:=t
def tw5427360203633744861:=t
def tw13576775567858438494:=t
def tw1068423299933099115:=t
def tw16017122834574523494:=t
def tw5149995060454558851:=t
def tw6941826731341612976:=t
def tw10927584286770162858:=t
def tw4140959547378513432:=t
def tw17175790905044166347:=t
def tw18310417757983788528:=t
def tw18090782292050900802:=t
def tw2677867612548428588:=t
def tw15377173339299897165:=t
def tw3291984523438407304:=t
def tw2730532406994221230:=t
def tw6114947333765404147:=t
def tw8579397468126315650:=t
def tw18054938152211889127:=t
def tw15346722369961406335:=t
def tw15475187512090920265:=t
def tw6135465775377137827:=t
def tw2919827043464909812:=t
def tw4679427479108556197:=t
def tw17495690329137861033:=t
def tw7671987025490887055:=t
def tw17196240129413053273:=t
def tw126719712312642697:=t
def tw8861232939209468480:=t
def tw7670017416746956436:=t
def tw7578492137057095497:=t
def tw6673107532780110745:=t
def tw2981785350816036344:=t
def tw17209659704559981433:=t
def tw5179899467959863893:=t
def tw2055953094780135013:=t
def tw950934866576542630:=t
def tw13164237421161676266:=t
def tw11470444018816240209:=t
def tw3980171888334192257:=t
def tw2664060749255749043:=t
def tw10629970367840662481:=t
def tw16103683729398198361:=t
end PySem.W.Fast
open PySem PySem.W PyProof.Rows
set_option maxRecDepth 100000 in
set_option maxHeartbeats 0 in
theorem PySem.Challenge.cw_calmring_k55_every_rule_at_its_turns_holds : PySem.Challenge.rw_calmring_k55_every_rule_at_its_turns.Holds := by
 w_on;o_law;k_head;(case hw=>w_witness2)
 k_fill
 refine PR.ve _root_.G.pt _root_.G.hA (l:=PySem.Challenge.rw_calmring_k55_every_rule_at_its_turns) (k:=12) (x := "_law_script") rfl rfl ⟨rfl,by decide,by decide⟩ (fun w h Y=>PySem.W.km_in_of Y) ?r ?G ?F
 (case r=>kernel_rfl)
 (case G=>exact fun w=>by kernel_rfl)
 case F =>
  intro w mg fa h KX G hmg
  refine' _root_.G.fin (_root_.PR.Ty.of KX G (_root_.PR.Tx.of KX G _root_.G.hb _root_.G.hs ?a ?b ?c ?d ?e ?f ?g) _root_.G.hd _root_.G.hds ?h ?i ?j ?k ?l) ⟨?y,?z⟩ hmg
  (case y=>exact fun z=>nomatch z)
  (case z=>kernel_rfl)
  (case a=>exact fun z=>nomatch z)
  (case b=>exact fun z=>nomatch z)
  (case c=>exact fun z=>nomatch z)
  (case d=>kernel_rfl)
  (case e=>kernel_rfl)
  (case f=>kernel_rfl)
  (case g=>kernel_rfl)
  (case h=>kernel_rfl)
  (case i=>kernel_rfl)
  (case j=>kernel_rfl)
  (case k=>kernel_rfl)
  (case l=>kernel_rfl)
