import PyProof.Rows.All
import Wide.All
import OpenK.AllK
import Wide.FinOn
import Lean
import PyProof.EqAt
import PyProof.EqKinds
import PyProof.TupleCall
import PySem.Challenge.RW_calmring_k50_whole_calm_is_as_it_ought_t
open List(range mem_filter mem_range mem_cons_self mem_cons_of_mem mem_cons mem_append mem_append_left getElem_inj getElem?_set_self getElem?_set_ne mem_append_right size_toArray length_cons map_cons length_map append_nil nodup_cons of_mem_zip replicate length_take getElem?_append_right getElem?_replicate getElem?_append_left getElem?_map length_append length_set map_nil Pairwise find?_cons any_cons nodup_nil nodup_append lookup_cons sublist_nil append_assoc Sublist all_cons pairwise_cons mem_map all_eq_true not_mem_nil getD_eq_getElem?_getD getElem_of_mem getElem?_eq_getElem getElem_mem nodup_range ext_getElem take_add_one sum_append sum_cons take_length getElem?_cons_succ getElem?_cons_zero map_map map_append mem_map_of_mem mem_singleton filter_cons map_id' length_filter_le map_congr_left)
open PySem.W(instObj methodObj hideAll hideAll_get lookIn plainGet hasDictIn handedIn plainGet_of plainOver takerIn makesIn emptyDict callWith_K kitOne kia_one mroIn clsIn excIn specialIn readsIn findCls fnMade exmOne mg_of tabIn envX fnX FnAt CodeHd)
open PySem.Heap(lt_size SameBut get?_push_of_some get?_push_size size_push get?_update_other ExtBut)
open Nat(zero_le le_succ)
open Bool(or_eq_false_iff and_eq_true false_eq_true not_eq_true' or_eq_true)
open Option(isSome_iff_exists map_eq_some_iff join_some getD_some toList)
open Int(toNat_natCast emod_nonneg emod_lt_of_pos toNat_of_nonneg emod_eq_of_lt)
open PyProof.Rows(firstMet evalArgs_kw2 step_dedup)
set_option Elab.async false
set_option linter.all false
set_option maxRecDepth 100000
noncomputable section
set_option genSizeOf false
set_option compiler.extract_closed false
set_option bootstrap.genMatcherCode false
namespace L2
open PySem PySem.Spec PyProof.Rows
abbrev Key:=Sum Int Str
def mK:Key->Value->Bool
 |.inl k,v=>Value.isInt k v
 |.inr x,v=>Value.isStrOf x v
def Hf(w:World):Key->Int
 |.inl k=>hashInt k
 |.inr x=>hashStr w x
def b9:∀{k:Key}{v:Value},mK k v=true->(∃i t,k=Sum.inl i/\v=Value.int i t)\/(∃x t,k=Sum.inr x/\v=Value.str x t)
 |.inl i,v,h=>by obtain⟨t,e⟩:=Value.isInt_shape (k:=i) (v:=v) h;exact .inl ⟨i,t,rfl,e⟩
 |.inr x,v,h=>by obtain⟨t,e⟩:=Value.isStrOf_shape (x:=x) (v:=v) h;exact .inr ⟨x,t,rfl,e⟩
def ur(i:Int)(t:Tok):mK (.inl i) (.int i t)=true:=by simp[mK,Value.isInt]
def uq(x:Str)(t:Tok):mK (.inr x) (.str x t)=true:=by simp[mK,Value.isStrOf]
def Cs(a b:Int):decide ((Sum.inl a:Key)=Sum.inl b)=(a==b):=by
 by_cases e:a=b
 ·subst e;simp
 ·have h:¬(Sum.inl a:Key)=Sum.inl b:=fun q=>e (Sum.inl.inj q);rw[decide_eq_false h];exact(beq_eq_false_iff_ne.mpr e).symm
def Cp(a b:Str):decide ((Sum.inr a:Key)=Sum.inr b)=decide (a=b):=by
 by_cases e:a=b
 ·subst e;simp
 ·have h:¬(Sum.inr a:Key)=Sum.inr b:=fun q=>e (Sum.inr.inj q);rw[decide_eq_false h,decide_eq_false e]
def Cr(a:Int)(b:Str):decide ((Sum.inl a:Key)=Sum.inr b)=false:=decide_eq_false (fun q=>nomatch q)
def Cq(a:Str)(b:Int):decide ((Sum.inr a:Key)=Sum.inl b)=false:=decide_eq_false (fun q=>nomatch q)
def dL(prog:Program)(w:World):PySem.KeyKind prog w Key where
 is:=mK
 hash:=Hf w
 inj:=fun v a b ha hb=>by
  rcases b9 ha with⟨i,t,rfl,rfl⟩ |⟨x,t,rfl,rfl⟩
  ·rcases b9 hb with⟨j,u,rfl,e⟩ |⟨y,u,rfl,e⟩
   ·injection e with e1 _;rw[e1]
   ·exact nomatch e
  ·rcases b9 hb with⟨j,u,rfl,e⟩ |⟨y,u,rfl,e⟩
   ·exact nomatch e
   ·injection e with e1 _;rw[e1]
 byValue:=fun k v h=>by rcases b9 h with⟨i,t,rfl,rfl⟩ |⟨x,t,rfl,rfl⟩<;>rfl
 pyHash:=fun hv h=>by
  rcases b9 hv with⟨i,t,rfl,rfl⟩ |⟨x,t,rfl,rfl⟩
  ·exact wpAny_pyHash_int h
  ·exact wpAny_pyHash_str h
 eqBool:=fun hu hv h=>by
  rcases b9 hu with⟨i,t,rfl,rfl⟩ |⟨x,t,rfl,rfl⟩
  ·rcases b9 hv with⟨j,u,rfl,rfl⟩ |⟨y,u,rfl,rfl⟩
   ·rw[Cs]at h;exact wpAny_eqBool_int h
   ·rw[Cr]at h;exact SeqAt.EqAt.int_str i t y u _ _ _ _ h
  ·rcases b9 hv with⟨j,u,rfl,rfl⟩ |⟨y,u,rfl,rfl⟩
   ·rw[Cq]at h;exact SeqAt.EqAt.str_int x t j u _ _ _ _ h
   ·rw[Cp]at h;exact wpAny_eqBool_str h
 «strs»:=fun k x t v h=>by
  rcases b9 h with⟨i,u,rfl,e⟩ |⟨y,u,rfl,e⟩
  ·exact nomatch e
  ·injection e with e1 _;subst e1;cases v<;>rfl
def o8(prog:Program)(w:World)(i:Int)(t:Tok):(dL prog w).is (.inl i) (.int i t)=true:=ur i t
def o7(prog:Program)(w:World)(x:Str)(t:Tok):(dL prog w).is (.inr x) (.str x t)=true:=uq x t
end L2
namespace L2
open PySem PySem.Spec PyProof.Rows
inductive V where
 |non|bl (b:Bool)|int (i:Int)|str (x:Str)|byt (b:Array UInt8)|flt (b:UInt64)|ref (a:Addr)|ty (n:String)
 deriving DecidableEq
def bv:V->Value->Prop
 |.non,u=>u=Value.none
 |.bl b,u=>u=Value.bool b
 |.int i,u=>∃t,u=Value.int i t
 |.str x,u=>∃t,u=Value.str x t
 |.byt b,u=>∃t,u=Value.bytes b t
 |.flt b,u=>∃t,u=Value.float b t
 |.ref a,u=>u=Value.ref a
 |.ty n,u=>u=Value.type n
abbrev aP:List V->List Value->Prop:=Paired bv
def aP.length{xs:List V}{us:List Value}(r:aP xs us):xs.length=us.length:=Paired.length r
def aP.get:∀{xs:List V}{us:List Value}{i:Nat}{x:V},aP xs us->xs[i]?=some x->∃u,us[i]?=some u/\bv x u
 |_,_,_,_,.nil,e=>by simp at e
 |_,_,0,_,.cons r _,e=>by simp at e;subst e;exact⟨_,rfl,r⟩
 |_,_,i+1,x,.cons _ t,e=>by obtain⟨u,h1,h2⟩:=aP.get (i:=i) (x:=x) t (by simpa using e);exact⟨u,by simpa using h1,h2⟩
def aP.set{x:V}{u:Value}(r:bv x u):∀{xs:List V}{us:List Value} (i:Nat),aP xs us->aP (xs.set i x) (us.set i u)
 |_,_,_,.nil=>.nil
 |_,_,0,.cons _ t=>.cons r t
 |_,_,i+1,.cons q t=>.cons q (aP.set r i t)
def aP.append:∀{xs ys:List V}{us ws:List Value},aP xs us->aP ys ws->aP (xs++ys) (us++ws)
 |_,_,_,_,.nil,s=>s
 |_,_,_,_,.cons r t,s=>.cons r (aP.append t s)
def aP.take:∀{xs:List V}{us:List Value} (n:Nat),aP xs us->aP (xs.take n) (us.take n)
 |_,_,0,_|_,_,_+1,.nil=>.nil
 |_,_,n+1,.cons r t=>.cons r (aP.take n t)
def aP.drop:∀{xs:List V}{us:List Value} (n:Nat),aP xs us->aP (xs.drop n) (us.drop n)
 |_,_,0,r=>r
 |_,_,_+1,.nil=>.nil
 |_,_,n+1,.cons _ t=>aP.drop n t
def ki:Option V->Option Value->Prop
 |some v,some u=>bv v u
 |none,none=>True
 |_,_=>False
def KV{κ:Type}:List (κ×V)->List (κ×Value)->Prop:=Paired fun(p:κ×V) (q:κ×Value)=>p.1=q.1/\bv p.2 q.2
def kV:Key->V
 |.inl i=>.int i
 |.inr x=>.str x
inductive HO where
 |lst (xs:List V)
 |tup (xs:List V)
 |dK (kvs:List (Key×V))|dT (kvs:List (List Key×V))
 |set(S:Int->Bool) (n:Nat)
 |ins (C dx:Addr) (fs:List (Str×V))
 |own (x:Addr)
 |xd (fs:List (Str×V))
 |met (f x:Addr)
 |rng (lo hi:Int)
 |frz (o:Obj) (u:HO)
 |tbl (ps:Array Value)
 |ext (φ:Heap->Prop)
abbrev Hp:=Addr->Option HO
def upd(H:Hp)(a:Addr)(o:HO):Hp:=fun b=>if b=a then some o else H b
def aN{H:Hp}{a:Addr}{o:HO}:upd H a o a=some o:=by unfold upd;rw[if_pos rfl]
def aF{H:Hp}{a b:Addr}{o:HO}(h:b≠a):upd H a o b=H b:=by unfold upd;rw[if_neg h]
def yq{H:Hp}{a:Addr}{o u:HO}:upd (upd H a o) a u=upd H a u:=by funext b;unfold upd;split<;>rfl
def bu{H:Hp}{a b:Addr}{o:HO}(h:H a=some o)(h':H b=none):a≠b:=by intro e;subst e;rw[h]at h';cases h'
section
variable(P:Program)(w:World)
def Kp:HO->Prop
 |.tup _|.frz _ _=>True
 |_=>False
def Tab(H:Hp)(ps qs:Array Value):Prop:=qs=#[]\/ ∃l c q t0 c' oc u vs t,ps=#[l,c,.str q t0]/\qs=#[l,c,.ref c']/\H c'=some (.frz oc u)/\oc.data=.fields vs/\vs[1]?=some (.str q t)
def bW(H:Hp)(h:Heap)(a:Addr):HO->Prop
 |.lst xs=>xs.length<=sizeLine/\∃(its:List Value) (n:Nat),aP xs its/\h.get? a=some {cls:=.type "list",data:=.seq its.toArray n}
 |.tup xs=>xs.length<=sizeLine/\∃its:List Value,aP xs its/\IsTup h a its.toArray
 |.dK kvs=>kvs.length<=sizeLine/\(a==sysModules)=false/\∃vs,KV kvs vs/\h.DictOf (dL P w) a vs
 |.dT kvs=>kvs.length<=sizeLine/\(a==sysModules)=false/\∃xs:List (List Key×Addr×Value),
   Paired (fun(p:List Key×V) (q:List Key×Addr×Value)=>p.1=q.1/\H q.2.1=some (.tup (p.1.map kV))/\bv p.2 q.2.2) kvs xs /\
   ∃o es ep,h.get? a=some o/\o.ExactDict/\o.data=.dict es ep/\es.toList=xs.map (entryOfKey (tupleKind (dL P w)))/\(xs.map (·.1)).Nodup
 |.set S n=>h.SetOf (intKind P w) a S n
 |.ins C dx fs=>H dx=some (.own a)/\fs.length<=1000/\dx≠a/\h.get? a=some (instObj C dx)/\
   ∃mA,h.Ns1 dx mA/\(∀f,ki (fs.lookup f) (mA f))/\PySem.Within mA (fs.map (·.1))
 |.own _=>∃o,h.get? a=some o
 |.xd fs=>∃mA,h.Ns1 a mA/\∀f,ki (fs.lookup f) (mA f)
 |.rng lo hi=>∃t u v,h.get? a=some {cls:=.type "range",data:=.fields #[.int lo t,.int hi u,.int 1 v]}
 |.frz o u=>h.get? a=some o/\bW H h a u
 |.tbl ps=>∃qs,h.get? a=some {cls:=.none,data:=.fields qs}/\Tab H ps qs
 |.met f x=>h.get? a=some (methodObj (.ref f) (.ref x))
 |.ext φ=>φ h/\(∃o,h.get? a=some o)/\∀h1 h2:Heap,φ h1->(∀o,h1.get? a=some o->h2.get? a=some o)->φ h2
def HOk(H:Hp)(h:Heap):Prop:=∀a o,H a=some o->bW P w H h a o
end
section
variable{P:Program}{w:World}{H H':Hp}{h h':Heap}{a:Addr}{o:HO}
def bW.lt(x:bW P w H h a o):a<h.objs.size:=by
 cases o with
 |lst xs=>obtain⟨_,_,_,_,e⟩:=x;exact lt_size e
 |tup xs=>obtain⟨_,_,_,p⟩:=x;exact p.lt
 |dK kvs|dT kvs=>obtain⟨_,_,_,_,o,_,_,e,_⟩:=x;exact lt_size e
 |set S n=>obtain⟨o,_,_,_,e,_⟩:=x;exact lt_size e
 |ins C dx fs=>obtain⟨_,_,_,e,_⟩:=x;exact lt_size e
 |own y=>obtain⟨_,e⟩:=x;exact lt_size e
 |xd fs=>obtain⟨_,⟨_,_,_,e,_⟩,_⟩:=x;exact lt_size e
 |rng lo hi=>obtain⟨_,_,_,e⟩:=x;exact lt_size e
 |frz ob u=>obtain⟨e,_⟩:=x;exact lt_size e
 |tbl ps=>obtain⟨_,e,_⟩:=x;exact lt_size e
 |met f y=>exact lt_size (show h.get? a=some _ from x)
 |ext φ=>obtain⟨_,⟨_,e⟩,_⟩:=x;exact lt_size e
def Paired.mapP{α β:Type}{F G:α->β->Prop}:∀{l₁:List α}{l₂:List β},Paired F l₁ l₂->(∀a b,F a b->G a b)->Paired G l₁ l₂
 |_,_,.nil,_=>.nil
 |_,_,.cons r t,f=>.cons (f _ _ r) (Paired.mapP t f)
def bW.stay(x:bW P w H h a o)(k:∀b u,(b=a\/H b=some (.own a))->h.get? b=some u->h'.get? b=some u)
  (ho:∀b,H b=some (.own a)->H' b=some (.own a)) (ht:∀b u,Kp u->H b=some u->H' b=some u):bW P w H' h' a o:=by
 induction o with
 |lst xs=>obtain⟨z,its,n,r,e⟩:=x;exact⟨z,its,n,r,k _ _ (.inl rfl) e⟩
 |tup xs=>obtain⟨z,its,r,ob,e,c⟩:=x;exact⟨z,its,r,ob,k _ _ (.inl rfl) e,c⟩
 |dK kvs=>obtain⟨z,y,vs,r,ob,es,ep,e,c⟩:=x;exact⟨z,y,vs,r,ob,es,ep,k _ _ (.inl rfl) e,c⟩
 |dT kvs=>obtain⟨z,y,xs,r,ob,es,ep,e,c⟩:=x;exact⟨z,y,xs,Paired.mapP r fun p q z=>⟨z.1,ht _ _ True.intro z.2.1,z.2.2⟩,ob,es,ep,k _ _ (.inl rfl) e,c⟩
 |set S n=>obtain⟨ob,es,ep,t,e,c⟩:=x;exact⟨ob,es,ep,t,k _ _ (.inl rfl) e,c⟩
 |ins C dx fs=>obtain⟨d,z,ne,e,mA,⟨od,es,ep,e2,c⟩,r⟩:=x;exact⟨ho _ d,z,ne,k _ _ (.inl rfl) e,mA,⟨od,es,ep,k _ _ (.inr d) e2,c⟩,r⟩
 |own y=>obtain⟨ob,e⟩:=x;exact⟨ob,k _ _ (.inl rfl) e⟩
 |xd fs=>obtain⟨mA,⟨od,es,ep,e,c⟩,r⟩:=x;exact⟨mA,⟨od,es,ep,k _ _ (.inl rfl) e,c⟩,r⟩
 |rng lo hi=>obtain⟨t,u,v,e⟩:=x;exact⟨t,u,v,k _ _ (.inl rfl) e⟩
 |frz ob u ih=>obtain⟨e,q⟩:=x;exact⟨k _ _ (.inl rfl) e,ih q⟩
 |tbl ps=>obtain⟨qs,e,c⟩:=x;exact⟨qs,k a _ (.inl rfl) e,c.imp (fun z=>z) fun z=>by obtain⟨l,c,q,t0,c',oc,u,vs,t,e1,e2,e3,r⟩:=z;exact⟨l,c,q,t0,c',oc,u,vs,t,e1,e2,ht _ _ True.intro e3,r⟩⟩
 |met f y=>have e:h.get? a=some (methodObj (.ref f) (.ref y)):=x;show h'.get? a=some (methodObj (.ref f) (.ref y));exact k a _ (.inl rfl) e
 |ext φ=>obtain⟨p,⟨o,e⟩,st⟩:=x;exact⟨st _ _ p fun o q=>k _ _ (.inl rfl) q,⟨o,k _ _ (.inl rfl) e⟩,st⟩
def HOk.lt(x:HOk P w H h)(e:H a=some o):a<h.objs.size:=(x a o e).lt
def HOk.fresh(x:HOk P w H h)(e:h.objs.size<=a):H a=none:=by
 cases q:H a with
 |none=>rfl
 |some u=>exact absurd (Nat.lt_of_lt_of_le (x.lt q) e) (Nat.lt_irrefl _)
def HOk.kept(x:HOk P w H h)(k:∀b u,h.get? b=some u->h'.get? b=some u):HOk P w H h':=fun a o e=>
 (x a o e).stay (fun b u _ q=>k b u q) (fun _ q=>q) fun _ _ _ q=>q
def HOk.laid(x:HOk P w H h)(k:∀b u,h.get? b=some u->h'.get? b=some u)(hp:h.objs.size<=a)(new:bW P w (upd H a o) h' a o):HOk P w (upd H a o) h':=fun b u e=>by
 have hn:=x.fresh hp;by_cases hb:b=a
 ·subst hb;rw[aN]at e;cases e;exact new
 ·rw[aF hb]at e;exact(x b u e).stay (fun c v _ q=>k c v q) (fun c q=>by rw[aF (bu q hn)];exact q) fun c xs _ q=>by rw[aF (bu q hn)];exact q
end
def Rd(H:Hp)(a:Addr)(u:HO):Prop:=H a=some u\/∃o,H a=some (.frz o u)
def Rd.ok{P:Program}{w:World}{H:Hp}{h:Heap}{a:Addr}{u:HO}(r:Rd H a u)(x:HOk P w H h):bW P w H h a u:=by
 rcases r with r |⟨o,r⟩
 ·exact x a u r
 ·obtain⟨_,q⟩:=x a _ r;exact q
def Mut:Option HO->Prop
 |some (.lst _)|some (.dK _)|some (.dT _)|some (.set _ _)|some (.ins _ _ _)|some (.ext _)=>True
 |_=>False
section
variable{P:Program}{w:World}{H:Hp}{h h':Heap}{x e:Addr}{o':HO}
def HOk.write(ok:HOk P w H h)(mu:Mut (H x))(he:e=x\/H e=some (.own x))(k:∀b u,b≠e->h.get? b=some u->h'.get? b=some u)(heo:∃u,h'.get? e=some u)
  (new:bW P w (upd H x o') h' x o'):HOk P w (upd H x o') h':=fun b u q=>by
 have nown:∀c y,H c=some (.own y)->c≠x:=fun c y r z=>by subst z;rw[r]at mu;exact mu
 have ntup:∀c u,Kp u->H c=some u->c≠x:=fun c u h r z=>by subst z;rw[r]at mu;cases u<;>first|exact h|exact mu
 by_cases hb:b=x
 ·subst hb;rw[aN]at q;cases q;exact new
 ·rw[aF hb]at q;by_cases hbe:b=e
  ·have q':H b=some (.own x):=by
    rcases he with z|z
    ·exact absurd (hbe.trans z) hb
    ·rw[hbe];exact z
   rw[q]at q';cases q';obtain⟨v,hv⟩:=heo;exact⟨v,by rw[hbe];exact hv⟩
  ·refine(ok b u q).stay (fun c v hc r=>k c v ?_ r) (fun c r=>by rw[aF (nown c b r)];exact r) fun c xs h r=>by rw[aF (ntup c xs h r)];exact r
   rcases hc with rfl|hc
   ·exact hbe
   ·rintro rfl;rcases he with z|z
    ·exact nown c b hc z
    ·rw[hc]at z;cases z;exact hb rfl
end
structure Un(fs ex:List Addr)(H H':Hp)(h h':Heap):Prop where
 keep:∀b o,h.get? b=some o->H b=none->b∉fs->b∉ex->h'.get? b=some o
 slot:∀b o,h.get? b=some o->H b=none->b∈fs->b∉ex->∃sl,h'.get? b=some {o with slots:=sl}
 free:∀b o,h.get? b=some o->H b=none->b∉ex->H' b=none
 there:∀b o,h.get? b=some o->b∉ex->∃o',h'.get? b=some o'
 tups:∀b xs,H b=some (.tup xs)->H' b=some (.tup xs)
 frzs:∀b o u,H b=some (.frz o u)->H' b=some (.frz o u)
 tbls:∀b ps,H b=some (.tbl ps)->∃more,H' b=some (.tbl (ps++more))
section
variable{fs fs' ex ex':List Addr}{H H1 H2:Hp}{h h1 h2 h':Heap}{a x e:Addr}{o:HO}
def Un.any(u:Un fs ex H H1 h h1){b:Addr}{ob:Obj}(q:h.get? b=some ob)(n:H b=none)(hx:b∉ex):∃sl,h1.get? b=some {ob with slots:=sl}:=by
 by_cases hb:b∈fs
 ·exact u.slot b ob q n hb hx
 ·exact⟨ob.slots,u.keep b ob q n hb hx⟩
def Un.trans(a:Un fs ex H H1 h h1)(b:Un fs ex H1 H2 h1 h2):Un fs ex H H2 h h2 where
 keep:=fun c ob q n hc hx=>b.keep c ob (a.keep c ob q n hc hx) (a.free c ob q n hx) hc hx
 slot:=fun c ob q n hc hx=>by obtain⟨sl,e1⟩:=a.slot c ob q n hc hx;obtain⟨sl',e2⟩:=b.slot c _ e1 (a.free c ob q n hx) hc hx;exact⟨sl',e2⟩
 free:=fun c ob q n hx=>by obtain⟨o',e1⟩:=a.there c ob q hx;exact b.free c o' e1 (a.free c ob q n hx) hx
 there:=fun c ob q hx=>by obtain⟨o',e1⟩:=a.there c ob q hx;exact b.there c o' e1 hx
 tups:=fun c xs q=>b.tups c xs (a.tups c xs q)
 frzs:=fun c ob xs q=>b.frzs c ob xs (a.frzs c ob xs q)
 tbls:=fun c ps q=>by obtain⟨m1,e1⟩:=a.tbls c ps q;obtain⟨m2,e2⟩:=b.tbls c _ e1;exact⟨m1++m2,by rw[e2,Array.append_assoc]⟩
def Un.kept(k:∀b u,h.get? b=some u->h'.get? b=some u):Un fs ex H H h h':=
 ⟨fun b ob q _ _ _=>k b ob q,fun b ob q _ _ _=>⟨ob.slots,k b ob q⟩,fun _ _ _ n _=>n,fun b ob q _=>⟨ob,k b ob q⟩,fun _ _ q=>q,fun _ _ _ q=>q,fun _ ps q=>⟨#[],by rw[q];simp⟩⟩
def Un.refl:Un fs ex H H h h:=Un.kept fun _ _ q=>q
def Un.laid(k:∀b u,h.get? b=some u->h'.get? b=some u)(hp:h.objs.size<=a)(hn:H a=none):Un fs ex H (upd H a o) h h' where
 keep:=fun b u q _ _ _=>k b u q
 slot:=fun b u q _ _ _=>⟨u.slots,k b u q⟩
 free:=fun b u q n _=>by rw[aF (Nat.ne_of_lt (Nat.lt_of_lt_of_le (lt_size q) hp))];exact n
 there:=fun b u q _=>⟨u,k b u q⟩
 tups:=fun b xs q=>by rw[aF (bu q hn)];exact q
 frzs:=fun b u xs q=>by rw[aF (bu q hn)];exact q
 tbls:=fun b ps q=>⟨#[],by rw[aF (bu q hn),q];simp⟩
def Un.write(mu:Mut (H x))(he:e=x\/H e=some (.own x))(k:∀b u,b≠e->h.get? b=some u->h'.get? b=some u)(heo:∃u,h'.get? e=some u):Un fs ex H (upd H x o) h h':=by
 have hx:∀b,H b=none->b≠x:=fun b n z=>by subst z;rw[n]at mu;exact mu
 have hb:∀b,H b=none->b≠e:=fun b n z=>by
  subst z;rcases he with r|r
  ·exact hx b n r
  ·rw[n]at r;cases r
 have hm:∀b u,H b=some u->¬Mut (some u)->b≠x:=fun b u q nm z=>by subst z;rw[q]at mu;exact nm mu
 refine ⟨fun b u q n _ _=>k b u (hb b n) q,fun b u q n _ _=>⟨u.slots,k b u (hb b n) q⟩,fun b u q n _=>by rw [aF (hx b n)];exact n,fun b u q _=>?_,
  fun b xs q=>by rw[aF (hm b _ q fun z=>z)];exact q,fun b u xs q=>by rw[aF (hm b _ q fun z=>z)];exact q,fun b ps q=>⟨#[],by rw[aF (hm b _ q fun z=>z),q];simp⟩⟩
 by_cases hbe:b=e
 ·subst hbe;exact heo
 ·exact⟨u,k b u hbe q⟩
def Un.mono(u:Un fs ex H H1 h h1)(hs:∀b∈fs,b∈fs')(hx:∀b∈ex,b∈ex'):Un fs' ex' H H1 h h1:=
 ⟨fun b ob q n hb he=>u.keep b ob q n (fun z=>hb (hs b z)) fun z=>he (hx b z),fun _ _ q n _ he=>u.any q n fun z=>he (hx _ z),fun b ob q n he=>u.free b ob q n fun z=>he (hx b z),fun b ob q he=>u.there b ob q fun z=>he (hx b z),u.tups,u.frzs,u.tbls⟩
end
def trk(h:Heap)(H:Hp):List Addr:=(range h.objs.size).filter fun a=>(H a).isSome
def lw(h:Heap)(H:Hp):Heap:=hideAll h (trk h H)
def uw(h:Heap)(H:Hp):(lw h H).objs.size=h.objs.size:=PySem.W.hideAll_size _ _
def wK{h:Heap}{H:Hp}{b:Addr}{o:Obj}(e:h.get? b=some o)(n:H b=none):(lw h H).get? b=some o:=
 hideAll_get _ e fun hm=>by have q:(H b).isSome=true:=(mem_filter.mp hm).2;rw[n]at q;simp at q
def zx{h:Heap}{H:Hp}{b:Addr}{o:Obj}(e:(lw h H).get? b=some o):h.get? b=some o/\H b=none:=by
 have e':h.get? b=some o:=PySem.W.of_hideAll (trk h H) e;refine⟨e',?_⟩;cases q:H b with
 |none=>rfl
 |some x=>have hm:b∈trk h H:=mem_filter.mpr ⟨mem_range.mpr (lt_size e'),by simp[q]⟩;have z:(lw h H).get? b=none:=PySem.W.hideAll_none (trk h H) hm;rw[z]at e;cases e
def At(g h:Heap)(L:Addr):List (Addr×Obj):=(range h.objs.size).filterMap fun a=>if a=L \/(g.get? a).isSome=true then none else(h.get? a).map fun o=>(a,o)
def rest(g h:Heap)(L d:Addr):List (Addr×Obj):=(At g h L).filter fun p=>decide (p.1≠d)
end L2
namespace L2
open PySem PySem.Spec PyProof.Rows
structure Mod(K:PySem.W.Frag)(mg:Str->Option Value)(base:Heap):Prop where
 kin:K.In base
 glob:base.Ns mainGlobals mg
 blt:∃mb,base.Ns builtinsNs mb/\∀x:Str,x≠"__name__" -> mb x=bootBuiltins x
 nolimit:base.NoLimit
structure Cx where
 prog:Program
 w:World
 K:PySem.W.Frag
 mg:Str->Option Value
 base:Heap
 A:Around
 N:List Str
 s₀:Shared
 H₀:Hp
 env:Env
 outer:List Env
 stack:List Env
 ex:List Addr
 fn:Str->Bool
 calm:Bool
 pn:List (Addr×Obj)
 xe:Value->Shared->Prop
def frs(l:List Env):List Addr:=l.filterMap (·.frame)
abbrev Cx.fs(X:Cx):List Addr:=frs X.outer
def Vis(sc:Scope)(x:Str):Prop:=sc.names.lookup x=some .local\/sc.names.lookup x=some .cell\/sc.names.lookup x=some .free
def Loc(sc:Scope)(x:Str):Prop:=sc.names.lookup x=some .local\/sc.names.lookup x=some .cell
def Hu(env:Env)(h:Heap)(m:Str->Option Value)(x:Str)(u:Value):Prop:=
 (env.kindOf x=some .local/\m x=some u)\/((env.kindOf x=some .cell\/env.kindOf x=some .free)/\∃c,env.cells.lookup x=some c/\h.IsCell c (some u))
structure Cx.Ok(X:Cx):Prop where
 mod:Mod X.K X.mg X.base
 kind:X.env.scope.kind=.function
 glob:X.env.globals=mainGlobals
 blt:X.env.builtins=builtinsNs
 above:X.s₀.heap.objs.size<=X.env.locals
 inj:∀x y c,X.env.cells.lookup x=some c->X.env.cells.lookup y=some c->x=y
 has:∀x,(X.env.kindOf x=some .cell\/X.env.kindOf x=some .free)->∃c,X.env.cells.lookup x=some c
 cab:∀x c,X.fn x=true->X.env.cells.lookup x=some c->X.s₀.heap.objs.size<=c
 hd:X.calm=true->X.A.handled=none
 frames:X.A.frames=some X.stack
 stk:X.stack=X.outer \/(X.stack=X.env::X.outer/\X.env.frame=some X.env.locals)
 exf:∀b∈X.ex,b≠X.env.locals/\∀x c,X.env.cells.lookup x=some c->c≠b
 bs:∀b o,X.base.get? b=some o->X.s₀.heap.get? b=some o/\X.H₀ b=none
 bsz:X.base.objs.size<=X.s₀.heap.objs.size
 noex:∀b o,X.base.get? b=some o->b∉X.ex
 exfs:∀b∈X.ex,b∉X.fs
 funs:X.s₀.heap.FunFrames X.base X.outer
 frf:∀b∈X.fs,X.H₀ b=none
structure Inv(X:Cx)(js:List (Addr×Obj))(Y:List (Option V))(H:Hp)(s:Shared):Prop where
 ok:X.Ok
 os:s.os=X.s₀.os
 bare:AllBare s.gens
 base:Un X.fs X.ex X.H₀ H X.s₀.heap s.heap
 loc:∃m,s.heap.Ns X.env.locals m/\∀(i:Nat) (x:Str) (v:V),X.N[i]?=some x->Y[i]?=some (some v)->Vis X.env.scope x->∃u,bv v u/\Hu X.env s.heap m x u
 cell:∀x c,X.env.cells.lookup x=some c->∃v,s.heap.IsCell c v
 free:H X.env.locals=none
 freeC:∀x c,X.env.cells.lookup x=some c->H c=none\/X.fn x=false/\∃o u,H c=some (.frz o u)
 pin:∀p∈X.pn++js,s.heap.get? p.1=some p.2/\H p.1=none/\p.1≠X.env.locals/\p.1∉X.fs/\∀v,p.2.data≠.cell v
 hok:HOk X.prog X.w H s.heap
 len:Y.length=X.N.length
section
variable{X:Cx}{js:List (Addr×Obj)}{Y:List (Option V)}{H H':Hp}{s:Shared}{h':Heap}
def Cx.Ok.nofr(ok:X.Ok){b:Addr}{o:Obj}(e:X.base.get? b=some o):b∉X.fs:=fun hb=>by have:=(ok.funs.mem hb).1;rw[e]at this;cases this
def Inv.bs(I:Inv X js Y H s):∀b o,X.base.get? b=some o->s.heap.get? b=some o/\H b=none:=fun b o e=>
 ⟨I.base.keep b o (I.ok.bs b o e).1 (I.ok.bs b o e).2 (I.ok.nofr e) (I.ok.noex b o e),I.base.free b o (I.ok.bs b o e).1 (I.ok.bs b o e).2 (I.ok.noex b o e)⟩
def Inv.bk(I:Inv X js Y H s):∀b o,X.base.get? b=some o->s.heap.get? b=some o:=fun b o e=>(I.bs b o e).1
def Inv.mod(I:Inv X js Y H s):Mod X.K X.mg X.base:=I.ok.mod
def Inv.kIn(I:Inv X js Y H s):X.K.In s.heap:=I.ok.mod.kin.keeps I.bk
def Inv.lt(I:Inv X js Y H s):X.env.locals<s.heap.objs.size:=let⟨_,hn,_⟩:=I.loc;hn.lt
def Inv.sz(I:Inv X js Y H s):X.s₀.heap.objs.size<=s.heap.objs.size:=Nat.le_trans I.ok.above (Nat.le_of_lt I.lt)
def Inv.nofs(I:Inv X js Y H s){a:Addr}(h:s.heap.objs.size<=a):a∉X.fs:=fun hb=>by obtain⟨_,o,ho,_⟩:=I.ok.funs.mem hb;exact absurd (Nat.lt_of_lt_of_le (lt_size ho) (Nat.le_trans I.sz h)) (Nat.lt_irrefl _)
def Inv.cne(I:Inv X js Y H s):∀x c,X.env.cells.lookup x=some c->c≠X.env.locals:=fun x c e z=>by obtain⟨v,o,ho,hd⟩:=I.cell x c e;obtain⟨m,⟨o',es,ep,ho',hd',_⟩,_⟩:=I.loc;rw[z,ho']at ho;cases ho;rw[hd']at hd;cases hd
def Inv.funs(I:Inv X js Y H s):s.heap.FunFrames X.base X.outer:=by
 have all:∀(l:List Env),(∀b∈frs l,b∈X.fs)->X.s₀.heap.FunFrames X.base l->s.heap.FunFrames X.base l:=by
  intro l
  induction l with
  |nil=>intro _ _;trivial
  |cons env r ih=>intro hs hl;obtain⟨hk,⟨L,o,hf,hn,ho,hd⟩,hr⟩:=hl;have hL:L∈X.fs:=hs L (by unfold frs;rw[List.filterMap_cons,hf];exact mem_cons_self);obtain⟨sl,e⟩:=I.base.slot L o ho (I.ok.frf L hL) hL fun z=>I.ok.exfs L z hL;exact⟨hk,⟨L,_,hf,hn,e,hd⟩,ih (fun b hb=>hs b (by unfold frs;rw[List.filterMap_cons,hf];exact mem_cons_of_mem _ hb)) hr⟩
 exact all X.outer (fun _ hb=>hb) I.ok.funs
def Inv.stack(I:Inv X js Y H s):s.heap.FunFrames X.base X.stack:=by
 rcases I.ok.stk with e |⟨e,hf⟩
 ·rw[e];exact I.funs
 ·rw[e];obtain⟨m,hn,_⟩:=I.loc;refine .cons (by rw[I.ok.kind];decide) hf hn ?_ I.funs;exact Heap.get?_none_of_le (Nat.le_trans I.ok.bsz I.ok.above)
def Inv.stkSub(I:Inv X js Y H s):∀b∈frs X.stack,b∈X.env.locals::X.fs:=fun b hb=>by
 rcases I.ok.stk with e |⟨e,hf⟩
 ·rw[e]at hb;exact mem_cons_of_mem _ hb
 ·rw[e]at hb;unfold frs at hb;rw[List.filterMap_cons,hf]at hb;exact hb
def Inv.stkFree(I:Inv X js Y H s):∀b∈frs X.stack,H b=none:=fun b hb=>by
 rcases mem_cons.mp (I.stkSub b hb)with e|hb
 ·rw[e];exact I.free
 ·obtain⟨_,o,ho,_⟩:=I.ok.funs.mem hb;exact I.base.free b o ho (I.ok.frf b hb) fun z=>I.ok.exfs b z hb
def Inv.step{g':Array GenState}{t':Nat}{d':Drawn}{ch:List Addr}(I:Inv X js Y H s)
  (hch:∀b∈ch,(b∈X.ex\/X.s₀.heap.objs.size<=b)/\b≠X.env.locals/\(∀x c,X.env.cells.lookup x=some c->c≠b)/\∀p∈X.pn++js,p.1≠b)
  (keep:∀b o,b≠X.env.locals->b∉X.fs->b∉ch->s.heap.get? b=some o->H b=none->h'.get? b=some o)
  (slot:∀b o,b≠X.env.locals->b∈X.fs->b∉ch->s.heap.get? b=some o->H b=none->∃sl,h'.get? b=some {o with slots:=sl}) (free:∀b o,b∉ch->s.heap.get? b=some o->H b=none->H' b=none)
  (there:∀b o,b∉ch->s.heap.get? b=some o->∃o',h'.get? b=some o')
  (tups:∀b xs,H b=some (.tup xs)->H' b=some (.tup xs)) (frzs:∀b o u,H b=some (.frz o u)->H' b=some (.frz o u)) (tbls:∀b ps,H b=some (.tbl ps)->∃more,H' b=some (.tbl (ps++more)))
  (ns:∀m,s.heap.Ns X.env.locals m->h'.Ns X.env.locals m) (hok:HOk X.prog X.w H' h') (hg:AllBare g') :
  Inv X js Y H' {s with heap:=h',gens:=g',drawn:=d',toks:=t'}:=by
 have neL:∀b o,X.s₀.heap.get? b=some o->b≠X.env.locals:=fun b o e=>Nat.ne_of_lt (Nat.lt_of_lt_of_le (lt_size e) I.ok.above);have neC:∀b o,X.s₀.heap.get? b=some o->b∉X.ex->b∉ch:=fun b o e hx hb=>by
  rcases(hch b hb).1 with z|z
  ·exact hx z
  ·exact absurd (Nat.lt_of_lt_of_le (lt_size e) z) (Nat.lt_irrefl _)
 have cellK:∀x c,X.env.cells.lookup x=some c->∀v,s.heap.IsCell c v->h'.IsCell c v:=fun x c e v hz1=>by
  obtain⟨o,ho,hd⟩:=hz1;have nch:c∉ch:=fun z=>(hch c z).2.2.1 x c e rfl;rcases I.freeC x c e with n |⟨_,o',u,q⟩
  ·by_cases hc:c∈X.fs
   ·obtain⟨sl,q⟩:=slot c o (I.cne x c e) hc nch ho n;exact⟨_,q,hd⟩
   ·exact⟨o,keep c o (I.cne x c e) hc nch ho n,hd⟩
  ·obtain⟨q1,_⟩:=I.hok c _ q;obtain⟨q2,_⟩:=hok c _ (frzs c o' u q);rw[ho]at q1;cases q1;exact⟨o,q2,hd⟩
 refine⟨I.ok,I.os,hg,⟨fun b o e n hb hx=>?_,fun b o e n hb hx=>?_,fun b o e n hx=>?_,fun b o e hx=>?_,fun b xs e=>tups b xs (I.base.tups b xs e),fun b o xs e=>frzs b o xs (I.base.frzs b o xs e),fun b ps e=>?_⟩,?_,fun x c e=>?_,?_,fun x c e=>?_,fun p hp=>?_,hok,I.len⟩
 ·exact keep b o (neL b o e) hb (neC b o e hx) (I.base.keep b o e n hb hx) (I.base.free b o e n hx)
 ·obtain⟨sl,e1⟩:=I.base.slot b o e n hb hx;obtain⟨sl',e2⟩:=slot b _ (neL b o e) hb (neC b o e hx) e1 (I.base.free b o e n hx);exact⟨sl',e2⟩
 ·obtain⟨o',e1⟩:=I.base.there b o e hx;exact free b o' (neC b o e hx) e1 (I.base.free b o e n hx)
 ·obtain⟨o',e1⟩:=I.base.there b o e hx;exact there b o' (neC b o e hx) e1
 ·obtain⟨m1,e1⟩:=I.base.tbls b ps e;obtain⟨m2,e2⟩:=tbls b _ e1;exact⟨m1++m2,by rw[e2,Array.append_assoc]⟩
 ·obtain⟨m,hn,hl⟩:=I.loc;refine⟨m,ns m hn,fun i x v e1 e2 e3=>?_⟩;obtain⟨u,r,l⟩:=hl i x v e1 e2 e3;refine⟨u,r,?_⟩;rcases l with l |⟨k,c,e,z⟩
  ·exact .inl l
  ·exact .inr ⟨k,c,e,cellK x c e _ z⟩
 ·obtain⟨v,z⟩:=I.cell x c e;exact⟨v,cellK x c e v z⟩
 ·obtain⟨m,⟨o,_,_,ho,_⟩,_⟩:=I.loc;exact free _ o (fun z=>(hch _ z).2.1 rfl) ho I.free
 ·obtain⟨v,o,ho,hd⟩:=I.cell x c e;rcases I.freeC x c e with n |⟨n,o',u,q⟩
  ·exact .inl (free c o (fun z=>(hch c z).2.2.1 x c e rfl) ho n)
  ·exact .inr ⟨n,o',u,frzs c o' u q⟩
 ·obtain⟨e,n,ne,nf,d⟩:=I.pin p hp;have nch:p.1∉ch:=fun z=>(hch p.1 z).2.2.2 p hp rfl;exact⟨keep p.1 p.2 ne nf nch e n,free p.1 p.2 nch e n,ne,nf,d⟩
def Inv.un{t':Nat}(I:Inv X js Y H s)(u:Un X.fs [] H H' s.heap h')(hok:HOk X.prog X.w H' h'):Inv X js Y H' {s with heap:=h',toks:=t'}:=by
 obtain⟨m,⟨o,es,ep,ho,r⟩,_⟩:=id I.loc;obtain⟨sl,hL⟩:=u.any ho I.free (by simp);exact I.step (g':=s.gens) (d':=s.drawn) (ch:=[]) (fun _ z=>nomatch z) (fun b o _ hb _ e n=>u.keep b o e n hb (by simp)) (fun b o _ hb _ e n=>u.slot b o e n hb (by simp)) (fun b o _ e n=>u.free b o e n (by simp)) (fun b o _ e=>u.there b o e (by simp)) u.tups u.frzs u.tbls (fun m' hm=>by
  obtain⟨o',es',ep',ho',r'⟩:=hm;rw[ho]at ho';cases ho';exact⟨_,es',ep',hL,r'⟩) hok I.bare
def Inv.call{g':Array GenState}{t':Nat}{d':Drawn}{ch:List Addr}(I:Inv X js Y H s)(u:Un (frs X.stack) ch H H' s.heap h')(hok:HOk X.prog X.w H' h')(hg:AllBare g')
  (hch:∀b∈ch,(b∈X.ex\/X.s₀.heap.objs.size<=b)/\b≠X.env.locals/\(∀x c,X.env.cells.lookup x=some c->c≠b)/\∀p∈X.pn++js,p.1≠b) :
  Inv X js Y H' {s with heap:=h',gens:=g',drawn:=d',toks:=t'}:=by
 obtain⟨m,⟨o,es,ep,ho,r⟩,_⟩:=id I.loc;obtain⟨sl,hL⟩:=u.any ho I.free fun z=>(hch _ z).2.1 rfl;exact I.step (ch:=ch) hch (fun b o hL hb hc e n=>u.keep b o e n (fun z=>(mem_cons.mp (I.stkSub b z)).elim hL hb) hc) (fun b o _ _ hc e n=>u.any e n hc) (fun b o hc e n=>u.free b o e n hc) (fun b o hc e=>u.there b o e hc) u.tups u.frzs u.tbls (fun m' hm=>by
  obtain⟨o',es',ep',ho',r'⟩:=hm;rw[ho]at ho';cases ho';exact⟨_,es',ep',hL,r'⟩) hok hg
def Inv.turned{t':Nat}{it:Addr}(I:Inv X js Y H s)(k:∀b o,b≠it->s.heap.get? b=some o->h'.get? b=some o)(hn:H it=none)(hL:it≠X.env.locals)
  (h1:it∈X.ex\/X.s₀.heap.objs.size<=it) (h2:∀x c,X.env.cells.lookup x=some c->c≠it) (h3:∀p∈X.pn++js,p.1≠it):Inv X js Y H {s with heap:=h',toks:=t'}:=by
 have nit:∀b u,H b=some u->b≠it:=fun b u e z=>by rw[z,hn]at e;cases e
 refine I.step (g':=s.gens) (d':=s.drawn) (ch:=[it]) (fun b hb=>?_) (fun b o _ _ hc e _=>k b o (fun z=>hc (by simp[z])) e) (fun b o _ _ hc e _=>⟨o.slots,k b o (fun z=>hc (by simp[z])) e⟩) (fun _ _ _ _ n=>n)
  (fun b o hc e=>⟨o,k b o (fun z=>hc (by simp[z])) e⟩) (fun _ _ e=>e) (fun _ _ _ e=>e) (fun b ps e=>⟨#[],by rw[e];simp⟩) (fun m hm=>?_) (fun b u e=>?_) I.bare
 ·have e:b=it:=by simpa using hb
  subst e;exact⟨h1,hL,h2,h3⟩
 ·obtain⟨o,es,ep,ho,r⟩:=hm;exact⟨o,es,ep,k _ o (Ne.symm hL) ho,r⟩
 ·refine(I.hok b u e).stay (fun c v hc q=>k c v ?_ q) (fun _ q=>q) fun _ _ _ q=>q;rcases hc with z|z
  ·rw[z];exact nit b u e
  ·exact nit c _ z
def Inv.tok(I:Inv X js Y H s)(t:Nat):Inv X js Y H {s with toks:=t}:=I.un (h':=s.heap) (t':=t) Un.refl I.hok
def Inv.kept{t':Nat}(I:Inv X js Y H s)(k:∀b u,s.heap.get? b=some u->h'.get? b=some u):Inv X js Y H {s with heap:=h',toks:=t'}:=I.un (Un.kept k) (I.hok.kept k)
def Inv.laid{a:Addr}{o:HO}{t':Nat}(I:Inv X js Y H s)(k:∀b u,s.heap.get? b=some u->h'.get? b=some u)(hp:s.heap.objs.size<=a)(new:bW X.prog X.w (upd H a o) h' a o) :
  Inv X js Y (upd H a o) {s with heap:=h',toks:=t'}:=I.un (Un.laid k hp (I.hok.fresh hp)) (I.hok.laid k hp new)
def Inv.write{x e:Addr}{o:HO}{t':Nat}(I:Inv X js Y H s)(mu:Mut (H x))(he:e=x\/H e=some (.own x))(k:∀b u,b≠e->s.heap.get? b=some u->h'.get? b=some u)(heo:∃u,h'.get? e=some u)
  (new:bW X.prog X.w (upd H x o) h' x o):Inv X js Y (upd H x o) {s with heap:=h',toks:=t'}:=I.un (Un.write mu he k heo) (I.hok.write mu he k heo new)
def Inv.pins_of{pins':List (Addr×Obj)}(I:Inv X js Y H s)(h:∀p∈pins',s.heap.get? p.1=some p.2/\H p.1=none/\p.1≠X.env.locals/\p.1∉X.fs/\∀v,p.2.data≠.cell v):Inv X pins' Y H s:=
 ⟨I.ok,I.os,I.bare,I.base,I.loc,I.cell,I.free,I.freeC,fun p hp=>(mem_append.mp hp).elim (fun z=>I.pin p (mem_append_left _ z)) (h p),I.hok,I.len⟩
def o5{N:List Str}(hN:N.Nodup){i j:Nat}{x:Str}(a:N[i]?=some x)(b:N[j]?=some x):i=j:=by obtain⟨h1,e1⟩:=List.getElem?_eq_some_iff.mp a;obtain⟨h2,e2⟩:=List.getElem?_eq_some_iff.mp b;exact(getElem_inj hN).mp (e1.trans e2.symm)
def l9{M:Model}{A:Around}{E:Value->Shared->Prop}{i:Nat}{x:Str}{v:V}{u:Value}{Q:Unit->Shared->Prop}(I:Inv X js Y H s)(hN:X.N.Nodup)(hi:X.N[i]?=some x)(hx:Loc X.env.scope x)(r:bv v u)
  (h:∀s',Inv X js (Y.set i (some v)) H s'->(∃a,SameBut a s.heap s'.heap/\(a=X.env.locals\/X.env.cells.lookup x=some a))->Q () s') (hf:X.fn x=true\/X.env.scope.names.lookup x=some .local:=by first|exact .inl rfl|exact .inr rfl|assumption):wpAny M A (storeName X.env x u) Q E s:=by
 obtain⟨m,hn,hl⟩:=id I.loc;have hcls:(X.env.scope.kind==.class ||(X.env.scope.kind==.module&&X.env.locals != X.env.globals))=false:=by rw[I.ok.kind];rfl
 have hiσ:i<Y.length:=by rw[I.len];exact(List.getElem?_eq_some_iff.mp hi).1
 have cne:=I.cne;have tracked:∀{a:Addr}{h':Heap},(∃o,s.heap.get? a=some o/\H a=none)->SameBut a s.heap h'->HOk X.prog X.w H h':=fun {a h'} ha hs b ob e=>by
  obtain⟨_,_,hfree⟩:=ha;refine(I.hok b ob e).stay (fun c w' hc q=>(hs.2 c ?_).trans q) (fun _ q=>q) fun _ _ _ q=>q;rintro rfl;rcases hc with rfl|hc
  ·rw[hfree]at e;cases e
  ·rw[hfree]at hc;cases hc
 rcases hx with hk|hk
 ·refine wpAny_storeName_local hk hn (fun h' hn' hs=>?_) hcls;obtain⟨oL,_,_,hoL,_⟩:=id hn;refine h _ ⟨I.ok,I.os,I.bare,⟨fun b o e n hb hx=>?_,fun b o e n hb hx=>?_,I.base.free,fun b o e hx=>?_,I.base.tups,I.base.frzs,I.base.tbls⟩,⟨_,hn',fun j y v' e1 e2 e3=>?_⟩,fun y c e=>?_,I.free,I.freeC,fun p hp=>?_,tracked ⟨oL,hoL,I.free⟩ hs,by simpa using I.len⟩ ⟨_,hs,.inl rfl⟩
  ·exact(hs.2 b (Nat.ne_of_lt (Nat.lt_of_lt_of_le (lt_size e) I.ok.above))).trans (I.base.keep b o e n hb hx)
  ·obtain⟨sl,e1⟩:=I.base.slot b o e n hb hx;exact⟨sl,(hs.2 b (Nat.ne_of_lt (Nat.lt_of_lt_of_le (lt_size e) I.ok.above))).trans e1⟩
  ·obtain⟨o',e1⟩:=I.base.there b o e hx;exact⟨o',(hs.2 b (Nat.ne_of_lt (Nat.lt_of_lt_of_le (lt_size e) I.ok.above))).trans e1⟩
  ·by_cases hj:j=i
   ·subst hj;rw[hi]at e1;cases e1;rw[getElem?_set_self hiσ]at e2;cases e2;exact⟨u,r,.inl ⟨hk,by simp⟩⟩
   ·rw[getElem?_set_ne (Ne.symm hj)]at e2;obtain⟨u',r',q⟩:=hl j y v' e1 e2 e3;refine⟨u',r',?_⟩;rcases q with⟨k,e⟩ |⟨k,c,e,z⟩
    ·refine .inl ⟨k,?_⟩;have:y≠x:=fun e=>hj (o5 hN e1 (e▸hi));simp[this,e]
    ·exact .inr ⟨k,c,e,z.sameBut hs (cne y c e)⟩
  ·obtain⟨w',z⟩:=I.cell y c e;exact⟨w',z.sameBut hs (cne y c e)⟩
  ·obtain⟨e,n,ne,nf,d⟩:=I.pin p hp;exact⟨(hs.2 p.1 ne).trans e,n,ne,nf,d⟩
 ·have hfn:X.fn x=true:=by
   rcases hf with z|z
   ·exact z
   ·rw[z]at hk;cases hk
  obtain⟨c,hc⟩:=I.ok.has x (.inl hk);obtain⟨w',z⟩:=I.cell x c hc;refine wpAny_storeName_cell I.ok.kind hk hc z (fun h' hc' hs=>?_);obtain⟨oc,hoc,hocd⟩:=id z;refine h {s with heap:=h'} ⟨I.ok,I.os,I.bare,⟨fun b o e n hb hx=>?_,fun b o e n hb hx=>?_,I.base.free,fun b o e hx=>?_,I.base.tups,I.base.frzs,I.base.tbls⟩,⟨m,hn.sameBut hs (Ne.symm (cne x c hc)),fun j y v' e1 e2 e3=>?_⟩,fun y c' e=>?_,I.free,I.freeC,fun p hp=>?_,tracked ⟨oc,hoc,(I.freeC x c hc).resolve_right fun q=>by rw[hfn]at q;cases q.1⟩ hs,by simpa using I.len⟩ ⟨c,hs,.inr hc⟩
  ·exact(hs.2 b (Nat.ne_of_lt (Nat.lt_of_lt_of_le (lt_size e) (I.ok.cab x c hfn hc)))).trans (I.base.keep b o e n hb hx)
  ·obtain⟨sl,e1⟩:=I.base.slot b o e n hb hx;exact⟨sl,(hs.2 b (Nat.ne_of_lt (Nat.lt_of_lt_of_le (lt_size e) (I.ok.cab x c hfn hc)))).trans e1⟩
  ·obtain⟨o',e1⟩:=I.base.there b o e hx;exact⟨o',(hs.2 b (Nat.ne_of_lt (Nat.lt_of_lt_of_le (lt_size e) (I.ok.cab x c hfn hc)))).trans e1⟩
  ·by_cases hj:j=i
   ·subst hj;rw[hi]at e1;cases e1;rw[getElem?_set_self hiσ]at e2;cases e2;exact⟨u,r,.inr ⟨.inl hk,c,hc,hc'⟩⟩
   ·rw[getElem?_set_ne (Ne.symm hj)]at e2;obtain⟨u',r',q⟩:=hl j y v' e1 e2 e3;refine⟨u',r',?_⟩;rcases q with q |⟨k,c',e,z'⟩
    ·exact .inl q
    ·refine .inr ⟨k,c',e,z'.sameBut hs ?_⟩;rintro rfl;exact hj (o5 hN e1 (I.ok.inj _ _ _ e hc▸hi))
  ·by_cases hcc:c'=c
   ·subst hcc;exact⟨_,hc'⟩
   ·obtain⟨w2,z2⟩:=I.cell y c' e;exact⟨w2,z2.sameBut hs hcc⟩
  ·obtain⟨e,n,ne,nf,d⟩:=I.pin p hp;refine⟨(hs.2 p.1 ?_).trans e,n,ne,nf,d⟩;intro q;rw[q,hoc]at e;have q':oc=p.2:=Option.some.inj e;exact d w' (by rw[<- q'];exact hocd)
def kH{M:Model}{A:Around}{E:Value->Shared->Prop}{i:Nat}{x:Str}{v:V}{u:Value}{Q:Unit->Shared->Prop}(I:Inv X js Y H s)(hN:X.N.Nodup)(hi:X.N[i]?=some x)(hx:Loc X.env.scope x)(r:bv v u)
  (h:∀s',Inv X js (Y.set i (some v)) H s'->Q () s') (hf:X.fn x=true\/X.env.scope.names.lookup x=some .local:=by first|exact .inl rfl|exact .inr rfl|assumption):wpAny M A (storeName X.env x u) Q E s:=
 l9 I hN hi hx r (fun s' I' _=>h s' I') hf
def Inv.call'{s':Shared}{ch:List Addr}(I:Inv X js Y H s)(ho:s'.os=s.os)(u:Un (frs X.stack) ch H H' s.heap s'.heap)(hok:HOk X.prog X.w H' s'.heap)(hg:AllBare s'.gens)
  (hch:∀b∈ch,(b∈X.ex\/X.s₀.heap.objs.size<=b)/\b≠X.env.locals/\(∀x c,X.env.cells.lookup x=some c->c≠b)/\∀p∈X.pn++js,p.1≠b):Inv X js Y H' s':=by
 obtain⟨h',g',d',t',o'⟩:=s';have e:o'=s.os:=ho;subst e;exact I.call (g':=g') (t':=t') (d':=d') u hok hg hch
end
abbrev XK:=Value->Option Addr->Hp->Prop
abbrev St:=List (Option V)
abbrev VK:=V->Hp->Prop
abbrev TE:=St->Hp->VK->Prop
abbrev TT:=St->Hp->(Bool->Hp->Prop)->Prop
abbrev TA:=St->Hp->(List V->Hp->Prop)->Prop
structure Ends where
 nx:St->Hp->Prop
 rt:VK
 bk:St->Hp->Prop:=fun _ _=>False
 ct:St->Hp->Prop:=fun _ _=>False
abbrev TS:=Ends->St->Hp->Prop
def EP(X:Cx)(js:List (Addr×Obj))(Y:St)(Q:VK)(u:Value)(s':Shared):Prop:=∃v H',Inv X js Y H' s'/\bv v u/\Q v H'
def TP(X:Cx)(js:List (Addr×Obj))(Y:St)(Q:Bool->Hp->Prop)(b:Bool)(s':Shared):Prop:=∃H',Inv X js Y H' s'/\Q b H'
def AP(X:Cx)(js:List (Addr×Obj))(Y:St)(Q:List V->Hp->Prop)(us:List Value)(s':Shared):Prop:=∃vs H',Inv X js Y H' s'/\aP vs us/\Q vs H'
def SP(X:Cx)(js:List (Addr×Obj))(D:Ends)(f:Flow)(s':Shared):Prop:=
 match f with
 |.next=>∃σ' H',Inv X js σ' H' s'/\D.nx σ' H'
 |.brk=>∃σ' H',Inv X js σ' H' s'/\D.bk σ' H'
 |.cont=>∃σ' H',Inv X js σ' H' s'/\D.ct σ' H'
 |.ret u=>∃v σ' H',Inv X js σ' H' s'/\bv v u/\D.rt v H'
def PE(X:Cx)(e:Expr)(t:TE):Prop:=
 ∀(js:List (Addr×Obj)) (s:Shared) (Y:St) (H:Hp) (Q:VK),Inv X js Y H s->t Y H Q->wpAny (model X.prog X.w) X.A (eval e X.env) (EP X js Y Q) X.xe s
def PT(X:Cx)(e:Expr)(t:TT):Prop:=
 ∀(js:List (Addr×Obj)) (s:Shared) (Y:St) (H:Hp) (Q:Bool->Hp->Prop),Inv X js Y H s->t Y H Q->wpAny (model X.prog X.w) X.A (isTrue e X.env (eval e X.env)) (TP X js Y Q) X.xe s
def PW(X:Cx)(e:Expr)(t:TT):Prop:=
 ∀(whole:Sem Value) (js:List (Addr×Obj)) (s:Shared) (Y:St) (H:Hp) (Q:Bool->Hp->Prop),Inv X js Y H s->t Y H Q->wpAny (model X.prog X.w) X.A (isTrue e X.env whole) (TP X js Y Q) X.xe s
def PW.pt{X:Cx}{e:Expr}{t:TT}(h:PW X e t):PT X e t:=h _
def PA(X:Cx)(es:List Expr)(t:TA):Prop:=
 ∀(pos:Pos) (js:List (Addr×Obj)) (s:Shared) (Y:St) (H:Hp) (Q:List V->Hp->Prop),Inv X js Y H s->t Y H Q->wpAny (model X.prog X.w) X.A (spliced (backTo pos (starEach es X.env))) (AP X js Y Q) X.xe s
def PS(X:Cx)(st:Stmt)(t:TS):Prop:=
 ∀(js:List (Addr×Obj)) (s:Shared) (Y:St) (H:Hp) (D:Ends),Inv X js Y H s->t D Y H->wpAny (model X.prog X.w) X.A (exec st X.env) (SP X js D) X.xe s
def PSs(X:Cx)(st:List Stmt)(t:TS):Prop:=
 ∀(js:List (Addr×Obj)) (s:Shared) (Y:St) (H:Hp) (D:Ends),Inv X js Y H s->t D Y H->wpAny (model X.prog X.w) X.A (execs st X.env) (SP X js D) X.xe s
def thn{α:Type}{t:Sem α}{Q Q':α->Shared->Prop}{M:Model}{A:Around}{E:Value->Shared->Prop}{s:Shared}(h:wpAny M A t Q E s)(hQ:∀a s,Q a s->Q' a s):wpAny M A t Q' E s:=wpAny_mono h hQ fun _ _ x=>x
end L2
namespace L2
open PySem PySem.Spec PyProof.Rows
section
variable{X:Cx}
def u0(i:Nat):TE:=fun Y H Q=>∃v,Y[i]?=some (some v)/\Q v H
def tC(v:V):TE:=fun _ H Q=>Q v H
def dG{i:Nat}{x:Str}{pos:Pos}(hN:X.N[i]?=some x)(hv:Vis X.env.scope x)(hd:(x ==("__debug__":Str))=false:=by decide)(hcd:(x ==("__classdict__":Str))=false:=by decide):PE X (.Name x pos) (u0 i):=by
 intro js s Y H Q I h;obtain⟨v,e,h⟩:=h;obtain⟨m,hn,hl⟩:=I.loc;obtain⟨u,r,l⟩:=hl i x v hN e hv;have fin:EP X js Y Q u s:=⟨v,H,I,r,h⟩
 rcases l with⟨hk,hm⟩ |⟨hk,c,hc,hcell⟩
 ·exact wpAny_Name (wpAny_loadName_local I.ok.kind hk hn hm fin) hd
 ·rcases hk with hk|hk
  ·exact wpAny_Name (wpAny_loadName_cell I.ok.kind hk hc hcell fin) hd
  ·exact wpAny_Name (wpAny_loadName_free I.ok.kind hk hc hcell fin hcd) hd
def vQ{i j pos}:PE X (.Constant (.int i) j pos) (tC (.int i)):=fun _ _ _ H _ I h=>wpAny_Constant_int ⟨.int i,H,I.tok _,⟨_,rfl⟩,h⟩
def EQ{b j pos}:PE X (.Constant (.bool b) j pos) (tC (.bl b)):=fun _ _ _ H _ I h=>Constant_bool ⟨.bl b,H,I,rfl,h⟩
def vP{j pos}:PE X (.Constant .none j pos) (tC .non):=fun _ _ _ H _ I h=>Constant_none ⟨.non,H,I,rfl,h⟩
def gb{x j pos}:PE X (.Constant (.str x) j pos) (tC (.str x)):=fun _ _ _ H _ I h=>Calls.Constant_str ⟨.str x,H,I.tok _,⟨_,rfl⟩,h⟩
def Gl(X:Cx)(x:Str):Prop:=X.env.kindOf x=some .globalImplicit
def jr{E:Value->Shared->Prop}{js:List (Addr×Obj)}{s:Shared}{Y:St}{H:Hp}{x:Str}{u:Value}{pos:Pos}{Q:Value->Shared->Prop}(I:Inv X js Y H s)(hg:Gl X x)(hm:X.mg x=some u)(h:Q u s)
  (hd:(x ==("__debug__":Str))=false:=by decide):wpAny (model X.prog X.w) X.A (eval (.Name x pos) X.env) Q E s:=
 Calls.Name_function_global I.ok.kind hg (Calls.loadGlobal_global (by rw[I.ok.glob];exact I.mod.glob.keeps I.bk) hm h) hd
def fE{E:Value->Shared->Prop}{js:List (Addr×Obj)}{s:Shared}{Y:St}{H:Hp}{x:Str}{u:Value}{pos:Pos}{Q:Value->Shared->Prop}(I:Inv X js Y H s)(hg:Gl X x)(hm:X.mg x=none)(hv:bootBuiltins x=some u)(h:Q u s)
  (hn:x≠"__name__":=by decide) (hd:(x ==("__debug__":Str))=false:=by decide):wpAny (model X.prog X.w) X.A (eval (.Name x pos) X.env) Q E s:=by
 obtain⟨mb,h1,h2⟩:=I.mod.blt;exact Calls.Name_function_global I.ok.kind hg (Calls.loadGlobal_builtin (by rw[I.ok.glob];exact I.mod.glob.keeps I.bk) hm (by rw[I.ok.blt];exact h1.keeps I.bk) ((h2 x hn).trans hv) h) hd
def zk{x:Str}{v:V}{u:Value}{pos:Pos}(hg:Gl X x)(hm:X.mg x=some u)(r:bv v u)(hd:(x ==("__debug__":Str))=false:=by decide):PE X (.Name x pos) (tC v):=
 fun _ _ _ H _ I h=>jr I hg hm ⟨v,H,I,r,h⟩ hd
def zn{x:Str}{v:V}{u:Value}{pos:Pos}(hg:Gl X x)(hm:X.mg x=none)(hv:bootBuiltins x=some u)(r:bv v u)(hn:x≠"__name__":=by decide)(hd:(x ==("__debug__":Str))=false:=by decide):PE X (.Name x pos) (tC v):=
 fun _ _ _ H _ I h=>fE I hg hm hv ⟨v,H,I,r,h⟩ hn hd
variable{a b:Expr}{ta tb:TE}{pos:Pos}
variable{tA tB':TT}{rest:List Expr}
def GZ(t u:TT):TT:=fun Y H Q=>t Y H fun c H1=>if c=true then u Y H1 Q else Q false H1
def tOr(t u:TT):TT:=fun Y H Q=>t Y H fun c H1=>if c=true then Q true H1 else u Y H1 Q
def GV(t:TT):TT:=fun Y H Q=>t Y H fun c H1=>Q (!c) H1
def y8(ha:PT X a tA):PW X (.BoolOp .And [a] pos) tA:=by
 intro wh js s Y H Q I h;refine isTrue_and (thn (ha js s Y H Q I h) fun c s1 e=>?_);cases c with
 |true=>exact isTrue_and_nil e
 |false=>exact e
def Bx(ha:PT X a tA):PW X (.BoolOp .Or [a] pos) tA:=by
 intro wh js s Y H Q I h;refine isTrue_or (thn (ha js s Y H Q I h) fun c s1 e=>?_);cases c with
 |false=>exact isTrue_or_nil e
 |true=>exact e
def By(ha:PT X a tA)(hb:PW X (.BoolOp .And (b::rest) pos) tB'):PW X (.BoolOp .And (a::b::rest) pos) (GZ tA tB'):=by
 intro wh js s Y H Q I h;refine isTrue_and (thn (ha js s Y H _ I h) fun c s1 ⟨H1,I1,q1⟩=>?_);cases c with
 |true=>exact hb wh js s1 Y H1 Q I1 q1
 |false=>exact⟨H1,I1,q1⟩
def EI(ha:PT X a tA)(hb:PW X (.BoolOp .Or (b::rest) pos) tB'):PW X (.BoolOp .Or (a::b::rest) pos) (tOr tA tB'):=by
 intro wh js s Y H Q I h;refine isTrue_or (thn (ha js s Y H _ I h) fun c s1 ⟨H1,I1,q1⟩=>?_);cases c with
 |true=>exact⟨H1,I1,q1⟩
 |false=>exact hb wh js s1 Y H1 Q I1 q1
def Bz(ha:PT X a tA):PT X (.UnaryOp .Not a pos) (GV tA):=by intro js s Y H Q I h;exact isTrue_not (ha js s Y H (fun c H1=>Q (!c) H1) I h)
def Ex(ta tb:TE):TE:=fun Y H Q=>ta Y H fun x H1=>∃c,x=.bl c/\if c=true then tb Y H1 Q else Q (.bl false) H1
def GU(ta tb:TE):TE:=fun Y H Q=>ta Y H fun x H1=>∃c,x=.bl c/\if c=true then Q (.bl true) H1 else tb Y H1 Q
def BH{op}{t:TE}(h:PE X a t):PE X (.BoolOp op [a] pos) t:=fun js s Y H Q I hw=>BoolOp_one (h js s Y H Q I hw)
def BK(ha:PE X a ta)(hb:PE X (.BoolOp .And (b::rest) pos) tb):PE X (.BoolOp .And (a::b::rest) pos) (Ex ta tb):=by
 intro js s Y H Q I h;refine BoolOp_and (thn (ha js s Y H _ I h) fun v s1 zz=>?_);obtain⟨x,H1,I1,r1,q1⟩:=zz;obtain⟨c,rfl,q1⟩:=q1;cases r1;refine wpAny_truthy_bool ?_;cases c with
 |true=>exact hb js s1 Y H1 Q I1 q1
 |false=>exact⟨.bl false,H1,I1,rfl,q1⟩
def EM(ha:PE X a ta)(hb:PE X (.BoolOp .Or (b::rest) pos) tb):PE X (.BoolOp .Or (a::b::rest) pos) (GU ta tb):=by
 intro js s Y H Q I h;refine BoolOp_or (thn (ha js s Y H _ I h) fun v s1 zz=>?_);obtain⟨x,H1,I1,r1,q1⟩:=zz;obtain⟨c,rfl,q1⟩:=q1;cases r1;refine wpAny_truthy_bool ?_;cases c with
 |false=>exact hb js s1 Y H1 Q I1 q1
 |true=>exact⟨.bl true,H1,I1,rfl,q1⟩
def tIf(t:TT)(ta tb:TE):TE:=fun Y H Q=>t Y H fun c H1=>if c=true then ta Y H1 Q else tb Y H1 Q
def vR{c:Expr}(hc:PT X c tA)(ha:PE X a ta)(hb:PE X b tb):PE X (.IfExp c a b pos) (tIf tA ta tb):=by
 intro js s Y H Q I h;refine wpAny_IfExp (thn (hc js s Y H _ I h) fun d s1 ⟨H1,I1,q1⟩=>?_);cases d with
 |true=>exact ha js s1 Y H1 Q I1 q1
 |false=>exact hb js s1 Y H1 Q I1 q1
end
end L2
namespace L2
open PySem PySem.Spec PyProof.Rows
def SqL(K:PySem.W.Frag)(H:Hp)(a:Addr)(xs:List V):Prop:=
 Rd H a (.lst xs)\/
  ∃(o:Obj) (its:Array Value) (n:Nat),K.lookup a=some o/\o.cls=.type "list" /\ o.dict=none/\o.data=.seq its n/\its.size<=sizeLine/\aP xs its.toList
def SqT(K:PySem.W.Frag)(H:Hp)(a:Addr)(xs:List V):Prop:=
 Rd H a (.tup xs)\/
  ∃(o:Obj) (its:Array Value) (n:Nat),K.lookup a=some o/\o.cls=.type "tuple" /\ o.data=.seq its n/\its.size<=sizeLine/\aP xs its.toList
def F8:Value->Option V
 |.none=>some .non
 |.bool b=>some (.bl b)
 |.int i _=>some (.int i)
 |.str x _=>some (.str x)
 |.bytes b _=>some (.byt b)
 |.float b _=>some (.flt b)
 |.ref a=>some (.ref a)
 |.type n=>some (.ty n)
 |_=>none
def bv.abs{x:V}{u:Value}(r:bv x u):F8 u=some x:=by
 cases x with
 |non|bl _=>cases r;rfl
 |int _|str _|byt _|flt _=>obtain⟨t,rfl⟩:=r;rfl
 |ref _|ty _=>cases r;rfl
def bv.inj{x y:V}{u:Value}(r:bv x u)(q:bv y u):x=y:=Option.some.inj (r.abs.symm.trans q.abs)
def aP.inj:∀{xs ys:List V}{us:List Value},aP xs us->aP ys us->xs=ys
 |_,_,_,.nil,.nil=>rfl
 |_,_,_,.cons r t,.cons r' t'=>by rw[r.inj r',aP.inj t t']
section
variable{X:Cx}{js:List (Addr×Obj)}{Y:St}{H:Hp}{s:Shared}{a:Addr}{xs ys:List V}
def SqL.of{K:PySem.W.Frag}(h:H a=some (.lst xs)):SqL K H a xs:=.inl (.inl h)
def SqT.of{K:PySem.W.Frag}(h:H a=some (.tup xs)):SqT K H a xs:=.inl (.inl h)
def Inv.list(I:Inv X js Y H s)(h:SqL X.K H a xs):∃its:List Value,aP xs its/\PlainL s.heap a its.toArray/\xs.length<=sizeLine:=by
 rcases h with h |⟨o,its,n,hk,hc,hd,hs,hz,r⟩
 ·obtain⟨z,its,n,r,e⟩:=h.ok I.hok;exact⟨its,r,⟨_,n,e,rfl,rfl,rfl⟩,z⟩
 ·refine⟨its.toList,r,⟨o,n,I.kIn a o hk,hc,hd,by simpa using hs⟩,?_⟩;have e:=r.length;simp only[Array.length_toList]at e;omega
def Inv.tuple(I:Inv X js Y H s)(h:SqT X.K H a xs):∃its:List Value,aP xs its/\IsTup s.heap a its.toArray/\xs.length<=sizeLine:=by
 rcases h with h |⟨o,its,n,hk,hc,hs,hz,r⟩
 ·obtain⟨z,its,r,p⟩:=h.ok I.hok;exact⟨its,r,p,z⟩
 ·refine⟨its.toList,r,⟨o,I.kIn a o hk,hc,n,by simpa using hs⟩,?_⟩;have e:=r.length;simp only[Array.length_toList]at e;omega
def Inv.list_inj(I:Inv X js Y H s)(h:SqL X.K H a xs)(h':SqL X.K H a ys):xs=ys:=by
 obtain⟨its,r,⟨o,n,e,_,_,d⟩,_⟩:=I.list h;obtain⟨its',r',⟨o',n',e',_,_,d'⟩,_⟩:=I.list h';rw[e]at e';cases e';rw[d]at d';injection d' with d1 _;have:its=its':=by simpa using congrArg Array.toList d1
 subst this;exact r.inj r'
def Inv.tuple_inj(I:Inv X js Y H s)(h:SqT X.K H a xs)(h':SqT X.K H a ys):xs=ys:=by
 obtain⟨its,r,⟨o,e,_,n,d⟩,_⟩:=I.tuple h;obtain⟨its',r',⟨o',e',_,n',d'⟩,_⟩:=I.tuple h';rw[e]at e';cases e';rw[d]at d';injection d' with d1 _;have:its=its':=by simpa using congrArg Array.toList d1
 subst this;exact r.inj r'
end
section
variable{X:Cx}{st:Stmt}{rest:List Stmt}{t u:TS}{e:Expr}{te:TE}{pos:Pos}
def Es:TS:=fun D Y H=>D.nx Y H
def yv(t u:TS):TS:=fun D Y H=>t {D with nx:=u D} Y H
def y_:PSs X [] Es:=fun _ _ Y H _ I h=>wpAny_execs_nil ⟨Y,H,I,h⟩
def jf(h1:PS X st t)(h2:PSs X rest u):PSs X (st::rest) (yv t u):=by
 intro js s Y H D I h;refine wpAny_execs_cons (thn (h1 js s Y H {D with nx:=u D} I h) fun f s1 q=>?_);cases f with
 |next=>obtain⟨σ',H',I',q⟩:=q;exact h2 js s1 σ' H' D I' q
 |ret v|brk|cont=>exact q
def rN(h1:PS X st t):PSs X [st] t:=by
 intro js s Y H D I h;refine wpAny_execs_cons (thn (h1 js s Y H D I h) fun f s1 q=>?_);cases f with
 |next=>exact wpAny_execs_nil q
 |ret v|brk|cont=>exact q
def Inv.quiet{js:List (Addr×Obj)}{Y:St}{H:Hp}{s:Shared}(I:Inv X js Y H s):interactive X.env=false:=by simp[interactive,I.ok.kind]
def Eu(te:TE):TS:=fun D Y H=>te Y H fun _ H1=>D.nx Y H1
def km(he:PE X e te)(hs:swapsWith e none pos.line X.env=pure false:=by rfl):PS X (.Expr e pos) (Eu te):=by intro js s Y H D I h;exact wpAny_Expr_any (thn (he js s Y H _ I h) fun v s1 ⟨x,H1,I1,r1,q1⟩=>⟨Y,H1,I1,q1⟩) I.quiet hs
def GR(te:TE):TS:=fun D Y H=>te Y H D.rt
def qt(he:PE X e te):PS X (.Return (some e) pos) (GR te):=by intro js s Y H D I h;exact wpAny_Return_some (thn (he js s Y H _ I h) fun v s1 ⟨x,H1,I1,r1,q1⟩=>⟨x,Y,H1,I1,r1,q1⟩)
def GX(c:TT)(t u:TS):TS:=fun D Y H=>c Y H fun b H1=>if b=true then t D Y H1 else u D Y H1
def EJ{c:Expr}{a b:List Stmt}{tc:TT}(hc:PT X c tc)(ha:PSs X a t)(hb:PSs X b u):PS X (.If c a b pos) (GX tc t u):=by
 intro js s Y H D I h;refine wpAny_If (thn (hc js s Y H _ I h) fun d s1 ⟨H1,I1,q1⟩=>?_);cases d with
 |true=>exact ha js s1 Y H1 D I1 q1
 |false=>exact hb js s1 Y H1 D I1 q1
end
abbrev TG:=V->St->Hp->(St->Hp->Prop)->Prop
abbrev TGs:=List V->St->Hp->(St->Hp->Prop)->Prop
def PG(X:Cx)(target:Expr)(t:TG):Prop:=
 ∀(js:List (Addr×Obj)) (s:Shared) (Y:St) (H:Hp) (v:V) (u:Value) (Q:St->Hp->Prop),Inv X js Y H s->bv v u->t v Y H Q ->
  wpAny (model X.prog X.w) X.A (assign target X.env u) (fun _ s'=>∃σ' H',Inv X js σ' H' s'/\Q σ' H') X.xe s
def PGs(X:Cx)(ts:List Expr)(t:TGs):Prop:=
 ∀(js:List (Addr×Obj)) (s:Shared) (Y:St) (H:Hp) (vs:List V) (us:List Value) (Q:St->Hp->Prop),Inv X js Y H s->aP vs us->t vs Y H Q ->
  wpAny (model X.prog X.w) X.A (assignInOrder ((assignEach ts X.env).map (·.2)) us) (fun _ s'=>∃σ' H',Inv X js σ' H' s'/\Q σ' H') X.xe s
abbrev DK:=V->V->V->Hp->(Hp->Prop)->Prop
def Gb(X:Cx)(t:DK):Prop:=
 ∀(js:List (Addr×Obj)) (s:Shared) (Y:St) (H:Hp) (o i v:V) (ov iv u:Value) (Q:Hp->Prop),Inv X js Y H s->bv o ov->bv i iv->bv v u->t o i v H Q ->
  wpAny (model X.prog X.w) X.A (setItem ov iv u) (fun _ s'=>∃H',Inv X js Y H' s'/\Q H') X.xe s
section
variable{X:Cx}{pos:Pos}
def AK(i:Nat):TG:=fun v Y H Q=>Q (Y.set i (some v)) H
def rS{i:Nat}{x:Str}(hN:X.N.Nodup)(hi:X.N[i]?=some x)(hx:Loc X.env.scope x)(hf:X.fn x=true\/X.env.scope.names.lookup x=some .local:=by first|exact .inl rfl|exact .inr rfl|assumption):PG X (.Name x pos) (AK i):=by intro js s Y H v u Q I r h;exact wpAny_assign_Name (kH I hN hi hx r (fun s' I'=>⟨_,H,I',h⟩) hf)
def Hk:TGs:=fun vs Y H Q=>vs=[]/\Q Y H
def FT(t:TG)(u:TGs):TGs:=fun vs Y H Q=>∃v r,vs=v::r/\t v Y H fun σ' H'=>u r σ' H' Q
def zh:PGs X [] Hk:=by intro js s Y H vs us Q I r h;obtain⟨e,h⟩:=h;subst e;cases r;exact assignInOrder_nil ⟨Y,H,I,h⟩
def vM{e:Expr}{es:List Expr}{t:TG}{u:TGs}(h1:PG X e t)(h2:PGs X es u)
  (hs:(assignEach (e::es) X.env).map (·.2)=assign e X.env::(assignEach es X.env).map (·.2):=by rfl):PGs X (e::es) (FT t u):=by
 intro js s Y H vs us Q I r h;obtain⟨v,vr,e1,h⟩:=h;subst e1;cases r with
 |cons r rr=>rw[hs];refine assignInOrder_cons (thn (h1 js s Y H _ _ _ I r h) fun _ s1 ⟨σ1,H1,I1,q1⟩=>?_);exact h2 js s1 σ1 H1 _ _ Q I1 rr q1
def Hi(K:PySem.W.Frag)(n:Nat)(t:TGs):TG:=fun v Y H Q=>∃a xs,v=.ref a/\SqT K H a xs/\xs.length=n/\t xs Y H Q
def BF{es:List Expr}{k:Nat}{t:TGs}{n:Nat}(hc:X.calm=true)(h:PGs X es t)
  (hn:(assignEach es X.env).length=n:=by rfl) (hst:(assignEach es X.env).findIdx? (·.1)=none:=by rfl):PG X (.Tuple es k pos) (Hi X.K n t):=by
 intro js s Y H v u Q I r hw;obtain⟨a,xs,e1,hq,hl,hw⟩:=hw;subst e1;cases r;obtain⟨its,rv,ht,hz⟩:=I.tuple hq;refine assign_Tuple_tuple (I.ok.hd hc) ht (by simp[hn,<- hl,rv.length]) hst fun h' hx=>?_;have I1:Inv X js Y H {s with heap:=h'}:=I.kept (t':=s.toks) fun b o e=>hx b o (Nat.ne_of_lt (lt_size e)) e;exact h js _ Y H xs _ Q I1 (by simpa using rv) hw
def Hj(to ti:TE)(t:DK):TG:=fun v Y H Q=>to Y H fun o H1=>ti Y H1 fun i H2=>t o i v H2 fun H3=>Q Y H3
def BG{o i:Expr}{to ti:TE}{t:DK}(ho:PE X o to)(hi:PE X i ti)(hs:Gb X t)
  (ha:∀ v,assign (.Subscript o i pos) X.env v=(do
   let ov <- holding [v] (eval o X.env)
   let iv <- holding [v,ov] (eval i X.env)
   standAt pos
   holding [v,ov,iv] (setItem ov iv v)
   release [v,ov,iv] []):=by intro _;rfl):PG X (.Subscript o i pos) (Hj to ti t):=by
 intro js s Y H v u Q I r h;rw[ha];refine wpAny_bind (wpAny_holding (thn (ho js s Y H _ I h) fun ov s1 zz=>?_));obtain⟨x,H1,I1,r1,q1⟩:=zz;refine wpAny_bind (wpAny_holding (thn (hi js s1 Y H1 _ I1 q1) fun iv s2 zz=>?_));obtain⟨y,H2,I2,r2,q2⟩:=zz;refine wpAny_bind (wpAny_standAt (wpAny_bind (wpAny_holding (thn (hs js s2 Y H2 x y v ov iv u _ I2 r1 r2 r q2) fun _ s3 ⟨H3,I3,q3⟩=>?_))));exact wpAny_release ⟨Y,H3,I3,q3⟩
def Ew(te:TE)(g:TG):TS:=fun D Y H=>te Y H fun x H1=>g x Y H1 D.nx
def BC{tg e:Expr}{te:TE}{g:TG}(he:PE X e te)(hg:PG X tg g)(hs:swapsWithSole [tg] e pos.line X.env=pure false:=by rfl)(hw:swappedStores [tg] e X.env=pure none:=by rfl)
  (h1:(assignEach [tg] X.env).map (·.2)=[assign tg X.env]:=by rfl):PS X (.Assign [tg] e pos) (Ew te g):=by
 intro js s Y H D I h;refine wpAny_Assign_stores (thn (he js s Y H _ I h) fun v s1 zz=>?_) hs hw;obtain⟨x,H1,I1,r1,q1⟩:=zz;rw[h1];exact thn (hg js s1 Y H1 x v _ I1 r1 q1) fun _ s2 q=>q
def vG{i:Nat}{x:Str}{e:Expr}{te:TE}{pos':Pos}(hN:X.N.Nodup)(hi:X.N[i]?=some x)(hx:Loc X.env.scope x)(he:PE X e te)(hs:swapsWith e (some (.Name x pos')) pos.line X.env=pure false:=by rfl)(hf:X.fn x=true\/X.env.scope.names.lookup x=some .local:=by first|exact .inl rfl|exact .inr rfl|assumption) :
  PS X (.Assign [.Name x pos'] e pos) (Ew te (AK i)):=by
 intro js s Y H D I h;refine wpAny_Assign_Name (thn (he js s Y H _ I h) fun v s1 zz=>?_) hs;obtain⟨y,H1,I1,r1,q1⟩:=zz;exact kH I1 hN hi hx r1 (fun s2 I2=>⟨_,H1,I2,q1⟩) hf
def AZ(c:TT)(tb:TS):TS:=fun D Y H=>∃W:Nat->St->Hp->Prop,(∃m,W m Y H)/\∀m Y H,W m Y H ->
 c Y H fun b H1=>if b=true then ∃N:St->Hp->Prop,(∀σ' H',N σ' H'->∃m',m'<m/\W m' σ' H')/\tb {D with nx:=N,ct:=N,bk:=D.nx} Y H1 else D.nx Y H1
def vF{c:Expr}{body:List Stmt}{tc:TT}{tb:TS}(hp:PassesOwn (model X.prog X.w) X.A X.env X.xe)(hc:PT X c tc)(hb:PSs X body tb):PS X (.While c body [] pos) (AZ tc tb):=by
 intro js s Y H D I h;obtain⟨W,⟨m0,w0⟩,turn⟩:=h;refine wpAny_While (codeAny_whileLoop (fun n s'=>∃σ' H',Inv X js σ' H' s'/\W n σ' H') ?_ m0 ⟨Y,H,I,w0⟩);rintro n s1 ⟨σ1,H1,I1,w1⟩;refine wpAny_passesOwn hp (thn (hc js s1 σ1 H1 _ I1 (turn n σ1 H1 w1)) fun b s2 ⟨H2,I2,q2⟩=>?_);cases b with
 |true=>
  obtain⟨N,hN,q2⟩:=q2;rw[if_pos rfl];refine wpAny_passesOwn hp (thn (hb js s2 σ1 H2 _ I2 q2) fun f s3 q3=>?_);cases f with
  |next=>obtain⟨σ3,H3,I3,n3⟩:=q3;obtain⟨m',hm,w3⟩:=hN σ3 H3 n3;exact⟨m',hm,σ3,H3,I3,w3⟩
  |cont=>obtain⟨σ3,H3,I3,n3⟩:=q3;obtain⟨m',hm,w3⟩:=hN σ3 H3 n3;exact⟨m',hm,σ3,H3,I3,w3⟩
  |brk|ret v=>exact q3
 |false=>rw[if_neg Bool.false_ne_true];exact wpAny_execs_nil ⟨σ1,H2,I2,q2⟩
end
structure It where
 go:Nat->Hp->Prop
 yld:Nat->Hp->V->Hp->Prop
 stop:Nat->Hp->Prop
def lO(X:Cx)(js:List (Addr×Obj))(H:Hp)(b:Addr):Prop:=
 H b=none/\b≠X.env.locals/\b∉X.fs/\(b∈X.ex\/X.s₀.heap.objs.size<=b)/\(∀x c,X.env.cells.lookup x=some c->c≠b)/\∀p∈X.pn++js,p.1≠b
def Inv.fpOk{X:Cx}{js:List (Addr×Obj)}{Y:St}{H H':Hp}{s:Shared}{b:Addr}(I:Inv X js Y H s)(hb:s.heap.objs.size<=b)(hn:H' b=none):lO X js H' b:=by
 refine⟨hn,Nat.ne_of_gt (Nat.lt_of_lt_of_le I.lt hb),I.nofs hb,.inr (Nat.le_trans I.sz hb),fun x c e z=>?_,fun p hp z=>?_⟩
 ·obtain⟨v,q⟩:=I.cell x c e;exact absurd (Nat.lt_of_lt_of_le q.lt (by rw[z];exact hb)) (Nat.lt_irrefl _)
 ·exact absurd (Nat.lt_of_lt_of_le (lt_size (I.pin p hp).1) (by rw[z];exact hb)) (Nat.lt_irrefl _)
structure qY(P:Program)(w:World)(K:PySem.W.Frag)(tg:Expr)(J:It)(fp:List Addr)(it:Addr)(tn:Nat->Heap->Prop):Prop where
 mem:it∈fp
 obj:∀i h,tn i h->∀b∈fp,∃o,h.get? b=some o/\∀v,o.data≠.cell v
 keep:∀i h h',tn i h->(∀b∈fp,∀o,h.get? b=some o->h'.get? b=some o)->tn i h'
 item:∀(X:Cx),X.prog=P->X.w=w->X.K=K->X.calm=true->∀(i:Nat) (js:List (Addr×Obj)) (s:Shared) (Y:St) (H:Hp) (E:Value->Shared->Prop),Inv X js Y H s->(∀b∈fp,lO X js H b)->tn i s.heap->J.go i H ->
  wpAny (model P w) X.A (pyNext (.ref it)) (fun r s1=>∃ u,r=some u /\
   wpAny (model P w) X.A (letOwnedTupleGo tg (.ref it) u) (fun _ s2=>∃x H',Inv X js Y H' s2/\bv x u/\J.yld i H x H'/\tn (i+1) s2.heap/\∀b∈fp,H' b=none) E s1) E s
 done:∀(X:Cx),X.prog=P->X.w=w->X.K=K->X.calm=true->∀(i:Nat) (js:List (Addr×Obj)) (s:Shared) (Y:St) (H:Hp) (E:Value->Shared->Prop),Inv X js Y H s->(∀b∈fp,lO X js H b)->tn i s.heap->J.stop i H ->
  wpAny (model P w) X.A (pyNext (.ref it)) (fun r s1=>r=none/\Inv X js Y H s1) E s
 self:∀(A:Around) (i:Nat) (s:Shared) (Q:Value->Shared->Prop) (E:Value->Shared->Prop),tn i s.heap->Q (.ref it) s->wpAny (model P w) A (pyIter (.ref it)) Q E s
abbrev TI:=St->Hp->(It->Hp->Prop)->Prop
def PIE(X:Cx)(js:List (Addr×Obj))(Y:St)(tg:Expr)(R:It->Hp->Prop)(itv:Value)(s2:Shared):Prop:=
 ∃(it:Addr) (fp:List Addr) (tn:Nat->Heap->Prop) (J:It) (H':Hp),itv=.ref it/\Inv X js Y H' s2/\qY X.prog X.w X.K tg J fp it tn/\tn 0 s2.heap/\(∀b∈fp,lO X js H' b)/\R J H'
def PI(X:Cx)(tg iter:Expr)(wi:TI):Prop:=
 ∀(js:List (Addr×Obj)) (s:Shared) (Y:St) (H:Hp) (R:It->Hp->Prop),Inv X js Y H s->wi Y H R ->
  wpAny (model X.prog X.w) X.A (eval iter X.env) (fun v s1=>wpAny (model X.prog X.w) X.A (pyIter v) (PIE X js Y tg R) X.xe s1) X.xe s
def sy{M:Model}{A:Around}{E:Value->Shared->Prop}{s:Shared}{tg:Expr}{it:Addr}{u:Value}{o:Obj}{n:String}{vs:Array Value}{Q:Unit->Shared->Prop}(ho:s.heap.get? it=some o)(hc:o.cls=.type n)(hd:o.data=.fields vs)
    (hn:["enumerate","zip","dict_itemiterator","dict_reverseitemiterator","odict_iterator","itertools.zip_longest","itertools.pairwise"].contains n=false) (hQ:Q () s):wpAny M A (letOwnedTupleGo tg (.ref it) u) Q E s:=by
  unfold letOwnedTupleGo;cases tg<;>first
    |exact wpAny_pure hQ
    | (cases u <;> first
        |exact wpAny_pure hQ
        | (refine wpAny_bind (wpAny_load ho ?_)
           rw[hc,hd];show wpAny M A (if(["enumerate","zip","dict_itemiterator","dict_reverseitemiterator","odict_iterator","itertools.zip_longest","itertools.pairwise"].contains n&&vs[0]?==some (rawInt _))=true then _ else _) Q E s;rw[if_neg (by intro h;rw[hn,Bool.false_and]at h;cases h)];exact wpAny_pure hQ))
def Itl(K:PySem.W.Frag)(a:Addr):It:=
 ⟨fun i H=>∃xs x,SqL K H a xs/\xs[i]?=some x,fun i H x H'=>H'=H/\∀xs,SqL K H a xs->xs[i]?=some x,fun i H=>∃xs,SqL K H a xs/\xs.length<=i⟩
def Itt(K:PySem.W.Frag)(a:Addr):It:=
 ⟨fun i H=>∃xs x,SqT K H a xs/\xs[i]?=some x,fun i H x H'=>H'=H/\∀xs,SqT K H a xs->xs[i]?=some x,fun i H=>∃xs,SqT K H a xs/\xs.length<=i⟩
def Itr(lo:Int)(n:Nat):It:=⟨fun i _=>i<n,fun i H x H'=>H'=H/\x=.int (lo+i),fun i _=>n<=i⟩
def sV{P:Program}{w:World}{K:PySem.W.Frag}{tg:Expr}(a it:Addr):qY P w K tg (Itl K a) [it] it (fun i h=>h.IsListIter it a i) where
 mem:=by simp
 obj:=fun i h st b hb=>by
  have e:b=it:=by simpa using hb
  subst e;obtain⟨o,e,c,d⟩:=st;exact⟨o,e,fun v z=>by rw[d]at z;cases z⟩
 keep:=fun i h h' st k=>st.at fun o e=>k it (by simp) o e
 item:=by intro X hP hw hK hc i js s Y H E I hf st hg;subst hP hw hK;obtain⟨xs,x,hq,hx⟩:=hg;obtain⟨its,rv,p,hz⟩:=I.list hq;obtain⟨u,hu,ru⟩:=rv.get hx;obtain⟨f0,f1,f2,f3,f4,f5⟩:=hf it (by simp);refine wpAny_pyNext_list_item st p.isList (x:=u) (by simpa using hu) fun h' st' sb=>?_;have I1:Inv X js Y H {s with heap:=h'}:=I.turned (t':=s.toks) (fun b o hb e=>(sb.2 b hb).trans e) f0 f1 f3 f4 f5;obtain⟨o,e,c,d⟩:=id st';exact⟨u,rfl,sy (s:={s with heap:=h'}) e c d (by decide) ⟨x,H,I1,ru,⟨rfl,fun ys hy=>by rw[I.list_inj hy hq];exact hx⟩,st',fun b hb=>(hf b hb).1⟩⟩
 done:=by intro X hP hw hK hc i js s Y H E I hf st hg;subst hP hw hK;obtain⟨xs,hq,hx⟩:=hg;obtain⟨its,rv,p,hz⟩:=I.list hq;obtain⟨f0,f1,f2,f3,f4,f5⟩:=hf it (by simp);have hl:=rv.length;exact wpAny_pyNext_list_end (I.ok.hd hc) st p.isList (by simp;omega) fun h' eb=>⟨rfl,I.turned (t':=s.toks) (fun b o hb e=>eb b o hb e) f0 f1 f3 f4 f5⟩
 self:=fun _ _ _ _ _ st h=>wpAny_pyIter_listiter st h
def p6{P:Program}{w:World}{K:PySem.W.Frag}{tg:Expr}(a it:Addr):qY P w K tg (Itt K a) [it] it (fun i h=>h.IsTupleIter it a i) where
 mem:=by simp
 obj:=fun i h st b hb=>by
  have e:b=it:=by simpa using hb
  subst e;obtain⟨o,e,c,d⟩:=st;exact⟨o,e,fun v z=>by rw[d]at z;cases z⟩
 keep:=fun i h h' st k=>st.at fun o e=>k it (by simp) o e
 item:=by intro X hP hw hK hc i js s Y H E I hf st hg;subst hP hw hK;obtain⟨xs,x,hq,hx⟩:=hg;obtain⟨its,rv,p,hz⟩:=I.tuple hq;obtain⟨u,hu,ru⟩:=rv.get hx;obtain⟨f0,f1,f2,f3,f4,f5⟩:=hf it (by simp);refine wpAny_pyNext_tuple_item st (show s.heap.IsTuple a its.toArray from p) (x:=u) (by simpa using hu) fun h' st' sb=>?_;have I1:Inv X js Y H {s with heap:=h'}:=I.turned (t':=s.toks) (fun b o hb e=>(sb.2 b hb).trans e) f0 f1 f3 f4 f5;obtain⟨o,e,c,d⟩:=id st';exact⟨u,rfl,sy (s:={s with heap:=h'}) e c d (by decide) ⟨x,H,I1,ru,⟨rfl,fun ys hy=>by rw[I.tuple_inj hy hq];exact hx⟩,st',fun b hb=>(hf b hb).1⟩⟩
 done:=by intro X hP hw hK hc i js s Y H E I hf st hg;subst hP hw hK;obtain⟨xs,hq,hx⟩:=hg;obtain⟨its,rv,p,hz⟩:=I.tuple hq;obtain⟨f0,f1,f2,f3,f4,f5⟩:=hf it (by simp);have hl:=rv.length;exact wpAny_pyNext_tuple_end (I.ok.hd hc) st (show s.heap.IsTuple a its.toArray from p) (by simp;omega) fun h' eb=>⟨rfl,I.turned (t':=s.toks) (fun b o hb e=>eb b o hb e) f0 f1 f3 f4 f5⟩
 self:=fun _ _ _ _ _ st h=>wpAny_pyIter_tupleiter st h
def p7{P:Program}{w:World}{K:PySem.W.Frag}{tg:Expr}(it:Addr)(lo:Int)(n:Nat):qY P w K tg (Itr lo n) [it] it (fun i h=>IsRangeIter h it (lo+(i:Nat)*1) ((n:Int)-(i:Nat)) 1) where
 mem:=by simp
 obj:=fun i h st b hb=>by
  have e:b=it:=by simpa using hb
  subst e;exact ⟨_,st,fun v z=>by
   have z':Data.fields _=Data.cell v:=z;cases z'⟩
 keep:=fun i h h' st k=>k it (by simp) _ st
 item:=by intro X hP hw hK hc i js s Y H E I hf st hg;subst hP hw hK;obtain⟨f0,f1,f2,f3,f4,f5⟩:=hf it (by simp);have W:=Walks.range (prog:=X.prog) (w:=X.w) (I.ok.hd hc) it lo 1 n;refine W.item i s _ _ hg st fun v h' tk hv st' kk=>?_;obtain⟨t,rfl⟩:=hv;have I1:Inv X js Y H {s with heap:=h',toks:=tk}:=I.turned (fun b o hb e=>kk b o (by simpa using hb) e) f0 f1 f3 f4 f5;refine⟨_,rfl,sy (s:={s with heap:=h',toks:=tk}) (n:="range_iterator") st' rfl rfl (by decide) ⟨.int (lo+i),H,I1,⟨t,?_⟩,⟨rfl,rfl⟩,st',fun b hb=>(hf b hb).1⟩⟩;rw[Int.mul_one]
 done:=by intro X hP hw hK hc i js s Y H E I hf st hg;subst hP hw hK;obtain⟨f0,f1,f2,f3,f4,f5⟩:=hf it (by simp);exact wpAny_pyNext_range_end (I.ok.hd hc) st (by have:n<=i:=hg;omega) fun h' eb=>⟨rfl,I.turned (t':=s.toks) (fun b o hb e=>eb b o hb e) f0 f1 f3 f4 f5⟩
 self:=fun _ _ _ _ _ st h=>wpAny_pyIter_rangeiter st h
end L2
namespace L2
open PySem PySem.Spec PyProof.Rows
section
variable{X:Cx}{tg:Expr}
def oS{js:List (Addr×Obj)}{Y:St}{H:Hp}{s:Shared}{R:It->Hp->Prop}{E:Value->Shared->Prop}{lo hi:Int}{t u v:Tok}{tk:Nat}(I:Inv X js Y H s)(h1:-(2 ^ 62)<= lo)(h2:lo<2 ^ 62)(h3:-(2 ^ 62)<= hi)(h4:hi<2 ^ 62)
  (q:R (Itr lo (hi-lo).toNat) H):wpAny (model X.prog X.w) X.A (pyIter (.ref s.heap.objs.size)) (PIE X js Y tg R) E {s with heap:=s.heap.push {cls:=.type "range",data:=.fields #[.int lo t,.int hi u,.int 1 v]},toks:=tk}:=by
 refine wpAny_pyIter_range (IsRange.new ..) (small_one h1 h2 h3 h4) ?_;have I1:Inv X js Y H {s with heap:=s.heap.push {cls:=.type "range",data:=.fields #[.int lo t,.int hi u,.int 1 v]},toks:=tk}:=I.kept fun b o e=>get?_push_of_some _ e;refine ⟨(s.heap.push { cls:=.type "range", data:=.fields #[.int lo t,.int hi u,.int 1 v] }).objs.size,[(s.heap.push { cls:=.type "range", data:=.fields #[.int lo t,.int hi u,.int 1 v] }).objs.size],_,_,H,rfl,
  I1.kept (t':=tk) fun b o e=>get?_push_of_some _ e,p7 _ lo (hi-lo).toNat,?_,fun b hb=>?_,q⟩
 ·have e1:lo+((0:Nat):Int)*1=lo:=by simp
  have e2:(((hi-lo).toNat:Nat):Int)-((0:Nat):Int)=Builtin.Range.rangeSize lo hi 1:=by rw[rangeSize_one];split<;>omega
  show IsRangeIter _ _ (lo+((0:Nat):Int)*1) ((((hi-lo).toNat:Nat):Int)-((0:Nat):Int)) 1;rw[e1,e2];exact get?_push_size _ rfl
 ·have e:b=(s.heap.push {cls:=.type "range",data:=.fields #[.int lo t,.int hi u,.int 1 v]}).objs.size:=by simpa using hb
  subst e;exact I1.fpOk (Nat.le_refl _) (I1.hok.fresh (Nat.le_refl _))
def FP(ta:TA):TI:=fun Y H R=>ta Y H fun vs H1=>∃j:Int,vs=[.int j]/\-(2 ^ 62)<= j/\j<2 ^ 62/\R (Itr 0 j.toNat) H1
def FO(ta:TA):TI:=fun Y H R=>ta Y H fun vs H1=>∃i j:Int,vs=[.int i,.int j]/\(-(2 ^ 62)<= i/\i<2 ^ 62/\-(2 ^ 62)<= j/\j<2 ^ 62)/\R (Itr i (j-i).toNat) H1
def my{a:Expr}{ta:TA}{p pos:Pos}(hg:Gl X "range")(hm:X.mg "range"=none)(ha:PA X [a] ta)(hs:starEach [a] X.env=[(false,eval a X.env)]:=by rfl):PI X tg (.Call (.Name "range" p) [a] [] pos) (FP ta):=by
 intro js s Y H R I h;refine Call_ (fE I hg hm boot_range (PyProof.Rows.callWith_type1 (thn (ha pos js s Y H _ I h) fun us s1 zz=>?_) hs rfl));obtain⟨vs,H1,I1,r1,q1⟩:=zz;obtain⟨j,e,q1,q2,q⟩:=q1;subst e;cases r1 with
 |cons r rr=>cases rr;obtain⟨t,rfl⟩:=r;exact call_range_1 (oS I1 (by omega) (by omega) q1 q2 (by simpa using q))
def mw{a b:Expr}{ta:TA}{p pos:Pos}(hg:Gl X "range")(hm:X.mg "range"=none)(ha:PA X [a,b] ta)(hs:starEach [a,b] X.env=[(false,eval a X.env),(false,eval b X.env)]:=by rfl)(hs2:starEach [b] X.env=[(false,eval b X.env)]:=by rfl) :
  PI X tg (.Call (.Name "range" p) [a,b] [] pos) (FO ta):=by
 intro js s Y H R I h;refine Call_ (fE I hg hm boot_range (PyProof.Rows.callWith_type1 (thn (ha pos js s Y H _ I h) fun us s1 zz=>?_) (by rw[hs,hs2]) (by rw[hs2];rfl)));obtain⟨vs,H1,I1,r1,q1⟩:=zz;obtain⟨i,j,e,⟨q1,q2,q3,q4⟩,q⟩:=q1;subst e;cases r1 with
 |cons r rr=>
  cases rr with
  |cons r' rr=>cases rr;obtain⟨t,rfl⟩:=r;obtain⟨t',rfl⟩:=r';exact call_range_2 (oS I1 q1 q2 q3 q4 q)
def GY(wi:TI)(g:TG)(tb:TS):TS:=fun D Y H=>wi Y H fun J H1=>∃W:Nat->Nat->St->Hp->Prop,(∃m,W 0 m Y H1)/\∀i m Y H,W i m Y H ->
 (J.stop i H/\D.nx Y H)\/(J.go i H/\∃N:St->Hp->Prop,(∀σ' H',N σ' H'->∃m',m'<m/\W (i+1) m' σ' H')/\∀x H',J.yld i H x H'->g x Y H' fun σ2 H2=>tb {D with nx:=N,ct:=N,bk:=D.nx} σ2 H2)
def kP(fp:List Addr)(h:Heap):List (Addr×Obj):=fp.filterMap fun b=>(h.get? b).map fun o=>(b,o)
def gu{fp:List Addr}{h:Heap}{b:Addr}{o:Obj}(hb:b∈fp)(e:h.get? b=some o):(b,o)∈ kP fp h:=List.mem_filterMap.mpr ⟨b,hb,by rw[e];rfl⟩
def ua{fp:List Addr}{h:Heap}{p:Addr×Obj}(hp:p∈kP fp h):p.1∈fp/\h.get? p.1=some p.2:=by
 obtain⟨b,hb,e⟩:=List.mem_filterMap.mp hp;cases q:h.get? b with
 |none=>rw[q]at e;cases e
 |some o=>rw[q]at e;have e':(b,o)=p:=Option.some.inj e;subst e';exact⟨hb,q⟩
def Inv.pinned{js:List (Addr×Obj)}{Y:St}{H:Hp}{s:Shared}{fp:List Addr}(I:Inv X js Y H s)(hf:∀b∈fp,lO X js H b)(ho:∀b∈fp,∃o,s.heap.get? b=some o/\∀v,o.data≠.cell v):Inv X (js++kP fp s.heap) Y H s:=
 I.pins_of fun p hp=>(mem_append.mp hp).elim (fun z=>I.pin p (mem_append_right _ z)) fun z=>by obtain⟨hb,e⟩:=ua z;obtain⟨f0,f1,f2,_⟩:=hf p.1 hb;obtain⟨o,e',d⟩:=ho p.1 hb;rw[e]at e';cases e';exact⟨e,f0,f1,f2,d⟩
def Inv.unpinned{js pl:List (Addr×Obj)}{Y:St}{H:Hp}{s:Shared}(I:Inv X (js++pl) Y H s):Inv X js Y H s:=I.pins_of fun p hp=>I.pin p (mem_append_right _ (mem_append_left _ hp))
def BA{iter:Expr}{body:List Stmt}{wi:TI}{g:TG}{tb:TS}{pos:Pos}(hp:PassesOwn (model X.prog X.w) X.A X.env X.xe)(hc:X.calm=true)(hi:PI X tg iter wi)(hg:PG X tg g)(hb:PSs X body tb)
  (hs:∀x,foldedSetIterable iter X.env x=pure x:=by intro _;rfl):PS X (.For tg iter body [] pos) (GY wi g tb):=by
 intro js s Y H D I h;refine wpAny_For (thn (hi js s Y H _ I h) fun v s1 h1=>thn h1 fun itv s2 h2=>?_) hs;obtain⟨it,fp,tn,J,H2,e,I2,T,st2,f2,W,⟨m0,w0⟩,turn⟩:=h2;subst e;have stat:∀{H':Hp},(∀b∈fp,H' b=none)->∀b∈fp,lO X js H' b:=fun hn b hb=>⟨hn b hb,(f2 b hb).2⟩
 refine codeAny_forLoop_any (fun n s'=>∃i σ' H',Inv X js σ' H' s'/\tn i s'.heap/\(∀b∈fp,H' b=none)/\W i n σ' H') ?_ m0 ⟨0,Y,H2,I2,st2,fun b hb=>(f2 b hb).1,w0⟩;rintro n s3 ⟨i,σ3,H3,I3,st3,fr3,w3⟩;rcases turn i n σ3 H3 w3 with⟨stop,qn⟩ |⟨go,N,hN,step⟩
 ·refine wpAny_passesOwn hp (thn (T.done X rfl rfl rfl hc i js s3 σ3 H3 X.xe I3 (stat fr3) st3 stop) fun r s4 ⟨hr,I4⟩=>?_);subst hr;exact wpAny_execs_nil ⟨σ3,H3,I4,qn⟩
 ·refine wpAny_passesOwn hp (thn (T.item X rfl rfl rfl hc i js s3 σ3 H3 X.xe I3 (stat fr3) st3 go) fun r s4 ⟨u,hr,h4⟩=>?_);subst hr;refine wpAny_passesOwn hp (thn h4 fun _ s5 zz=>?_);obtain⟨x,H5,I5,r5,y5,st5,fr5⟩:=zz;have I5':=I5.pinned (stat fr5) (T.obj _ _ st5);refine wpAny_passesOwn hp (thn (hg _ s5 σ3 H5 x u _ I5' r5 (step x H5 y5)) fun _ s6 ⟨σ6,H6,I6,q6⟩=>?_);refine wpAny_passesOwn hp (thn (hb _ s6 σ6 H6 _ I6 q6) fun f s7 q7=>?_);have again:∀{σ7:St}{H7:Hp},Inv X (js++kP fp s5.heap) σ7 H7 s7->N σ7 H7->∃m,m<n/\∃i σ' H',Inv X js σ' H' s7/\tn i s7.heap/\(∀b∈fp,H' b=none)/\W i m σ' H':=fun {σ7 H7} I7 n7=>by obtain⟨m',hm,w7⟩:=hN σ7 H7 n7;refine⟨m',hm,i+1,σ7,H7,I7.unpinned,T.keep _ _ _ st5 fun b hb o e=>(I7.pin (b,o) (mem_append_right _ (mem_append_right _ (gu hb e)))).1,fun b hb=>?_,w7⟩;obtain⟨o,e,d⟩:=T.obj _ _ st5 b hb;exact(I7.pin (b,o) (mem_append_right _ (mem_append_right _ (gu hb e)))).2.1
  cases f with
  |next|cont=>obtain⟨σ7,H7,I7,n7⟩:=q7;exact again I7 n7
  |brk=>obtain⟨σ7,H7,I7,q7⟩:=q7;exact⟨σ7,H7,I7.unpinned,q7⟩
  |ret v=>obtain⟨x7,σ7,H7,I7,r7,q7⟩:=q7;exact⟨x7,σ7,H7,I7.unpinned,r7,q7⟩
end
end L2
namespace L2
open PySem PySem.Spec PyProof.Rows
abbrev R2:=V->V->Hp->VK->Prop
def OpR(X:Cx)(f:Value->Value->Sem Value)(r:R2):Prop:=
 ∀(js:List (Addr×Obj)) (s:Shared) (Y:St) (H:Hp) (x y:V) (v u:Value) (Q:VK),Inv X js Y H s->bv x v->bv y u->r x y H Q ->
  wpAny (model X.prog X.w) X.A (f v u) (EP X js Y Q) X.xe s
def UnR(X:Cx)(f:Value->Sem Value)(r:V->Hp->VK->Prop):Prop:=
 ∀(js:List (Addr×Obj)) (s:Shared) (Y:St) (H:Hp) (x:V) (v:Value) (Q:VK),Inv X js Y H s->bv x v->r x H Q ->
  wpAny (model X.prog X.w) X.A (f v) (EP X js Y Q) X.xe s
def dY(X:Cx)(f:Value)(r:List V->Hp->VK->Prop):Prop:=
 ∀(js:List (Addr×Obj)) (s:Shared) (Y:St) (H:Hp) (xs:List V) (us:List Value) (Q:VK),Inv X js Y H s->aP xs us->r xs H Q ->
  wpAny (model X.prog X.w) X.A (call f us) (EP X js Y Q) X.xe s
def Hs(X:Cx)(r:V->Hp->(Bool->Hp->Prop)->Prop):Prop:=
 ∀(js:List (Addr×Obj)) (s:Shared) (Y:St) (H:Hp) (x:V) (v:Value) (Q:Bool->Hp->Prop),Inv X js Y H s->bv x v->r x H Q ->
  wpAny (model X.prog X.w) X.A (truthy v) (TP X js Y Q) X.xe s
def tOp(r:R2)(ta tb:TE):TE:=fun Y H Q=>ta Y H fun x H1=>tb Y H1 fun y H2=>r x y H2 Q
def tUn(r:V->Hp->VK->Prop)(ta:TE):TE:=fun Y H Q=>ta Y H fun x H1=>r x H1 Q
def rI(C:Int->Int->Prop)(g:Int->Int->V):R2:=fun x y H Q=>∃i j,x=.int i/\y=.int j/\C i j/\Q (g i j) H
def rI0(g:Int->Int->V):R2:=fun x y H Q=>∃i j,x=.int i/\y=.int j/\Q (g i j) H
def rU(g:Int->V):V->Hp->VK->Prop:=fun x H Q=>∃i,x=.int i/\Q (g i) H
section
variable{X:Cx}{a b c:Expr}{ta tb tc:TE}{pos:Pos}
def Dg(ha:PE X a ta)(hb:PE X b tb){js:List (Addr×Obj)}{s:Shared}{Y:St}{H:Hp}{R:V->V->Hp->Prop}(I:Inv X js Y H s)
  (h:ta Y H fun x H1=>tb Y H1 fun y H2=>R x y H2) {Q:Value->Shared->Prop}{f:Value->Value->Sem Value}
  (hf:∀v u s2 x y H2,Inv X js Y H2 s2->bv x v->bv y u->R x y H2->wpAny (model X.prog X.w) X.A (f v u) Q X.xe s2) :
  wpAny (model X.prog X.w) X.A (eval a X.env) (fun v s₁=>wpAny (model X.prog X.w) X.A (eval b X.env) (fun u s₂=>wpAny (model X.prog X.w) X.A (f v u) Q X.xe s₂) X.xe s₁) X.xe s:=by
 refine thn (ha js s Y H _ I h) fun v s1 hz1=>?_;obtain⟨x,H1,I1,r1,q1⟩:=hz1;refine thn (hb js s1 Y H1 _ I1 q1) fun u s2 hz1=>?_;obtain⟨y,H2,I2,r2,q2⟩:=hz1;exact hf v u s2 x y H2 I2 r1 r2 q2
def EN{op:Operator}{r:R2}(ho:OpR X (binaryOp op) r)(ha:PE X a ta)(hb:PE X b tb):PE X (.BinOp a op b pos) (tOp r ta tb):=by intro js s Y H Q I h;exact wpAny_BinOp (Dg ha hb I h fun v u s2 x y H2 I2 rx ry q=>ho js s2 Y H2 x y v u Q I2 rx ry q)
def EL{op:UnaryOp}{r:V->Hp->VK->Prop}(ho:UnR X (unaryOp op) r)(ha:PE X a ta):PE X (.UnaryOp op a pos) (tUn r ta):=by intro js s Y H Q I h;exact UnaryOp_ (thn (ha js s Y H _ I h) fun v s1 ⟨x,H1,I1,r1,q1⟩=>ho js s1 Y H1 x v Q I1 r1 q1)
def opI{f:Value->Value->Sem Value}{C:Int->Int->Prop}{g:Int->Int->Int}
  (rule:∀(i j:Int) (t u:Tok) (s:Shared) (Q:Value->Shared->Prop) (E:Value->Shared->Prop),C i j->Q (.int (g i j) s.toks) {s with toks:=s.toks+1}->wpAny (model X.prog X.w) X.A (f (.int i t) (.int j u)) Q E s) :
  OpR X f (rI C fun i j=>.int (g i j)):=by
 intro js s Y H x y v u Q I rx ry h;obtain⟨i,j,rfl,rfl,hc,q⟩:=h;obtain⟨t,rfl⟩:=rx;obtain⟨t',rfl⟩:=ry;exact rule i j t t' s _ _ hc ⟨.int (g i j),H,I.tok _,⟨_,rfl⟩,q⟩
def BT{f:Value->Value->Sem Value}{g:Int->Int->Int}
  (rule:∀(i j:Int) (t u:Tok) (s:Shared) (Q:Value->Shared->Prop) (E:Value->Shared->Prop),Q (.int (g i j) s.toks) {s with toks:=s.toks+1}->wpAny (model X.prog X.w) X.A (f (.int i t) (.int j u)) Q E s) :
  OpR X f (rI0 fun i j=>.int (g i j)):=by
 intro js s Y H x y v u Q I rx ry h;obtain⟨i,j,rfl,rfl,q⟩:=h;obtain⟨t,rfl⟩:=rx;obtain⟨t',rfl⟩:=ry;exact rule i j t t' s _ _ ⟨.int (g i j),H,I.tok _,⟨_,rfl⟩,q⟩
def BU{f:Value->Value->Sem Value}{g:Int->Int->Bool}
  (rule:∀(i j:Int) (t u:Tok) (s:Shared) (Q:Value->Shared->Prop) (E:Value->Shared->Prop),Q (.bool (g i j)) s->wpAny (model X.prog X.w) X.A (f (.int i t) (.int j u)) Q E s) :
  OpR X f (rI0 fun i j=>.bl (g i j)):=by
 intro js s Y H x y v u Q I rx ry h;obtain⟨i,j,rfl,rfl,q⟩:=h;obtain⟨t,rfl⟩:=rx;obtain⟨t',rfl⟩:=ry;exact rule i j t t' s _ _ ⟨.bl (g i j),H,I,rfl,q⟩
def Hz(i j:Int):Prop:=0<j/\j<1073741824
def Hy(i j:Int):Prop:=0<=j/\j<=1000000/\i.natAbs<2 ^ 64
def DR(i j:Int):Prop:=(-(2 ^ 64)<i/\i<2 ^ 64)\/(-(2 ^ 64)<j/\j<2 ^ 64)
def DR.ok{i j:Int}(h:DR i j):IntMulOk i j:=by
 rcases h with⟨h1,h2⟩ |⟨h1,h2⟩
 ·exact .of_left (intBits_le_64 h1 h2)
 ·exact .of_right (intBits_le_64 h1 h2)
def p5(k:Nat):(0:Int)<= 2 ^ k:=by rw[two_pow_cast];exact Int.natCast_nonneg _
def BS:OpR X (binaryOp .Add) (rI0 fun i j=>.int (i+j)):=BT fun _ _ _ _ _ _ _ q=>add_int q
def BM:OpR X (binaryOp .Sub) (rI0 fun i j=>.int (i-j)):=BT fun _ _ _ _ _ _ _ q=>sub_int q
def BP:OpR X (binaryOp .Mult) (rI DR fun i j=>.int (i*j)):=opI fun _ _ _ _ _ _ _ hc q=>mul_int q hc.ok
def zu:OpR X (binaryOp .FloorDiv) (rI Hz fun i j=>.int (i / j)):=opI fun i j _ _ _ _ _ hc q=>by have h1:(0:Int)<j:=hc.1;have h2:j<1073741824:=hc.2;exact floordiv_int (by omega) (by rw[Int.fdiv_eq_ediv_of_nonneg i (by omega)];exact q) (.inl (PyProof.noPylong_small (by omega)))
def BQ:OpR X (binaryOp .Mod) (rI (fun _ j=>0<j) fun i j=>.int (i%j)):=opI fun i j _ _ _ _ _ hc q=>by have h1:(0:Int)<j:=hc;exact mod_int' (by omega) (by rw[Int.fmod_eq_emod_of_nonneg i (by omega)];exact q)
def BO:OpR X (binaryOp .Pow) (rI Hy fun i j=>.int (i ^ j.toNat)):=opI fun _ _ _ _ _ _ _ hc q=>pow_int_small hc.1 hc.2.1 hc.2.2 q
def BN:OpR X (binaryOp .RShift) (rI (fun _ j=>0<=j) fun i j=>.int (i / 2 ^ j.toNat)):=opI fun i j _ _ _ _ _ hc q=>
 rshift_int hc (by rw[Int.fdiv_eq_ediv_of_nonneg i (p5 _)];exact q)
def BR:OpR X (binaryOp .BitAnd) (rI0 fun i j=>.int (Builtin.bitAnd i j)):=BT fun _ _ _ _ _ _ _ q=>and_int q
def unI{f:Value->Sem Value}{g:Int->Int}
  (rule:∀(i:Int) (t:Tok) (s:Shared) (Q:Value->Shared->Prop) (E:Value->Shared->Prop),Q (.int (g i) s.toks) {s with toks:=s.toks+1}->wpAny (model X.prog X.w) X.A (f (.int i t)) Q E s) :
  UnR X f (rU fun i=>.int (g i)):=by
 intro js s Y H x v Q I rx h;obtain⟨i,rfl,q⟩:=h;obtain⟨t,rfl⟩:=rx;exact rule i t s _ _ ⟨.int (g i),H,I.tok _,⟨_,rfl⟩,q⟩
def AW:UnR X (unaryOp .USub) (rU fun i=>.int (-i)):=unI fun _ _ _ _ _ q=>neg_int q
def CG{js:List (Addr×Obj)}{Y:St}{H:Hp}{s:Shared}{Q:VK}{k k':Bool}(I:Inv X js Y H s)(q:Q (.bl k) H)(e:k=k'):EP X js Y Q (.bool k') s:=by subst e;exact⟨.bl k,H,I,rfl,q⟩
def EV:OpR X (compareOp .Lt) (rI0 fun i j=>.bl (decide (i<j))):=BU fun _ _ _ _ _ _ _ q=>lt_int q
def EW:OpR X (compareOp .Gt) (rI0 fun i j=>.bl (decide (j<i))):=BU fun _ _ _ _ _ _ _ q=>gt_int q
def EX:OpR X (compareOp .GtE) (rI0 fun i j=>.bl (decide (j<=i))):=BU fun _ _ _ _ _ _ _ q=>ge_int q
def zt:OpR X (compareOp .IsNot) (fun x y H Q=>y=.non/\Q (.bl (!decide (x=.non))) H):=by
 intro js s Y H x y v u Q I rx ry h;obtain⟨rfl,q⟩:=h;cases ry;refine isnot_none_gen (CG I q ?_);cases x<;>first
  |(cases rx;rfl)
  |(obtain⟨t,rfl⟩:=rx;rfl)
def OpR.or{f:Value->Value->Sem Value}{r r':R2}(h:OpR X f r)(h':OpR X f r'):OpR X f (fun x y H Q=>r x y H Q\/r' x y H Q):=by
 intro js s Y H x y v u Q I rx ry q;rcases q with q|q
 ·exact h js s Y H x y v u Q I rx ry q
 ·exact h' js s Y H x y v u Q I rx ry q
def gZ(b:Expr){op:CmpOp}(h:op≠.In:=by decide)(h2:op≠.NotIn:=by decide):behindInMarks op b=false:=by
 have e1:(op==CmpOp.In)=false:=by cases op<;>first|rfl|exact absurd rfl h
 have e2:(op==CmpOp.NotIn)=false:=by cases op<;>first|rfl|exact absurd rfl h2
 cases b<;>simp[behindInMarks,e1,e2]
def zm{op:CmpOp}{r:R2}(ho:OpR X (compareOp op) r)(ha:PE X a ta)(hb:PE X b tb)(hm:behindInMarks op b=false):PE X (.Compare a [op] [b] pos) (tOp r ta tb):=by intro js s Y H Q I h;exact wpAny_Compare1 (Dg ha hb I h fun v u s2 x y H2 I2 rx ry q=>ho js s2 Y H2 x y v u Q I2 rx ry q) hm
def Ep(t:TE):TT:=fun Y H Q=>t Y H fun x H'=>∃k,x=.bl k/\Q k H'
def y9{op:CmpOp}{r:R2}(ho:OpR X (compareOp op) r)(ha:PE X a ta)(hb:PE X b tb)(hm:behindInMarks op b=false):PT X (.Compare a [op] [b] pos) (Ep (tOp r ta tb)):=by
 intro js s Y H Q I h;refine wpAny_isTrue_Compare1 (thn (ha js s Y H _ I h) fun v s1 ⟨x,H1,I1,r1,q1⟩=>thn (hb js s1 Y H1 _ I1 q1) fun u s2 ⟨y,H2,I2,r2,q2⟩=>
  thn (ho js s2 Y H2 x y v u _ I2 r1 r2 q2) fun c s3 ⟨z,H3,I3,r3,k,e,q3⟩=>?_) hm
 subst e;cases r3;exact wpAny_truthy_bool ⟨H3,I3,q3⟩
def F_(K:PySem.W.Frag)(x:V)(H:Hp)(k:Bool):Prop:=
 match x with
 |.non=>k=false
 |.bl b=>k=b
 |.int i=>k=(i != 0)
 |.str y=>y.length<=sizeLine/\k=((y.length:Int) != 0)
 |.byt y=>y.size<=sizeLine/\k=((y.size:Int) != 0)
 |.ref p=>(∃xs,SqL K H p xs/\k=!xs.isEmpty)\/(∃xs,SqT K H p xs/\k=!xs.isEmpty)\/ ∃kvs,H p=some (.dK kvs)/\k=!kvs.isEmpty
 |_=>False
def qI{κ:Type}{kvs:List (κ×V)}{vs:List (κ×Value)}(r:KV kvs vs):(!vs.isEmpty)=!kvs.isEmpty:=by cases r<;>rfl
def lr{xs:List V}{its:List Value}(r:aP xs its):(!its.toArray.isEmpty)=!xs.isEmpty:=by cases r<;>simp
def jS:(sizeLine:Nat)<2 ^ 63:=by rw[sizeLine_eq];decide
def AY:Hs X (fun x H Q=>∃k,F_ X.K x H k/\Q k H):=by
 intro js s Y H x v Q I rx h;obtain⟨k,e,q⟩:=h;have hl:=jS;have hs:sizeLine=16777216:=sizeLine_eq;cases x with
 |non=>cases rx;have e':k=false:=e;subst e';exact truthy_none ⟨H,I,q⟩
 |bl b=>cases rx;have e':k=b:=e;subst e';exact wpAny_truthy_bool ⟨H,I,q⟩
 |int i=>obtain⟨t,rfl⟩:=rx;have e':k=(i != 0):=e;subst e';exact PySem.P.truthy_int ⟨H,I,q⟩
 |str y=>obtain⟨t,rfl⟩:=rx;obtain⟨hy,e'⟩:y.length<=sizeLine/\k=((y.length:Int) != 0):=e;subst e';exact PySem.P.truthy_str (by omega) ⟨H,I.tok _,q⟩
 |byt y=>obtain⟨t,rfl⟩:=rx;obtain⟨hy,e'⟩:y.size<=sizeLine/\k=((y.size:Int) != 0):=e;subst e';exact PySem.W.truthy_bytes (by omega) ⟨H,I.tok _,q⟩
 |ref p=>
  cases rx;have e':(∃xs,SqL X.K H p xs/\k=!xs.isEmpty)\/(∃xs,SqT X.K H p xs/\k=!xs.isEmpty)\/ ∃kvs,H p=some (.dK kvs)/\k=!kvs.isEmpty:=e;rcases e' with⟨xs,hx,e'⟩ |⟨xs,hx,e'⟩ |⟨kvs,hx,e'⟩
  ·subst e';obtain⟨its,r,pl,hz⟩:=I.list hx;have hlen:=r.length;exact wpAny_truthy_list pl.isList (by simp only[size_toArray];omega) ⟨H,I.tok _,by rw[lr r];exact q⟩
  ·subst e';obtain⟨its,r,pl,hz⟩:=I.tuple hx;have hlen:=r.length;exact truthy_tuple pl (by simp only[size_toArray];omega) ⟨H,I.tok _,by rw[lr r];exact q⟩
  ·subst e';obtain⟨hz,hS,vs,r,m⟩:kvs.length<=sizeLine/\(p==sysModules)=false/\∃vs,KV kvs vs/\s.heap.DictOf (dL X.prog X.w) p vs:=I.hok p _ hx;have hlen:kvs.length=vs.length:=Paired.length r;exact wpAny_truthy_dict hS m (by omega) ⟨H,I.tok _,by rw[qI r];exact q⟩
 |_=>exact(show False from e).elim
def vE(ha:PE X a ta)(he:∀whole,isTrue a X.env whole=(do let v <- whole;standAt a.pos;holding [v] (truthy v))) :
  PT X a (fun Y H Q=>ta Y H fun x H'=>∃k,F_ X.K x H' k/\Q k H'):=by
 intro js s Y H Q I h;exact isTrue_plain (thn (ha js s Y H _ I h) fun v s1 ⟨x,H1,I1,r1,q1⟩=>AY js s1 Y H1 x v Q I1 r1 q1) (he _)
def dR{x:V}{us:List Value}(r:aP [x] us):∃u,us=[u]/\bv x u:=by
 cases r with
 |cons r1 r2=>cases r2;exact⟨_,rfl,r1⟩
def Ek{x y:V}{us:List Value}(r:aP [x,y] us):∃u w',us=[u,w']/\bv x u/\bv y w':=by
 cases r with
 |cons r1 r2=>
  cases r2 with
  |cons r3 r4=>cases r4;exact⟨_,_,rfl,r1,r3⟩
def uM(hc:X.calm=true):dY X (.builtin "min") (fun xs H Q=>∃i j,xs=[.int i,.int j]/\Q (.int (if j<i then j else i)) H):=by
 intro js s Y H xs us Q I r h;obtain⟨i,j,rfl,q⟩:=h;obtain⟨u,w',rfl,⟨t,rfl⟩,⟨t',rfl⟩⟩:=Ek r;refine min_two_ints (I.ok.hd hc) fun h' tk k=>⟨_,H,I.kept k,?_,q⟩
 by_cases hj:j<i
 ·rw[if_pos hj,if_pos hj];exact⟨_,rfl⟩
 ·rw[if_neg hj,if_neg hj];exact⟨_,rfl⟩
end
end L2
namespace L2
open PySem PySem.Spec PyProof.Rows
structure q_(h:Heap)(x dx C:Addr)(mA:Str->Option Value):Prop where
 obj:h.get? x=some (instObj C dx)
 ns:h.Ns1 dx mA
 ne:dx≠x
def uk{h:Heap}{dx:Addr}{mA:Str->Option Value}(n:h.Ns1 dx mA):∃od,h.get? dx=some od/\∀name,lookIn name od=some (mA name):=by
 obtain⟨o,es,ep,ho,hd,hk,_,hm⟩:=n;refine⟨o,ho,fun name=>?_⟩;have e:=hm name;unfold nsFind findBy at e;rw[<- Array.find?_toList]at e;unfold lookIn;rw[hd];dsimp only;split
 ·rename_i y q
  rw[q]at e;exact congrArg some e
 ·rename_i q
  rw[q]at e;have a:es.toList.any (·.refKey)=false:=by rw[List.any_eq_false];intro y hy;obtain⟨z,t,hkey⟩:=hk y (Array.mem_toList_iff.mp hy);simp[DictEntry.refKey,hkey]
  have a':¬es.toList.any (·.refKey)=true:=by rw[a];exact Bool.false_ne_true
  rw[if_neg a'];exact congrArg some e
def q_.look{h:Heap}{x dx C:Addr}{mA:Str->Option Value}(I:q_ h x dx C mA):∃od,PySem.W.InstAt h x (instObj C dx) C (some od)/\∀name,lookIn name od=some (mA name):=
 let⟨od,ho,hl⟩:=uk I.ns
 ⟨od,⟨I.obj,rfl,rfl,ho⟩,hl⟩
section
variable{prog:Program}{w:World}{A:Around}{E:Value->Shared->Prop}{s:Shared}{K:PySem.W.Frag}{x dx C f:Addr}{mA:Str->Option Value}{name:Str}{v:Value}
def zU{expr:Bool}{Q:Value->Shared->Prop}(X:K.In s.heap)(I:q_ s.heap x dx C mA)(hg:plainGet K C name=true)(hh:hasDictIn K C=true)
  (ha:PySem.W.findIn K (.ref C) name=some none) (hv:mA name=some v) (hv':handedIn v=true) (h:Q v {s with toks:=s.toks+1}) :
  wpAny (model prog w) A (getAttr (.ref x) name expr) Q E s:=by
 obtain⟨od,J,hl⟩:=I.look;exact PySem.W.get_value X J (plainGet_of hg).1 (PySem.W.findObj_own hh ha rfl (by rw[hl,hv])) hv' h
def wN{pl:Sem Bool}{Q:Value×List Value->Shared->Prop}(X:K.In s.heap)(I:q_ s.heap x dx C mA)(hg:plainGet K C name=true)
  (hf:PySem.W.findIn K (.ref C) name=some (some (.ref f))) (ht:PySem.W.isFn K (.ref f)=true) (hv:mA name=none) (h:Q (.ref f,[.ref x]) s) :
  wpAny (model prog w) A (getMethod (.ref x) name pl) Q E s:=by
 obtain⟨od,J,hl⟩:=I.look;exact PySem.W.method_fn X J (plainGet_of hg).1 (plainGet_of hg).2 hf (beq_iff_eq.mp ht) (by show(lookIn name od).map (·.isSome)=some false;rw[hl,hv];rfl) h
def yM{ns:List Str}{Q:Unit->Shared->Prop}(X:K.In s.heap)(I:q_ s.heap x dx C mA)
  (hs:PySem.W.findIn K (.ref C) "__setattr__"=some (some (.builtin "object.__setattr__"))) (hp:plainOver K C=true) (ht:takerIn K C name=some none) (hh:hasDictIn K C=true)
  (hw:PySem.Within mA ns) (hsz:ns.length<=sizeLine)
  (h:∀h',q_ h' x dx C (fun y=>if y=name then some v else mA y)->SameBut dx s.heap h'->Q () {s with heap:=h',toks:=s.toks+2}) :
  wpAny (model prog w) A (setAttr (.ref x) name v) Q E s:=by
 obtain⟨od,J,hl⟩:=I.look;refine PySem.W.set_plain X J hs (PySem.W.osa_open (s:={s with toks:=s.toks+1}) (r:=none) X J hp ht fun b=>?_);obtain⟨cd,hc,hd'⟩:=PySem.W.any_some hh;have hx:s.heap.get? x=some ⟨.ref C,some dx,.plain,#[]⟩:=I.obj;refine wpAny_bind (wpAny_pure (wpAny_bind (wpAny_bind (wpAny_loadPart hx (wpAny_bind (PySem.W.Looks.here (s:={s with toks:=s.toks+1}) (PySem.W.looks_clsIn X hc) ?_))))));rw[hd'];refine wpAny_pure (a:=some dx) (wpAny_bind (wpAny_pure (wpAny_bind ?_)));refine wpAny_nsSet1 (s:={s with toks:=s.toks+1}) I.ns fun h' hn2 hs2=>?_;obtain⟨oD,esD,epD,hoD,hdD,hcD⟩:=hn2.count (PySem.Within.cons name v hw);refine wpAny_bind (wpAny_lookBehind hoD (by rw[hdD];exact pastItsLine_dict (Nat.le_trans hcD (by rw[length_cons];omega))) ?_);exact wpAny_pure (h _ ⟨(hs2.2 _ (Ne.symm I.ne)).trans I.obj,hn2,I.ne⟩ hs2)
def ww{R:Result->Shared->Prop}{vs:List Value}{kw:List (Str×Value)}(X:K.In s.heap)(hm:makesIn K C=true)
  (hi:PySem.W.findIn K (.ref C) "__init__"=some (some (.ref f))) (hf:PySem.W.typeIn K (.ref f)=some (.type "function"))
  (h:codeAny (model prog w) (A.under (.builtin "type.__call__" ⟨.ref C::vs,kw⟩)) (.call (.ref f) ⟨.ref (s.heap.objs.size+1)::vs,kw⟩) (PySem.W.InitBack (s.heap.objs.size+1) R)
   {s with heap:=(s.heap.push emptyDict).push (instObj C s.heap.objs.size)}) :
  codeAny (model prog w) A (.call (.ref C) ⟨vs,kw⟩) R s:=by
 obtain⟨hh,g,d,t,os⟩:=s;exact PySem.W.make_core (PySem.W.makes_of X hm) (PySem.W.looks_findIn X hi) (fun self=>PySem.W.bind_fn X self hf) (.inl rfl) h
end
def f9(f:Str)(v:V):List (Str×V)->List (Str×V)
 | []=>[(f,v)]
 |(g,x)::r=>if g=f then(g,v)::r else(g,x)::f9 f v r
def j_(f g:Str)(v:V):∀fs:List (Str×V),(f9 f v fs).lookup g=if g=f then some v else fs.lookup g
 | []=>by
  show List.lookup g [(f,v)]=_;by_cases h:g=f
  ·have hb:(g==f)=true:=beq_iff_eq.mpr h;simp only[List.lookup,hb,if_pos h]
  ·have hb:(g==f)=false:=beq_eq_false_iff_ne.mpr h;simp only[List.lookup,hb,if_neg h]
 |(k,x)::r=>by
  have ih:=j_ f g v r;rw[show f9 f v ((k,x)::r)=(if k=f then(k,v)::r else(k,x)::f9 f v r)from rfl];by_cases hk:k=f
  ·rw[if_pos hk];by_cases h:g=k
   ·have hb:(g==k)=true:=beq_iff_eq.mpr h;simp only[List.lookup,hb,if_pos (h.trans hk)]
   ·have hb:(g==k)=false:=beq_eq_false_iff_ne.mpr h;simp only[List.lookup,hb,if_neg (fun e:g=f=>h (e.trans hk.symm))]
  ·rw[if_neg hk];by_cases h:g=k
   ·have hb:(g==k)=true:=beq_iff_eq.mpr h;simp only[List.lookup,hb,if_neg (fun e:g=f=>hk (h.symm.trans e))]
   ·have hb:(g==k)=false:=beq_eq_false_iff_ne.mpr h;simp only[List.lookup,hb];exact ih
def jU(f:Str)(v:V):∀fs:List (Str×V),f ∈(f9 f v fs).map (·.1)/\∀g,g∈fs.map (·.1)->g ∈(f9 f v fs).map (·.1)
 | []=>⟨by simp[f9],fun g h=>by simp at h⟩
 |(k,x)::r=>by
  obtain⟨i1,i2⟩:=jU f v r;rw[show f9 f v ((k,x)::r)=(if k=f then(k,v)::r else(k,x)::f9 f v r)from rfl];by_cases hk:k=f
  ·rw[if_pos hk];subst hk;exact⟨by simp,fun g h=>by simpa using h⟩
  ·rw[if_neg hk];refine⟨?_,fun g h=>?_⟩
   ·rw[map_cons];exact mem_cons_of_mem _ i1
   ·rw[map_cons]at h ⊢;rcases mem_cons.mp h with e|e
    ·exact mem_cons.mpr (.inl e)
    ·exact mem_cons_of_mem _ (i2 g e)
def kd(f:Str)(v:V):∀fs:List (Str×V),(f9 f v fs).length<=fs.length+1
 | []=>by simp[f9]
 |(k,x)::r=>by
  have ih:=kd f v r;rw[show f9 f v ((k,x)::r)=(if k=f then(k,v)::r else(k,x)::f9 f v r)from rfl];by_cases hk:k=f
  ·rw[if_pos hk,length_cons,length_cons];omega
  ·rw[if_neg hk,length_cons,length_cons];omega
def ki.some_of{v:V}{o:Option Value}(r:ki (some v) o):∃u,o=some u/\bv v u:=by
 cases o with
 |none=>exact(show False from r).elim
 |some u=>exact⟨u,rfl,r⟩
def ki.none_of{o:Option Value}(r:ki none o):o=none:=by
 cases o with
 |none=>rfl
 |some u=>exact(show False from r).elim
def uy{v:V}{u:Value}(r:bv v u):handedIn u=true:=by
 cases v with
 |non=>cases(show u=Value.none from r);rfl
 |bl b=>cases(show u=Value.bool b from r);rfl
 |int i=>obtain⟨t,e⟩:=(show ∃t,u=Value.int i t from r);cases e;rfl
 |str x=>obtain⟨t,e⟩:=(show ∃t,u=Value.str x t from r);cases e;rfl
 |byt b=>obtain⟨t,e⟩:=(show ∃t,u=Value.bytes b t from r);cases e;rfl
 |flt b=>obtain⟨t,e⟩:=(show ∃t,u=Value.float b t from r);cases e;rfl
 |ref a=>cases(show u=Value.ref a from r);rfl
 |ty n=>cases(show u=Value.type n from r);rfl
section
variable{P:Program}{w:World}{H H':Hp}{h h':Heap}{a C dx:Addr}{fs fs':List (Str×V)}
def nV(hok:HOk P w H h)(e:H a=some (.ins C dx fs)):∃mA,q_ h a dx C mA/\(∀f,ki (fs.lookup f) (mA f))/\PySem.Within mA (fs.map (·.1))/\fs.length<=1000/\H dx=some (.own a):=by
 obtain⟨d,z,ne,ob,mA,n,r,q⟩:=(show bW P w H h a (.ins C dx fs)from hok a _ e)
 exact⟨mA,⟨ob,n,ne⟩,r,q,z,d⟩
end
structure Cls(K:PySem.W.Frag)(C:Addr):Prop where
 pg:plainGet K C Str.empty=true
 hd:hasDictIn K C=true
 po:plainOver K C=true
 sa:PySem.W.findIn K (.ref C) "__setattr__"=some (some (.builtin "object.__setattr__"))
def Cls.get{K:PySem.W.Frag}{C:Addr}(c:Cls K C)(f:Str):plainGet K C f=true:=c.pg
def eO(K:PySem.W.Frag)(C:Addr)(f:Str):Prop:=PySem.W.findIn K (.ref C) f=some none
def eO.taker{K:PySem.W.Frag}{C:Addr}{f:Str}(n:eO K C f):takerIn K C f=some none:=by unfold takerIn;rw[show PySem.W.findIn K (.ref C) f=some none from n];rfl
structure Av(K:PySem.W.Frag)(C:Addr)(m:Str)(f:Addr):Prop where
 at_:PySem.W.findIn K (.ref C) m=some (some (.ref f))
 fn:PySem.W.isFn K (.ref f)=true
 kp:PySem.W.keepIn K (.ref f)=true
section
variable{X:Cx}{js:List (Addr×Obj)}{Y:St}{H:Hp}{s:Shared}{a C dx:Addr}{fs:List (Str×V)}{f:Str}{v:V}{A:Around}{E:Value->Shared->Prop}
def qP{b:Bool}{Q:Value->Shared->Prop}(I:Inv X js Y H s)(e:H a=some (.ins C dx fs))(c:Cls X.K C)(n:eO X.K C f)(l:fs.lookup f=some v)
  (h:∀u s',Inv X js Y H s'->bv v u->Q u s'):wpAny (model X.prog X.w) A (getAttr (.ref a) f b) Q E s:=by
 obtain⟨mA,O,r,_,_,_⟩:=nV I.hok e;obtain⟨u,hu,ru⟩:=ki.some_of (v:=v) (o:=mA f) (by rw[<- l];exact r f);exact zU I.kIn O (c.get f) c.hd n hu (uy ru) (h u _ (I.tok _) ru)
def qO{m:Str}{g:Addr}{pl:Sem Bool}{Q:Value×List Value->Shared->Prop}(I:Inv X js Y H s)(e:H a=some (.ins C dx fs))(c:Cls X.K C)(k:Av X.K C m g)(l:fs.lookup m=none)
  (h:Q (.ref g,[.ref a]) s):wpAny (model X.prog X.w) A (getMethod (.ref a) m pl) Q E s:=by
 obtain⟨mA,O,r,_,_,_⟩:=nV I.hok e;have hn:mA m=none:=ki.none_of (by rw[<- l];exact r m);exact wN I.kIn O (c.get m) k.at_ k.fn hn h
def qj{y:V}{u:Value}{Q:Unit->Shared->Prop}(I:Inv X js Y H s)(e:H a=some (.ins C dx fs))(c:Cls X.K C)(n:eO X.K C f)(hl:fs.length<1000)(ry:bv y u)
  (h:∀s',Inv X js Y (upd H a (.ins C dx (f9 f y fs))) s'->Q () s'):wpAny (model X.prog X.w) A (setAttr (.ref a) f u) Q E s:=by
 obtain⟨mA,O,r,wi,_,ho⟩:=nV I.hok e;have hz:(fs.map (·.1)).length<=sizeLine:=by rw[length_map,sizeLine_eq];omega
 refine yM I.kIn O c.sa c.po n.taker c.hd wi hz fun h' O' sb=>h _ ?_;have hd:∃o,h'.get? dx=some o:=let⟨o,_,_,e',_⟩:=O'.ns;⟨o,e'⟩
 refine I.write (x:=a) (e:=dx) (by rw[e];exact True.intro) (.inr ho) (fun b q hb z=>(sb.2 b hb).trans z) hd ?_;refine⟨by rw[aF O.ne];exact ho,?_,O.ne,O'.obj,_,O'.ns,fun g=>?_,fun g hg=>?_⟩
 ·have:=kd f y fs;omega
 ·show ki ((f9 f y fs).lookup g) (if g=f then some u else mA g);rw[j_];by_cases q:g=f
  ·rw[if_pos q,if_pos q];exact ry
  ·rw[if_neg q,if_neg q];exact r g
 ·by_cases q:g=f
  ·rw[q];exact(jU f y fs).1
  ·refine(jU f y fs).2 g (wi g fun z=>hg ?_);show(if g=f then some u else mA g)=none;rw[if_neg q];exact z
def Inv.made(I:Inv X js Y H s):Inv X js Y (upd (upd H s.heap.objs.size (.own (s.heap.objs.size+1))) (s.heap.objs.size+1) (.ins C s.heap.objs.size []))
  {s with heap:=(s.heap.push emptyDict).push (instObj C s.heap.objs.size)}:=by
 have e1:(s.heap.push emptyDict).get? s.heap.objs.size=some emptyDict:=get?_push_size s.heap rfl;have e2:((s.heap.push emptyDict).push (instObj C s.heap.objs.size)).get? (s.heap.objs.size+1)=some (instObj C s.heap.objs.size):=by
  have:=get?_push_size (s.heap.push emptyDict) (o:=instObj C s.heap.objs.size) rfl
  rwa [size_push]at this
 have e3:(s.heap.push emptyDict).Ns s.heap.objs.size (fun _=>none):=⟨emptyDict,#[],_,e1,rfl,(fun e he=>absurd he (by simp)),fun _=>rfl⟩
 have I1:=I.laid (a:=s.heap.objs.size) (o:=.own (s.heap.objs.size+1)) (h':=s.heap.push emptyDict) (t':=s.toks) (fun b u q=>get?_push_of_some _ q) (Nat.le_refl _) ⟨_,e1⟩;refine I1.laid (a:=s.heap.objs.size+1) (o:=.ins C s.heap.objs.size []) (t':=s.toks) (fun b u q=>get?_push_of_some _ q) (Nat.le_of_eq (size_push _ _)) ?_;have ne:s.heap.objs.size≠s.heap.objs.size+1:=Nat.ne_of_lt (Nat.lt_succ_self _);refine⟨by rw[aF ne,aN],zero_le _,ne,e2,fun _=>none,(Heap.Ns1.of_empty e3).at fun o q=>get?_push_of_some _ q,fun _=>True.intro,fun y hy=>absurd rfl hy⟩
def Ar{prog:Program}{w:World}{env:Env}{e:Expr}{f:Str}{pos:Pos}{s:Shared}{Q:Value->Shared->Prop}(hb:attributeBase e f env (eval e env)=eval e env)
  (h:wpAny (model prog w) A (eval e env) (fun o s₁=>wpAny (model prog w) A (getAttr o f true) Q E s₁) E s):wpAny (model prog w) A (eval (.Attribute e f pos) env) Q E s:=
 Attribute_any_ h (by rw[arm_eval_Attribute,hb])
end
def Et(K:PySem.W.Frag)(ta:TE)(f:Str):TE:=fun Y H Q=>ta Y H fun x H1=>∃a C dx fs v,x=.ref a/\H1 a=some (.ins C dx fs)/\Cls K C/\eO K C f/\fs.lookup f=some v/\Q v H1
def sFld(K:PySem.W.Frag)(ta tv:TE)(f:Str):TS:=fun D Y H=>tv Y H fun y H1=>ta Y H1 fun x H2=>∃a C dx fs,x=.ref a/\H2 a=some (.ins C dx fs)/\Cls K C/\eO K C f/\fs.length<1000 /\
 D.nx Y (upd H2 a (.ins C dx (f9 f y fs)))
section
variable{X:Cx}{o e value:Expr}{f:Str}{pos pos' tpos:Pos}{ta tv:TE}
def BJ(he:PE X e ta)(hb:attributeBase e f X.env (eval e X.env)=eval e X.env):PE X (.Attribute e f pos) (Et X.K ta f):=by intro js s Y H Q I h;refine Ar hb (thn (he js s Y H _ I h) fun u s1 zz=>?_);obtain⟨x,H1,I1,rx,a,C,dx,fs,v,ex,ea,c,n,l,q⟩:=zz;subst ex;obtain rfl:u=Value.ref a:=rx;exact qP I1 ea c n l fun u' s2 I2 ru=>⟨v,H1,I2,ru,q⟩
def BB(ha:PE X o ta)(hv:PE X value tv)(hs:swapsWith value (some (.Attribute o f pos')) pos.line X.env=pure false):PS X (.Assign [.Attribute o f pos'] value pos) (sFld X.K ta tv f):=by intro js s Y H D I h;refine plainObj_wpAny_Assign_Attribute (thn (hv js s Y H _ I h) fun u s1 ⟨y,H1,I1,ry,q⟩=>thn (ha js s1 Y H1 _ I1 q) fun ov s2 zz=>?_) hs;obtain⟨x,H2,I2,rx,a,C,dx,fs,ex,ea,c,n,l,q2⟩:=zz;subst ex;obtain rfl:ov=Value.ref a:=rx;exact qj I2 ea c n l ry fun s3 I3=>⟨Y,_,I3,q2⟩
end
end L2
namespace L2
open PySem PySem.Spec PyProof.Rows
structure dw(k:Nat)(A:Around):Prop where
 hd:A.handled=none
 dp:A.depth+3*k+5<recursionLimit
 un:A.units+16*k+200<cLine
def dw.mono{j k:Nat}{A:Around}(r:dw k A)(h:j<=k):dw j A:=⟨r.hd,by have:=r.dp;omega,by have:=r.un;omega⟩
def dw.deeper{k:Nat}{A:Around}(r:dw (k+1) A)(env:Env):dw k (A.deeper env):=
 ⟨r.hd,by have:=r.dp;show A.depth+1+3*k+5<_;omega,by have:=r.un;show A.units+3+16*k+200<_;omega⟩
def qF{A:Around}{C:Addr}{us:List Value}{kw:List (Str×Value)}:(A.under (.builtin "type.__call__" ⟨.ref C::us,kw⟩)).depth=A.depth+1:=by
 first|rfl|simp[Around.under,Code.weight,Code.isCreation,Code.isGuard,Code.isCaller,Code.frames,Code.isFrame,guardIds]
def qE{A:Around}{C:Addr}{us:List Value}{kw:List (Str×Value)}:(A.under (.builtin "type.__call__" ⟨.ref C::us,kw⟩)).units=A.units+1:=by
 first|rfl|simp[Around.under,Code.cUnits,Code.frames,Code.isFrame]
def dw.make{k:Nat}{A:Around}(r:dw (k+1) A)(C:Addr)(us:List Value)(kw:List (Str×Value)):dw k (A.under (.builtin "type.__call__" ⟨.ref C::us,kw⟩)):=
 ⟨r.hd,by have:=r.dp;rw[qF];omega,by have:=r.un;rw[qE];omega⟩
def dw.depth{k:Nat}{A:Around}(r:dw k A):A.depth<recursionLimit:=by have:=r.dp;omega
def dw.units{k:Nat}{A:Around}(r:dw k A):A.units+64<cLine:=by have:=r.un;omega
def A0:TA:=fun _ H Q=>Q [] H
def rq(ta:TE)(tr:TA):TA:=fun Y H Q=>ta Y H fun x H1=>tr Y H1 fun xs H2=>Q (x::xs) H2
section
variable{X:Cx}{e:Expr}{es:List Expr}{te:TE}{t:TA}{pos:Pos}
def gd:PA X [] A0:=fun _ _ _ _ H Q I h=>Calls.spliced_nil ⟨[],H,I,.nil,h⟩
def da(ha:PE X e te)(hr:PA X es t)(hs:starEach (e::es) X.env=(false,eval e X.env)::starEach es X.env:=by rfl):PA X (e::es) (rq te t):=by intro pos js s Y H Q I h;rw[hs];show wpAny _ _ (spliced ((false,eval e X.env)::backTo pos (starEach es X.env))) _ _ s;refine Calls.spliced_cons (thn (ha js s Y H _ I h) fun u s1 zz=>?_);obtain⟨x,H1,I1,r1,q1⟩:=zz;exact thn (hr pos js s1 Y H1 _ I1 q1) fun us s2 ⟨xs,H2,I2,r2,q2⟩=>⟨x::xs,H2,I2,.cons r1 r2,q2⟩
def GQ(t:TA):TE:=fun Y H Q=>t Y H fun xs H1=>xs.length<=sizeLine/\∀p,H1 p=none->Q (.ref p) (upd H1 p (.tup xs))
def GW(t:TA):TE:=fun Y H Q=>t Y H fun xs H1=>xs.length<=sizeLine/\∀p,H1 p=none->Q (.ref p) (upd H1 p (.lst xs))
def vN{x1}(h:PA X es t):PE X (.Tuple es x1 pos) (GQ t):=by intro js s Y H Q I hq;refine wpAny_Tuple_spliced (thn (h pos js s Y H _ I hq) fun us s1 ⟨xs,H1,I1,r,z,q⟩=>⟨by rw[<- r.length];exact z,?_⟩);have hf:H1 s1.heap.objs.size=none:=I1.hok.fresh (Nat.le_refl _);refine⟨.ref s1.heap.objs.size,upd H1 s1.heap.objs.size (.tup xs),I1.laid (t':=s1.toks) (fun b u e=>get?_push_of_some _ e) (Nat.le_refl _) ?_,rfl,q _ hf⟩;exact⟨z,us,r,⟨_,get?_push_size _ rfl,rfl,_,rfl⟩⟩
def BI(h:PA X es t):PE X (.List es pos) (GW t):=by intro js s Y H Q I hq;refine wpAny_List_spliced (thn (h pos js s Y H _ I hq) fun us s1 ⟨xs,H1,I1,r,z,q⟩=>⟨by rw[<- r.length];exact z,?_⟩);have hf:H1 s1.heap.objs.size=none:=I1.hok.fresh (Nat.le_refl _);refine⟨.ref s1.heap.objs.size,upd H1 s1.heap.objs.size (.lst xs),I1.laid (t':=s1.toks) (fun b u e=>get?_push_of_some _ e) (Nat.le_refl _) ?_,rfl,q _ hf⟩;exact⟨z,us,0,r,get?_push_size _ rfl⟩
end
abbrev Sp:=List V->Hp->VK->XK->Prop
abbrev CXT:=List Env->Hp->Shared->XK->Value->Shared->Prop
structure ou(P:Program)(w:World)(K:PySem.W.Frag)(mg:Str->Option Value)(base:Heap)(A:Around)(outer:List Env)(s:Shared)(H:Hp):Prop where
 frames:A.frames=some outer
 mod:Mod K mg base
 bs:∀b o,base.get? b=some o->s.heap.get? b=some o/\H b=none
 bsz:base.objs.size<=s.heap.objs.size
 funs:s.heap.FunFrames base outer
 frf:∀b∈frs outer,H b=none
 hok:HOk P w H s.heap
 bare:AllBare s.gens
def CE(outer:List Env)(P:Program)(w:World)(H:Hp)(s:Shared)(Q:VK)(u:Value)(s':Shared):Prop:=
 ∃v H',s'.os=s.os/\AllBare s'.gens/\Un (frs outer) [] H H' s.heap s'.heap/\HOk P w H' s'.heap/\bv v u/\Q v H'
def CR(CX:CXT)(outer:List Env)(P:Program)(w:World)(H:Hp)(s:Shared)(Q:VK)(E:XK)(r:Result)(s':Shared):Prop:=
 match r with
 |.ok (.ret u)=>CE outer P w H s Q u s'
 |.ok _=>False
 |.error e=>CX outer H s E e s'
structure cU(P:Program)(w:World)(K:PySem.W.Frag)(mg:Str->Option Value)(base:Heap)(CX:CXT)(k:Nat)(f:Addr)(fd:FuncData)(ps:List Str)(sp:Sp):Prop where
 len:∀vs H Q E,sp vs H Q E->vs.length=ps.length
 run:∀(A:Around) (outer:List Env) (s:Shared) (H:Hp) (args:Args) (us:List Value) (vs:List V) (Q:VK) (E:XK),dw k A->ou P w K mg base A outer s H->BindsTo s fd args (ps.zip us)->aP vs us->sp vs H Q E ->
  codeAny (model P w) A (.call (.ref f) args) (CR CX outer P w H s Q E) s
def cU.mono{P:Program}{w:World}{K:PySem.W.Frag}{mg:Str->Option Value}{base:Heap}{CX:CXT}{j k:Nat}{f:Addr}{fd:FuncData}{ps:List Str}{sp:Sp}(F:cU P w K mg base CX j f fd ps sp)(h:j<=k) :
  cU P w K mg base CX k f fd ps sp:=⟨F.len,fun A outer s H args us vs Q E hr=>F.run A outer s H args us vs Q E (hr.mono h)⟩
def cU.imp{P:Program}{w:World}{K:PySem.W.Frag}{mg:Str->Option Value}{base:Heap}{CX:CXT}{k:Nat}{f:Addr}{fd:FuncData}{ps:List Str}{sp sp':Sp}(F:cU P w K mg base CX k f fd ps sp)
  (h:∀vs H Q E,sp' vs H Q E->sp vs H Q E):cU P w K mg base CX k f fd ps sp':=
 ⟨fun vs H Q E q=>F.len vs H Q E (h _ _ _ _ q),fun A outer s H args us vs Q E hr he hb hv hs=>F.run A outer s H args us vs Q E hr he hb hv (h _ _ _ _ hs)⟩
def ou.make{P:Program}{w:World}{K:PySem.W.Frag}{mg:Str->Option Value}{base:Heap}{A:Around}{outer:List Env}{s:Shared}{H:Hp}(e:ou P w K mg base A outer s H)(C:Addr)(us:List Value)(kw:List (Str×Value)) :
  ou P w K mg base (A.under (.builtin "type.__call__" ⟨.ref C::us,kw⟩)) outer s H:=⟨by first|exact e.frames |(simpa[Around.under,Code.envs,Code.isFrame,pushEnvs]using e.frames),e.mod,e.bs,e.bsz,e.funs,e.frf,e.hok,e.bare⟩
section
variable{X:Cx}{js:List (Addr×Obj)}{Y:St}{H:Hp}{s s':Shared}
def Inv.env0(I:Inv X js Y H s):ou X.prog X.w X.K X.mg X.base X.A X.stack s H:=
 ⟨I.ok.frames,I.ok.mod,I.bs,Nat.le_trans I.ok.bsz I.sz,I.stack,I.stkFree,I.hok,I.bare⟩
def Inv.after{Q:VK}{u:Value}(I:Inv X js Y H s)(h:CE X.stack X.prog X.w H s Q u s'):EP X js Y Q u s':=by obtain⟨v,H',os,bare,un,hok,r,q⟩:=h;obtain⟨hh,g,d,t,os'⟩:=s';obtain rfl:os'=s.os:=os;exact⟨v,H',I.call (h':=hh) (g':=g) (d':=d) (t':=t) (ch:=[]) un hok bare (fun b z=>absurd z (by simp)),r,q⟩
end
def fq(K:PySem.W.Frag)(fd:FuncData)(ps:List Str)(ds:List Value):Prop:=
 ∀(s:Shared) (us:List Value),K.In s.heap->(us++ds).length=ps.length->BindsTo s fd ⟨us,[]⟩ (ps.zip (us++ds))
def fq.all{K:PySem.W.Frag}{fd:FuncData}{ps:List Str}(h:∀us:List Value,us.length=ps.length->bindArgs fd ⟨us,[]⟩=pure (ps.zip us)):fq K fd ps []:=fun s us _ hl=>by rw[append_nil]at hl ⊢;exact .of_eq (h us hl)
section
variable{X:Cx}{CX:CXT}{k:Nat}{f C:Addr}{fd:FuncData}{ps:List Str}{sp:Sp}{dvs:List V}{ds:List Value}{E:XK}{x m:Str}{p pos apos:Pos}{e o:Expr}{es:List Expr}{ta:TE}{t:TA}
structure Mk(K:PySem.W.Frag)(C f:Addr):Prop where
 makes:makesIn K C=true
 init:PySem.W.findIn K (.ref C) "__init__"=some (some (.ref f))
 fn:PySem.W.isFn K (.ref f)=true
 kp:PySem.W.keepIn K (.ref C)=true
end
def PK(X:Cx)(kws:List Keyword)(t:TA):Prop:=
 ∀(pos:Pos) (js:List (Addr×Obj)) (s:Shared) (Y:St) (H:Hp) (Q:List V->Hp->Prop),Inv X js Y H s->t Y H Q->wpAny (model X.prog X.w) X.A (evalAll ((backToKw pos (keywordEach kws X.env)).map (·.2))) (AP X js Y Q) X.xe s
section
variable{X:Cx}{CX:CXT}{k:Nat}{f C:Addr}{fd:FuncData}{ps ks:List Str}{sp:Sp}{E:XK}{x m:Str}{p pos apos kpos:Pos}{e o:Expr}{es:List Expr}{kws:List Keyword}{te ta:TE}{t tk:TA}{nm:Option Str}
def vI:PK X [] A0:=fun _ _ _ _ H Q I h=>wpAny_evalAll_nil ⟨[],H,I,.nil,h⟩
def rQ(ha:PE X e te)(hr:PK X kws t):PK X (⟨nm,e,kpos⟩::kws) (rq te t):=by intro pos js s Y H Q I h;show wpAny _ _ (evalAll ((do let v <- eval e X.env;standAt pos;pure v)::(backToKw pos (keywordEach kws X.env)).map (·.2))) _ _ s;refine wpAny_evalAll_cons (wpAny_bind (thn (ha js s Y H _ I h) fun u s1 ⟨x,H1,I1,r1,q1⟩=>wpAny_bind (wpAny_standAt (wpAny_pure ?_))));exact thn (hr pos js s1 Y H1 _ I1 q1) fun us s2 ⟨xs,H2,I2,r2,q2⟩=>⟨x::xs,H2,I2,.cons r1 r2,q2⟩
variable{g:List Value->List Value->List Value}{gV:List V->List V->List V}
end
structure dO(N P:List Str)(sc:Scope):Prop where
 kind:sc.kind=.function
 co:sc.isCoroutine=false
 gen:sc.isGenerator=false
 nd:N.Nodup
 pre:N.take P.length=P
 par:∀x∈P,sc.names.lookup x=some .local\/sc.names.lookup x=some .cell
 nofree:∀y∈sc.names,y.2≠.free
def mW{kindOf:Str->Option NameKind}{x:Str}:∀{binds:List (Str×Value)}{m:Str->Option Value},(∀v,(x,v)∉ binds)->bindL kindOf binds m x=m x
 | [],_,_=>rfl
 |(n,v)::r,m,h=>by
  unfold bindL;rw[mW fun w hw=>h w (mem_cons_of_mem _ hw)];split
  ·have:x≠n:=by rintro rfl;exact h v mem_cons_self
   simp[this]
  ·rfl
def mY{kindOf:Str->Option NameKind}{x:Str}:∀{binds:List (Str×Value)}{m:Str->Option Value},(∀v,(x,v)∉ binds)->bindC kindOf binds m x=m x
 | [],_,_=>rfl
 |(n,v)::r,m,h=>by
  unfold bindC;rw[mY fun w hw=>h w (mem_cons_of_mem _ hw)];split
  ·rfl
  ·have:x≠n:=by rintro rfl;exact h v mem_cons_self
   simp[this]
def mX{kindOf:Str->Option NameKind}{x:Str}{v:Value}:∀{P:List Str}{vs:List Value}{i:Nat}{m:Str->Option Value},P.Nodup->P[i]?=some x->vs[i]?=some v->kindOf x=some .local ->
  bindL kindOf (P.zip vs) m x=some v
 | [],_,_,_,_,h,_,_|_::_,[],_,_,_,_,h,_=>by simp at h
 |p::P,w::vs,0,m,nd,h1,h2,hk=>by simp at h1 h2;subst h1;subst h2;show bindL kindOf ((p,w)::P.zip vs) m p=_;unfold bindL;rw[mW fun v hv=>(nodup_cons.mp nd).1 (of_mem_zip hv).1,if_pos hk];simp
 |p::P,w::vs,i+1,m,nd,h1,h2,hk=>by show bindL kindOf ((p,w)::P.zip vs) m x=_;unfold bindL;exact mX (i:=i) (nodup_cons.mp nd).2 (by simpa using h1) (by simpa using h2) hk
def mZ{kindOf:Str->Option NameKind}{x:Str}{v:Value}:∀{P:List Str}{vs:List Value}{i:Nat}{m:Str->Option Value},P.Nodup->P[i]?=some x->vs[i]?=some v->kindOf x≠some .local ->
  bindC kindOf (P.zip vs) m x=some v
 | [],_,_,_,_,h,_,_|_::_,[],_,_,_,_,h,_=>by simp at h
 |p::P,w::vs,0,m,nd,h1,h2,hk=>by simp at h1 h2;subst h1;subst h2;show bindC kindOf ((p,w)::P.zip vs) m p=_;unfold bindC;rw[mY fun v hv=>(nodup_cons.mp nd).1 (of_mem_zip hv).1,if_neg hk];simp
 |p::P,w::vs,i+1,m,nd,h1,h2,hk=>by show bindC kindOf ((p,w)::P.zip vs) m x=_;unfold bindC;exact mZ (i:=i) (nodup_cons.mp nd).2 (by simpa using h1) (by simpa using h2) hk
def start(N:List Str)(vs:List V):St:=vs.map some++replicate (N.length-vs.length) none
def c_(CX:CXT)(P:Program)(w:World)(K:PySem.W.Frag)(mg:Str->Option Value)(base:Heap)(N:List Str)(qual:Str)(scope:Scope)(f:Addr)(cd:Value)(A:Around)(outer:List Env)(s:Shared)(H:Hp)(E:XK):Cx where
 prog:=P
 w:=w
 K:=K
 mg:=mg
 base:=base
 A:=A.deeper (envOfC qual scope s.heap.objs.size f cd)
 N:=N
 s₀:=s
 H₀:=H
 env:=envOfC qual scope s.heap.objs.size f cd
 outer:=outer
 stack:=envOfC qual scope s.heap.objs.size f cd::outer
 ex:=[]
 calm:=true
 fn:=fun _=>true
 pn:=[]
 xe:=fun e s'=>wpAny (model P w) (A.deeper (envOfC qual scope s.heap.objs.size f cd)) (leaving (envOfC qual scope s.heap.objs.size f cd) e) (fun _ s''=>CX outer H s E e s'') (fun e' s''=>CX outer H s E e' s'') s'
def lH{sc:Scope}{n:Nat}{x:Str}(h:sc.names.lookup x=some .cell):∃c,(cellsFrom n sc.names []).lookup x=some c:=by have q:=PySem.W.cellsFrom_some sc.names n [] (.inl h);exact isSome_iff_exists.mp q
def uu{CX:CXT}{P:Program}{w:World}{K:PySem.W.Frag}{mg:Str->Option Value}{base:Heap}{N ps:List Str}{qual:Str}{scope:Scope}{f:Addr}{cd:Value}{A:Around}{outer:List Env}{s s1:Shared}{H:Hp}{E:XK}{us:List Value}{vs:List V}
  (S:dO N ps scope) (hd:A.handled=none) (e0:ou P w K mg base A outer s H) (hl:vs.length=ps.length) (r:aP vs us)
  (x:InCallC s s.heap.objs.size (bindL (envOfC qual scope s.heap.objs.size f cd).kindOf (ps.zip us) fun _=>none) (cellsFrom (s.heap.objs.size+1) scope.names []) (bindC (envOfC qual scope s.heap.objs.size f cd).kindOf (ps.zip us) fun _=>none) s1) :
  Inv (c_ CX P w K mg base N qual scope f cd A outer s H E) [] (start N vs) H s1:=by
 have hpl:ps.length<=N.length:=by have:=congrArg List.length S.pre;rw[length_take]at this;omega
 obtain⟨h1,tk,rfl,hk⟩:=x.done;have noA:∀b:Addr,b ∉(c_ CX P w K mg base N qual scope f cd A outer s H E).ex:=fun b z=>absurd (show b ∈([]:List Addr)from z) (by simp);refine ⟨⟨e0.mod,S.kind,rfl,rfl,Nat.le_refl _,fun y z c h1 h2=>?_,fun y hy=>?_,fun y c _ h=>?_,fun _=>hd,Around.frames_deeper e0.frames,.inr ⟨rfl,rfl⟩,fun b z=>absurd z (noA b),e0.bs,e0.bsz,fun b _ _=>noA b,fun b z=>absurd z (noA b),e0.funs,e0.frf⟩,
  rfl,e0.bare,Un.kept hk,⟨_,x.toInCall.ns,fun i y v h1 h2 h3=>?_⟩,fun y c h=>⟨_,x.cell y c h⟩,e0.hok.fresh (Nat.le_refl _),fun y c h=>?_,fun p hp=>absurd (show p ∈([]:List (Addr×Obj))from hp) (by simp),e0.hok.kept hk,?_⟩
 ·exact name_of_addr x.apart (PySem.mem_of_lookup h1) (PySem.mem_of_lookup h2)
 ·have hy:scope.names.lookup y=some .cell\/scope.names.lookup y=some .free:=hy;rcases hy with hy|hy
  ·exact lH hy
  ·exact absurd rfl (S.nofree _ (PySem.mem_of_lookup hy))
 ·exact Nat.le_of_lt (x.above y c (PySem.mem_of_lookup h))
 ·have hi:i<vs.length:=by
   unfold start at h2;by_cases hi:i<vs.length
   ·exact hi
   ·rw[getElem?_append_right (by simpa using hi)]at h2;rw[getElem?_replicate]at h2;split at h2<;>cases h2
  have ha:vs[i]?=some v:=by
   unfold start at h2;rw[getElem?_append_left (by simpa using hi),getElem?_map]at h2;cases e:vs[i]? with
   |none=>rw[e]at h2;cases h2
   |some a=>rw[e]at h2;cases h2;rfl
  obtain⟨u,hu,rv⟩:=r.get ha;have hp:ps[i]?=some y:=by rw[<- S.pre,List.getElem?_take_of_lt (by omega)];exact h1
  have ndP:ps.Nodup:=by rw[<- S.pre];exact S.nd.sublist (List.take_sublist _ _)
  refine⟨u,rv,?_⟩;rcases S.par y (List.mem_of_getElem? hp)with k|k
  ·exact .inl ⟨k,mX ndP hp hu k⟩
  ·obtain⟨c,e⟩:=lH (n:=s.heap.objs.size+1) k;refine .inr ⟨.inl k,c,e,?_⟩;have q:=x.cell y c e;rw[mZ ndP hp hu (by show scope.names.lookup y≠_;rw[k];decide)]at q;exact q
 ·exact .inl (e0.hok.fresh (Nat.le_of_lt (x.above y c (PySem.mem_of_lookup h))))
 ·unfold start;show _=N.length;rw[length_append,length_map,List.length_replicate];omega
def Cx.low(X:Cx)(g:Str->Bool):Cx:={X with fn:=g}
def Inv.low(I:Inv X js Y H s)(hf:∀x,X.fn x=true)(g:Str->Bool):Inv (X.low g) js Y H s:=
 ⟨⟨I.ok.mod,I.ok.kind,I.ok.glob,I.ok.blt,I.ok.above,I.ok.inj,I.ok.has,fun x c _ h=>I.ok.cab x c (hf x) h,I.ok.hd,I.ok.frames,I.ok.stk,I.ok.exf,I.ok.bs,I.ok.bsz,I.ok.noex,I.ok.exfs,I.ok.funs,I.ok.frf⟩,
  I.os,I.bare,I.base,I.loc,I.cell,I.free,fun x c h=>.inl ((I.freeC x c h).resolve_right fun q=>by rw[hf]at q;cases q.1),I.pin,I.hok,I.len⟩
def Ga(g:Str->Bool)(X:Cx)(st:List Stmt)(t:TS):Prop:=
 ∀(js:List (Addr×Obj)) (s:Shared) (Y:St) (H:Hp) (D:Ends),Inv X js Y H s->t D Y H->wpAny (model X.prog X.w) X.A (execs st X.env) (SP (X.low g) js D) X.xe s
def wQ(g:Str->Bool){CX:CXT}{P:Program}{w:World}{K:PySem.W.Frag}{mg:Str->Option Value}{base:Heap}{k:Nat}{f:Addr}{name qual:Str}{params:Arguments}{body:List Stmt}{scope:Scope}{dV kV doc pm cdv ct oc:Value}{an od:Option Addr}
  {osl:Array (Option Value)}{N ps:List Str}{sp:Sp} (lk:K.lookup f=some ⟨oc,od,.func (PySem.W.fnOf name qual params body scope dV kV doc pm an cdv ct),osl⟩) (hcd:PySem.W.codeIn K cdv qual=true) (S:dO N ps scope)
  (len:∀vs H Q E,sp vs H Q E->vs.length=ps.length)
  (hbody:∀ (A:Around) (outer:List Env) (s:Shared) (H:Hp) (vs:List V) (Q:VK) (E:XK),dw k (A.deeper (envOfC qual scope s.heap.objs.size f cdv))->sp vs H Q E ->
   ∃t,Ga g (c_ CX P w K mg base N qual scope f cdv A outer s H E) body t/\t {nx:=fun _ H'=>Q .non H',rt:=Q} (start N vs) H) :
  cU P w K mg base CX (k+1) f (PySem.W.fnOf name qual params body scope dV kV doc pm an cdv ct) ps sp:=by
 refine⟨len,fun A outer s H args us vs Q E hr e0 hb r hsp=>?_⟩;have hl:=len _ _ _ _ hsp;have KX:K.In s.heap:=e0.mod.kin.keeps fun b o e=>(e0.bs b o e).1;have lim:s.heap.NoLimit:=e0.mod.nolimit.keeps fun b o e=>(e0.bs b o e).1;have hkind:∀y∈ps.zip us,scope.names.lookup y.1=some .local \/(scope.names.lookup y.1=some .cell/\((cellsFrom (s.heap.objs.size+1) scope.names []).lookup y.1).isSome=true):=fun hz1 hy=>by
  obtain⟨n,v⟩:=hz1;rcases S.par n (of_mem_zip hy).1 with q|q
  ·exact .inl q
  ·exact .inr ⟨q,PySem.W.cellsFrom_some _ _ _ (.inl q)⟩
 refine codeAny_call_function hr.depth (KX _ _ lk) rfl S.co S.gen rfl (PySem.W.codeRec_of KX hcd) (hb _ _ _ _ ?_);refine wpAny_newFunctionEnv_cells S.kind hkind fun env he s1 x=>?_;subst he;refine⟨lim.keeps x.toInCall.keep,codeAny_func ?_⟩;obtain⟨t,ht,hq⟩:=hbody A outer s H vs Q E (hr.deeper _) hsp;have I:Inv (c_ CX P w K mg base N qual scope f cdv A outer s H E) [] (start N vs) H s1:=uu S hr.hd e0 hl r x;refine wpAny_mono (ht [] s1 (start N vs) H _ I hq) (fun fl s' hs=>?_) fun e s' hs=>hs;have fin:∀{σ':St}{H':Hp}{v:V}{u:Value},Inv ((c_ CX P w K mg base N qual scope f cdv A outer s H E).low g) [] σ' H' s'->bv v u->Q v H'->CE outer P w H s Q u s':=
  fun {σ' H' v u} J rv q=>⟨v,H',J.os,J.bare,J.base,J.hok,rv,q⟩
 cases fl with
 |ret u=>obtain⟨v,σ',H',J,rv,q⟩:=hs;exact fin J rv q
 |next=>obtain⟨σ',H',J,q⟩:=hs;exact fin (v:=V.non) (u:=Value.none) J rfl q
 |brk=>obtain⟨_,_,_,q⟩:=hs;exact False.elim q
 |cont=>obtain⟨_,_,_,q⟩:=hs;exact False.elim q
def AL{CX:CXT}{P:Program}{w:World}{K:PySem.W.Frag}{mg:Str->Option Value}{base:Heap}{k:Nat}{f:Addr}{name qual:Str}{params:Arguments}{body:List Stmt}{scope:Scope}{dV kV doc pm cdv ct oc:Value}{an od:Option Addr}
  {osl:Array (Option Value)}{N ps:List Str}{sp:Sp} (lk:K.lookup f=some ⟨oc,od,.func (PySem.W.fnOf name qual params body scope dV kV doc pm an cdv ct),osl⟩) (hcd:PySem.W.codeIn K cdv qual=true) (S:dO N ps scope)
  (len:∀vs H Q E,sp vs H Q E->vs.length=ps.length)
  (hbody:∀ (A:Around) (outer:List Env) (s:Shared) (H:Hp) (vs:List V) (Q:VK) (E:XK),dw k (A.deeper (envOfC qual scope s.heap.objs.size f cdv))->sp vs H Q E ->
   ∃t,PSs (c_ CX P w K mg base N qual scope f cdv A outer s H E) body t/\t {nx:=fun _ H'=>Q .non H',rt:=Q} (start N vs) H) :
  cU P w K mg base CX (k+1) f (PySem.W.fnOf name qual params body scope dV kV doc pm an cdv ct) ps sp:=wQ (fun _=>true) lk hcd S len hbody
end L2
namespace L2
open PySem PySem.Spec PyProof.Rows
section
variable{X:Cx}{x:Str}{p pos:Pos}{e:Expr}{es:List Expr}{t:TA}{id T:String}{r:List V->Hp->VK->Prop}
def tCB(r:List V->Hp->VK->Prop)(t:TA):TE:=fun Y H Q=>t Y H fun vs H1=>r vs H1 Q
def kQ(hc:dY X (.builtin id) r)(hg:Gl X x)(hm:X.mg x=none)(hv:bootBuiltins x=some (.builtin id))(ha:PA X (e::es) t)(hn:x≠"__name__":=by decide)(hdb:(x ==("__debug__":Str))=false:=by decide)
  (he:starEach (e::es) X.env=(false,eval e X.env)::starEach es X.env:=by rfl) (hpl:(backTo pos (starEach es X.env)).any (·.1)=false:=by rfl):PE X (.Call (.Name x p) (e::es) [] pos) (tCB r t):=by
 intro js s Y H Q I h;refine wpAny_Call_Name_kw (fE I hg hm hv ?_ hn hdb);exact PyProof.Rows.callWith_builtin1 (thn (ha pos js s Y H _ I h) fun us s1 ⟨vs,H1,I1,r1,q1⟩=>hc js s1 Y H1 vs us Q I1 r1 q1) he hpl
def jK(hc:dY X (.type T) r)(hg:Gl X x)(hm:X.mg x=none)(hv:bootBuiltins x=some (.type T))(ha:PA X (e::es) t)(hn:x≠"__name__":=by decide)(hdb:(x ==("__debug__":Str))=false:=by decide)
  (he:starEach (e::es) X.env=(false,eval e X.env)::starEach es X.env:=by rfl) (hpl:(backTo pos (starEach es X.env)).any (·.1)=false:=by rfl):PE X (.Call (.Name x p) (e::es) [] pos) (tCB r t):=by
 intro js s Y H Q I h;refine wpAny_Call_Name_kw (fE I hg hm hv ?_ hn hdb);exact PyProof.Rows.callWith_type1 (thn (ha pos js s Y H _ I h) fun us s1 ⟨vs,H1,I1,r1,q1⟩=>hc js s1 Y H1 vs us Q I1 r1 q1) he hpl
end
end L2
namespace HT
open PySem PyProof.Rows
section
variable{prog:Program}{w:World}{A:Around}{E:Value->Shared->Prop}{s:Shared}
def sIx(n d:Nat):Option Int->Nat
 |none=>d
 |some v=>if v<0 then(v+(n:Int)).toNat else min v.toNat n
def sIx_none(n d:Nat):sIx n d none=d:=rfl
def sIx_nat(n d k:Nat):sIx n d (some (k:Int))=min k n:=by show(if(k:Int)<0 then((k:Int)+(n:Int)).toNat else min (k:Int).toNat n)=min k n;rw[if_neg (by omega),toNat_natCast]
end
end HT
namespace L2
open PySem PySem.Spec PyProof.Rows
abbrev TO:=St->Hp->(Option Int->Hp->Prop)->Prop
def PO(X:Cx)(e:Option Expr)(t:TO):Prop:=
 ∀(js:List (Addr×Obj)) (s:Shared) (Y:St) (H:Hp) (Q:Option Int->Hp->Prop),Inv X js Y H s->t Y H Q ->
  wpAny (model X.prog X.w) X.A (evalPart e X.env) (fun u s'=>∃o H',Inv X js Y H' s'/\IsPart u o/\Q o H') X.xe s
def yw:TO:=fun _ H Q=>Q none H
def Er(t:TE):TO:=fun Y H Q=>t Y H fun x H1=>∃i,x=.int i/\Q (some i) H1
section
variable{X:Cx}{e:Expr}{te:TE}{lo hi:Option Expr}{tl th:TO}{pos p2:Pos}
def ze:PO X none yw:=by intro js s Y H Q I h;rw[evalPart_none];exact wpAny_pure ⟨none,H,I,.none,h⟩
def zd(h:PE X e te):PO X (some e) (Er te):=by intro js s Y H Q I hw;rw[evalPart_some];refine thn (h js s Y H _ I hw) fun u s1 hz1=>?_;obtain⟨x,H1,I1,r1,q1⟩:=hz1;obtain⟨i,rfl,q⟩:=q1;obtain⟨t,rfl⟩:=r1;exact⟨some i,H1,I1,.int i t,q⟩
def SlR(X:Cx)(r:V->Option Int->Option Int->Hp->VK->Prop):Prop:=
 ∀(js:List (Addr×Obj)) (s:Shared) (Y:St) (H:Hp) (x:V) (v vl vu:Value) (lo hi:Option Int) (sl:Addr) (Q:VK),Inv X js Y H s->bv x v->s.heap.IsSliceOf sl vl vu .none->IsPart vl lo->IsPart vu hi->r x lo hi H Q ->
  ∃T id,typeLookup (.type T) "__getitem__"=pure (some (.builtin id))/\s.TypeIs v T/\wpAny (model X.prog X.w) X.A (getItem v (.ref sl)) (EP X js Y Q) X.xe s
def tSl(r:V->Option Int->Option Int->Hp->VK->Prop)(te:TE)(tl th:TO):TE:=fun Y H Q=>te Y H fun x H1=>tl Y H1 fun l H2=>th Y H2 fun u H3=>r x l u H3 Q
def vO{r:V->Option Int->Option Int->Hp->VK->Prop}(hr:SlR X r)(he:PE X e te)(hl:PO X lo tl)(hu:PO X hi th):PE X (.Subscript e (.Slice lo hi none p2) pos) (tSl r te tl th):=by intro js s Y H Q I h;refine Subscript_ (thn (he js s Y H _ I h) fun v s1 zz=>?_);obtain⟨x,H1,I1,r1,q1⟩:=zz;refine wpAny_Slice (thn (hl js s1 Y H1 _ I1 q1) fun vl s2 ⟨l,H2,I2,pl,q2⟩=>thn (hu js s2 Y H2 _ I2 q2) fun vu s3 zz=>?_);obtain⟨u,H3,I3,pu,q3⟩:=zz;rw[evalPart_none];refine wpAny_pure ?_;have I4:Inv X js Y H3 {s3 with heap:=s3.heap.push {cls:=.type "slice",data:=.fields #[vl,vu,.none]}}:=I3.kept (t':=s3.toks) fun b ob q=>get?_push_of_some _ q;obtain⟨T,id,hT,ht,hg⟩:=hr js {s3 with heap:=s3.heap.push {cls:=.type "slice",data:=.fields #[vl,vu,.none]}} Y H3 x v vl vu l u s3.heap.objs.size Q I4 r1 (Heap.IsSliceOf.new ..) pl pu q3;show wpAny (model X.prog X.w) X.A (subscriptTail e (.Slice lo hi none p2) v (.ref s3.heap.objs.size)) (EP X js Y Q) X.xe {s3 with heap:=s3.heap.push {cls:=.type "slice",data:=.fields #[vl,vu,.none]}};exact tail_any (ops:=[.ref s3.heap.objs.size,v]) ht hT hg (by with_unfolding_all rfl)
def xr(xs:List V)(lo hi:Option Int):List V:=(xs.drop (HT.sIx xs.length 0 lo)).take (HT.sIx xs.length xs.length hi-HT.sIx xs.length 0 lo)
def pL(xs:List V)(lo hi:Option Int):(xr xs lo hi).length<=xs.length:=by unfold xr;rw[length_take,List.length_drop];omega
end
end L2
namespace L2
open PySem PySem.Spec PyProof.Rows
def ixN(n:Nat)(i:Int):Option Nat:=if 0<=i then(if i<n then some i.toNat else none)else if -(n:Int)<= i then some (i+n).toNat else none
def atI{α:Type}(xs:List α)(i:Int):Option α:=(ixN xs.length i).bind fun j=>xs[j]?
def si{n:Nat}{i:Int}{j:Nat}(h:ixN n i=some j):seqIndex? i n=some j/\j<n/\-(n:Int)<= i/\i<n:=by
 unfold ixN at h;by_cases h0:0<=i
 ·rw[if_pos h0]at h;by_cases h1:i<n
  ·rw[if_pos h1]at h;have e:i.toNat=j:=Option.some.inj h;exact⟨by rw[seqIndex_of h0 h1,e],by omega,by omega,h1⟩
  ·rw[if_neg h1]at h;cases h
 ·rw[if_neg h0]at h;by_cases h1:-(n:Int)<= i
  ·rw[if_pos h1]at h;have e:(i+n).toNat=j:=Option.some.inj h;exact⟨by rw[seqIndex_neg (by omega) h1,e],by omega,h1,by omega⟩
  ·rw[if_neg h1]at h;cases h
def oq{α:Type}{xs:List α}{i:Int}{v:α}(h:atI xs i=some v):∃j,seqIndex? i xs.length=some j/\xs[j]?=some v/\j<xs.length/\-(xs.length:Int)<= i/\i<xs.length:=by
 unfold atI at h;cases e:ixN xs.length i with
 |none=>rw[e]at h;cases h
 |some j=>rw[e]at h;obtain⟨h1,h2,h3,h4⟩:=si e;exact⟨j,h1,h,h2,h3,h4⟩
def kA(b:Expr):Prop:=∀o i,subscripted b false o i=operate [o,i] (getItem o i)
def IxR(X:Cx)(r:R2):Prop:=
 ∀(value slice:Expr) (js:List (Addr×Obj)) (s:Shared) (Y:St) (H:Hp) (x y:V) (v u:Value) (Q:VK),Inv X js Y H s->bv x v->bv y u->r x y H Q ->
  subscripted slice false v u=operate [v,u] (getItem v u)->wpAny (model X.prog X.w) X.A (subscriptTail value slice v u) (EP X js Y Q) X.xe s
def MtR(X:Cx)(id:String)(r:V->List V->Hp->VK->Prop):Prop:=
 ∀(js:List (Addr×Obj)) (s:Shared) (Y:St) (H:Hp) (x:V) (xs:List V) (v:Value) (us:List Value) (Q:VK),Inv X js Y H s->bv x v->aP xs us->r x xs H Q ->
  wpAny (model X.prog X.w) X.A (call (.builtin id) (v::us)) (EP X js Y Q) X.xe s
section
variable{X:Cx}{a b:Expr}{ta tb:TE}{pos:Pos}
def IxR.or{r r':R2}(h:IxR X r)(h':IxR X r'):IxR X (fun x y H Q=>r x y H Q\/r' x y H Q):=by
 intro value slice js s Y H x y v u Q I rx ry q hs;rcases q with q|q
 ·exact h value slice js s Y H x y v u Q I rx ry q hs
 ·exact h' value slice js s Y H x y v u Q I rx ry q hs
def EO{r:R2}(hr:IxR X r)(ha:PE X a ta)(hb:PE X b tb)(hs:kA b):PE X (.Subscript a b pos) (tOp r ta tb):=by intro js s Y H Q I h;exact Subscript_ (Dg ha hb I h fun v u s2 x y H2 I2 rx ry q=>hr a b js s2 Y H2 x y v u Q I2 rx ry q (hs _ _))
def Bv(K:PySem.W.Frag):R2:=fun x y H Q=>∃p xs i v,x=.ref p/\y=.int i/\SqL K H p xs/\atI xs i=some v/\Q v H
def Bt(K:PySem.W.Frag):R2:=fun x y H Q=>∃p xs i v,x=.ref p/\y=.int i/\SqT K H p xs/\atI xs i=some v/\Q v H
def Bu:R2:=fun x y H Q=>∃z i c,x=.str z/\y=.int i/\z.length<=sizeLine/\atI z.cps.toList i=some c/\Q (.str ⟨#[c]⟩) H
def zN:IxR X (Bv X.K):=by
 intro value slice js s Y H x y v u Q I rx ry h hs;obtain⟨p,xs,i,z,rfl,rfl,hq,he,q⟩:=h;cases rx;obtain⟨t,rfl⟩:=ry;obtain⟨its,r,pl,hz⟩:=I.list hq;obtain⟨j,h1,h2,h3,h4,h5⟩:=oq he;obtain⟨w,ew,rw'⟩:=r.get h2;have hl:=r.length;have hn:=jS;have fin:EP X js Y Q w s:=⟨z,H,I,rw',q⟩
 by_cases h0:0<=i
 ·have hj:i.toNat=j:=by rw[seqIndex_of h0 h5]at h1;exact Option.some.inj h1
  exact item_listR pl.isList h0 (by omega) (by rw[hj];simpa using ew) fin hs
 ·have hj:(i+(its.toArray.size:Int)).toNat=j:=by rw[seqIndex_neg (by omega) h4]at h1;rw[size_toArray,<- hl];exact Option.some.inj h1
  exact subscriptTail_builtinR (x:=w) pl.isList.typeIs slot_list_getitem.lookup
   (wpAny_getItem_list_neg (Q:=fun r s'=>r=w/\EP X js Y Q r s') pl.isList (by omega) (by rw[size_toArray]<;>omega) (by omega) (by rw[hj];simpa using ew) ⟨rfl,fin⟩) hs
def Ct:IxR X (Bt X.K):=by
 intro value slice js s Y H x y v u Q I rx ry h hs;obtain⟨p,xs,i,z,rfl,rfl,hq,he,q⟩:=h;cases rx;obtain⟨t,rfl⟩:=ry;obtain⟨its,r,pl,hz⟩:=I.tuple hq;obtain⟨j,h1,h2,h3,h4,h5⟩:=oq he;obtain⟨w,ew,rw'⟩:=r.get h2;have hl:=r.length;have hn:=jS;have fin:EP X js Y Q w s:=⟨z,H,I,rw',q⟩
 exact subscriptTail_builtinR (x:=w) pl.typeIs slot_tuple_getitem.lookup
  (getItem_tuple (j:=j) (Q:=fun r s'=>r=w/\EP X js Y Q r s') pl (by omega) (by omega) (by rw[size_toArray,<- hl];exact h1) (by simpa using ew) ⟨rfl,fin⟩) hs
def Cu:IxR X Bu:=by
 intro value slice js s Y H x y v u Q I rx ry h hs;obtain⟨z,i,c,rfl,rfl,hz,he,q⟩:=h;obtain⟨t,rfl⟩:=rx;obtain⟨t',rfl⟩:=ry;obtain⟨j,h1,h2,h3,h4,h5⟩:=oq he;have hl:z.cps.toList.length=z.length:=by simp[Str.length]
 rw[hl]at h1 h4 h5;have hn:=jS;exact tail_any (typeIs_str s z t) slot_str_getitem.lookup (getItem_str (c:=c) (by
  have e1:decide (i < -(2 ^ 63:Int))=false:=decide_eq_false (by omega);have e2:decide (i >= 2 ^ 63)=false:=decide_eq_false (by omega);rw[e1,e2,Bool.or_false]) (by rw[h1];simpa using h2) ⟨.str ⟨#[c]⟩,H,I.tok _,⟨_,rfl⟩,q⟩) hs
def rIx(K:PySem.W.Frag):R2:=fun x y H Q=>Bv K x y H Q\/Bt K x y H Q\/Bu x y H Q
def Cv:IxR X (rIx X.K):=zN.or (Ct.or Cu)
def qD(its:List Value)(n j:Nat)(u:Value):Obj.mapSeq (·.setIfInBounds j u) {cls:=.type "list",data:=.seq its.toArray n}={cls:=.type "list",data:=.seq (its.set j u).toArray n}:=by simp[Obj.mapSeq]
def Inv.lst{js:List (Addr×Obj)}{Y:St}{H:Hp}{s:Shared}{p:Addr}{xs:List V}(I:Inv X js Y H s)(h:H p=some (.lst xs)) :
  ∃(its:List Value) (n:Nat),aP xs its/\s.heap.get? p=some {cls:=.type "list",data:=.seq its.toArray n}/\xs.length<=sizeLine:=by
 obtain⟨z,its,n,r,e⟩:=I.hok p _ h;exact⟨its,n,r,e,z⟩
def Inv.lstUpd{js:List (Addr×Obj)}{Y:St}{H:Hp}{s:Shared}{p:Addr}{xs ys:List V}{its its':List Value}{n n':Nat}{f:Obj->Obj}(I:Inv X js Y H s)(h:H p=some (.lst xs))
  (ho:s.heap.get? p=some {cls:=.type "list",data:=.seq its.toArray n}) (hf:f {cls:=.type "list",data:=.seq its.toArray n}={cls:=.type "list",data:=.seq its'.toArray n'}) (r:aP ys its') (hz:ys.length<=sizeLine) (t:Nat) :
  Inv X js Y (upd H p (.lst ys)) {s with heap:=s.heap.update p f,toks:=t}:=by
 have e:(s.heap.update p f).get? p=some {cls:=.type "list",data:=.seq its'.toArray n'}:=by rw[Heap.get?_update_self f ho (by rw[hf]<;>rfl),hf]
 refine I.write (x:=p) (e:=p) (by rw[h];trivial) (.inl rfl) (fun b u hb q=>(get?_update_other _ _ (Ne.symm hb)).trans q) ⟨_,e⟩ ?_;exact⟨hz,its',n',r,e⟩
def EH:V->V->V->Hp->(Hp->Prop)->Prop:=fun o i v H Q=>∃p xs k j,o=.ref p/\i=.int k/\H p=some (.lst xs)/\ixN xs.length k=some j/\Q (upd H p (.lst (xs.set j v)))
def ve:Gb X EH:=by
 intro js s Y H o i v ov iv u Q I ro ri rv h;obtain⟨p,xs,k,j,rfl,rfl,hp,hj,q⟩:=h;cases ro;obtain⟨t,rfl⟩:=ri;obtain⟨its,n,r,ho,hz⟩:=I.lst hp;obtain⟨h1,h2,h3,h4⟩:=si hj;have hl:=r.length;have hn:=jS;have I':Inv X js Y (upd H p (.lst (xs.set j v))) {s with heap:=s.heap.update p (Obj.mapSeq (·.setIfInBounds j u))}:=
  I.lstUpd hp ho (qD its n j u) (r.set rv j) (by rw[length_set];exact hz) s.toks
 by_cases h0:0<=k
 ·have hk:k.toNat=j:=by rw[seqIndex_of h0 h4]at h1;exact Option.some.inj h1
  exact PySem.W.ki_setAt ho h0 (by omega) (by rw[size_toArray,<- hl];exact h4) (by rw[hk];exact⟨_,I',q⟩)
 ·have hk:(k+(its.toArray.size:Int)).toNat=j:=by rw[seqIndex_neg (by omega) h3]at h1;rw[size_toArray,<- hl];exact Option.some.inj h1
  exact PySem.W.ki_setBack ho (by omega) (by rw[size_toArray,<- hl];exact h3) (by omega) (by rw[hk];exact⟨_,I',q⟩)
def ni(lo hi:Option Int)(n:Nat):(sliceBounds lo hi none n).1=((HT.sIx n 0 lo:Nat):Int)/\(sliceBounds lo hi none n).2.1=((HT.sIx n n hi:Nat):Int)/\(sliceBounds lo hi none n).2.2=1:=by
 refine⟨?_,?_,rfl⟩
 ·cases lo with
  |none=>simp[sliceBounds,HT.sIx]
  |some i=>
   simp only[sliceBounds,HT.sIx,Option.getD_none,show(1:Int)>0 by decide,if_true];by_cases h:i<0
   ·simp only[h,if_true]<;>omega
   ·simp only[h,if_false]<;>omega
 ·cases hi with
  |none=>simp[sliceBounds,HT.sIx]
  |some i=>
   simp only[sliceBounds,HT.sIx,Option.getD_none,show(1:Int)>0 by decide,if_true];by_cases h:i<0
   ·simp only[h,if_true]<;>omega
   ·simp only[h,if_false]<;>omega
def lP(its:List Value)(lo hi:Option Int):slicePick its.toArray lo hi none=((its.drop (HT.sIx its.length 0 lo)).take (HT.sIx its.length its.length hi-HT.sIx its.length 0 lo)).toArray:=by obtain⟨h1,h2,h3⟩:=ni lo hi its.toArray.size;unfold slicePick;rw[h1,h2,h3];simp only[sliceRange_one,pick_run,size_toArray]<;>rfl
def G3(K:PySem.W.Frag):V->Option Int->Option Int->Hp->VK->Prop:=fun x lo hi H Q=>∃a xs,x=.ref a/\SqL K H a xs/\∀p,H p=none->Q (.ref p) (upd H p (.lst (xr xs lo hi)))
def yI:SlR X (G3 X.K):=by intro js s Y H x v vl vu lo hi sl Q I rx hs pl pu h;obtain⟨a,xs,rfl,hx,q⟩:=h;cases rx;obtain⟨its,r,ht,hz⟩:=I.list hx;have hlen:=r.length;refine⟨"list",_,slot_list_getitem.lookup,ht.isList.typeIs,?_⟩;refine wpAny_getItem_list_slice ht.isList hs pl pu .none (by simp) ?_ (by rw[size_toArray]<;>omega);rw[lP,<- hlen];refine⟨.ref s.heap.objs.size,_,I.laid (t':=s.toks) (o:=.lst (xr xs lo hi)) (fun b ob q=>get?_push_of_some _ q) (Nat.le_refl _) ?_,rfl,q _ (I.hok.fresh (Nat.le_refl _))⟩;exact⟨Nat.le_trans (pL xs lo hi) hz,_,0,(r.drop (HT.sIx xs.length 0 lo)).take (HT.sIx xs.length xs.length hi-HT.sIx xs.length 0 lo),get?_push_size _ rfl⟩
def oj:dY X (.builtin "len") (fun xs H Q=>∃p ys,xs=[.ref p]/\(SqL X.K H p ys\/SqT X.K H p ys)/\Q (.int ys.length) H):=by
 intro js s Y H xs us Q I r h;obtain⟨p,ys,rfl,hq,q⟩:=h;obtain⟨u,rfl,rx⟩:=dR r;cases rx;have hn:=jS;rcases hq with hq|hq
 ·obtain⟨its,r',pl,hz⟩:=I.list hq;have hlen:=r'.length;exact Calls.call_len_list pl.isList (by simp only[size_toArray]<;>omega) ⟨.int ys.length,H,I.tok _,⟨s.toks+1,by rw[size_toArray,hlen]⟩,q⟩
 ·obtain⟨its,r',pl,hz⟩:=I.tuple hq;have hlen:=r'.length;exact len_tuple pl (by simp only[size_toArray]<;>omega) ⟨.int ys.length,H,I.tok _,⟨s.toks+1,by rw[size_toArray,hlen]⟩,q⟩
def oi:dY X (.type "list") (fun xs H Q=>∃p ys,xs=[.ref p]/\(SqL X.K H p ys\/SqT X.K H p ys)/\∀l,H l=none->Q (.ref l) (upd H l (.lst ys))):=by
 intro js s Y H xs us Q I r h;obtain⟨p,ys,rfl,hq,q⟩:=h;obtain⟨u,rfl,rx⟩:=dR r;cases rx;have fin:∀(its:List Value),aP ys its->ys.length<=sizeLine->∀(h':Heap) (c':Nat),(∀b o',s.heap.get? b=some o'->h'.get? b=some o')->
   h'.get? s.heap.objs.size=some {cls:=.type "list",dict:=none,data:=.seq its.toArray c',slots:=#[]}->EP X js Y Q (.ref s.heap.objs.size) {s with heap:=h'}:=fun its r' hz h' c' kp e=>
  ⟨.ref s.heap.objs.size,_,I.laid (t':=s.toks) kp (Nat.le_refl _) (show bW X.prog X.w _ h' _ (.lst ys)from⟨hz,its,c',r',e⟩),rfl,q _ (I.hok.fresh (Nat.le_refl _))⟩
 rcases hq with hq|hq
 ·obtain⟨its,r',pl,hz⟩:=I.list hq;have hlen:=r'.length;obtain⟨o,ho,hc,n,hd⟩:=pl.isList;exact call_list_seq p (.inl rfl) ho hc hd (fun h' c' kp e=>fin its r' hz h' c' kp e) (by simp only[size_toArray]<;>omega)
 ·obtain⟨its,r',pl,hz⟩:=I.tuple hq;have hlen:=r'.length;obtain⟨o,ho,hc,n,hd⟩:=pl;exact call_list_seq p (.inr rfl) ho hc hd (fun h' c' kp e=>fin its r' hz h' c' kp e) (by simp only[size_toArray]<;>omega)
def lU:dY X (.type "tuple") (fun xs H Q=>∃p ys,xs=[.ref p]/\((SqL X.K H p ys/\∀l,H l=none->Q (.ref l) (upd H l (.tup ys)))\/(SqT X.K H p ys/\Q (.ref p) H))):=by
 intro js s Y H xs us Q I r h;obtain⟨p,ys,rfl,h⟩:=h;obtain⟨u,rfl,rx⟩:=dR r;cases rx;rcases h with⟨hq,q⟩ |⟨hq,q⟩
 ·obtain⟨its,r',pl,hz⟩:=I.list hq;have hlen:=r'.length;refine call_tuple_list pl.isList (fun h' kp=>?_) (by simp only[size_toArray]<;>omega);have I1:Inv X js Y H {s with heap:=h'}:=I.kept (t':=s.toks) kp;have I2:Inv X js Y (upd H h'.objs.size (.tup ys)) {s with heap:=h'.push {cls:=.type "tuple",data:=.seq its.toArray}}:=
   I1.laid (t':=s.toks) (fun b o e=>get?_push_of_some _ e) (Nat.le_refl _) (show bW X.prog X.w _ _ _ (.tup ys)from⟨hz,its,r',IsTup.new _ _⟩)
  exact⟨.ref h'.objs.size,_,I2,rfl,q _ (I1.hok.fresh (Nat.le_refl _))⟩
 ·obtain⟨its,r',pl,hz⟩:=I.tuple hq;exact call_tuple_same pl ⟨.ref p,H,I,rfl,q⟩
def tyV(K:PySem.W.Frag)(T:String)(x:V)(H:Hp):Prop:=match x with
 |.str _=>T="str"
 |.int _=>T="int"
 |.ref p=>(T="list" /\ ∃xs,SqL K H p xs)\/(T="tuple" /\ ∃o,K.lookup p=some o/\o.cls=.type "tuple" /\ o.dict=none)\/
   (T="dict" /\((∃kvs,H p=some (.dK kvs))\/ ∃kvs,H p=some (.dT kvs)))\/(T="set" /\ ∃S n,H p=some (.set S n))
 |_=>False
def AX{js:List (Addr×Obj)}{Y:St}{H:Hp}{s:Shared}{T:String}{x:V}{v:Value}(I:Inv X js Y H s)(r:bv x v)(ty:tyV X.K T x H) :
  s.TypeIs v T/\∀a,v=.ref a->∃ob,s.heap.get? a=some ob/\ob.dict=none:=by
 cases x with
 |str z=>obtain⟨t,rfl⟩:=r;cases(show T="str" from ty);exact⟨typeIs_str s z t,fun _ e=>nomatch e⟩
 |int i=>obtain⟨t,rfl⟩:=r;cases(show T="int" from ty);exact⟨typeIs_int s i t,fun _ e=>nomatch e⟩
 |ref p=>
  cases r;rcases ty with⟨rfl,xs,hq⟩ |⟨rfl,o,hk,hc,hd⟩ |⟨rfl,hk⟩ |⟨rfl,S,n,hk⟩
  ·obtain⟨its,_,pl,_⟩:=I.list hq;refine⟨pl.isList.typeIs,fun a e=>?_⟩;cases e;obtain⟨o,n,e,c,hd,_⟩:=pl;exact⟨o,e,hd⟩
  ·refine⟨⟨o,I.kIn p o hk,hc⟩,fun a e=>?_⟩;cases e;exact⟨o,I.kIn _ o hk,hd⟩
  ·have z:∃o,s.heap.get? p=some o/\o.ExactDict:=by
    rcases hk with⟨kvs,hk⟩ |⟨kvs,hk⟩
    ·obtain⟨_,_,_,_,o,_,_,e,ex,_⟩:=I.hok p _ hk;exact⟨o,e,ex⟩
    ·obtain⟨_,_,_,_,o,_,_,e,ex,_⟩:=I.hok p _ hk;exact⟨o,e,ex⟩
   obtain⟨o,e,ex⟩:=z;refine⟨⟨o,e,ex.1⟩,fun a e2=>?_⟩;cases e2;exact⟨o,e,ex.2.1⟩
  ·obtain⟨o,_,_,_,e,ex,_⟩:=I.hok p _ hk;refine⟨⟨o,e,ex.1⟩,fun a e2=>?_⟩;cases e2;exact⟨o,e,ex.2.1⟩
 |_=>exact False.elim ty
def tBM(K:PySem.W.Frag)(T:String)(r:V->List V->Hp->VK->Prop)(to:TE)(t:TA):TE:=fun Y H Q=>to Y H fun x H1=>tyV K T x H1/\t Y H1 fun xs H2=>r x xs H2 Q
variable{o e:Expr}{es:List Expr}{to:TE}{t:TA}{name:Str}{apos cpos:Pos}{T id:String}{r:V->List V->Hp->VK->Prop}
def rT(pa:PlainAttrs T)(slot:Slot T name id)(hty:typeOf (.builtin id)=pure (.type "method_descriptor"))(hm:MtR X id r)(ho:PE X o to)(ha:PA X (e::es) t)
  (hbase:attributeBase o name X.env (eval o X.env)=eval o X.env:=by rfl)
  (hfew:((backTo cpos (starEach (e::es) X.env)).all (fun x=>!x.1) && (backToKw cpos (keywordEach [] X.env)).all (fun x=>x.1.isSome)
   && decide ((e::es).length+([]:List Keyword).length+(if([]:List Keyword).isEmpty then 0 else 1)<30))=true:=by rfl)
  (hline:(apos.endLine==cpos.line)=true:=by rfl) (hs:starEach (e::es) X.env=(false,eval e X.env)::starEach es X.env:=by rfl) (hplain:(backTo cpos (starEach es X.env)).any (·.1)=false:=by rfl) :
  PE X (.Call (.Attribute o name apos) (e::es) [] cpos) (tBM X.K T r to t):=by
 intro js s Y H Q I h;refine wpAny_Call_method_late hbase hfew hline rfl (thn (ho js s Y H _ I h) fun v s1 zz=>?_);obtain⟨x,H1,I1,r1,ty,q1⟩:=zz;obtain⟨h1,h2⟩:=AX I1 r1 ty;refine⟨T,id,pa,slot,hty,h1,h2,?_⟩;have hA:=ha cpos js s1 Y H1 _ I1 q1;rw[hs]at hA ⊢;refine Calls.callWith_builtin (by show(false ||(backTo cpos (starEach es X.env)).any (·.1))=false;rw[hplain]<;>rfl) (Calls.evalArgs_plain ?_);exact thn hA fun us s2 ⟨vs,H2,I2,r2,q2⟩=>hm js s2 Y H2 x vs v us Q I2 r1 r2 q2
end
end L2
namespace L2
open PySem PySem.Spec PyProof.Rows
def MtM(X:Cx)(id:String)(r:V->List V->Hp->VK->Prop):Prop:=
 ∀(js:List (Addr×Obj)) (s:Shared) (Y:St) (H:Hp) (x:V) (xs:List V) (v:Value) (us:List Value) (Q:VK),Inv X js Y H s->bv x v->aP xs us->r x xs H Q ->
  wpAny (model X.prog X.w) X.A (call (.builtin id) (v::us)) (EP X js Y Q) X.xe s
def aP.one:∀{x:V}{us:List Value},aP [x] us->∃u,us=[u]/\bv x u
 |_,_,.cons r .nil=>⟨_,rfl,r⟩
def aP.eraseIdx:∀{xs:List V}{us:List Value} (i:Nat),aP xs us->aP (xs.eraseIdx i) (us.eraseIdx i)
 |_,_,_,.nil=>.nil
 |_,_,0,.cons _ t=>t
 |_,_,i+1,.cons r t=>.cons r (aP.eraseIdx i t)
def mH{α:Type}:∀(l:List α) (i:Nat),(l.eraseIdx i).length<=l.length
 | [],_=>Nat.le_refl _
 |_::_,0=>le_succ _
 |_::r,i+1=>Nat.succ_le_succ (mH r i)
section
variable{X:Cx}{js:List (Addr×Obj)}{Y:St}{H:Hp}{s:Shared}{l b:Addr}{xs ys zs:List V}
def Inv.lset{its its':List Value}{n:Nat}{f:Array Value->Array Value}{t':Nat}(I:Inv X js Y H s)(hH:H l=some (.lst xs))
  (e:s.heap.get? l=some {cls:=.type "list",data:=.seq its.toArray n}) (hf:f its.toArray=its'.toArray) (hv:aP ys its') (hz:ys.length<=sizeLine) :
  Inv X js Y (upd H l (.lst ys)) {s with heap:=s.heap.update l (Obj.mapSeq f),toks:=t'}:=by
 have q:=PySem.IsL.update e f;rw[hf]at q;refine I.write (x:=l) (e:=l) (by rw[hH];exact trivial) (.inl rfl) (fun b' u hb hu=>(get?_update_other s.heap (Obj.mapSeq f) (Ne.symm hb)).trans hu) ⟨_,q⟩ ?_;exact⟨hz,its',_,hv,q⟩
def Inv.lnew{its:List Value}{t':Nat}(I:Inv X js Y H s)(hv:aP ys its)(hz:ys.length<=sizeLine) :
  Inv X js Y (upd H s.heap.objs.size (.lst ys)) {s with heap:=s.heap.push {cls:=.type "list",data:=.seq its.toArray},toks:=t'}:=
 I.laid (fun _ _ q=>get?_push_of_some _ q) (Nat.le_refl _) ⟨hz,its,0,hv,get?_push_size _ rfl⟩
def Inv.fresh(I:Inv X js Y H s):H s.heap.objs.size=none:=I.hok.fresh (Nat.le_refl _)
def Inv.lstM(I:Inv X js Y H s)(hH:H l=some (.lst xs)):xs.length<=sizeLine/\∃(its:List Value) (n:Nat),aP xs its/\xs.length=its.length/\s.heap.get? l=some {cls:=.type "list",data:=.seq its.toArray n}:=by obtain⟨z,its,n,r,e⟩:=I.hok l _ hH;exact⟨z,its,n,r,r.length,e⟩
end
section
variable{X:Cx}
def y7:V->List V->Hp->VK->Prop:=fun x vs H Q=>∃l xs y,x=.ref l/\vs=[y]/\H l=some (.lst xs)/\xs.length<sizeLine/\Q .non (upd H l (.lst (xs++[y])))
def jO:MtM X "list.append" y7:=by intro js s Y H x vs v us Q I rx rv h;obtain⟨l,xs,y,rfl,rfl,hH,hz,q⟩:=h;cases rx;obtain⟨u,rfl,ru⟩:=rv.one;obtain⟨z,its,n,r,hl,e⟩:=I.lstM hH;refine call_meets F.slot_list_append ⟨_,e,rfl⟩ F.entry_list_append (F.args_list_append_2 _ _) (PySem.list_append l its.toArray n u (by rw[size_toArray];omega)) ⟨e,?_⟩;refine⟨.non,_,I.lset (its':=its++[u]) hH e (by simp) (r.append (.cons ru .nil)) ?_,rfl,q⟩;rw[length_append,List.length_singleton];omega
def Bs:V->List V->Hp->VK->Prop:=fun x vs H Q=>∃l xs i k y,x=.ref l/\vs=[.int i]/\H l=some (.lst xs)/\-(2 ^ 63)<= i/\i<2 ^ 63/\seqIndex? i xs.length=some k/\xs[k]?=some y/\Q y (upd H l (.lst (xs.eraseIdx k)))
def wf:MtM X "list.pop" Bs:=by
 intro js s Y H x vs v us Q I rx rv h;obtain⟨l,xs,i,k,y,rfl,rfl,hH,h1,h2,hk,hy,q⟩:=h;cases rx;obtain⟨u,rfl,ru⟩:=rv.one;obtain⟨t,rfl⟩:=ru;obtain⟨z,its,n,r,hl,e⟩:=I.lstM hH;obtain⟨w,hw,rw'⟩:=r.get hy;refine call_meets F.slot_list_pop ⟨_,e,rfl⟩ F.entry_list_pop (F.args_list_pop_2 _ _)
  (MeetsSeq.list_pop_at l its.toArray n i t k w (fitsIndex_both h1 h2) (by rw[size_toArray,<- hl];exact hk) (by rw[<- Array.getElem?_toList];exact hw) (by rw[size_toArray];omega)) ⟨e,?_⟩
 refine⟨y,_,I.lset (its':=its.eraseIdx k) hH e ?_ (r.eraseIdx k) ?_,rw',q⟩
 ·show its.toArray.eraseIdxIfInBounds k=(its.eraseIdx k).toArray;rw[List.eraseIdxIfInBounds_toArray]
 ·have:=mH xs k;omega
end
end L2
namespace Att
open PySem PySem.W PySem.Calls PyProof.Rows
def kg{P:Params}{h:Heap}:∀(ns:List Int) (vs:List Value),WellAll P h vs (ns.map WData.int)->IntsAre vs ns:=by
 intro ns
 induction ns with
 |nil=>intro vs w;rw[map_nil]at w;cases w;exact .nil
 |cons n ns ih=>
  intro vs w;rw[map_cons]at w;cases w with
  |cons a b=>cases a;exact .cons _ _ (ih _ b)
def tz{l:OpenLaw}{n:Nat}(hn:l.most=some n){P:Params}{h:Heap}{args:List WData}{vals:List Value}
  (hpre:l.row.toRowW.claim.pre args=true) (hwl:WellAll P h vals args) :
  ∃a vs ns,vals=[Value.ref a]/\args=[WData.list (ns.map WData.int)]/\h.get? a=some {cls:=.type "list",data:=.seq vs.toArray}/\IntsAre vs ns/\ns.length<=n:=by
 have hsh:WShape.hasAll [] args [.list .int]=true:=(pre_splitW hpre).1;have hc:l.pre.holds [] {args:=args}=true:=(pre_splitW hpre).2;obtain⟨d,r,rfl,h1,h2⟩:=hasAllW_cons hsh;obtain rfl:=hasAllW_nil h2;obtain⟨xs,rfl,h3⟩:=hasW_list h1;obtain⟨ns,rfl⟩:=items_int h3;have hlen:ns.length<=n:=by
  unfold OpenLaw.pre at hc;have h4:(WTm.not (.lt (.lit (.int (n:Int))) (.len (.arg 0)))).holds [] {args:=[.list (ns.map .int)]}=true:=by have h4:=(holds_andW hc).1;rw[hn]at h4;exact h4
  have h5:=condW_of h4 (w_not (w_lt w_lit (w_len_list (w_arg rfl))));rw[length_map]at h5;refine Nat.le_of_not_lt fun q=>?_;have q':(n:Int) <((ns.length:Nat):Int):=by omega
  first
   |(rw[decide_eq_true q']at h5;exact absurd h5 (by decide))
   |(simp at h5;omega)
 cases hwl with
 |cons w1 w2=>
  cases w2;cases w1 with
  |list ho hall=>exact⟨_,_,ns,rfl,rfl,ho,kg ns _ hall,hlen⟩
def tU(l:OpenLaw)(args:List WData):l.row.toRowW.claim.post args (.bool true) args=true:=
 postW_of (r:=l.row.toRowW) (X:=(true==true))
  (show WShape.has [] (.bool true) .bool=true by first|rfl|decide|simp[WShape.has,WShape.arms,WShape.armsAll])
  (show(WTm.eq .res (.lit (.bool true))).value [] {args:=args,res:=some (.bool true),after:=args}=some (.bool (true==true))from w_eq_bool (w_res rfl) w_lit) rfl
def attach_call{l:OpenLaw}{n:Nat}{q:Program}{loose:List Str}{XP:(Str->Option Value)->Heap->Prop}{YP:World->Heap->Prop}{d:DefRec}
  (hn:l.most=some n) (hdf:d.params.defaults=[])
  (call:∀ (w:World) (s₀ s₁:Shared) (mg mb:Str->Option Value) (fa:Addr) (o:Obj) (pm cd doc:Value) (a:Addr) (vs:List Value) (ns:List Int),
   Ground q loose [] XP w s₀ mg mb s₁.heap->YP w s₁.heap ->
   s₁.heap.get? fa=some o->o.data=.func (docDef d.name d.params d.body d.scope pm cd doc)->s₁.heap.CodeRec cd d.name->mg d.name=some (.ref fa)->
   s₁.heap.get? a=some {cls:=.type "list",data:=.seq vs.toArray}->IntsAre vs ns->ns.length<=n->s₁.gens=#[]->
   codeAny (model l.prog w) callerA (.call (.ref fa) ⟨[.ref a],[]⟩) (fun r s'=>r=.ok (.ret (.bool true))/\OldK s₁.heap s'.heap/\s'.os=s₁.os/\AllBare s'.gens) s₁) :
  WalkO q loose XP YP l.row.toRowW d [] (fun f vs=>PySem.call f vs):=by
 intro w s₀ s₁ mg mb G HF fa o pm cd doc dV kV ho hd hcd hD hmg hg args vals as hpre hlay hrd hwl hlo;obtain rfl:dV=.none:=Dflts.none hD hdf;obtain rfl:kV=.none:=Dflts.noKw hD;obtain⟨a,vs,ns,rfl,rfl,hobj,hints,hlen⟩:=tz hn hpre hwl;refine enter_call (codeAny_mono (call w s₀ s₁ mg mb fa o pm cd doc a vs ns G HF ho (fd_plain hd) hcd hmg hobj hints hlen hg) fun r s' hq=>?_);obtain⟨rfl,h2,h3,h4⟩:=hq;exact⟨.inl ⟨.bool true,.bool true,[],rfl,fun _=>rfl,.bool true,tU l _,fun _=>⟨Pairwise.nil,fun _ hm=>(nomatch hm)⟩⟩,h2,h3,h4⟩
end Att
namespace L2
open PySem PySem.Spec PyProof.Rows
def l6:∀{vs:List Value}{ns:List Int},IntsAre vs ns->aP (ns.map V.int) vs
 |_,_,.nil=>.nil
 |_,_,.cons n t h=>.cons ⟨t,rfl⟩ (l6 h)
end L2
namespace L2
open PySem PySem.Spec PyProof.Rows
def zR(s:Stmt)(j:Nat):Stmt:=match s with
 |.ClassDef _ _ _ body _ _ _ _ _ _ _=>body.getD j (.Pass ⟨0,0,0,0⟩)
 |_=>.Pass ⟨0,0,0,0⟩
def ef(s:Stmt):Arguments:=match s with
 |.FunctionDef _ a _ _ _ _ _ _ _ _=>a
 |_=>{posonlyargs:=[],args:=[],vararg:=none,kwonlyargs:=[],kw_defaults:=[],kwarg:=none,defaults:=[]}
def bP(s:Stmt):List Stmt:=match s with
 |.FunctionDef _ _ b _ _ _ _ _ _ _=>b
 |_=>[]
def aH(s:Stmt):Scope:=match s with
 |.FunctionDef _ _ _ _ _ _ sc _ _ _=>sc
 |_=>{kind:=.function,names:=[],isGenerator:=false,isCoroutine:=false}
structure Fun(K:PySem.W.Frag)(x qual:Str)(st:Stmt)(f:Addr)(fd:FuncData):Prop where
 ex:∃(oc:Value) (od:Option Addr) (kV doc pm:Value) (an:Option Addr) (cdv ct:Value) (osl:Array (Option Value)),
  fd=PySem.W.fnOf x qual (ef st) (bP st) (aH st) .none kV doc pm an cdv ct/\K.lookup f=some ⟨oc,od,.func fd,osl⟩/\PySem.W.codeIn K cdv qual=true
 kp:PySem.W.keepIn K (.ref f)=true
section
variable{P:Program}{w:World}{K:PySem.W.Frag}{mg:Str->Option Value}{base:Heap}
def Fun.binds{x qual:Str}{st:Stmt}{f:Addr}{fd:FuncData}{ps:List Str}(F:Fun K x qual st f fd)
  (h:∀(kV doc pm:Value) (an:Option Addr) (cdv ct:Value) (us:List Value),us.length=ps.length->bindArgs (PySem.W.fnOf x qual (ef st) (bP st) (aH st) .none kV doc pm an cdv ct) ⟨us,[]⟩=pure (ps.zip us)):fq K fd ps []:=by
 obtain⟨oc,od,kV,doc,pm,an,cdv,ct,osl,rfl,lk,hcd⟩:=F.ex;exact .all (h kV doc pm an cdv ct)
end
end L2
set_option maxHeartbeats 4000000
namespace L2
open PySem PySem.Spec PyProof.Rows
section
variable{κ:Type} [DecidableEq κ]
def kD(kvs:List (κ×V))(k:κ):Option V:=(kvs.find? fun kv=>decide (kv.1=k)).map (·.2)
def gS(kvs:List (κ×V))(k:κ)(v:V):List (κ×V):=
 if(kvs.any fun kv=>decide (kv.1=k))=true then kvs.map (fun kv=>if kv.1=k then(kv.1,v)else kv)else kvs++[(k,v)]
def kB{p:κ×V}{r:List (κ×V)}{k:κ}(e:p.1=k):kD (p::r) k=some p.2:=by simp[kD,find?_cons,e]
def kC{p:κ×V}{r:List (κ×V)}{k:κ}(e:¬p.1=k):kD (p::r) k=kD r k:=by simp[kD,find?_cons,e]
def oz(k:κ):∀kvs:List (κ×V),(kvs.any fun kv=>decide (kv.1=k))=(kD kvs k).isSome
 | []=>rfl
 |p::r=>by
  rw[any_cons];by_cases e:p.1=k
  ·simp only[kB e,decide_eq_true e,Bool.true_or,Option.isSome_some]
  ·rw[kC e,decide_eq_false e,Bool.false_or];exact oz k r
def kc(kvs:List (κ×V))(k:κ)(v:V):(gS kvs k v).length<=kvs.length+1:=by
 unfold gS;split
 ·rw[length_map];omega
 ·rw[length_append,length_cons,List.length_nil];omega
def putK_new{kvs:List (κ×V)}{k:κ}(v:V)(h:kD kvs k=none):gS kvs k v=kvs++[(k,v)]:=by unfold gS;rw[oz,h];exact if_neg (by decide)
def KV.val{kvs:List (κ×V)}{vs:List (κ×Value)}(r:KV kvs vs)(k:κ):ki (kD kvs k) (valueAt vs k):=by
 unfold KV at r
 induction r with
 |nil=>exact True.intro
 | @cons p q ps qs h t ih=>
  obtain⟨h1,h2⟩:=h;by_cases e:p.1=k
  ·have e':q.1=k:=h1.symm.trans e;have b:valueAt (q::qs) k=some q.2:=by simp[valueAt,find?_cons,e']
   rw[kB e,b];exact h2
  ·have e':¬q.1=k:=fun z=>e (h1.trans z);have b:valueAt (q::qs) k=valueAt qs k:=by simp[valueAt,find?_cons,e']
   rw[kC e,b];exact ih
def KV.any{kvs:List (κ×V)}{vs:List (κ×Value)}(r:KV kvs vs)(k:κ):(kvs.any fun kv=>decide (kv.1=k))=vs.any fun kv=>decide (kv.1=k):=by
 unfold KV at r
 induction r with
 |nil=>rfl
 |cons h t ih=>rw[any_cons,any_cons,ih,h.1]
def KV.repl{kvs:List (κ×V)}{vs:List (κ×Value)}(r:KV kvs vs)(k:κ){y:V}{u:Value}(ry:bv y u) :
  KV (kvs.map fun kv=>if kv.1=k then(kv.1,y)else kv) (vs.map fun kv=>if kv.1=k then(kv.1,u)else kv):=by
 unfold KV at r ⊢
 induction r with
 |nil=>exact .nil
 | @cons p q ps qs h t ih=>
  rw[map_cons,map_cons];refine .cons ?_ ih;obtain⟨h1,h2⟩:=h;by_cases e:p.1=k
  ·rw[if_pos e,if_pos (h1.symm.trans e)];exact⟨h1,ry⟩
  ·rw[if_neg e,if_neg (fun z=>e (h1.trans z))];exact⟨h1,h2⟩
def KV.put{kvs:List (κ×V)}{vs:List (κ×Value)}(r:KV kvs vs)(k:κ){y:V}{u:Value}(ry:bv y u):KV (gS kvs k y) (stored vs k u):=by
 unfold gS stored;rw[r.any k];by_cases e:(vs.any fun kv=>decide (kv.1=k))=true
 ·rw[if_pos e,if_pos e];exact r.repl k ry
 ·rw[if_neg e,if_neg e];exact Paired.snoc r ⟨rfl,ry⟩
def KV.length{kvs:List (κ×V)}{vs:List (κ×Value)}(r:KV kvs vs):kvs.length=vs.length:=Paired.length r
end
def wD{P:Program}{w:World}{k:Key}{u:Value}(r:bv (kV k) u):(dL P w).is k u=true:=by
 cases k with
 |inl i=>obtain⟨t,e⟩:=(show ∃t,u=Value.int i t from r);subst e;exact o8 P w i t
 |inr x=>obtain⟨t,e⟩:=(show ∃t,u=Value.str x t from r);subst e;exact o7 P w x t
section
variable{P:Program}{w:World}{H:Hp}{h:Heap}{a:Addr}
def EG{u:HO}(ok:HOk P w H h)(e:Rd H a u):bW P w H h a u:=e.ok ok
def FY{kvs:List (Key×V)}(ok:HOk P w H h)(e:Rd H a (.dK kvs)):kvs.length<=sizeLine/\(a==sysModules)=false/\∃vs,KV kvs vs/\h.DictOf (dL P w) a vs:=
 show bW P w H h a (.dK kvs)from EG ok e
def FZ{kvs:List (Key×V)}(ok:HOk P w H h)(e:H a=some (.dK kvs)):kvs.length<=sizeLine/\(a==sysModules)=false/\∃vs,KV kvs vs/\h.DictOf (dL P w) a vs:=FY ok (.inl e)
end
section
variable{X:Cx}{js:List (Addr×Obj)}{Y:St}{H:Hp}{s:Shared}{a:Addr}{y v:V}{u r:Value}{o:Option V}{A:Around}{E:Value->Shared->Prop}
def Inv.big(I:Inv X js Y H s):sysModules<s.heap.objs.size:=by have h:mainGlobals<s.heap.objs.size:=(I.mod.glob.keeps I.bk).lt;exact Nat.lt_trans (by decide) h
def Aj{h':Heap}{t':Nat}{ob:HO}(I:Inv X js Y H s)(mu:Mut (H a))(hs:SameBut a s.heap h')(he:∃q,h'.get? a=some q)(new:bW X.prog X.w (upd H a ob) h' a ob) :
  Inv X js Y (upd H a ob) {s with heap:=h',toks:=t'}:=
 I.write (x:=a) (e:=a) mu (.inl rfl) (fun b q hb z=>(hs.2 b hb).trans z) he new
def C6{P:Program}{w:World}{H':Hp}{h':Heap}{kvs:List (Key×V)}{vs:List (Key×Value)}(z:kvs.length<=sizeLine)(hd:(a==sysModules)=false)(rel:KV kvs vs)(dd:h'.DictOf (dL P w) a vs) :
  bW P w H' h' a (.dK kvs):=⟨z,hd,vs,rel,dd⟩
end
def DM(i:Expr):Prop:=∀ov iv,subscripted i false ov iv=operate [ov,iv] (getItem ov iv)
def yA{prog:Program}{w:World}{A:Around}{E:Value->Shared->Prop}{s:Shared}{env:Env}{value slice:Expr}{pos:Pos}{T id:String}{Q:Value->Shared->Prop}
  (hl:typeLookup (.type T) "__getitem__"=pure (some (.builtin id))) (hs:DM slice)
  (h:wpAny (model prog w) A (eval value env) (fun o s₁=>wpAny (model prog w) A (eval slice env) (fun i s₂=>s₂.TypeIs o T/\wpAny (model prog w) A (getItem o i) Q E s₂) E s₁) E s) :
  wpAny (model prog w) A (eval (.Subscript value slice pos) env) Q E s:=by
 refine Subscript_ (wpAny_mono h (fun o s₁ h₁=>wpAny_mono h₁ (fun i s₂ h₂=>?_) fun _ _ x=>x) fun _ _ x=>x);obtain⟨hT,h₂⟩:=h₂;unfold subscriptTail;refine wpAny_bind ?_;rw[getitemInPython_of_ne hT.not_modules];refine wpAny_bind (wpAny_specialOf hT hl ?_);have fin:wpAny (model prog w) A (subscripted slice false o i) (fun r s₃=>wpAny (model prog w) A (letTemporaryGo value o r >>= fun _=>pure r) Q E s₃) E s₂:=by rw[hs o i];exact wpAny_operating (wpAny_mono h₂ (fun r s₃ h₃=>wpAny_bind (wpAny_letTemporaryGo (wpAny_pure h₃))) fun _ _ x=>x)
 first
  |exact wpAny_pure (wpAny_bind fin)
  |exact wpAny_bind (wpAny_pure (wpAny_bind fin))
  |exact wpAny_bind fin
def xq{P:Program}{w:World}{H:Hp}(h:Heap)(hb:sysModules<h.objs.size):bW P w H (h.push {cls:=.type "dict",data:=.dict #[]}) h.objs.size (.dK []):=
 ⟨zero_le _,beq_eq_false_iff_ne.mpr (Ne.symm (Nat.ne_of_lt hb)),[],.nil,Heap.DictOf.new h⟩
def m8:List (TE×TE)->St->Hp->(List (V×V)->Hp->Prop)->Prop
 | [],_,H,Q=>Q [] H
 |(tk,tv)::r,Y,H,Q=>tk Y H fun x H1=>tv Y H1 fun y H2=>m8 r Y H2 fun ps H3=>Q ((x,y)::ps) H3
abbrev VV:List (V×V)->List (Value×Value)->Prop:=Paired fun p q=>bv p.1 q.1/\bv p.2 q.2
def PPs(X:Cx)(pos:Pos)(keys:List (Option Expr))(values:List Expr)(trs:List (TE×TE)):Prop:=
 ∀(js:List (Addr×Obj)) (s:Shared) (Y:St) (H:Hp) (Q:List (V×V)->Hp->Prop),Inv X js Y H s->m8 trs Y H Q ->
  wpAny (model X.prog X.w) X.A (evalPairs (pairTrees keys values X.env pos)) (fun vs s'=>∃ps H',Inv X js Y H' s'/\VV ps vs/\Q ps H') X.xe s
def zc{X:Cx}{pos:Pos}:PPs X pos [] [] []:=fun js s Y H Q I h=>pairTrees_nil_walk ⟨[],H,I,.nil,h⟩
def gU{X:Cx}{pos:Pos}{k v:Expr}{ks:List (Option Expr)}{vs:List Expr}{tk tv:TE}{trs:List (TE×TE)}(hk:PE X k tk)(hv:PE X v tv)(hr:PPs X pos ks vs trs) :
  PPs X pos (some k::ks) (v::vs) ((tk,tv)::trs):=fun js s Y H Q I h=>
 pairTrees_cons_walk (thn (hk js s Y H _ I h) fun u s1 ⟨x,H1,I1,rx,q1⟩=>thn (hv js s1 Y H1 _ I1 q1) fun w2 s2 ⟨y,H2,I2,ry,q2⟩=>
  thn (hr js s2 Y H2 _ I2 q2) fun ws s3 ⟨ps,H3,I3,rel,q3⟩=>⟨(x,y)::ps,H3,I3,.cons ⟨rx,ry⟩ rel,q3⟩)
def g7(kvs more:List (Key×V)):List (Key×V):=more.foldl (fun acc kv=>gS acc kv.1 kv.2) kvs
def KV.merge:∀{more:List (Key×V)}{rs:List (Key×Value)}{kvs:List (Key×V)}{vs:List (Key×Value)},KV more rs->KV kvs vs->KV (g7 kvs more) (merged vs rs):=by
 intro more rs kvs vs r;unfold KV at r
 induction r generalizing kvs vs with
 |nil=>intro q;exact q
 | @cons p q ps qs h t ih=>
  intro r0;have e:KV (gS kvs p.1 p.2) (stored vs q.1 q.2):=by have:=r0.put p.1 h.2;rw[<- h.1];exact this
  exact ih e
def iG:∀(more kvs:List (Key×V)),(g7 kvs more).length<=kvs.length+more.length
 | [],kvs=>by show kvs.length<=kvs.length+0;omega
 |p::r,kvs=>by have h1:=iG r (gS kvs p.1 p.2);have h2:=kc kvs p.1 p.2;show(g7 (gS kvs p.1 p.2) r).length<=_;rw[length_cons];omega
def lI{P:Program}{w:World}:∀{kvs:List (Key×V)}{ws:List (Value×Value)},VV (kvs.map fun kv=>(kV kv.1,kv.2)) ws->∃rs,Carries (dL P w) ws rs/\KV kvs rs
 | [],_,r=>by rw[map_nil]at r;cases r;exact⟨[],True.intro,.nil⟩
 |p::kvs,_,r=>by
  rw[map_cons]at r;cases r with
  | @cons a b as bs h t=>obtain⟨rs,c,q⟩:=lI (P:=P) (w:=w) t;obtain⟨b1,b2⟩:=b;exact⟨(p.1,b2)::rs,⟨wD h.1,rfl,c⟩,.cons ⟨rfl,h.2⟩ q⟩
def Ev(trs:List (TE×TE)):TE:=fun Y H Q=>∀p,H p=none->m8 trs Y (upd H p (.dK [])) fun ps H2=>H2 p=some (.dK [])/\∃kvs:List (Key×V),ps=kvs.map (fun kv=>(kV kv.1,kv.2))/\kvs.length<=15/\Q (.ref p) (upd H2 p (.dK (g7 [] kvs)))
def zl{X:Cx}{pos:Pos}{keys:List (Option Expr)}{values:List Expr}{trs:List (TE×TE)}(h:PPs X pos keys values trs)(hall:keys.all (·.isSome)=true)(hl:keys.length=values.length)(h0:keys≠[])
  (h15:keys.length<=15):PE X (.Dict keys values pos) (Ev trs):=by
 intro js s Y H Q I q;have hn:=I.hok.fresh (Nat.le_refl s.heap.objs.size);have I1:=I.laid (a:=s.heap.objs.size) (o:=.dK []) (h':=s.heap.push {cls:=.type "dict",data:=.dict #[]}) (t':=s.toks) (fun _ _ q=>get?_push_of_some _ q) (Nat.le_refl _) (xq s.heap I.big);refine wpAny_Dict_walk (knd:=dL X.prog X.w) hall hl h0 h15 (thn (h js _ Y _ _ I1 (q _ hn)) fun ws s2 zz=>?_);obtain⟨ps,H2,I2,rel,e,kvs,ep,lk,q2⟩:=zz;subst ep;obtain⟨rs,c,rk⟩:=lI (P:=X.prog) (w:=X.w) rel;obtain⟨z,hd,vs0,r0,dd⟩:=FZ I2.hok e;cases r0;refine⟨rs,c,dd,fun h' dd' hs=>⟨.ref s.heap.objs.size,_,?_,rfl,q2⟩⟩;have hz:(g7 [] kvs).length<=sizeLine:=by have h1:=iG kvs [];rw[List.length_nil]at h1;rw[sizeLine_eq];omega
 have he:∃q,h'.get? s.heap.objs.size=some q:=let⟨q,_,_,hq,_⟩:=dd';⟨q,hq⟩
 exact Aj I2 (by rw[e];exact True.intro) hs he (C6 hz hd (rk.merge .nil) dd')
end L2
namespace PR
open PySem
inductive Fl where
 |own|frz|bor|lnt|mod
 deriving DecidableEq
inductive PV where
 |non
 |bl (b:Bool)
 |int (i:Int)
 |str (x:Str)
 |lst (f:Fl) (xs:List PV)
 |tup (xs:List PV)
 |obj (f:Fl) (c:Nat) (ks:List Nat) (vs:List PV)
 |exc (c:Nat)
 |box (k:Nat) (xs:List PV)
mutual
def PV.mapF(g:Fl->Fl):PV->PV
 |.non=>.non
 |.bl b=>.bl b
 |.int i=>.int i
 |.str x=>.str x
 |.lst f xs=>.lst (g f) (mapL g xs)
 |.tup xs=>.tup (mapL g xs)
 |.obj f c ks vs=>.obj (g f) c ks (mapL g vs)
 |.exc c=>.exc c
 |.box k xs=>.box k (mapL g xs)
def mapL(g:Fl->Fl):List PV->List PV
 | []=>[]
 |x::xs=>x.mapF g::mapL g xs
end
mutual
def PV.has(p:Fl->Bool):PV->Bool
 |.non|.bl _|.int _|.str _=>false
 |.lst f xs=>p f||hasL p xs
 |.tup xs=>hasL p xs
 |.obj f _ _ vs=>p f||hasL p vs
 |.exc _=>false
 |.box _ xs=>hasL p xs
def hasL(p:Fl->Bool):List PV->Bool
 | []=>false
 |x::xs=>x.has p||hasL p xs
end
def Fl.isLnt:Fl->Bool
 |.lnt=>true
 |_=>false
def Fl.isBor:Fl->Bool
 |.bor=>true
 |_=>false
def Fl.lend:Fl->Fl
 |.own=>.lnt
 |f=>f
def Fl.freeze:Fl->Fl
 |.own=>.frz
 |f=>f
def Fl.toBor:Fl->Fl
 |.lnt=>.bor
 |f=>f
inductive Res(α:Type) where
 |ok (a:α)
 |exc (c:Nat)
 |stuck
noncomputable def Res.bind{α β:Type}:Res α->(α->Res β)->Res β
 |.ok a,k=>k a
 |.exc c,_=>.exc c
 |.stuck,_=>.stuck
@[simp] def Res.ok_bind{α β:Type}(a:α)(k:α->Res β):(Res.ok a).bind k=k a:=by simp only[Res.bind]
@[simp] def Res.exc_bind{α β:Type}(c:Nat)(k:α->Res β):(Res.exc c:Res α).bind k=.exc c:=rfl
@[simp] def Res.stuck_bind{α β:Type}(k:α->Res β):(Res.stuck:Res α).bind k=.stuck:=rfl
abbrev En:=List (Option PV)
abbrev ME:=En->Res PV
abbrev MT:=En->Res Bool
abbrev MA:=En->Res (List PV)
inductive Out where
 |next (e:En)
 |ret (v:PV)
 |brk (e:En)
 |cont (e:En)
 |exc (c:Nat) (e:En)
 |stuck
abbrev MS:=En->Out
def mC(v:PV):ME:=fun _=>.ok v
def aa(i:Nat):ME:=fun env=>match env[i]? with
 |some (some v)=>.ok (v.mapF Fl.lend)
 |_=>.stuck
def am:MA:=fun _=>.ok []
def ae(a:ME)(r:MA):MA:=fun env=>(a env).bind fun x=>(r env).bind fun xs=>.ok (x::xs)
def mUn(f:PV->Res PV)(a:ME):ME:=fun env=>(a env).bind f
def mOp(f:PV->PV->Res PV)(a b:ME):ME:=fun env=>(a env).bind fun x=>(b env).bind fun y=>f x y
def j5(g:Int->Int->PV):PV->PV->Res PV
 |.int i,.int j=>.ok (g i j)
 |_,_=>.stuck
def eZ(C:Int->Int->Bool)(g:Int->Int->PV):PV->PV->Res PV
 |.int i,.int j=>if C i j then .ok (g i j)else .stuck
 |_,_=>.stuck
def nE:PV->Res Bool
 |.non=>.ok false
 |.bl b=>.ok b
 |.int i=>.ok (i != 0)
 |.lst _ xs|.tup xs=>.ok (!xs.isEmpty)
 |_=>.stuck
def aC(a:ME):MT:=fun env=>(a env).bind fun
 |.bl b=>.ok b
 |_=>.stuck
def eH(a:ME):MT:=fun env=>(a env).bind nE
def mG(a:MT):MT:=fun env=>(a env).bind fun b=>.ok (!b)
def jo(a b:MT):MT:=fun env=>(a env).bind fun x=>if x then b env else .ok false
def g8(a b:MT):MT:=fun env=>(a env).bind fun x=>if x then .ok true else b env
def wy(c:MT)(a b:ME):ME:=fun env=>(c env).bind fun x=>if x then a env else b env
def aZ:MS:=.next
def aw(a b:MS):MS:=fun env=>match a env with
 |.next e=>b e
 |o=>o
def mBr(c:MT)(a b:MS):MS:=fun env=>match c env with
 |.ok true=>a env
 |.ok false=>b env
 |.exc k=>.exc k env
 |.stuck=>.stuck
def PV.noLnt(v:PV):Bool:=!v.has Fl.isLnt
def cR(env:List (Option PV)):Bool:=match env[0]? with
 |some (some (PV.obj _ _ _ _))=>true
 |_=>false
def aS(i:Nat)(env:En):Bool:=if i=0 then !cR env else true
def aV(i:Nat)(e:ME):MS:=fun env=>match e env with
 |.ok v=>if v.noLnt&&aS i env then .next (env.set i (some v))else .stuck
 |.exc k=>.exc k env
 |.stuck=>.stuck
def bL(e:ME):MS:=fun env=>match e env with
 |.ok v=>if v.noLnt then .ret v else .stuck
 |.exc k=>.exc k env
 |.stuck=>.stuck
def eQ(i:Nat):MS:=fun env=>match env[i]? with
 |some (some v)=>.ret v
 |_=>.stuck
def g_(e:ME):MS:=fun env=>match e env with
 |.ok _=>.next env
 |.exc k=>.exc k env
 |.stuck=>.stuck
def fD(i:Nat):MS:=fun env=>match env[i]? with
 |some (some v)=>.next (env.set i (some (v.mapF Fl.freeze)))
 |_=>.stuck
def lS(body:PV->MS):List PV->En->Out
 | [],env=>.next env
 |x::xs,env=>match body x env with
  |.next e|.cont e=>lS body xs e
  |.brk e=>.next e
  |o=>o
end PR
namespace PR
open PySem PySem.Spec L2
structure Tb where
 K:PySem.W.Frag
 nc:Nat
 cls:Nat->Addr
 att:Nat->Str
 inj:∀i j,att i=att j->i=j
 xcl:Nat->Addr
 dk:Nat->List Str:=fun _=>[]
 bx:Nat->Hp->Addr->List V->Prop:=fun k H a vs=>∃o,H a=some (.frz o (.dK (((dk k).map Sum.inr).zip vs)))/\(dk k).length=vs.length
 bxs:∀k (H H':Hp) a vs,(∀b o u,H b=some (.frz o u)->H' b=some (.frz o u))->bx k H a vs->bx k H' a vs:=by exact fun _ _ _ _ _ h ⟨o,q,l⟩=>⟨o,h _ _ _ q,l⟩
 tb:Addr->Option (Array Value):=fun _=>none
def Hw(C a:Addr):HO:=.ext fun h=>∃o,h.get? a=some o/\o.cls=.ref C
def KL(K:PySem.W.Frag)(a:Addr)(xs:List V):Prop:=∃(o:Obj) (its:Array Value) (n:Nat),K.lookup a=some o/\o.cls=.type "list" /\ o.dict=none/\o.data=.seq its n/\its.size<=sizeLine/\aP xs its.toList
def p3:Fl->Addr->List Addr->List Addr->Prop
 |.own,a,fp',fp=>fp=a::fp'
 |_,_,fp',fp=>fp'=[]/\fp=[]
def DP(F B L:Addr->Prop):Fl->Addr->Prop
 |.own,_=>True
 |.frz,a=>F a
 |.bor,a=>B a
 |.lnt,a=>L a
 |.mod,_=>False
def lN(T:Tb)(F B L:Addr->Prop)(H:Hp):Fl->Addr->List V->Prop
 |.own,a,vs=>H a=some (.lst vs)
 |.lnt,a,vs=>L a/\H a=some (.lst vs)
 |.frz,a,vs=>F a/\Rd H a (.lst vs)
 |.bor,a,vs=>B a/\Rd H a (.lst vs)
 |.mod,a,vs=>KL T.K a vs
def lN.sq(h:lN T F B L H f a vs):SqL T.K H a vs:=by
 cases f with
 |own=>exact SqL.of h
 |lnt=>exact SqL.of h.2
 |frz|bor=>exact .inl h.2
 |mod=>exact .inr h
mutual
def Rel(T:Tb)(F B L:Addr->Prop)(H:Hp):PV->V->List Addr->Prop
 |.non,v,fp=>v=.non/\fp=[]
 |.bl b,v,fp=>v=.bl b/\fp=[]
 |.int i,v,fp=>v=.int i/\fp=[]
 |.str x,v,fp=>v=.str x/\fp=[]
 |.lst f xs,v,fp=>∃a vs fp',v=.ref a/\lN T F B L H f a vs/\RelL T F B L H xs vs fp'/\p3 f a fp' fp
 |.tup xs,v,fp=>∃a vs,v=.ref a/\SqT T.K H a vs/\RelL T F B L H xs vs fp
 |.obj f c ks xs,v,fp=>∃a dx vs fp',v=.ref a/\H a=some (.ins (T.cls c) dx ((ks.map T.att).zip vs))/\(ks.length=xs.length/\c<T.nc)/\RelL T F B L H xs vs fp'/\p3 f a fp' fp/\DP F B L f a
 |.exc c,v,fp=>∃a,v=.ref a/\H a=some (Hw (T.xcl c) a)/\fp=[]
 |.box k xs,v,fp=>∃a vs,v=.ref a/\T.bx k H a vs/\RelL T F B L H xs vs fp
def RelL(T:Tb)(F B L:Addr->Prop)(H:Hp):List PV->List V->List Addr->Prop
 | [],vs,fp=>vs=[]/\fp=[]
 |x::xs,vs,fp=>∃v ws f1 f2,vs=v::ws/\Rel T F B L H x v f1/\RelL T F B L H xs ws f2/\fp=f1++f2
end
def fP:HO->Prop
 |.tup _|.frz _ _|.ext _=>True
 |_=>False
section
variable{T:Tb}{F F' B B' L L':Addr->Prop}{H H':Hp}
def Rd.tr(h:∀o,H a=some o->H' a=some o)(q:Rd H a u):Rd H' a u:=by
 rcases q with q |⟨o,q⟩
 ·exact .inl (h _ q)
 ·exact .inr ⟨o,h _ q⟩
def SqT.tr(h:∀o,H a=some o->fP o->H' a=some o)(q:SqT K H a vs):SqT K H' a vs:=by
 rcases q with(q |⟨o,q⟩)|q
 ·exact .inl (.inl (h _ q True.intro))
 ·exact .inl (.inr ⟨o,h _ q True.intro⟩)
 ·exact .inr q
def RelL.length:∀{xs:List PV}{vs:List V}{fp:List Addr},RelL T F B L H xs vs fp->xs.length=vs.length
 | [],_,_,h=>by unfold RelL at h;rw[h.1];rfl
 |x::xs,_,_,h=>by unfold RelL at h;obtain⟨v,ws,f1,f2,rfl,_,h2,_⟩:=h;simp[RelL.length h2]
def p3.all{P:Addr->Prop}(h:p3 f a fp' fp)(hp:∀b∈fp,P b):(f=.own->P a)/\∀b∈fp',P b:=by
 cases f with
 |own=>
  obtain rfl:fp=a::fp':=h
  grind
 |_=>exact⟨fun z=>(nomatch z),by rw[h.1];exact fun _ z=>nomatch z⟩
structure Mp(T:Tb)(g:Fl->Fl)(p:Fl->Bool)(E:List Addr->List Addr)(C F B L:Addr->Prop)(H:Hp)(F' B' L':Addr->Prop)(H':Hp):Prop where
 hl:∀f a vs,p f=false->(f=.own->C a)->lN T F B L H f a vs->lN T F' B' L' H' (g f) a vs
 hb:∀f a,p f=false->(f=.own->C a)->DP F B L f a->DP F' B' L' (g f) a/\∀o,H a=some o->H' a=some o
 hf:∀f a x y,p3 f a x y->p3 (g f) a (E x) (E y)
 he:E []=[]
 ha:∀x y,E (x++y)=E x++E y
 hx:∀a o,H a=some o->fP o->H' a=some o
mutual
def Mp.rel(M:Mp T g p E C F B L H F' B' L' H') :
  ∀{x:PV}{v:V}{fp:List Addr},x.has p=false->(∀a∈fp,C a)->Rel T F B L H x v fp->Rel T F' B' L' H' (x.mapF g) v (E fp)
 |.non,_,_,_,_,h|.bl _,_,_,_,_,h|.int _,_,_,_,_,h|.str _,_,_,_,_,h=>by unfold Rel at h;simp only[PV.mapF];unfold Rel;exact⟨h.1,by rw[h.2,M.he]⟩
 |.lst f xs,_,fp,hp,hc,h=>by unfold Rel at h;obtain⟨a,vs,fp',e,h1,h2,h3⟩:=h;simp only[PV.has,or_eq_false_iff]at hp;obtain⟨c1,c2⟩:=h3.all hc;simp only[PV.mapF];unfold Rel;exact⟨a,vs,E fp',e,M.hl f a vs hp.1 c1 h1,Mp.rels M hp.2 c2 h2,M.hf f a fp' fp h3⟩
 |.tup xs,_,fp,hp,hc,h=>by unfold Rel at h;obtain⟨a,vs,e,h1,h2⟩:=h;simp only[PV.mapF];unfold Rel;exact⟨a,vs,e,SqT.tr (fun o q z=>M.hx a o q z) h1,Mp.rels M hp hc h2⟩
 |.obj f c ks xs,_,fp,hp,hc,h=>by unfold Rel at h;obtain⟨a,dx,vs,fp',e,h1,hk,h2,h3,h4⟩:=h;simp only[PV.has,or_eq_false_iff]at hp;obtain⟨c1,c2⟩:=h3.all hc;obtain⟨q1,q2⟩:=M.hb f a hp.1 c1 h4;simp only[PV.mapF];unfold Rel;have r:=Mp.rels M hp.2 c2 h2;exact⟨a,dx,vs,E fp',e,q2 _ h1,⟨by rw[r.length,hk.1,h2.length],hk.2⟩,r,M.hf f a fp' fp h3,q1⟩
 |.exc c,_,fp,_,_,h=>by unfold Rel at h;obtain⟨a,e,h1,rfl⟩:=h;simp only[PV.mapF];unfold Rel;exact⟨a,e,M.hx a _ h1 True.intro,M.he⟩
 |.box k xs,_,fp,hp,hc,h=>by unfold Rel at h;obtain⟨a,vs,e,h1,h2⟩:=h;simp only[PV.mapF];unfold Rel;exact⟨a,vs,e,T.bxs k H H' a vs (fun b o u q=>M.hx b _ q True.intro) h1,Mp.rels M hp hc h2⟩
def Mp.rels(M:Mp T g p E C F B L H F' B' L' H') :
  ∀{xs:List PV}{vs:List V}{fp:List Addr},hasL p xs=false->(∀a∈fp,C a)->RelL T F B L H xs vs fp->RelL T F' B' L' H' (mapL g xs) vs (E fp)
 | [],_,_,_,_,h=>by unfold RelL at h;simp only[mapL];unfold RelL;exact⟨h.1,by rw[h.2,M.he]⟩
 |x::xs,_,fp,hp,hc,h=>by unfold RelL at h;obtain⟨v,ws,f1,f2,e,h1,h2,rfl⟩:=h;simp only[hasL,or_eq_false_iff]at hp;simp only[mapL];unfold RelL;exact⟨v,ws,E f1,E f2,e,Mp.rel M hp.1 (fun b hb=>hc b (mem_append_left _ hb)) h1,Mp.rels M hp.2 (fun b hb=>hc b (mem_append_right _ hb)) h2,M.ha f1 f2⟩
end
mutual
def kq:∀x:PV,x.mapF (fun f=>f)=x
 |.non|.bl _|.int _|.str _|.exc _=>rfl
 |.lst f xs|.tup xs|.obj f c ks xs|.box k xs=>by simp only[PV.mapF,mapL_id xs]
def mapL_id:∀xs:List PV,mapL (fun f=>f) xs=xs
 | []=>rfl
 |x::xs=>by simp only[mapL,kq x,mapL_id xs]
end
mutual
def lx:∀x:PV,x.has (fun _=>false)=false
 |.non|.bl _|.int _|.str _|.exc _=>rfl
 |.lst f xs=>by simp only[PV.has,has_noL xs,Bool.or_false]
 |.tup xs=>by simp only[PV.has,has_noL xs]
 |.obj f c ks xs=>by simp only[PV.has,has_noL xs,Bool.or_false]
 |.box k xs=>by simp only[PV.has,has_noL xs]
def has_noL:∀xs:List PV,hasL (fun _=>false) xs=false
 | []=>rfl
 |x::xs=>by simp only[hasL,lx x,has_noL xs,Bool.or_false]
end
def AH(hF:∀a,F a->F' a)(hB:∀a,B a->B' a)(hL:∀a,L a->L' a)(hx:∀a o,H a=some o->(F a\/B a\/L a\/fP o)->H' a=some o):Mp T (fun f=>f) (fun _=>false) (fun x=>x) (fun a=>∀o,H a=some o->H' a=some o) F B L H F' B' L' H':=
 ⟨fun f a vs _ c h=>by
  cases f with
  |own=>exact c rfl _ h
  |frz=>exact⟨hF a h.1,Rd.tr (fun o q=>hx a o q (.inl h.1)) h.2⟩
  |bor=>exact⟨hB a h.1,Rd.tr (fun o q=>hx a o q (.inr (.inl h.1))) h.2⟩
  |lnt=>exact⟨hL a h.1,hx a _ h.2 (.inr (.inr (.inl h.1)))⟩
  |mod=>exact h,fun f a _ c h=>by
  cases f with
  |own=>exact⟨True.intro,c rfl⟩
  |frz=>exact⟨hF a h,fun o q=>hx a o q (.inl h)⟩
  |bor=>exact⟨hB a h,fun o q=>hx a o q (.inr (.inl h))⟩
  |lnt=>exact⟨hL a h,fun o q=>hx a o q (.inr (.inr (.inl h)))⟩
  |mod=>exact h.elim,fun _ _ _ _ h=>h,rfl,fun _ _=>rfl,fun a o q z=>hx a o q (.inr (.inr (.inr z)))⟩
def Rel.tr(hF:∀a,F a->F' a)(hB:∀a,B a->B' a)(hL:∀a,L a->L' a)(hx:∀a o,H a=some o->(F a\/B a\/L a\/fP o)->H' a=some o)(hp:∀a∈fp,∀o,H a=some o->H' a=some o)(h:Rel T F B L H x v fp):Rel T F' B' L' H' x v fp:=by
 have:=(AH hF hB hL hx).rel (lx x) hp h
 rwa [kq]at this
def RelL.tr(hF:∀a,F a->F' a)(hB:∀a,B a->B' a)(hL:∀a,L a->L' a)(hx:∀a o,H a=some o->(F a\/B a\/L a\/fP o)->H' a=some o)(hp:∀a∈fp,∀o,H a=some o->H' a=some o)(h:RelL T F B L H x v fp):RelL T F' B' L' H' x v fp:=by
 have:=(AH hF hB hL hx).rels (has_noL x) hp h
 rwa [mapL_id]at this
def Ext(H H':Hp):Prop:=∀a o,H a=some o->H' a=some o
def Ext.refl:Ext H H:=fun _ _ h=>h
def Ext.trans(a:Ext H H1)(b:Ext H1 H2):Ext H H2:=fun c o h=>b c o (a c o h)
def Ext.upd(h:H a=none):Ext H (L2.upd H a o):=fun b u e=>by rw[aF (bu e h)];exact e
def Ext.free(x:Ext H H')(h:H' a=none):H a=none:=by
 cases e:H a with
 |none=>rfl
 |some o=>rw[x a o e]at h;cases h
def Rel.ext(e:Ext H H')(hF:∀a,F a->F' a)(h:Rel T F B L H x v fp):Rel T F' B L H' x v fp:=
 Rel.tr hF (fun _ h=>h) (fun _ h=>h) (fun a o q _=>e a o q) (fun a _ o q=>e a o q) h
def RelL.ext(e:Ext H H')(hF:∀a,F a->F' a)(h:RelL T F B L H xs vs fp):RelL T F' B L H' xs vs fp:=
 RelL.tr hF (fun _ h=>h) (fun _ h=>h) (fun a o q _=>e a o q) (fun a _ o q=>e a o q) h
def Chg:HO->Prop
 |.lst _|.ins _ _ _=>True
 |_=>False
mutual
def Rel.chg:∀{x:PV}{v:V}{fp:List Addr},Rel T F B L H x v fp->∀a∈fp,∃o,H a=some o/\Chg o
 |.non,_,_,h|.bl _,_,_,h|.int _,_,_,h|.str _,_,_,h=>by unfold Rel at h;rw[h.2];exact fun _ z=>nomatch z
 |.lst f xs,_,fp,h=>by
  unfold Rel at h;obtain⟨a,vs,fp',e,hl,hr,hf⟩:=h;cases f with
  |own=>
   obtain rfl:fp=a::fp':=hf;intro b hb;rcases mem_cons.mp hb with rfl|hb
   ·exact⟨_,hl,True.intro⟩
   ·exact RelL.chg hr b hb
  |frz|bor|lnt|mod=>obtain⟨rfl,rfl⟩:=hf;exact fun _ z=>nomatch z
 |.tup xs,_,fp,h=>by unfold Rel at h;obtain⟨a,vs,e,hl,hr⟩:=h;exact RelL.chg hr
 |.obj f c ks xs,_,fp,h=>by
  unfold Rel at h;obtain⟨a,dx,vs,fp',e,hl,hk,hr,hf,ha⟩:=h;cases f with
  |own=>
   obtain rfl:fp=a::fp':=hf;intro b hb;rcases mem_cons.mp hb with rfl|hb
   ·exact⟨_,hl,True.intro⟩
   ·exact RelL.chg hr b hb
  |frz|bor|lnt|mod=>obtain⟨rfl,rfl⟩:=hf;exact fun _ z=>nomatch z
 |.exc c,_,fp,h=>by unfold Rel at h;obtain⟨a,e,hl,rfl⟩:=h;exact fun _ z=>nomatch z
 |.box k xs,_,fp,h=>by unfold Rel at h;obtain⟨a,vs,e,hl,hr⟩:=h;exact RelL.chg hr
def RelL.chg:∀{xs:List PV}{vs:List V}{fp:List Addr},RelL T F B L H xs vs fp->∀a∈fp,∃o,H a=some o/\Chg o
 | [],_,_,h=>by unfold RelL at h;rw[h.2];exact fun _ z=>nomatch z
 |x::xs,_,_,h=>by
  unfold RelL at h;obtain⟨v,ws,f1,f2,_,h1,h2,rfl⟩:=h;intro b hb;rcases mem_append.mp hb with hb|hb
  ·exact Rel.chg h1 b hb
  ·exact RelL.chg h2 b hb
end
def Rel.there(h:Rel T F B L H x v fp)(a:Addr)(ha:a∈fp):∃o,H a=some o:=let⟨o,q,_⟩:=h.chg a ha;⟨o,q⟩
def RelL.there(h:RelL T F B L H xs vs fp)(a:Addr)(ha:a∈fp):∃o,H a=some o:=let⟨o,q,_⟩:=h.chg a ha;⟨o,q⟩
def zD:Mp T Fl.lend (fun _=>false) (fun _=>[]) L F B L H F B L H:=
 ⟨fun f a vs _ c h=>by
  cases f with
  |own=>exact⟨c rfl,h⟩
  | _=>exact h,fun f a _ c h=>⟨by
  cases f with
  |own=>exact c rfl
  |_=>exact h,fun _ q=>q⟩,fun f a x y h=>by cases f<;>exact⟨rfl,rfl⟩,rfl,fun _ _=>rfl,fun _ _ q _=>q⟩
def Rel.lend(hp:∀a∈fp,L a)(h:Rel T F B L H x v fp):Rel T F B L H (x.mapF Fl.lend) v []:=zD.rel (lx x) hp h
end
end PR
namespace L2
open PySem PySem.Spec
def PE.wk(h:PE X e t)(w:∀Y H Q,t' Y H Q->t Y H Q):PE X e t':=fun js s Y H Q I q=>h js s Y H Q I (w Y H Q q)
def PA.wk(h:PA X e t)(w:∀Y H Q,t' Y H Q->t Y H Q):PA X e t':=fun pos js s Y H Q I q=>h pos js s Y H Q I (w Y H Q q)
def PT.wk(h:PT X e t)(w:∀Y H Q,t' Y H Q->t Y H Q):PT X e t':=fun js s Y H Q I q=>h js s Y H Q I (w Y H Q q)
def PW.wk(h:PW X e t)(w:∀Y H Q,t' Y H Q->t Y H Q):PW X e t':=fun wh js s Y H Q I q=>h wh js s Y H Q I (w Y H Q q)
def PS.wk(h:PS X e t)(w:∀D Y H,t' D Y H->t D Y H):PS X e t':=fun js s Y H D I q=>h js s Y H D I (w D Y H q)
def PSs.wk(h:PSs X e t)(w:∀D Y H,t' D Y H->t D Y H):PSs X e t':=fun js s Y H D I q=>h js s Y H D I (w D Y H q)
end L2
namespace PR
open PySem PySem.Spec L2
structure Zn where
 H0:Hp
 F0:Addr->Prop
 fp0:Addr->Prop
 B:Addr->Prop
 pin:Option V:=none
abbrev NoL:Addr->Prop:=fun _=>False
def Au(T:Tb)(H:Hp)(f:Addr->Prop):Prop:=∀a ps,T.tb a=some ps->H a=some (.tbl ps)/\¬f a
structure bY(T:Tb)(Z:Zn)(F:Addr->Prop)(H:Hp):Prop where
 bo:(∀a,Z.B a->(∃o,Z.H0 a=some o)/\¬Z.fp0 a)/\Au T Z.H0 Z.fp0
 keep:∀a o,Z.H0 a=some o->¬Z.fp0 a->H a=some o
 f0:∀a,Z.F0 a->F a
 fn:∀a,F a->Z.F0 a\/Z.H0 a=none\/Z.fp0 a
 ft:∀a,F a->∃o,H a=some o
structure aA(T:Tb)(Z:Zn)(F:Addr->Prop)(H:Hp)(Y:St)(env:En)(fp:Nat->List Addr):Prop where
 hp:bY T Z F H
 len:Y.length=env.length
 rel:∀(i:Nat) (pv:PV),env[i]?=some (some pv)->∃v,Y[i]?=some (some v)/\Rel T F Z.B NoL H pv v (fp i)
 nd:∀i,(fp i).Nodup
 dj:∀i j,i≠j->∀a∈fp i,a∉fp j
 dis:∀i,∀a∈fp i,¬F a/\∃o,H a=some o
 new:∀i,∀a∈fp i,Z.H0 a=none\/Z.fp0 a
 ch:∀i,∀a∈fp i,∃o,H a=some o/\Chg o
 pn:∀v,Z.pin=some v->Y[0]?=some (some v)/\cR env=true
def Own(fp:Nat->List Addr):Addr->Prop:=fun a=>∃i,a∈fp i
structure Gr(F:Addr->Prop)(H:Hp)(F':Addr->Prop)(H':Hp):Prop where
 ext:Ext H H'
 mono:∀a,F a->F' a
 only:∀a,F' a->F a\/H a=none
 dom:∀a,F' a->∃o,H' a=some o
def Gr.refl(h:∀a,F a->∃o,H a=some o):Gr F H F H:=⟨Ext.refl,fun _ h=>h,fun _ h=>.inl h,h⟩
def Gr.trans(a:Gr F H F1 H1)(b:Gr F1 H1 F2 H2):Gr F H F2 H2:=
 ⟨a.ext.trans b.ext,fun c h=>b.mono c (a.mono c h),fun c h=>(b.only c h).elim (a.only c) fun z=>.inr (a.ext.free z),b.dom⟩
def Gr.same(h:∀a,F a->∃o,H a=some o)(e:Ext H H'):Gr F H F H':=⟨e,fun _ h=>h,fun _ h=>.inl h,fun a q=>let⟨o,z⟩:=h a q;⟨o,e a o z⟩⟩
section
variable{T:Tb}{Z:Zn}{F F':Addr->Prop}{H H':Hp}{Y:St}{env:En}{fp:Nat->List Addr}
def bY.tb(S:bY T Z F H)(h:T.tb a=some ps):H a=some (.tbl ps):=let⟨h1,h2⟩:=S.bo.2 a ps h;S.keep a _ h1 h2
def aA.tbo(S:aA T Z F H Y env fp)(e:Ext H H')(hn:∀ a,f a->H a=none \/ Own fp a):Au T H' f:=fun a ps h=>⟨e a _ (S.hp.tb h),fun z=>by
 have q:=S.hp.tb h;rcases hn a z with n |⟨i,hi⟩
 ·rw[q]at n;cases n
 ·obtain⟨o,h1,h2⟩:=S.ch i a hi;rw[q]at h1;cases h1;exact h2⟩
def bY.grow(S:bY T Z F H)(g:Gr F H F' H'):bY T Z F' H':=
 ⟨S.bo,fun a o h n=>g.ext a o (S.keep a o h n),fun a h=>g.mono a (S.f0 a h),fun a h=>by
  rcases g.only a h with z|z
  ·exact S.fn a z
  ·refine .inr ?_;by_cases q:Z.fp0 a
   ·exact .inr q
   ·refine .inl ?_;cases w:Z.H0 a with
    |none=>rfl
    |some o=>rw[S.keep a o w q]at z;exact(nomatch z),g.dom⟩
def aA.grow(S:aA T Z F H Y env fp)(g:Gr F H F' H'):aA T Z F' H' Y env fp:=
 ⟨S.hp.grow g,S.len,fun i pv h=>let ⟨v,q1,q2⟩:=S.rel i pv h;⟨v,q1,q2.ext g.ext g.mono⟩,S.nd,S.dj,fun i a h=>by
  obtain⟨n,o,q⟩:=S.dis i a h;refine⟨fun z=>?_,o,g.ext a o q⟩;rcases g.only a z with z|z
  ·exact n z
  ·rw[q]at z;exact(nomatch z),S.new,fun i a h=>let⟨o,q,c⟩:=S.ch i a h;⟨o,g.ext a o q,c⟩,S.pn⟩
end
def GE(T:Tb)(W:Nat->St->Hp->Prop)(B F L:Addr->Prop)(Y:St)(H:Hp)(Q:VK):Res PV->Prop
 |.ok pv=>∀v H' F' f,Gr F H F' H'->Rel T F' B L H' pv v f->(∀a∈f,¬F' a)->f.Nodup->(∀a∈f,H a=none)->Q v H'
 |.exc c=>∀H',Ext H H'->W c Y H'
 |.stuck=>False
def GA(T:Tb)(W:Nat->St->Hp->Prop)(B F L:Addr->Prop)(Y:St)(H:Hp)(Q:List V->Hp->Prop):Res (List PV)->Prop
 |.ok pvs=>∀vs H' F' f,Gr F H F' H'->RelL T F' B L H' pvs vs f->(∀a∈f,¬F' a)->f.Nodup->(∀a∈f,H a=none)->Q vs H'
 |.exc c=>∀H',Ext H H'->W c Y H'
 |.stuck=>False
def GT(W:Nat->St->Hp->Prop)(F:Addr->Prop)(Y:St)(H:Hp)(Q:Bool->Hp->Prop):Res Bool->Prop
 |.ok b=>∀H' F',Gr F H F' H'->Q b H'
 |.exc c=>∀H',Ext H H'->W c Y H'
 |.stuck=>False
def tE(T:Tb)(W:Nat->St->Hp->Prop)(m:ME):TE:=fun Y H Q=>∃Z F env fp,aA T Z F H Y env fp/\GE T W Z.B F (Own fp) Y H Q (m env)
def tA(T:Tb)(W:Nat->St->Hp->Prop)(m:MA):TA:=fun Y H Q=>∃Z F env fp,aA T Z F H Y env fp/\GA T W Z.B F (Own fp) Y H Q (m env)
def tT(T:Tb)(W:Nat->St->Hp->Prop)(m:MT):TT:=fun Y H Q=>∃Z F env fp,aA T Z F H Y env fp/\GT W F Y H Q (m env)
abbrev SE(X:Cx)(T:Tb)(W:Nat->St->Hp->Prop)(e:Expr)(m:ME):Prop:=PE X e (tE T W m)
abbrev SA(X:Cx)(T:Tb)(W:Nat->St->Hp->Prop)(es:List Expr)(m:MA):Prop:=PA X es (tA T W m)
abbrev ST(X:Cx)(T:Tb)(W:Nat->St->Hp->Prop)(e:Expr)(m:MT):Prop:=PT X e (tT T W m)
section
variable{X:Cx}{T:Tb}{W:Nat->St->Hp->Prop}{Z:Zn}{F F' B L:Addr->Prop}{H H':Hp}{Y:St}{env:En}{fp:Nat->List Addr}
def GE.scal{Q:VK}{pv:PV}{v:V}(q:GE T W B F L Y H Q (.ok pv))(g:Gr F H F' H')(r:Rel T F' B L H' pv v []):Q v H':=
 q v H' F' [] g r (fun _ z=>(nomatch z)) nodup_nil (fun _ z=>(nomatch z))
def kJ{v:V}{pv:PV}(h:PE X e (tC v))(r:∀F B L H,Rel T F B L H pv v []):SE X T W e (mC pv):=PE.wk h fun Y H Q ⟨Z,F,env,fp,S,q⟩=>q.scal (Gr.refl S.hp.ft) (r _ _ _ _)
def ak{i j pos}:SE X T W (.Constant (.int i) j pos) (mC (.int i)):=kJ vQ fun _ _ _ _=>by unfold Rel;exact⟨rfl,rfl⟩
def j3{b j pos}:SE X T W (.Constant (.bool b) j pos) (mC (.bl b)):=kJ EQ fun _ _ _ _=>by unfold Rel;exact⟨rfl,rfl⟩
def nu{j pos}:SE X T W (.Constant .none j pos) (mC .non):=kJ vP fun _ _ _ _=>by unfold Rel;exact⟨rfl,rfl⟩
def aX{x j pos}:SE X T W (.Constant (.str x) j pos) (mC (.str x)):=kJ gb fun _ _ _ _=>by unfold Rel;exact⟨rfl,rfl⟩
def A6(hN:X.N[i]?=some x)(hv:Vis X.env.scope x)(hd:(x ==("__debug__":Str))=false:=by decide)(hcd:(x ==("__classdict__":Str))=false:=by decide):SE X T W (.Name x pos) (aa i):=
 PE.wk (dG hN hv hd hcd) fun Y H Q hz1=>by
  obtain⟨Z,F,env,fp,S,q⟩:=hz1;unfold aa at q;split at q
  ·rename_i pv e
   obtain⟨v,e1,r⟩:=S.rel i pv e;refine⟨v,e1,q.scal (Gr.refl S.hp.ft) ?_⟩;exact Rel.lend (fun a h=>⟨i,h⟩) (Rel.tr (fun _ h=>h) (fun _ h=>h) (fun _ h=>h.elim) (fun a o q _=>q) (fun a _ o q=>q) r)
  ·exact q.elim
def tE.bind(S:aA T Z F H Y env fp)(hx:∀c,m env=.exc c->∀H',Ext H H'->W c Y H')(hs:m env≠.stuck)
  (k:∀pv v H' F' f,m env=.ok pv->Gr F H F' H'->Rel T F' Z.B (Own fp) H' pv v f->(∀a∈f,¬F' a)->f.Nodup->(∀a∈f,H a=none)->Q v H'):tE T W m Y H Q:=by
 refine⟨Z,F,env,fp,S,?_⟩;cases e:m env with
 |ok pv=>exact fun v H' F' f g r h1 h2 h3=>k pv v H' F' f e g r h1 h2 h3
 |exc c=>exact hx c e
 |stuck=>exact hs e
def tA.bind(S:aA T Z F H Y env fp)(hx:∀c,m env=.exc c->∀H',Ext H H'->W c Y H')(hs:m env≠.stuck)
  (k:∀pvs vs H' F' f,m env=.ok pvs->Gr F H F' H'->RelL T F' Z.B (Own fp) H' pvs vs f->(∀a∈f,¬F' a)->f.Nodup->(∀a∈f,H a=none)->Q vs H'):tA T W m Y H Q:=by
 refine⟨Z,F,env,fp,S,?_⟩;cases e:m env with
 |ok pv=>exact fun v H' F' f g r h1 h2 h3=>k pv v H' F' f e g r h1 h2 h3
 |exc c=>exact hx c e
 |stuck=>exact hs e
def tT.bind(S:aA T Z F H Y env fp)(hx:∀c,m env=.exc c->∀H',Ext H H'->W c Y H')(hs:m env≠.stuck)
  (k:∀b H' F',m env=.ok b->Gr F H F' H'->Q b H'):tT T W m Y H Q:=by
 refine⟨Z,F,env,fp,S,?_⟩;cases e:m env with
 |ok pv=>exact fun H' F' g=>k pv H' F' e g
 |exc c=>exact hx c e
 |stuck=>exact hs e
def ag:SA X T W [] am:=PA.wk gd fun Y H Q ⟨Z,F,env,fp,S,q⟩=>q [] H F [] (Gr.refl S.hp.ft) (by unfold RelL;exact⟨rfl,rfl⟩) (fun _ z=>(nomatch z)) nodup_nil (fun _ z=>(nomatch z))
def ac(ha:SE X T W e m)(hr:SA X T W es ms)(hs:starEach (e::es) X.env=(false,eval e X.env)::starEach es X.env:=by rfl):SA X T W (e::es) (ae m ms):=
 PA.wk (da ha hr hs) fun Y H Q hz1=>by
  obtain⟨Z,F,env,fp,S,q⟩:=hz1;unfold ae at q;refine tE.bind S (fun c e=>by rw[e]at q;exact q) (fun e=>by rw[e]at q;exact q) fun x v H1 F1 f1 e1 g1 r1 n1 d1 w1=>?_;rw[e1]at q;simp only[Res.ok_bind]at q;refine tA.bind (S.grow g1) (fun c e=>by rw[e]at q;exact fun H' x=>q H' (g1.ext.trans x)) (fun e=>by rw[e]at q;exact q) fun xs vs H2 F2 f2 e2 g2 r2 n2 d2 w2=>?_;rw[e2]at q;simp only[Res.ok_bind]at q;have new1:∀a∈f1,¬F2 a:=fun a ha z=>by
   rcases g2.only a z with z|z
   ·exact n1 a ha z
   ·obtain⟨o,ho⟩:=r1.there a ha;rw[ho]at z;cases z
  refine q (v::vs) H2 F2 (f1++f2) (g1.trans g2) (by unfold RelL;exact⟨v,vs,f1,f2,rfl,r1.ext g2.ext g2.mono,r2,rfl⟩) (fun a ha=>?_) ?_ (fun a ha=>?_)
  ·rcases mem_append.mp ha with ha|ha
   ·exact new1 a ha
   ·exact n2 a ha
  ·refine nodup_append.mpr ⟨d1,d2,fun a ha b hb z=>?_⟩;subst z;obtain⟨o,ho⟩:=r1.there a ha;rw[w2 a hb]at ho;cases ho
  ·rcases mem_append.mp ha with ha|ha
   ·exact w1 a ha
   ·exact g1.ext.free (w2 a ha)
def au(f:List PV->Res PV)(ms:MA):ME:=fun env=>(ms env).bind f
def Mir(T:Tb)(W:Nat->St->Hp->Prop)(f:List PV->Res PV)(r:List V->Hp->VK->Prop):Prop:=
 ∀(B F L:Addr->Prop) (Y:St) (H:Hp) (Q:VK) (F':Addr->Prop) (H':Hp) (xs:List PV) (vs:List V) (fx:List Addr),Gr F H F' H'->RelL T F' B L H' xs vs fx->(∀a∈fx,¬F' a)->fx.Nodup->(∀a∈fx,H a=none)->
  GE T W B F L Y H Q (f xs)->r vs H' Q
def tA.mir(hm:Mir T W f r)(h:tE T W (au f ms) Y H Q):tA T W ms Y H fun vs H1=>r vs H1 Q:=by obtain⟨Z,F,env,fp,S,q⟩:=h;unfold au at q;refine tA.bind S (fun c e=>by rw[e]at q;exact q) (fun e=>by rw[e]at q;exact q) fun xs vs H1 F1 f1 e1 g1 r1 n1 d1 w1=>?_;rw[e1]at q;exact hm Z.B F (Own fp) Y H Q F1 H1 xs vs f1 g1 r1 n1 d1 w1 q
def eW{id:String}{x:Str}{es:List Expr}{f:List PV->Res PV}{r:List V->Hp->VK->Prop}(hc:dY X (.builtin id) r)(hmir:Mir T W f r)(hg:Gl X x)(hm:X.mg x=none)(hv:bootBuiltins x=some (.builtin id))(ha:SA X T W (e::es) ms)
  (hn:x≠"__name__":=by decide) (hdb:(x ==("__debug__":Str))=false:=by decide)
  (he:starEach (e::es) X.env=(false,eval e X.env)::starEach es X.env:=by rfl) (hpl:(backTo pos (starEach es X.env)).any (·.1)=false:=by rfl):SE X T W (.Call (.Name x p) (e::es) [] pos) (au f ms):=
 PE.wk (kQ hc hg hm hv ha hn hdb he hpl) fun Y H Q h=>tA.mir hmir h
def jH{id:String}{x:Str}{es:List Expr}{f:List PV->Res PV}{r:List V->Hp->VK->Prop}(hc:dY X (.type id) r)(hmir:Mir T W f r)(hg:Gl X x)(hm:X.mg x=none)(hv:bootBuiltins x=some (.type id))(ha:SA X T W (e::es) ms)
  (hn:x≠"__name__":=by decide) (hdb:(x ==("__debug__":Str))=false:=by decide)
  (he:starEach (e::es) X.env=(false,eval e X.env)::starEach es X.env:=by rfl) (hpl:(backTo pos (starEach es X.env)).any (·.1)=false:=by rfl):SE X T W (.Call (.Name x p) (e::es) [] pos) (au f ms):=
 PE.wk (jK hc hg hm hv ha hn hdb he hpl) fun Y H Q h=>tA.mir hmir h
def kj(T:Tb)(W:Nat->St->Hp->Prop)(f:PV->PV->Res PV)(r:R2):Prop:=
 ∀(B F L:Addr->Prop) (Y:St) (H:Hp) (Q:VK) (F':Addr->Prop) (H':Hp) (x y:PV) (v u:V) (fx fy:List Addr),Gr F H F' H'->Rel T F' B L H' x v fx->Rel T F' B L H' y u fy->(∀a∈fx++fy,¬F' a)->(fx++fy).Nodup->(∀a∈fx++fy,H a=none)->
  GE T W B F L Y H Q (f x y)->r v u H' Q
def tE.mir2(hm:kj T W f r)(h:tE T W (mOp f ma mb) Y H Q):tOp r (tE T W ma) (tE T W mb) Y H Q:=by
 obtain⟨Z,F,env,fp,S,q⟩:=h;unfold mOp at q;refine tE.bind S (fun c e=>by rw[e]at q;exact q) (fun e=>by rw[e]at q;exact q) fun x v H1 F1 f1 e1 g1 r1 n1 d1 w1=>?_;rw[e1]at q;simp only[Res.ok_bind]at q;refine tE.bind (S.grow g1) (fun c e=>by rw[e]at q;exact fun H' x=>q H' (g1.ext.trans x)) (fun e=>by rw[e]at q;exact q) fun y u H2 F2 f2 e2 g2 r2 n2 d2 w2=>?_;rw[e2]at q;simp only[Res.ok_bind]at q;have new1:∀a∈f1,¬F2 a:=fun a ha z=>by
  rcases g2.only a z with z|z
  ·exact n1 a ha z
  ·obtain⟨o,ho⟩:=r1.there a ha;rw[ho]at z;cases z
 refine hm Z.B F (Own fp) Y H Q F2 H2 x y v u f1 f2 (g1.trans g2) (r1.ext g2.ext g2.mono) r2 (fun a ha=>?_) ?_ (fun a ha=>?_) q
 ·rcases mem_append.mp ha with ha|ha
  ·exact new1 a ha
  ·exact n2 a ha
 ·refine nodup_append.mpr ⟨d1,d2,fun a ha b hb z=>?_⟩;subst z;obtain⟨o,ho⟩:=r1.there a ha;rw[w2 a hb]at ho;cases ho
 ·rcases mem_append.mp ha with ha|ha
  ·exact w1 a ha
  ·exact g1.ext.free (w2 a ha)
def j2(ho:OpR X (binaryOp op) r)(hm:kj T W f r)(ha:SE X T W a ma)(hb:SE X T W b mb):SE X T W (.BinOp a op b pos) (mOp f ma mb):=
 PE.wk (EN (pos:=pos) ho ha hb) fun Y H Q h=>tE.mir2 hm h
def ql(ho:OpR X (compareOp op) r)(hm:kj T W f r)(ha:SE X T W a ma)(hb:SE X T W b mb)(hk:behindInMarks op b=false):SE X T W (.Compare a [op] [b] pos) (mOp f ma mb):=
 PE.wk (zm (pos:=pos) ho ha hb hk) fun Y H Q h=>tE.mir2 hm h
def Ez(hr:IxR X r)(hm:kj T W f r)(ha:SE X T W a ma)(hb:SE X T W b mb)(hs:kA b):SE X T W (.Subscript a b pos) (mOp f ma mb):=
 PE.wk (EO (pos:=pos) hr ha hb hs) fun Y H Q h=>tE.mir2 hm h
def k8(hg:∀i j F B L H,Rel T F B L H (g' i j) (g i j) []):kj T W (j5 g') (rI0 g):=by
  intro B F L Y H Q F' H' x y v u fx fy gr rx ry _ _ _ q;cases x<;>cases y<;>first
    |exact q.elim
    | (unfold Rel at rx ry
       exact⟨_,_,rx.1,ry.1,q.scal gr (hg _ _ _ _ _ _)⟩)
def o_(hc:∀i j,C' i j=true->C i j)(hg:∀i j F B L H,Rel T F B L H (g' i j) (g i j) []):kj T W (eZ C' g') (rI C g):=by
  intro B F L Y H Q F' H' x y v u fx fy gr rx ry _ _ _ q;cases x<;>cases y<;>first
    |exact q.elim
    | (unfold Rel at rx ry
       simp only[eZ]at q;split at q
       . rename_i hh
         exact⟨_,_,rx.1,ry.1,hc _ _ hh,q.scal gr (hg _ _ _ _ _ _)⟩
       . exact q.elim)
def dP:Rel T F B L H (.int i) (.int i) []:=by unfold Rel;exact⟨rfl,rfl⟩
def lQ:Rel T F B L H (.bl i) (.bl i) []:=by unfold Rel;exact⟨rfl,rfl⟩
def Br:Rel T F B L H .non .non []:=by unfold Rel;exact⟨rfl,rfl⟩
def fB:PV->PV->Res PV:=j5 fun i j=>.int (i-j)
def gK:PV->PV->Res PV:=eZ (fun i j=>decide ((-(2 ^ 64)<i/\i<2 ^ 64)\/(-(2 ^ 64)<j/\j<2 ^ 64))) fun i j=>.int (i*j)
def dI:PV->PV->Res PV:=eZ (fun _ j=>decide (0<j)) fun i j=>.int (i%j)
def fM:PV->PV->Res PV:=eZ (fun _ j=>decide (0<j/\j<1073741824)) fun i j=>.int (i / j)
def t7:PV->PV->Res PV:=eZ (fun i j=>decide (0<=j/\j<=1000000/\i.natAbs<2 ^ 64)) fun i j=>.int (i ^ j.toNat)
def pLt:PV->PV->Res PV:=j5 fun i j=>.bl (decide (i<j))
def pGt:PV->PV->Res PV:=j5 fun i j=>.bl (decide (j<i))
def pGe:PV->PV->Res PV:=j5 fun i j=>.bl (decide (j<=i))
variable{a b:Expr}{ma mb:ME}{pos:Pos}
def cV(ha:SE X T W a ma)(hb:SE X T W b mb):SE X T W (.BinOp a .Sub b pos) (mOp fB ma mb):=j2 BM (k8 fun _ _ _ _ _ _=>dP) ha hb
def iJ(ha:SE X T W a ma)(hb:SE X T W b mb):SE X T W (.BinOp a .Mult b pos) (mOp gK ma mb):=j2 BP (o_ (fun i j h=>(by simpa using h:(-(2 ^ 64)<i/\i<2 ^ 64)\/(-(2 ^ 64)<j/\j<2 ^ 64))) fun _ _ _ _ _ _=>dP) ha hb
def cI(ha:SE X T W a ma)(hb:SE X T W b mb):SE X T W (.BinOp a .Mod b pos) (mOp dI ma mb):=j2 BQ (o_ (fun _ _ h=>of_decide_eq_true h) fun _ _ _ _ _ _=>dP) ha hb
def f7(ha:SE X T W a ma)(hb:SE X T W b mb):SE X T W (.BinOp a .FloorDiv b pos) (mOp fM ma mb):=j2 zu (o_ (fun i j h=>(by simpa using h:0<j/\j<1073741824)) fun _ _ _ _ _ _=>dP) ha hb
def qk(ha:SE X T W a ma)(hb:SE X T W b mb):SE X T W (.BinOp a .Pow b pos) (mOp t7 ma mb):=j2 BO (o_ (fun i j h=>(by simpa using h:0<=j/\j<=1000000/\i.natAbs<2 ^ 64)) fun _ _ _ _ _ _=>dP) ha hb
end
def GS(T:Tb)(W:Nat->St->Hp->Prop)(Z:Zn)(D:Ends):Out->Prop
 |.next e=>∀F H Y fp,aA T Z F H Y e fp->D.nx Y H
 |.ret pv=>∀F H v f,bY T Z F H->Rel T F Z.B NoL H pv v f->f.Nodup->(∀a∈f,¬F a)->(∀a∈f,Z.H0 a=none\/Z.fp0 a)->D.rt v H
 |.brk e=>∀F H Y fp,aA T Z F H Y e fp->D.bk Y H
 |.cont e=>∀F H Y fp,aA T Z F H Y e fp->D.ct Y H
 |.exc c e=>∀F H Y fp,aA T Z F H Y e fp->W c Y H
 |.stuck=>False
def tS(T:Tb)(W:Nat->St->Hp->Prop)(m:MS):TS:=fun D Y H=>∃Z F env fp,aA T Z F H Y env fp/\GS T W Z D (m env)
abbrev SS(X:Cx)(T:Tb)(W:Nat->St->Hp->Prop)(st:Stmt)(m:MS):Prop:=PS X st (tS T W m)
abbrev SSs(X:Cx)(T:Tb)(W:Nat->St->Hp->Prop)(sts:List Stmt)(m:MS):Prop:=PSs X sts (tS T W m)
def wm{p:Fl->Bool}(hL:p .lnt=false->∀a,L a->L' a)(hB:p .bor=false->∀a,B a->B' a):Mp T (fun f=>f) p (fun x=>x) (fun _=>True) F B L H F B' L' H:=
 ⟨fun f a vs q _ h=>by
  cases f with
  |lnt=>exact⟨hL q a h.1,h.2⟩
  |bor=>exact⟨hB q a h.1,h.2⟩
  | _=>exact h,fun f a q _ h=>⟨by
  cases f with
  |lnt=>exact hL q a h
  |bor=>exact hB q a h
  |_=>exact h,fun _ q=>q⟩,fun _ _ _ _ h=>h,rfl,fun _ _=>rfl,fun _ _ q _=>q⟩
def Rel.noL(hp:x.has Fl.isLnt=false)(h:Rel T F B L H x v fo):Rel T F B L' H x v fo:=by
 have:=(wm (p:=Fl.isLnt) (L':=L') (fun z=>(nomatch z)) (fun _ _ q=>q)).rel hp (fun _ _=>True.intro) h
 rwa [kq]at this
def RelL.noL(hp:hasL Fl.isLnt x=false)(h:RelL T F B L H x v fo):RelL T F B L' H x v fo:=by
 have:=(wm (p:=Fl.isLnt) (L':=L') (fun z=>(nomatch z)) (fun _ _ q=>q)).rels hp (fun _ _=>True.intro) h
 rwa [mapL_id]at this
section
variable{X:Cx}{T:Tb}{W:Nat->St->Hp->Prop}{Z:Zn}{F F' B L:Addr->Prop}{H H':Hp}{Y:St}{env:En}{fp:Nat->List Addr}{D:Ends}
def b_(fp:Nat->List Addr)(i:Nat)(f:List Addr):Nat->List Addr:=fun j=>if j=i then f else fp j
def aA.put(S:aA T Z F H Y env fp){i:Nat}{pv:PV}{v:V}{f:List Addr}(r:Rel T F Z.B NoL H pv v f)(nd:f.Nodup)(nf:∀a∈f,¬F a)(new:∀a∈f,Z.H0 a=none\/Z.fp0 a)(dj:∀a∈f,∀j,j≠i->a∉fp j)(ho:aS i env=true) :
  aA T Z F H (Y.set i (some v)) (env.set i (some pv)) (b_ fp i f):=by
 refine⟨S.hp,by rw[length_set,length_set,S.len],fun j pv' e=>?_,fun j=>?_,fun j k hjk a ha=>?_,fun j a ha=>?_,fun j a ha=>?_,fun j a ha=>?_,fun w hw=>?_⟩
 ·grind[b_,aA,bY,Gr]
 ·unfold b_;split
  ·exact nd
  ·exact S.nd j
 ·grind[b_,aA,bY,Gr]
 ·unfold b_ at ha;by_cases h1:j=i
  ·rw[if_pos h1]at ha;exact⟨nf a ha,r.there a ha⟩
  ·rw[if_neg h1]at ha;exact S.dis j a ha
 ·unfold b_ at ha;by_cases h1:j=i
  ·rw[if_pos h1]at ha;exact new a ha
  ·rw[if_neg h1]at ha;exact S.new j a ha
 ·unfold b_ at ha;by_cases h1:j=i
  ·rw[if_pos h1]at ha;exact r.chg a ha
  ·rw[if_neg h1]at ha;exact S.ch j a ha
 ·obtain⟨h1,h2⟩:=S.pn w hw;have hi:i≠0:=fun z=>by rw[z]at ho;simp[aS,h2]at ho
  refine⟨by rw[getElem?_set_ne hi];exact h1,?_⟩;unfold cR at h2 ⊢;rw[getElem?_set_ne hi];exact h2
def aA.putN(S:aA T Z F H Y env fp)(g:Gr F H F' H'){i:Nat}{pv:PV}{v:V}{f:List Addr}(ho:aS i env=true)(r:Rel T F' Z.B L H' pv v f)(hl:pv.noLnt=true)(nf:∀a∈f,¬F' a)(nd:f.Nodup)(w:∀a∈f,H a=none) :
  aA T Z F' H' (Y.set i (some v)) (env.set i (some pv)) (b_ fp i f):=by
 refine(S.grow g).put (Rel.noL (by simpa[PV.noLnt]using hl) r) nd nf (fun a ha=>?_) (fun a ha j _ hj=>?_) ho
 ·by_cases q:Z.fp0 a
  ·exact .inr q
  ·refine .inl ?_;cases e:Z.H0 a with
   |none=>rfl
   |some o=>have:=S.hp.keep a o e q;rw[w a ha]at this;cases this
 ·obtain⟨_,o,ho⟩:=S.dis j a hj;rw[w a ha]at ho;cases ho
def aQ:SSs X T W [] aZ:=PSs.wk y_ fun D Y H ⟨Z,F,env,fp,S,q⟩=>q F H Y fp S
def ah{rest:List Stmt}(h1:SS X T W st a)(h2:SSs X T W rest b):SSs X T W (st::rest) (aw a b):=
 PSs.wk (jf h1 h2) fun D Y H hz1=>by
  obtain⟨Z,F,env,fp,S,q⟩:=hz1;refine⟨Z,F,env,fp,S,?_⟩;unfold aw at q;cases e:a env with
  |next e'=>rw[e]at q;exact fun F' H' σ' fp' S'=>⟨Z,F',e',fp',S',q⟩
  |ret v|brk e'|cont e'|exc c e'|stuck=>rw[e]at q;exact q
def ao(h1:SS X T W st a):SSs X T W [st] a:=rN h1
def bg(hc:ST X T W c mc)(ha:SSs X T W a ma)(hb:SSs X T W b mb):SS X T W (.If c a b pos) (mBr mc ma mb):=
 PS.wk (EJ (pos:=pos) hc ha hb) fun D Y H hz1=>by
  obtain⟨Z,F,env,fp,S,q⟩:=hz1;unfold mBr at q;refine tT.bind S (fun c e H' x=>?_) (fun e=>by rw[e]at q;exact q) fun b H' F' e g=>?_
  ·rw[e]at q;exact q F H' Y fp (S.grow (Gr.same S.hp.ft x))
  ·cases b with
   |true=>rw[e]at q;exact(if_pos rfl).mpr ⟨Z,F',env,fp,S.grow g,q⟩
   |false=>rw[e]at q;exact(if_neg (by decide)).mpr ⟨Z,F',env,fp,S.grow g,q⟩
def A3(hN:X.N.Nodup)(hi:X.N[i]?=some x)(hx:Loc X.env.scope x)(he:SE X T W e m)(hs:swapsWith e (some (.Name x pos')) pos.line X.env=pure false:=by rfl)
  (hf:X.fn x=true\/X.env.scope.names.lookup x=some .local:=by first|exact .inl rfl|exact .inr rfl|assumption):SS X T W (.Assign [.Name x pos'] e pos) (aV i m):=
 PS.wk (vG (pos:=pos) hN hi hx he hs hf) fun D Y H hz1=>by
  obtain⟨Z,F,env,fp,S,q⟩:=hz1;unfold aV at q;refine tE.bind S (fun c e H' x=>?_) (fun e=>by rw[e]at q;exact q) fun pv v H1 F1 f e g r h1 h2 h3=>?_
  ·rw[e]at q;exact q F H' Y fp (S.grow (Gr.same S.hp.ft x))
  ·rw[e]at q;simp only at q;split at q
   ·rename_i hl
    rw[and_eq_true]at hl;exact q F1 H1 _ _ (S.putN g hl.2 r hl.1 h1 h2 h3)
   ·exact q.elim
def bY.newE(S:bY T Z F H){f:List Addr}(w:∀a∈f,H a=none):∀a∈f,Z.H0 a=none\/Z.fp0 a:=fun a ha=>by
 by_cases q:Z.fp0 a
 ·exact .inr q
 ·refine .inl ?_;cases e:Z.H0 a with
  |none=>rfl
  |some o=>have:=S.keep a o e q;rw[w a ha]at this;cases this
def aO(he:SE X T W e m):SS X T W (.Return (some e) pos) (bL m):=
 PS.wk (qt (pos:=pos) he) fun D Y H hz1=>by
  obtain⟨Z,F,env,fp,S,q⟩:=hz1;unfold bL at q;refine tE.bind S (fun c e H' x=>?_) (fun e=>by rw[e]at q;exact q) fun pv v H1 F1 f e g r h1 h2 h3=>?_
  ·rw[e]at q;exact q F H' Y fp (S.grow (Gr.same S.hp.ft x))
  ·rw[e]at q;simp only at q;split at q
   ·rename_i hl
    exact q F1 H1 v f (S.hp.grow g) (Rel.noL (by simpa[PV.noLnt]using hl) r) h2 h1 (S.hp.newE h3)
   ·exact q.elim
def d_(hN:X.N[i]?=some x)(hv:Vis X.env.scope x)(hd:(x ==("__debug__":Str))=false:=by decide)(hcd:(x ==("__classdict__":Str))=false:=by decide):SS X T W (.Return (some (.Name x pos')) pos) (eQ i):=
 PS.wk (qt (pos:=pos) (dG hN hv hd hcd)) fun D Y H hz1=>by
  obtain⟨Z,F,env,fp,S,q⟩:=hz1;unfold eQ at q;split at q
  ·rename_i pv e
   obtain⟨v,e1,r⟩:=S.rel i pv e;exact⟨v,e1,q F H v (fp i) S.hp r (S.nd i) (fun a ha=>(S.dis i a ha).1) (S.new i)⟩
  ·exact q.elim
def fZ(he:SE X T W e m)(hs:swapsWith e none pos.line X.env=pure false:=by rfl):SS X T W (.Expr e pos) (g_ m):=
 PS.wk (km (pos:=pos) he hs) fun D Y H hz1=>by
  obtain⟨Z,F,env,fp,S,q⟩:=hz1;unfold g_ at q;refine tE.bind S (fun c e H' x=>?_) (fun e=>by rw[e]at q;exact q) fun pv v H1 F1 f e g r h1 h2 h3=>?_
  ·rw[e]at q;exact q F H' Y fp (S.grow (Gr.same S.hp.ft x))
  ·rw[e]at q;exact q F1 H1 Y fp (S.grow g)
def ub(hF:∀a,F a->F' a):Mp T Fl.freeze (fun _=>false) (fun _=>[]) F' F B L H F' B L H:=
 ⟨fun f a vs _ c h=>by
  cases f with
  |own=>exact⟨c rfl,.inl h⟩
  |frz=>exact⟨hF a h.1,h.2⟩
  | _=>exact h,fun f a _ c h=>⟨by
  cases f with
  |own=>exact c rfl
  |frz=>exact hF a h
  |_=>exact h,fun _ q=>q⟩,fun f a x y h=>by cases f<;>exact⟨rfl,rfl⟩,rfl,fun _ _=>rfl,fun _ _ q _=>q⟩
def Rel.freeze(hF:∀a,F a->F' a)(hp:∀a∈fo,F' a)(h:Rel T F B L H x v fo):Rel T F' B L H (x.mapF Fl.freeze) v []:=(ub hF).rel (lx x) hp h
def aA.frz(S:aA T Z F H Y env fp){i:Nat}{pv:PV}(e:env[i]?=some (some pv)):aA T Z (fun a=>F a\/a∈fp i) H Y (env.set i (some (pv.mapF Fl.freeze))) (b_ fp i []):=by
 have hi:i<env.length:=(List.getElem?_eq_some_iff.mp e).1;refine⟨⟨S.hp.bo,S.hp.keep,fun a h=>.inl (S.hp.f0 a h),fun a h=>h.elim (S.hp.fn a) fun z=>.inr (S.new i a z),fun a h=>h.elim (S.hp.ft a) fun z=>(S.dis i a z).2⟩,by rw[length_set,S.len],fun j pv' e'=>?_,fun j=>?_,fun j k hjk a ha=>?_,fun j a ha=>?_,fun j a ha=>?_,fun j a ha=>?_,fun w hw=>?_⟩
 ·by_cases hj:j=i
  ·subst hj;rw[getElem?_set_self hi]at e';cases e';obtain⟨v,h1,h2⟩:=S.rel j pv e;refine⟨v,h1,?_⟩;unfold b_;rw[if_pos rfl];exact Rel.freeze (fun _ h=>.inl h) (fun a h=>.inr h) h2
  ·rw[getElem?_set_ne (Ne.symm hj)]at e';obtain⟨w,h1,h2⟩:=S.rel j pv' e';refine⟨w,h1,?_⟩;unfold b_;rw[if_neg hj];exact h2.ext Ext.refl fun _ h=>.inl h
 ·unfold b_;split
  ·exact nodup_nil
  ·exact S.nd j
 ·grind[b_,aA,bY,Gr]
 ·unfold b_ at ha;by_cases h1:j=i
  ·rw[if_pos h1]at ha;cases ha
  ·rw[if_neg h1]at ha;exact⟨fun z=>z.elim (S.dis j a ha).1 fun z=>S.dj j i h1 a ha z,(S.dis j a ha).2⟩
 ·unfold b_ at ha;by_cases h1:j=i
  ·rw[if_pos h1]at ha;cases ha
  ·rw[if_neg h1]at ha;exact S.new j a ha
 ·unfold b_ at ha;by_cases h1:j=i
  ·rw[if_pos h1]at ha;cases ha
  ·rw[if_neg h1]at ha;exact S.ch j a ha
 ·obtain⟨h1,h2⟩:=S.pn w hw;refine⟨h1,?_⟩;unfold cR at h2 ⊢;by_cases hi0:i=0
  ·subst hi0;rw[e]at h2;rw[getElem?_set_self hi];cases pv<;>first|exact h2 |(cases h2;done)|rfl
  ·rw[getElem?_set_ne hi0];exact h2
def dh{i:Nat}{sts:List Stmt}(h:SSs X T W sts m):SSs X T W sts (aw (fD i) m):=PSs.wk h fun D Y H hz1=>by
 obtain⟨Z,F,env,fp,S,q⟩:=hz1;cases e:env[i]? with
 |none=>simp[aw,fD,e]at q;exact q.elim
 |some w=>
  cases w with
  |none=>simp[aw,fD,e]at q;exact q.elim
  |some pv=>simp only[aw,fD,e]at q;exact⟨Z,_,_,_,S.frz e,q⟩
def Zn.re(Z:Zn)(F:Addr->Prop)(H:Hp)(fp:Nat->List Addr):Zn:=⟨H,F,Own fp,Z.B,Z.pin⟩
def aA.enter(S:aA T Z F H Y env fp):aA T (Z.re F H fp) F H Y env fp:=
 ⟨⟨⟨fun a h=>by
   obtain⟨⟨o,h1⟩,h2⟩:=S.hp.bo.1 a h;refine⟨⟨o,S.hp.keep a o h1 h2⟩,fun⟨i,hi⟩=>?_⟩;rcases S.new i a hi with z|z
   ·rw[h1]at z;cases z
   ·exact h2 z,S.tbo Ext.refl fun _ z=>.inr z⟩,fun _ _ h _=>h,fun _ h=>h,fun _ h=>.inl h,S.hp.ft⟩,S.len,S.rel,S.nd,S.dj,S.dis,fun i a ha=>.inr ⟨i,ha⟩,S.ch,S.pn⟩
def bY.leave(S:aA T Z F H Y env fp)(S':bY T (Z.re F H fp) F' H'):bY T Z F' H':=
 ⟨S.hp.bo,fun a o h n=>S'.keep a o (S.hp.keep a o h n) fun hz1=>by
   obtain⟨i,hi⟩:=hz1;rcases S.new i a hi with z|z
   ·rw[h]at z;cases z
   ·exact n z,fun a h=>S'.f0 a (S.hp.f0 a h),fun a h=>by
  rcases S'.fn a h with z|z |⟨i,hi⟩
  ·exact S.hp.fn a z
  ·refine .inr ?_;by_cases q:Z.fp0 a
   ·exact .inr q
   ·refine .inl ?_;cases w:Z.H0 a with
    |none=>rfl
    |some o=>have z':H a=none:=z;rw[S.hp.keep a o w q]at z';cases z'
  ·exact .inr (S.new i a hi),S'.ft⟩
def aA.newL(S:aA T Z F H Y env fp)(h:(Z.re F H fp).H0 a=none \/(Z.re F H fp).fp0 a):Z.H0 a=none\/Z.fp0 a:=by
 rcases h with z |⟨i,hi⟩
 ·by_cases q:Z.fp0 a
  ·exact .inr q
  ·refine .inl ?_;cases w:Z.H0 a with
   |none=>rfl
   |some o=>have z':H a=none:=z;rw[S.hp.keep a o w q]at z';cases z'
 ·exact S.new i a hi
def aA.leave(S:aA T Z F H Y env fp)(S':aA T (Z.re F H fp) F' H' σ' env' fp'):aA T Z F' H' σ' env' fp':=
 ⟨bY.leave S S'.hp,S'.len,S'.rel,S'.nd,S'.dj,S'.dis,fun i a ha=>S.newL (S'.new i a ha),S'.ch,S'.pn⟩
abbrev SW(X:Cx)(T:Tb)(W:Nat->St->Hp->Prop)(e:Expr)(m:MT):Prop:=PW X e (tT T W m)
def tT.test(h:tT T W (aC m) Y H Q):tE T W m Y H fun x H'=>∃k,x=.bl k/\Q k H':=by
 obtain⟨Z,F,env,fp,S,q⟩:=h;unfold aC at q;refine tE.bind S (fun c e=>by rw[e]at q;exact q) (fun e=>by rw[e]at q;exact q) fun x v H1 F1 f1 e1 g1 r1 n1 d1 w1=>?_;rw[e1]at q;cases x with
 |bl b=>unfold Rel at r1;exact⟨b,r1.1,q H1 F1 g1⟩
 |_=>exact q.elim
def gO(ho:OpR X (compareOp op) r)(hm:kj T W f r)(ha:SE X T W a ma)(hb:SE X T W b mb)(hk:behindInMarks op b=false):ST X T W (.Compare a [op] [b] pos) (aC (mOp f ma mb)):=
 PT.wk (y9 (pos:=pos) ho ha hb hk) fun Y H Q h=>by obtain⟨Z,F,env,fp,S,q⟩:=tT.test h;exact tE.mir2 hm ⟨Z,F,env,fp,S,q⟩
def u7(h:ST X T W a m):ST X T W (.UnaryOp .Not a pos) (mG m):=PT.wk (Bz (pos:=pos) h) fun Y H Q hz1=>by obtain⟨Z,F,env,fp,S,q⟩:=hz1;unfold mG at q;refine tT.bind S (fun c e=>by rw[e]at q;exact q) (fun e=>by rw[e]at q;exact q) fun b H1 F1 e1 g1=>?_;rw[e1]at q;exact q H1 F1 g1
def iZ(h:ST X T W a m):SW X T W (.BoolOp .And [a] pos) m:=y8 h
def eG(h:ST X T W a m):SW X T W (.BoolOp .Or [a] pos) m:=Bx h
def kF{rest:List Expr}(h:ST X T W a m)(h2:SW X T W (.BoolOp .And (b::rest) pos) n):SW X T W (.BoolOp .And (a::b::rest) pos) (jo m n):=PW.wk (By h h2) fun Y H Q hz1=>by
 obtain⟨Z,F,env,fp,S,q⟩:=hz1;unfold jo at q;refine tT.bind S (fun c e=>by rw[e]at q;exact q) (fun e=>by rw[e]at q;exact q) fun b H1 F1 e1 g1=>?_;rw[e1]at q;cases b with
 |true=>
  refine(if_pos rfl).mpr ⟨Z,F1,env,fp,S.grow g1,?_⟩;simp only[Res.ok_bind,if_true]at q;cases e2:n env with
  |ok b=>rw[e2]at q;exact fun H2 F2 g2=>q H2 F2 (g1.trans g2)
  |exc c=>rw[e2]at q;exact fun H' x=>q H' (g1.ext.trans x)
  |stuck=>rw[e2]at q;exact q
 |false=>exact(if_neg (by decide)).mpr (q H1 F1 g1)
def gC{rest:List Expr}(h:ST X T W a m)(h2:SW X T W (.BoolOp .Or (b::rest) pos) n):SW X T W (.BoolOp .Or (a::b::rest) pos) (g8 m n):=PW.wk (EI h h2) fun Y H Q hz1=>by
 obtain⟨Z,F,env,fp,S,q⟩:=hz1;unfold g8 at q;refine tT.bind S (fun c e=>by rw[e]at q;exact q) (fun e=>by rw[e]at q;exact q) fun b H1 F1 e1 g1=>?_;rw[e1]at q;cases b with
 |false=>
  refine(if_neg (by decide)).mpr ⟨Z,F1,env,fp,S.grow g1,?_⟩;simp only[Res.ok_bind,false_eq_true,if_false]at q;cases e2:n env with
  |ok b=>rw[e2]at q;exact fun H2 F2 g2=>q H2 F2 (g1.trans g2)
  |exc c=>rw[e2]at q;exact fun H' x=>q H' (g1.ext.trans x)
  |stuck=>rw[e2]at q;exact q
 |true=>exact(if_pos rfl).mpr (q H1 F1 g1)
def SW.st(h:SW X T W e m):ST X T W e m:=PW.pt h
def fH(hK:X.K=T.K)(h:SE X T W a m)(he:∀whole,isTrue a X.env whole=(do let v <- whole;standAt a.pos;holding [v] (truthy v)):=by intro _;rfl):ST X T W a (eH m):=PT.wk (vE h he) fun Y H Q hz1=>by
 obtain⟨Z,F,env,fp,S,q⟩:=hz1;unfold eH at q;refine tE.bind S (fun c e=>by rw[e]at q;exact q) (fun e=>by rw[e]at q;exact q) fun x v H1 F1 f1 e1 g1 r1 n1 d1 w1=>?_;rw[e1]at q;rw[hK];cases x with
 |non=>unfold Rel at r1;rw[r1.1];exact⟨false,rfl,q H1 F1 g1⟩
 |bl b=>unfold Rel at r1;rw[r1.1];exact⟨b,rfl,q H1 F1 g1⟩
 |int i=>unfold Rel at r1;rw[r1.1];exact⟨_,rfl,q H1 F1 g1⟩
 |str i=>exact q.elim
 |lst f xs=>
  unfold Rel at r1;obtain⟨a,vs,fp',rfl,hl,hr,_⟩:=r1;have hl':SqL T.K H1 a vs:=hl.sq;have e:(!xs.isEmpty)=!vs.isEmpty:=by have:=hr.length;cases xs<;>cases vs<;>simp_all
  exact⟨_,.inl ⟨vs,hl',rfl⟩,by rw[<- e];exact q H1 F1 g1⟩
 |tup xs=>
  unfold Rel at r1;obtain⟨a,vs,rfl,hl,hr⟩:=r1;have e:(!xs.isEmpty)=!vs.isEmpty:=by have:=hr.length;cases xs<;>cases vs<;>simp_all
  exact⟨_,.inr (.inl ⟨vs,hl,rfl⟩),by rw[<- e];exact q H1 F1 g1⟩
 |obj f c ks xs|exc c|box k xs=>exact q.elim
def oM(hc:ST X T W c mc)(ha:SE X T W a ma)(hb:SE X T W b mb):SE X T W (.IfExp c a b pos) (wy mc ma mb):=PE.wk (vR (pos:=pos) hc ha hb) fun Y H Q hz1=>by
 obtain⟨Z,F,env,fp,S,q⟩:=hz1;unfold wy at q;refine tT.bind S (fun c e=>by rw[e]at q;exact q) (fun e=>by rw[e]at q;exact q) fun b H1 F1 e1 g1=>?_;rw[e1]at q;have lift:∀m:ME,GE T W Z.B F (Own fp) Y H Q (m env)->tE T W m Y H1 Q:=fun m q=>by
  refine⟨Z,F1,env,fp,S.grow g1,?_⟩;cases e2:m env with
  |ok b=>rw[e2]at q;exact fun v H2 F2 f g2 r n d w=>q v H2 F2 f (g1.trans g2) r n d fun a ha=>g1.ext.free (w a ha)
  |exc c=>rw[e2]at q;exact fun H' x=>q H' (g1.ext.trans x)
  |stuck=>rw[e2]at q;exact q
 cases b with
 |true=>exact(if_pos rfl).mpr (lift ma q)
 |false=>exact(if_neg (by decide)).mpr (lift mb q)
def pd(a b:ME):ME:=fun env=>(a env).bind fun
 |.bl true=>b env
 |.bl false=>.ok (.bl false)
 |_=>.stuck
def wx(a b:ME):ME:=fun env=>(a env).bind fun
 |.bl false=>b env
 |.bl true=>.ok (.bl true)
 |_=>.stuck
def vh(ha:SE X T W a ma):SE X T W (.BoolOp op [a] pos) ma:=BH ha
def tE.later(S:aA T Z F H Y env fp)(g1:Gr F H F' H')(q:GE T W Z.B F (Own fp) Y H Q (m env)):tE T W m Y H' Q:=by
 refine⟨Z,F',env,fp,S.grow g1,?_⟩;cases e2:m env with
 |ok b=>rw[e2]at q;exact fun v H2 F2 f g2 r n d w=>q v H2 F2 f (g1.trans g2) r n d fun a ha=>g1.ext.free (w a ha)
 |exc c=>rw[e2]at q;exact fun H' x=>q H' (g1.ext.trans x)
 |stuck=>rw[e2]at q;exact q
def Bd{rest:List Expr}(ha:SE X T W a ma)(hb:SE X T W (.BoolOp .And (b::rest) pos) mb):SE X T W (.BoolOp .And (a::b::rest) pos) (pd ma mb):=PE.wk (BK ha hb) fun Y H Q hz1=>by
 obtain⟨Z,F,env,fp,S,q⟩:=hz1;unfold pd at q;refine tE.bind S (fun c e=>by rw[e]at q;exact q) (fun e=>by rw[e]at q;exact q) fun x v H1 F1 f1 e1 g1 r1 n1 d1 w1=>?_;rw[e1]at q;cases x with
 |bl b=>
  unfold Rel at r1;refine⟨b,r1.1,?_⟩;cases b with
  |true=>exact(if_pos rfl).mpr (tE.later S g1 q)
  |false=>exact(if_neg (by decide)).mpr (q.scal g1 lQ)
 |_=>exact q.elim
def Ey{rest:List Expr}(ha:SE X T W a ma)(hb:SE X T W (.BoolOp .Or (b::rest) pos) mb):SE X T W (.BoolOp .Or (a::b::rest) pos) (wx ma mb):=PE.wk (EM ha hb) fun Y H Q hz1=>by
 obtain⟨Z,F,env,fp,S,q⟩:=hz1;unfold wx at q;refine tE.bind S (fun c e=>by rw[e]at q;exact q) (fun e=>by rw[e]at q;exact q) fun x v H1 F1 f1 e1 g1 r1 n1 d1 w1=>?_;rw[e1]at q;cases x with
 |bl b=>
  unfold Rel at r1;refine⟨b,r1.1,?_⟩;cases b with
  |false=>exact(if_neg (by decide)).mpr (tE.later S g1 q)
  |true=>exact(if_pos rfl).mpr (q.scal g1 lQ)
 |_=>exact q.elim
def Gc(T:Tb)(W:Nat->St->Hp->Prop)(f:PV->Res PV)(r:V->Hp->VK->Prop):Prop:=
 ∀(B F L:Addr->Prop) (Y:St) (H:Hp) (Q:VK) (F':Addr->Prop) (H':Hp) (x:PV) (v:V) (fx:List Addr),Gr F H F' H'->Rel T F' B L H' x v fx->(∀a∈fx,¬F' a)->fx.Nodup->(∀a∈fx,H a=none)->GE T W B F L Y H Q (f x)->r v H' Q
def tE.mir1(hm:Gc T W f r)(h:tE T W (mUn f m) Y H Q):tUn r (tE T W m) Y H Q:=by obtain⟨Z,F,env,fp,S,q⟩:=h;unfold mUn at q;refine tE.bind S (fun c e=>by rw[e]at q;exact q) (fun e=>by rw[e]at q;exact q) fun x v H1 F1 f1 e1 g1 r1 n1 d1 w1=>?_;rw[e1]at q;exact hm Z.B F (Own fp) Y H Q F1 H1 x v f1 g1 r1 n1 d1 w1 q
def o3:PV->Res PV
 |.int i=>.ok (.int (-i))
 |_=>.stuck
def nv(ha:SE X T W a m):SE X T W (.UnaryOp .USub a pos) (mUn o3 m):=PE.wk (EL (pos:=pos) AW ha) fun Y H Q h=>tE.mir1 (fun B F L Y H Q F' H' x v fx g r _ _ _ q=>by
 cases x with
 |int i=>unfold Rel at r;exact⟨i,r.1,q.scal g dP⟩
 |_=>exact q.elim) h
def bc(k:Nat):List Nat->List PV->Option PV
 |j::ks,v::vs=>if j=k then some v else bc k ks vs
 |_,_=>none
def Fl.isOwn:Fl->Bool
 |.own=>true
 |_=>false
def aq(k:Nat):PV->Res PV
 |.obj f _ ks vs=>match bc k ks vs with
  |some v=>if f.isOwn&&v.has Fl.isOwn then .stuck else .ok v
  |none=>.stuck
 |_=>.stuck
mutual
def Rel.noOwn:∀{x:PV}{v:V}{fp:List Addr},x.has Fl.isOwn=false->Rel T F B L H x v fp->fp=[]
 |.non,_,_,_,h|.bl _,_,_,_,h|.int _,_,_,_,h|.str _,_,_,_,h=>by unfold Rel at h;exact h.2
 |.lst f xs,_,fp,hp,h=>by
  unfold Rel at h;simp only[PV.has,or_eq_false_iff]at hp;obtain⟨a,vs,fp',e,hl,hr,hf⟩:=h;cases f with
  |own=>exact absurd hp.1 (by decide)
  |frz|bor|lnt|mod=>exact hf.2
 |.tup xs,_,fp,hp,h=>by unfold Rel at h;simp only[PV.has]at hp;obtain⟨a,vs,e,hl,hr⟩:=h;exact RelL.noOwn hp hr
 |.obj f c ks xs,_,fp,hp,h=>by
  unfold Rel at h;simp only[PV.has,or_eq_false_iff]at hp;obtain⟨a,dx,vs,fp',e,hl,hk,hr,hf,ha⟩:=h;cases f with
  |own=>exact absurd hp.1 (by decide)
  |frz|bor|lnt|mod=>exact hf.2
 |.exc c,_,fp,hp,h=>by unfold Rel at h;obtain⟨a,_,_,e⟩:=h;exact e
 |.box k xs,_,fp,hp,h=>by unfold Rel at h;obtain⟨a,vs,e,hl,hr⟩:=h;exact RelL.noOwn hp hr
def RelL.noOwn:∀{xs:List PV}{vs:List V}{fp:List Addr},hasL Fl.isOwn xs=false->RelL T F B L H xs vs fp->fp=[]
 | [],_,_,_,h=>by unfold RelL at h;exact h.2
 |x::xs,_,fp,hp,h=>by unfold RelL at h;simp only[hasL,or_eq_false_iff]at hp;obtain⟨v,ws,f1,f2,e,h1,h2,rfl⟩:=h;rw[Rel.noOwn hp.1 h1,RelL.noOwn hp.2 h2];rfl
end
def RelL.get:∀{xs:List PV}{vs:List V}{fp:List Addr}{i:Nat}{x:PV},RelL T F B L H xs vs fp->xs[i]?=some x->∃v f,vs[i]?=some v/\Rel T F B L H x v f/\f.Sublist fp
 | [],_,_,_,_,_,e=>by simp at e
 |y::xs,_,fp,0,x,h,e=>by
  unfold RelL at h
  grind
 |y::xs,_,fp,i+1,x,h,e=>by unfold RelL at h;obtain⟨v,ws,f1,f2,rfl,h1,h2,rfl⟩:=h;obtain⟨w,f,e1,r,s⟩:=RelL.get (i:=i) h2 (by simpa using e);exact⟨w,f,by simpa using e1,r,s.trans (List.sublist_append_right _ _)⟩
def pD:∀{ks:List Nat}{xs:List PV}{vs:List V}{fp:List Addr}{x:PV},RelL T F B L H xs vs fp->bc k ks xs=some x->∃v f,((ks.map T.att).zip vs).lookup (T.att k)=some v/\Rel T F B L H x v f/\f.Sublist fp
 | [],_,_,_,_,_,e|j::ks,[],_,_,_,_,e=>by simp[bc]at e
 |j::ks,y::xs,_,fp,x,h,e=>by
  unfold RelL at h;obtain⟨v,ws,f1,f2,rfl,h1,h2,rfl⟩:=h;unfold bc at e;by_cases hj:j=k
  ·rw[if_pos hj]at e;cases e;subst hj;exact⟨v,f1,by simp,h1,List.sublist_append_left _ _⟩
  ·rw[if_neg hj]at e;obtain⟨w,f,e1,r,s⟩:=pD (ks:=ks) h2 e;refine⟨w,f,?_,r,s.trans (List.sublist_append_right _ _)⟩;have:(T.att k==T.att j)=false:=by rw[beq_eq_false_iff_ne];exact fun z=>hj (T.inj _ _ z).symm
   rw[map_cons,List.zip_cons_cons,lookup_cons,this];exact e1
def yz(hK:X.K=T.K)(hf:T.att k=f)(hc:∀c<T.nc,Cls T.K (T.cls c))(hn:∀c<T.nc,eO T.K (T.cls c) f)(h:tE T W (mUn (aq k) m) Y H Q):Et X.K (tE T W m) f Y H Q:=by
 obtain⟨Z,F,env,fp,S,q⟩:=h;unfold mUn at q;refine tE.bind S (fun c e=>by rw[e]at q;exact q) (fun e=>by rw[e]at q;exact q) fun x v H1 F1 f1 e1 g1 r1 n1 d1 w1=>?_;rw[e1]at q;cases x with
 |obj fl c ks xs=>
  simp only[Res.ok_bind,aq]at q;cases e2:bc k ks xs with
  |none=>rw[e2]at q;exact q.elim
  |some y=>
   rw[e2]at q;dsimp only at q;unfold Rel at r1;obtain⟨a,dx,vs,fp',rfl,hl,hk,hr,hfl,_⟩:=r1;obtain⟨w,f',l1,l2,l3⟩:=pD hr e2;have e0:f'=[]:=by
    cases fl with
    |own=>
     simp only[Fl.isOwn,Bool.true_and]at q;by_cases ho:y.has Fl.isOwn=true
     ·rw[if_pos ho]at q;exact q.elim
     ·exact Rel.noOwn (by simpa using ho) l2
    |frz|bor|lnt|mod=>obtain⟨rfl,_⟩:=hfl;exact sublist_nil.mp l3
   subst e0;by_cases hb:(fl.isOwn&&y.has Fl.isOwn)=true
   ·rw[if_pos hb]at q;exact q.elim
   ·rw[if_neg hb]at q;rw[hK];exact⟨a,_,dx,_,w,rfl,hl,hc c hk.2,hn c hk.2,by rw[<- hf];exact l1,q.scal g1 l2⟩
 |_=>exact q.elim
def yV(hK:X.K=T.K)(hf:T.att k=f)(hc:∀c<T.nc,Cls T.K (T.cls c))(hn:∀c<T.nc,eO T.K (T.cls c) f)(he:SE X T W e m)(hb:attributeBase e f X.env (eval e X.env)=eval e X.env:=by rfl) :
  SE X T W (.Attribute e f pos) (mUn (aq k) m):=PE.wk (BJ (pos:=pos) he hb) fun Y H Q h=>yz hK hf hc hn h
end
end PR
namespace L2
open PySem PySem.Spec
def bW.there(x:bW P w H h a o):∃u,h.get? a=some u:=by
 cases o with
 |lst xs=>obtain⟨_,_,_,_,e⟩:=x;exact⟨_,e⟩
 |tup xs=>obtain⟨_,_,_,o,e,_⟩:=x;exact⟨_,e⟩
 |dK kvs|dT kvs=>obtain⟨_,_,_,_,o,_,_,e,_⟩:=x;exact⟨_,e⟩
 |set S n=>obtain⟨o,_,_,_,e,_⟩:=x;exact⟨_,e⟩
 |ins C dx fs=>obtain⟨_,_,_,e,_⟩:=x;exact⟨_,e⟩
 |own y=>exact x
 |xd fs=>obtain⟨_,⟨_,_,_,e,_⟩,_⟩:=x;exact⟨_,e⟩
 |rng lo hi=>obtain⟨_,_,_,e⟩:=x;exact⟨_,e⟩
 |frz ob u=>obtain⟨e,_⟩:=x;exact⟨_,e⟩
 |tbl ps=>obtain⟨_,e,_⟩:=x;exact⟨_,e⟩
 |met f y=>exact⟨_,(show h.get? a=some _ from x)⟩
 |ext φ=>obtain⟨_,q,_⟩:=x;exact q
end L2
namespace PR
open PySem PySem.Spec L2
structure Fly(P:Program)(w:World)(outer:List Env)(H:Hp)(s:Shared)(cls:Value)(H':Hp)(e:Value)(s':Shared):Prop where
 os:s'.os=s.os
 bare:PyProof.Rows.AllBare s'.gens
 un:Un (frs outer) [] H H' s.heap s'.heap
 hok:HOk P w H' s'.heap
 fly:∃x a0 Bh,e=.ref x/\Heap.FlyingW Bh outer x cls a0 s'.heap/\(∀b o u,H' b=some u->s'.heap.get? b=some o->Bh.get? b=some o)/\
  (∀b o o',s'.heap.get? b=some o->s.heap.get? b=some o'->b∉frs outer->Bh.get? b=some o)
def CXP(P:Program)(w:World):CXT:=fun outer H s E e s'=>∃cls H',Fly P w outer H s cls H' e s'/\E cls none H'
def XF(X:Cx)(T:Tb)(W:Nat->St->Hp->Prop):Prop:=∀(js:List (Addr×Obj)) (Y:St) (H:Hp) (s:Shared) (c:Nat) (H':Hp) (e:Value) (s':Shared),L2.Inv X js Y H s->Fly X.prog X.w X.stack H s (.ref (T.xcl c)) H' e s'->W c Y H'->X.xe e s'
def XM(X:Cx)(T:Tb)(W:Nat->St->Hp->Prop):Prop:=∀(js:List (Addr×Obj)) (Y:St) (H:Hp) (s:Shared) (c:Nat) (h':Heap) (e:Addr) (vs:List Value),L2.Inv X js Y H s->Heap.MadeExcOf s.heap h' e (.ref (T.xcl c)) vs->W c Y H->X.xe (.ref e) {s with heap:=h'}
section
variable{P:Program}{w:World}{K:PySem.W.Frag}{mg:Str->Option Value}{base:Heap}{N:List Str}{qual:Str}{scope:Scope}{f:Addr}{cd:Value}{A:Around}{outer:List Env}{s:Shared}{H:Hp}{E:XK}
def zW{H:Hp}{h h' Bh:Heap}(ok:HOk P w H h)(k:∀b o u,H b=some u->h.get? b=some o->Bh.get? b=some o)(st:Bh.StaysIn h'):HOk P w H h':=fun a o e=>
 (ok a o e).stay (fun b u hb q=>by
  rcases hb with rfl|hb
  ·exact st _ _ (k b u _ e q)
  ·exact st _ _ (k b u _ hb q)) (fun _ q=>q) fun _ _ _ q=>q
def iz(I:L2.Inv X js Y H1 s1)(hst:X.stack=X.env::X.outer)(hex:X.ex=[])(hfrm:X.env.frame=some X.env.locals)
  (hos:os2=s1.os) (hb:PyProof.Rows.AllBare g2) (u2:Un (frs X.stack) [] H1 H2 s1.heap h2) (ok:HOk X.prog X.w H2 h2) (tr:∀b o u,H2 b=some u->h2.get? b=some o->Bh.get? b=some o)
  (ol:∀b o o',h2.get? b=some o->s1.heap.get? b=some o'->b∉frs X.stack->Bh.get? b=some o) (fl:Heap.FlyingW Bh X.outer x cls a0 h') (up:h2.UpToSlots h') :
  Fly X.prog X.w X.outer X.H₀ X.s₀ cls H2 (.ref x) ⟨h',g2,d2,t2,os2⟩:=by
 have u1:=I.base;rw[hex]at u1;have hfs:frs X.stack=X.env.locals::frs X.outer:=by rw[hst];show List.filterMap _ _=_;rw[List.filterMap_cons,hfrm];rfl
 have u:Un (frs X.stack) [] X.H₀ H2 X.s₀.heap h2:=(u1.mono (fun b hb=>by rw[hfs];exact mem_cons_of_mem _ hb) fun _ z=>z).trans u2;have neL:∀b o,X.s₀.heap.get? b=some o->b≠X.env.locals:=fun b o e=>Nat.ne_of_lt (Nat.lt_of_lt_of_le (lt_size e) I.ok.above);have nst:∀b o,X.s₀.heap.get? b=some o->b∉frs X.outer->b∉frs X.stack:=fun b o e hn hb=>by
  rw[hfs]at hb;rcases mem_cons.mp hb with z|z
  ·exact neL b o e z
  ·exact hn z
 have data:∀b o,X.s₀.heap.get? b=some o->b∈frs X.outer->∀vs,o.data≠.fields vs:=fun b o e hb vs z=>by obtain⟨_,o',ho',hd'⟩:=I.ok.funs.mem hb;rw[e]at ho';cases ho';exact hd' vs z
 refine⟨hos.trans I.os,hb,⟨fun b o e n hf _=>?_,fun b o e n hf _=>?_,u.free,fun b o e _=>?_,u.tups,u.frzs,u.tbls⟩,zW ok tr fl.1,⟨x,a0,Bh,rfl,fl,fun b o v e q=>?_,fun b o o' e q hf=>?_⟩⟩
 ·have q:=u.keep b o e n (nst b o e hf) (by simp);obtain⟨o1,e1⟩:=u1.there b o e (by simp);exact fl.1 b o (ol b o o1 q e1 (nst b o e hf))
 ·obtain⟨sl,q⟩:=u.slot b o e n (by rw[hfs];exact mem_cons_of_mem _ hf) (by simp);obtain⟨sl',q'⟩:=up b _ q (data b o e hf);exact⟨sl',q'⟩
 ·by_cases hf:b∈frs X.outer
  ·obtain⟨_,o2,ho2,_⟩:=fl.2.2.1.mem hf;exact⟨o2,ho2⟩
  ·obtain⟨o1,e1⟩:=u1.there b o e (by simp);obtain⟨o2,e2⟩:=u2.there b o1 e1 (by simp);exact⟨o2,fl.1 b o2 (ol b o2 o1 e2 e1 (nst b o e hf))⟩
 ·have hlt:=ok.lt e;obtain⟨o2,e2⟩:∃o2,h2.get? b=some o2:=by have x:=ok b v e;exact bW.there x
  have:=fl.1 b o2 (tr b o2 v e e2);rw[q]at this;cases this;exact tr b o v e e2
 ·obtain⟨o1,e1⟩:=u1.there b o' q (by simp);obtain⟨o2,e2⟩:=u2.there b o1 e1 (by simp);have hB:=ol b o2 o1 e2 e1 (nst b o' q hf);have:=fl.1 b o2 hB;rw[e]at this;cases this;exact hB
end
section
variable{P:Program}{w:World}{K:PySem.W.Frag}{mg:Str->Option Value}{base:Heap}{N:List Str}{qual:Str}{scope:Scope}{f:Addr}{cd:Value}{A:Around}{outer:List Env}{s:Shared}{H:Hp}{E:XK}{T:Tb}
abbrev WD(T:Tb)(E:XK):Nat->St->Hp->Prop:=fun c _ H=>E (.ref (T.xcl c)) none H
def AV:XF (c_ (CXP P w) P w K mg base N qual scope f cd A outer s H E) T (WD T E):=by intro js Y H1 s1 c H2 e s2 I fl hW;obtain⟨x,a0,Bh,rfl,fly,tr,ol⟩:=fl.fly;refine wpAny_leaves_onW (L:=s.heap.objs.size) I.ok.frames rfl fly fun h' fly' up=>?_;obtain⟨h2,g2,d2,t2,os2⟩:=s2;exact⟨_,H2,iz I rfl rfl rfl fl.os fl.bare fl.un fl.hok tr ol fly' up,hW⟩
def cj:XM (c_ (CXP P w) P w K mg base N qual scope f cd A outer s H E) T (WD T E):=by
 intro js Y H1 s1 c h2 e vs I mx hW;have hin:∀env ∈(c_ (CXP P w) P w K mg base N qual scope f cd A outer s H E).stack,∀b,env.frame=some b->b∈frs (c_ (CXP P w) P w K mg base N qual scope f cd A outer s H E).stack:=fun env he b hb=>List.mem_filterMap.mpr ⟨env,he,hb⟩;refine wpAny_leaves_madeW (base:=hideAll s1.heap (frs (c_ (CXP P w) P w K mg base N qual scope f cd A outer s H E).stack)) (h:=s1.heap) (L:=s.heap.objs.size) I.ok.frames rfl (fun b o q=>PySem.W.of_hideAll _ q) (PySem.W.funFrames_hide I.stack hin) mx fun h' t fly' _ _ up=>?_;obtain⟨h1,g1,d1,t1,os1⟩:=s1;have fresh:∀b o,h1.get? b=some o->h2.get? b=some o:=mx.keeps;have nfr:∀b u,H1 b=some u->b∉frs (c_ (CXP P w) P w K mg base N qual scope f cd A outer s H E).stack:=fun b u e hb=>by rw[I.stkFree b hb]at e;cases e
 refine⟨_,H1,iz I rfl rfl rfl rfl I.bare (h2:=h2) (Bh:=hideAll h1 (frs (c_ (CXP P w) P w K mg base N qual scope f cd A outer s H E).stack)) (Un.kept fresh) (I.hok.kept fresh) (fun b o u e q=>?_) (fun b o o' e q hb=>?_) fly' up,hW⟩
 ·obtain⟨o1,e1⟩:=bW.there (I.hok b u e);have:=fresh b o1 e1;rw[q]at this;cases this;exact hideAll_get _ e1 (nfr b u e)
 ·have:=fresh b o' q;rw[e]at this;cases this;exact hideAll_get _ q hb
end
structure Ht(X:Cx)(x:Str)(C:Addr):Prop where
 bm:X.mg x=some (.ref C)
 obj:∃bm N nm q bs hdct sn sub ab col dd k0 k1 k2 k3 k5 mN,X.base.get? C=some (excClassObj nm q C N bs bm hdct sn sub ab col dd k0 k1 k2 k3 k5 "ValueError.__new__")/\X.base.Ns N mN/\mN "__init__"=none /\
  OwnTail X.base [.type "ValueError",.type "Exception",.type "BaseException",.type "object"] bm
section
variable{X:Cx}{T:Tb}{W:Nat->St->Hp->Prop}
def u_(O:Ht X x (T.xcl c))(hx:XM X T W)(hc:X.calm=true)(hg:Gl X x)(ha:SA X T W (e::es) ms)(hne:∀env pvs,ms env=.ok pvs->pvs.length<=100)(hd:(x ==("__debug__":Str))=false:=by decide)
  (he:starEach (e::es) X.env=(false,eval e X.env)::starEach es X.env:=by rfl) (hpl:(backTo cpos (starEach es X.env)).any (·.1)=false:=by rfl) :
  SS X T W (.Raise (some (.Call (.Name x np) (e::es) [] cpos)) none pos) (fun env=>match ms env with
   |.ok _=>.exc c env
   |.exc k=>.exc k env
   |.stuck=>.stuck):=by
 intro js s Y H D I h;obtain⟨Z,F,env,fp,S,q⟩:=h;dsimp only at q;obtain⟨tl,N,nm,qn,bs,hdct,sn,sub,ab,col,dd,k0,k1,k2,k3,k5,mN,hC,hN,hni,TL⟩:=O.obj;refine wpAny_Raise_call_subT (C:=T.xcl c) (nm:=nm) (q:=qn) (N:=N) (bs:=bs) (bm:=tl) (hdct:=hdct) (sn:=sn) (sub:=sub) (ab:=ab) (col:=col) (dd:=dd) (k0:=k0) (k1:=k1) (k2:=k2) (k3:=k3) (k5:=k5)
  PySem.F.excBase_ValueError (mN:=mN) (TL.hasType PySem.F.excBase_ValueError.hasBase) (I.ok.hd hc) (by rw[he];show(false ||(backTo cpos (starEach es X.env)).any (·.1))=false;rw[hpl];rfl) hni (jr I hg O.bm ⟨rfl,?_⟩ hd)
 have h2:=ha cpos js s Y H (fun vs H'=>vs.length <= 100/\W c Y H') I (tA.bind S (fun k e H' x=>by rw [e] at q;exact q F H' Y fp (S.grow (Gr.same S.hp.ft x))) (fun e=>by rw [e] at q;exact q) fun pvs vs H' F' f e g r _ _ _=>by
  rw[e]at q;exact⟨by rw[<- r.length];exact hne env pvs e,q F' H' Y fp (S.grow g)⟩)
 rw[he]at h2 ⊢;refine Calls.evalArgs_plain (wpAny_mono h2 (fun vs s₂ h₂=>?_) fun _ _ y=>y);obtain⟨vs',H',I2,rv,hl,hw⟩:=h₂;refine⟨rfl,?_,I2.bk _ _ hC,hN.keeps I2.bk,TL.keeps I2.bk,fun h' e' mx=>hx js Y H' s₂ c h' e' vs I2 mx hw⟩;rw[<- rv.length,sizeLine_eq];omega
end
def aU(m:List PV->Res PV)(xs:List PV):Res PV:=match m (mapL Fl.toBor xs)with
 |.ok v=>if v.has Fl.isBor then .stuck else .ok v
 |.exc c=>.exc c
 |.stuck=>.stuck
def br(n:Nat)(m:MS)(args:List PV):Res PV:=match m (args.map some++replicate (n-args.length) none)with
 |.next _=>.ok .non
 |.ret v=>.ok v
 |.exc c _=>.exc c
 |_=>.stuck
def GF(T:Tb)(Z:Zn)(Q:VK)(E:XK):Res PV->Prop
 |.ok pv=>∀F H v f,bY T Z F H->Rel T F Z.B NoL H pv v f->f.Nodup->(∀a∈f,¬F a)->(∀a∈f,Z.H0 a=none\/Z.fp0 a)->Q v H
 |.exc c=>∀H,(∀a o,Z.H0 a=some o->¬Z.fp0 a->H a=some o)->E (.ref (T.xcl c)) none H
 |.stuck=>False
structure rj(T:Tb)(F B:Addr->Prop)(H:Hp)(pvs:List PV)(vs:List V)(f:List Addr):Prop where
 rel:RelL T F B NoL H pvs vs f
 nd:f.Nodup
 nf:∀a∈f,¬F a
 bo:(∀a,B a->(∃o,H a=some o)/\a∉f)/\Au T H (·∈f)
 ft:∀a,F a->∃o,H a=some o
def spM(T:Tb)(n:Nat)(m:List PV->Res PV):Sp:=fun vs H Q E=>vs.length=n/\∃pvs F B f,rj T F B H pvs vs f/\GF T ⟨H,F,(·∈f),B,none⟩ Q E (m pvs)
def RelL.split:∀{xs:List PV}{vs:List V}{f:List Addr},RelL T F B L H xs vs f->f.Nodup ->
  ∃g:Nat->List Addr,(∀(i:Nat) x v,xs[i]?=some x->vs[i]?=some v->Rel T F B L H x v (g i))/\(∀i,(g i).Nodup)/\(∀i j,i≠j->∀a∈g i,a∉g j)/\∀i a,a∈g i->a∈f
 | [],_,_,_,_=>⟨fun _=>[],fun i x v e=>by simp at e,fun _=>nodup_nil,fun _ _ _ _ z=>(nomatch z),fun _ _ z=>(nomatch z)⟩
 |x::xs,_,_,h,nd=>by
  unfold RelL at h;obtain⟨v,ws,f1,f2,rfl,h1,h2,rfl⟩:=h;obtain⟨n1,n2,n3⟩:=nodup_append.mp nd;obtain⟨g,g1,g2,g3,g4⟩:=RelL.split h2 n2;refine⟨fun i=>match i with|0=>f1|j+1=>g j,fun i y u e1 e2=>?_,fun i=>?_,fun i j hij a ha=>?_,fun i a ha=>?_⟩
  ·cases i with
   |zero=>simp at e1 e2;subst e1 e2;exact h1
   |succ i=>exact g1 i y u (by simpa using e1) (by simpa using e2)
  ·cases i with
   |zero=>exact n1
   |succ i=>exact g2 i
  ·grind
  grind
section
variable{P:Program}{w:World}{K:PySem.W.Frag}{mg:Str->Option Value}{base:Heap}{T:Tb}
def iA(N:List Str)(R:rj T F B H pvs vs f)(pin:Option V)(hpin:∀v,pin=some v->vs[0]?=some v/\∃fl c ks xs,pvs[0]?=some (.obj fl c ks xs)) :
  ∃fp,aA T ⟨H,F,(·∈f),B,pin⟩ F H (L2.start N vs) (pvs.map some++replicate (N.length-pvs.length) none) fp:=by
 obtain⟨g,g1,g2,g3,g4⟩:=R.rel.split R.nd;have hl:=R.rel.length;refine⟨g,⟨R.bo,fun _ _ h _=>h,fun _ h=>h,fun _ h=>.inl h,R.ft⟩,?_,fun i pv e=>?_,g2,g3,fun i a ha=>⟨R.nf a (g4 i a ha),R.rel.there a (g4 i a ha)⟩,fun i a ha=>.inr (g4 i a ha),fun i a ha=>R.rel.chg a (g4 i a ha),fun v hv=>?_⟩
 ·unfold L2.start;simp[hl]
 ·by_cases hi:i<pvs.length
  ·rw[getElem?_append_left (by simpa using hi),getElem?_map]at e;obtain⟨x,e1,e2⟩:=map_eq_some_iff.mp e;cases e2;obtain⟨v,_,ev,_⟩:=R.rel.get e1;refine⟨v,?_,g1 i pv v e1 ev⟩;unfold L2.start;rw[getElem?_append_left (by simpa[<- hl]using hi),getElem?_map,ev];rfl
  ·rw[getElem?_append_right (by simpa using hi),getElem?_replicate]at e;split at e<;>cases e
 ·obtain⟨h1,fl,c,ks,xs,h2⟩:=hpin v hv;have hl0:0<vs.length:=(List.getElem?_eq_some_iff.mp h1).1;have hp0:0<pvs.length:=(List.getElem?_eq_some_iff.mp h2).1;unfold L2.start cR;rw[getElem?_append_left (by simpa using hl0),getElem?_append_left (by simpa using hp0),getElem?_map,getElem?_map,h1,h2];exact⟨rfl,rfl⟩
def FV(F:Fun K x qual st f fd)(S:dO N ps (aH st))
  (body:∀ (cdv:Value) (A:Around) (outer:List Env) (s:Shared) (H:Hp) (E:XK),dw k (A.deeper (PyProof.Rows.envOfC qual (aH st) s.heap.objs.size f cdv)) ->
   SSs (c_ (CXP P w) P w K mg base N qual (aH st) f cdv A outer s H E) T (WD T E) (bP st) m):cU P w K mg base (CXP P w) (k+1) f fd ps (spM T ps.length (br N.length m)):=by
 obtain⟨oc,od,kV,doc,pm,an,cdv,ct,osl,rfl,lk,hcd⟩:=F.ex;refine AL lk hcd S (fun vs H Q E h=>h.1) fun A outer s H vs Q E hr hsp=>⟨_,body cdv A outer s H E hr,?_⟩
 obtain⟨_,pvs,F,B,fl,R,q⟩:=hsp;obtain⟨fp,S0⟩:=iA N R none (fun _ h=>nomatch h);refine⟨_,F,_,fp,S0,?_⟩;unfold br at q;cases e:m (pvs.map some++replicate (N.length-pvs.length) none)with
 |next e'=>rw[e]at q;exact fun F' H' σ' fp' S'=>q F' H' .non [] S'.hp Br nodup_nil (fun _ z=>(nomatch z)) (fun _ z=>(nomatch z))
 |ret v=>rw[e]at q;exact q
 |brk e'|cont e'=>rw[e]at q;exact q.elim
 |exc c e'=>rw[e]at q;exact fun F' H' σ' fp' S'=>q H' S'.hp.keep
 |stuck=>rw[e]at q;exact q.elim
end
def wj(hB:∀a,B a->B' a)(hL:∀a,L a->B' a):Mp T Fl.toBor (fun _=>false) (fun x=>x) (fun _=>True) F B L H F B' L' H:=
 ⟨fun f a vs _ c h=>by
  cases f with
  |bor=>exact⟨hB a h.1,h.2⟩
  |lnt=>exact⟨hL a h.1,.inl h.2⟩
  | _=>exact h,fun f a _ c h=>⟨by
  cases f with
  |bor=>exact hB a h
  |lnt=>exact hL a h
  |_=>exact h,fun _ q=>q⟩,fun f a x y h=>by cases f<;>exact h,rfl,fun _ _=>rfl,fun _ _ q _=>q⟩
def RelL.toBor(hB:∀a,B a->B' a)(hL:∀a,L a->B' a)(h:RelL T F B L H x v fo):RelL T F B' L' H (mapL Fl.toBor x) v fo:=(wj hB hL).rels (has_noL x) (fun _ _=>True.intro) h
def Rel.noB(hp:x.has Fl.isBor=false)(h:Rel T F B L H x v fo):Rel T F B' L H x v fo:=by
 have:=(wm (p:=Fl.isBor) (B':=B') (fun _ _ q=>q) (fun z=>(nomatch z))).rel hp (fun _ _=>True.intro) h
 rwa [kq]at this
def RelL.append:∀{xs ys:List PV}{vs us:List V}{f g:List Addr},RelL T F B L H xs vs f->RelL T F B L H ys us g->RelL T F B L H (xs++ys) (vs++us) (f++g)
 | [],_,_,_,_,_,h,r=>by unfold RelL at h;obtain⟨rfl,rfl⟩:=h;exact r
 |x::xs,_,_,_,_,_,h,r=>by unfold RelL at h;obtain⟨v,ws,f1,f2,rfl,h1,h2,rfl⟩:=h;show RelL T F B L H (x::(xs++_)) (v::(ws++_)) _;unfold RelL;exact⟨v,_,f1,_,rfl,h1,RelL.append h2 r,by rw[append_assoc]⟩
section
variable{X:Cx}{T:Tb}{W:Nat->St->Hp->Prop}{Z:Zn}{F F1:Addr->Prop}{H H1:Hp}{Y:St}{env:En}{fp:Nat->List Addr}
def AB
  (G:cU X.prog X.w X.K X.mg X.base (CXP X.prog X.w) k f fd ps (spM T ps.length m)) (hr:dw k X.A) (hb:fq X.K fd ps ds) (hd:aP dvs ds) (hdp:∀F B L H,RelL T F B L H dps dvs []) (hx:XF X T W)
  (S:aA T Z F H Y env fp) (g:Gr F H F1 H1) (r:RelL T F1 Z.B (Own fp) H1 xs vs fx) (nf:∀a∈fx,¬F1 a) (nd:fx.Nodup) (new:∀a∈fx,H a=none) (q:GE T W Z.B F (Own fp) Y H Q (aU m (xs++dps)))
  (I1:L2.Inv X js Y H1 s1) (rv:aP vs us) (hlen:vs.length+dvs.length=ps.length):wpAny (model X.prog X.w) X.A (call (.ref f) us) (EP X js Y Q) X.xe s1:=by
 have r2:aP (vs++dvs) (us++ds):=rv.append hd;have hl:(us++ds).length=ps.length:=by rw[<- r2.length,length_append];exact hlen
 have rr:RelL T F1 Z.B (Own fp) H1 (xs++dps) (vs++dvs) fx:=by
  have:=RelL.append r (hdp F1 Z.B (Own fp) H1)
  rwa [append_nil]at this
 have hBo:∀a,Z.B a->(∃o,H1 a=some o)/\a∉fx:=fun a h=>by obtain⟨⟨o,h1⟩,h2⟩:=S.hp.bo.1 a h;have h3:=S.hp.keep a o h1 h2;exact⟨⟨o,g.ext a o h3⟩,fun z=>by rw[new a z]at h3;cases h3⟩
 have hOw:∀a,Own fp a->(∃o,H1 a=some o)/\a∉fx:=fun a hz1=>by obtain⟨i,hi⟩:=hz1;obtain⟨_,o,ho⟩:=S.dis i a hi;exact⟨⟨o,g.ext a o ho⟩,fun z=>by rw[new a z]at ho;cases ho⟩
 have R:rj T F1 (fun a=>(∃o,H1 a=some o)/\a∉fx) H1 (mapL Fl.toBor (xs++dps)) (vs++dvs) fx:=⟨RelL.toBor hBo hOw rr,nd,nf,⟨fun a h=>h,S.tbo g.ext fun a z=>.inl (new a z)⟩,g.dom⟩
 refine wpAny_call (codeAny_mono (G.run X.A X.stack s1 H1 ⟨us,[]⟩ (us ++ ds) (vs ++ dvs) Q (fun cls _ H'=>∃ c,cls=.ref (T.xcl c)/\W c Y H') hr I1.env0 (hb s1 us I1.kIn hl) r2
  ⟨by rw[r2.length,hl],_,F1,_,fx,R,?_⟩) fun rs s' hq=>?_)
 ·unfold aU at q;cases e:m (mapL Fl.toBor (xs++dps))with
  |ok v=>
   rw[e]at q;dsimp only at q;intro F2 H2 u f2 hp2 r3 nd2 nf2 new2;by_cases hbr:v.has Fl.isBor=true
   ·rw[if_pos hbr]at q;exact q.elim
   ·rw[if_neg hbr]at q;have hbr':v.has Fl.isBor=false:=by simpa using hbr
    refine q u H2 F2 f2 ⟨fun a o h=>hp2.keep a o (g.ext a o h) fun z=>(by rw[new a z]at h;cases h),fun a h=>hp2.f0 a (g.mono a h),fun a h=>?_,hp2.ft⟩ ?_ nf2 nd2 fun a ha=>?_
    ·rcases hp2.fn a h with z|z|z
     ·exact g.only a z
     ·exact .inr (g.ext.free z)
     ·exact .inr (new a z)
    ·exact Rel.tr (fun _ h=>h) (fun _ h=>h) (fun _ h=>h.elim) (fun _ _ h _=>h) (fun _ _ _ h=>h) (Rel.noB (B':=Z.B) hbr' r3)
    ·rcases new2 a ha with z|z
     ·exact g.ext.free z
     ·exact new a z
  |exc c=>rw[e]at q;exact fun H' h=>⟨c,rfl,q H' fun a o z=>h a o (g.ext a o z) fun z'=>by rw[new a z']at z;cases z⟩
  |stuck=>rw[e]at q;exact q.elim
 ·cases rs with
  |error e=>obtain⟨cls,H',fl,c,rfl,hw⟩:=hq;exact hx js Y H1 s1 c H' e s' I1 fl hw
  |ok fl=>
   cases fl with
   |ret u=>exact I1.after hq
   |next|brk|cont=>exact False.elim hq
def yT
  (G:cU X.prog X.w X.K X.mg X.base (CXP X.prog X.w) k f fd ps (spM T ps.length m)) (hr:dw k X.A) (hg:Gl X x) (hm:X.mg x=some (.ref f)) (hk:PySem.W.keepIn X.K (.ref f)=true) (hb:fq X.K fd ps ds) (hd:aP dvs ds) (hdp:∀F B L H,RelL T F B L H dps dvs []) (hx:XF X T W)
  (hn:∀env xs,ms env=.ok xs->xs.length+dvs.length=ps.length) (ha:SA X T W (e::es) ms)
  (hdb:(x ==("__debug__":Str))=false:=by decide) (he:starEach (e::es) X.env=(false,eval e X.env)::starEach es X.env:=by rfl) (hpl:(backTo pos (starEach es X.env)).any (·.1)=false:=by rfl) :
  SE X T W (.Call (.Name x p) (e::es) [] pos) (au (fun xs=>aU m (xs++dps)) ms):=by
 intro js s Y H Q I h;obtain⟨Z,F,env,fp,S,q⟩:=h;unfold au at q;refine wpAny_Call_Name_kw (jr I hg hm ?_ hdb);refine callWith_K (h₀:=X.base) I.ok.mod.kin hk (thn (ha pos js s Y H (fun vs H1=>∀ us s1,L2.Inv X js Y H1 s1->aP vs us->wpAny (model X.prog X.w) X.A (call (.ref f) us) (EP X js Y Q) X.xe s1) I
  (tA.bind S (fun c e=>by rw[e]at q;exact q) (fun e=>by rw[e]at q;exact q) fun xs vs H1 F1 f1 e1 g1 r1 n1 d1 w1 us s1 I1 rv=>?_)) fun us s1 ⟨vs,H1,I1,r,q1⟩=>⟨I1.kIn,q1 us s1 I1 r⟩) he hpl
 rw[e1]at q;exact AB G hr hb hd hdp hx S g1 r1 n1 d1 w1 q I1 rv (by rw[<- r1.length];exact hn env xs e1)
def gB(X:Cx)(T:Tb)(k:Nat)(mn:Str)(ps:List Str)(ds:List Value)(disp:Nat->Option (List PV->Res PV)):Prop:=
 ∀c m,c<T.nc->disp c=some m->∃f fd,Av X.K (T.cls c) mn f/\fq X.K fd ps ds/\cU X.prog X.w X.K X.mg X.base (CXP X.prog X.w) k f fd ps (spM T ps.length m)
def se(disp:Nat->Option (List PV->Res PV))(dps:List PV)(o:ME)(ms:MA):ME:=fun env=>(o env).bind fun ov=>match ov with
 |.obj _ c _ _=>match disp c with
  |some m=>(ms env).bind fun xs=>aU m ((ov::xs)++ dps)
  |none=>.stuck
 |_=>.stuck
def ka(hm:∀k,T.att k≠mn):∀(ks:List Nat) (vs:List V),((ks.map T.att).zip vs).lookup mn=none
 | [],_|j::ks,[]=>rfl
 |j::ks,v::vs=>by rw[map_cons,List.zip_cons_cons,lookup_cons,show(mn==T.att j)=false by rw[beq_eq_false_iff_ne];exact(hm j).symm];exact ka hm ks vs
def zJ
  (hK:X.K=T.K) (hc:∀c<T.nc,Cls T.K (T.cls c)) (hm:∀k,T.att k≠mn) (D:gB X T k mn ps ds disp) (e:disp c=some m) (r:Rel T F1 B L H1 (.obj fl c ks xs) v f1) (I1:L2.Inv X js Y H1 s1) (ru:bv v u)
  (h:∀a f fd,u=.ref a->PySem.W.keepIn X.K (.ref f)=true->fq X.K fd ps ds->cU X.prog X.w X.K X.mg X.base (CXP X.prog X.w) k f fd ps (spM T ps.length m)->Q (.ref f,[.ref a]) s1) :
  wpAny (model X.prog X.w) X.A (getMethod u mn pl) Q X.xe s1:=by
 unfold Rel at r;obtain⟨a,dx,vs,fp',rfl,hl,hk,hr,_,_⟩:=r;obtain⟨f,fd,M,hb,G⟩:=D c m hk.2 e;obtain rfl:u=Value.ref a:=ru;refine qO I1 hl (by rw[hK];exact hc c hk.2) M (ka hm _ _) (h a f fd rfl M.kp hb G)
def yP
  (hK:X.K=T.K) (hc:∀c<T.nc,Cls T.K (T.cls c)) (hm:∀k,T.att k≠mn) (D:gB X T k mn ps ds disp) (hr:dw k X.A) (hd:aP dvs ds) (hdp:∀F B L H,RelL T F B L H dps dvs []) (hx:XF X T W)
  (hn:∀env xs,ms env=.ok xs->xs.length+1+dvs.length=ps.length) (ho:SE X T W o mo) (ha:SA X T W (e::es) ms)
  (hst:starEach (e::es) X.env=(false,eval e X.env)::starEach es X.env:=by rfl) (hpl:(backTo pos (starEach es X.env)).any (·.1)=false:=by rfl)
  (ht:eval (.Call (.Attribute o mn apos) (e::es) [] pos) X.env=(do
   let ov <- eval o X.env
   standAt apos.atName
   let(f,first) <- holding [ov] (getMethod ov mn pl)
   callWith pos f first (backTo pos (starEach (e::es) X.env)) (backToKw pos (keywordEach [] X.env))):=by rfl) :
  SE X T W (.Call (.Attribute o mn apos) (e::es) [] pos) (se disp dps mo ms):=by
 intro js s Y H Q I h;obtain⟨Z,F,env,fp,S,q⟩:=h;unfold se at q;refine PySem.W.methodCall_KW (pl:=pl) (thn (ho js s Y H (fun v H1=>∃ ov F1 f1,mo env=.ok ov/\Gr F H F1 H1/\Rel T F1 Z.B (Own fp) H1 ov v f1/\(∀ a ∈ f1,¬ F1 a)/\f1.Nodup/\∀ a ∈ f1,H a=none) I
  (tE.bind S (fun c e=>by rw[e]at q;exact q) (fun e=>by rw[e]at q;exact q) fun ov v H1 F1 f1 e1 g1 r1 n1 d1 w1=>⟨ov,F1,f1,e1,g1,r1,n1,d1,w1⟩)) fun u s1 zz=>?_) ht
 obtain⟨v,H1,I1,ru,ov,F1,f1,e1,g1,r1,n1,d1,w1⟩:=zz;rw[e1]at q;simp only[Res.ok_bind]at q;by_cases hobj:∃fl c ks xs m,ov=.obj fl c ks xs/\disp c=some m
 ·obtain⟨fl,c,ks,ys,m,rfl,em⟩:=hobj;dsimp only at q;rw[em]at q;dsimp only at q;refine zJ hK hc hm D em r1 I1 ru fun a f fd eu hkp hb G=>?_;subst eu;refine callWith_K (first:=[.ref a]) (h₀:=X.base) I.ok.mod.kin hkp (thn (ha pos js s1 Y H1 (fun vs H2=>∀ us s2,L2.Inv X js Y H2 s2->aP vs us->wpAny (model X.prog X.w) X.A (call (.ref f) (.ref a::us)) (EP X js Y Q) X.xe s2) I1
   (tA.bind (S.grow g1) (fun c e=>by rw[e]at q;exact fun H' x=>q H' (g1.ext.trans x)) (fun e=>by rw[e]at q;exact q) fun xs vs H2 F2 f2 e2 g2 r2 n2 d2 w2 us s2 I2 rv=>?_)) fun us s2 ⟨vs,H2,I2,r,q2⟩=>⟨I2.kIn,q2 us s2 I2 r⟩) hst hpl
  rw[e2]at q;simp only[Res.ok_bind]at q;have nn:∀b∈f1,¬F2 b:=fun b hb z=>by
   rcases g2.only b z with z|z
   ·exact n1 b hb z
   ·obtain⟨oo,hoo⟩:=r1.there b hb;rw[hoo]at z;cases z
  refine AB (xs:=.obj fl c ks ys::xs) (vs:=v::vs) (us:=.ref a::us) (fx:=f1++f2) G hr hb hd hdp hx S (g1.trans g2) (by unfold RelL;exact⟨v,vs,f1,f2,rfl,r1.ext g2.ext g2.mono,r2,rfl⟩) (fun b hb=>?_) ?_ (fun b hb=>?_) q I2 (.cons ru rv) ?_
  ·rcases mem_append.mp hb with hb|hb
   ·exact nn b hb
   ·exact n2 b hb
  ·refine nodup_append.mpr ⟨d1,d2,fun b hb c hc z=>?_⟩;subst z;obtain⟨oo,hoo⟩:=r1.there b hb;rw[w2 b hc]at hoo;cases hoo
  ·rcases mem_append.mp hb with hb|hb
   ·exact w1 b hb
   ·exact g1.ext.free (w2 b hb)
  ·have:=hn env xs e2;rw[length_cons,<- r2.length];exact this
 ·exfalso;cases ov with
  |obj fl c ks ys=>
   cases em:disp c with
   |none=>simp only[em]at q;exact q
   |some m=>exact hobj ⟨fl,c,ks,ys,m,rfl,em⟩
  |_=>exact q
end
def gA(ms:MA)(n:Nat):Prop:=∀env xs,ms env=.ok xs->xs.length=n
def eC:gA am 0:=fun _ _ h=>by cases h;rfl
def dA(h:gA ms n):gA (ae m ms) (n+1):=fun env xs e=>by
 unfold ae at e;cases e1:m env with
 |ok x=>
  rw[e1]at e;simp only[Res.ok_bind]at e;cases e2:ms env with
  |ok ys=>rw[e2]at e;simp only[Res.ok_bind]at e;cases e;rw[length_cons,h env ys e2]
  |exc c|stuck=>rw[e2]at e;cases e
 |exc c|stuck=>rw[e1]at e;cases e
def aT:PV->Option (List PV)
 |.lst _ xs|.tup xs=>some xs
 |_=>none
section
variable{X:Cx}{T:Tb}{W:Nat->St->Hp->Prop}{Z:Zn}{F F1 B L:Addr->Prop}{H H1:Hp}{Y:St}{env:En}{fp:Nat->List Addr}{D:Ends}
def Rel.seq(r:Rel T F B L H x v fx)(e:aT x=some xs):∃a vs fx',v=.ref a/\(SqL T.K H a vs\/SqT T.K H a vs)/\RelL T F B L H xs vs fx'/\fx'.Sublist fx:=by
 cases x with
 |lst f ys=>
  cases e;unfold Rel at r;obtain⟨a,vs,fp',rfl,hl,hr,hf⟩:=r;refine⟨a,vs,fp',rfl,.inl hl.sq,hr,?_⟩;cases f with
  |own=>obtain rfl:fx=a::fp':=hf;exact List.sublist_cons_self _ _
  |frz|bor|lnt|mod=>obtain⟨rfl,rfl⟩:=hf;exact Sublist.refl _
 |tup ys=>cases e;unfold Rel at r;obtain⟨a,vs,rfl,hl,hr⟩:=r;exact⟨a,vs,fx,rfl,.inr hl,hr,Sublist.refl _⟩
 |_=>cases e
def GE.newL(q:GE T W B F L Y H Q (.ok (.lst .own ys)))(g:Gr F H F1 H1)(r:RelL T F1 B L H1 ys vs fx)(nf:∀a∈fx,¬F1 a)(nd:fx.Nodup)(new:∀a∈fx,H a=none) :
  ∀p,H1 p=none->Q (.ref p) (upd H1 p (.lst vs)):=fun p hp=>by
 refine q (.ref p) (upd H1 p (.lst vs)) F1 (p::fx) (g.trans (Gr.same g.dom (Ext.upd hp))) ?_ (fun a ha=>?_) ?_ (fun a ha=>?_)
 ·unfold Rel;exact⟨p,vs,fx,rfl,aN,r.ext (Ext.upd hp) fun _ h=>h,rfl⟩
 ·grind[b_,aA,bY,Gr]
 ·refine nodup_cons.mpr ⟨fun z=>?_,nd⟩;obtain⟨o,ho⟩:=r.there p z;rw[hp]at ho;cases ho
 ·rcases mem_cons.mp ha with rfl|ha
  ·exact g.ext.free hp
  ·exact new a ha
def GE.newT(q:GE T W B F L Y H Q (.ok (.tup ys)))(g:Gr F H F1 H1)(r:RelL T F1 B L H1 ys vs fx)(nf:∀a∈fx,¬F1 a)(nd:fx.Nodup)(new:∀a∈fx,H a=none) :
  ∀p,H1 p=none->Q (.ref p) (upd H1 p (.tup vs)):=fun p hp=>by
 refine q (.ref p) (upd H1 p (.tup vs)) F1 fx (g.trans (Gr.same g.dom (Ext.upd hp))) ?_ nf nd new;unfold Rel;exact⟨p,vs,rfl,SqT.of aN,r.ext (Ext.upd hp) fun _ h=>h⟩
def small(h:n<=1000):n<=sizeLine:=by rw[sizeLine_eq];omega
def eK(ms:MA):ME:=fun env=>(ms env).bind fun xs=>.ok (.lst .own xs)
def nN(ms:MA):ME:=fun env=>(ms env).bind fun xs=>.ok (.tup xs)
def Ba(ha:SA X T W es ms)(hn:gA ms n)(hs:n<=1000:=by decide):SE X T W (.List es pos) (eK ms):=PE.wk (BI (pos:=pos) ha) fun Y H Q hz1=>by obtain⟨Z,F,env,fp,S,q⟩:=hz1;unfold eK at q;refine tA.bind S (fun c e=>by rw[e]at q;exact q) (fun e=>by rw[e]at q;exact q) fun xs vs H1 F1 f1 e1 g1 r1 n1 d1 w1=>?_;rw[e1]at q;exact⟨small (by rw[<- r1.length,hn env xs e1];exact hs),GE.newL q g1 r1 n1 d1 w1⟩
def A7{x1}(ha:SA X T W es ms)(hn:gA ms n)(hs:n<=1000:=by decide):SE X T W (.Tuple es x1 pos) (nN ms):=PE.wk (vN (pos:=pos) ha) fun Y H Q hz1=>by obtain⟨Z,F,env,fp,S,q⟩:=hz1;unfold nN at q;refine tA.bind S (fun c e=>by rw[e]at q;exact q) (fun e=>by rw[e]at q;exact q) fun xs vs H1 F1 f1 e1 g1 r1 n1 d1 w1=>?_;rw[e1]at q;exact⟨small (by rw[<- r1.length,hn env xs e1];exact hs),GE.newT q g1 r1 n1 d1 w1⟩
def p1(f:PV->Res PV):List PV->Res PV
 | [x]=>f x
 |_=>.stuck
def RelL.one(r:RelL T F B L H [x] vs f):∃v,vs=[v]/\Rel T F B L H x v f:=by unfold RelL at r;obtain⟨v,ws,f1,f2,rfl,h1,h2,rfl⟩:=r;unfold RelL at h2;obtain⟨rfl,rfl⟩:=h2;exact⟨v,rfl,by rwa [append_nil]⟩
def bZ:PV->Res PV:=fun x=>match aT x with
 |some xs=>.ok (.int xs.length)
 |none=>.stuck
def zF(hK:X.K=T.K):Mir T W (p1 bZ) (fun xs H Q=>∃p ys,xs=[.ref p]/\(SqL X.K H p ys\/SqT X.K H p ys)/\Q (.int ys.length) H):=by
 intro B F L Y H Q F' H' xs vs fx g r _ _ _ q
 match xs,r,q with
 | [x],r,q=>
  obtain⟨v,rfl,r1⟩:=r.one;simp only[p1,bZ]at q;cases e:aT x with
  |none=>rw[e]at q;exact q.elim
  |some ys=>rw[e]at q;obtain⟨a,ws,fx',rfl,hs,hr,_⟩:=r1.seq e;exact⟨a,ws,rfl,by rw[hK];exact hs,q.scal g (by rw[<- hr.length];exact dP)⟩
 | [],_,q|_::_::_,_,q=>exact q.elim
def bN(hK:X.K=T.K)(hg:Gl X "len")(hm:X.mg "len"=none)(ha:SE X T W e m)(he:starEach [e] X.env=[(false,eval e X.env)]:=by rfl):SE X T W (.Call (.Name "len" p) [e] [] pos) (au (p1 bZ) (ae m am)):=
 eW oj (zF hK) hg hm PySem.boot_len (ac ha ag he) (he:=he)
def cQ:PV->Res PV:=fun x=>match aT x with
 |some xs=>.ok (.lst .own xs)
 |none=>.stuck
def wt(hK:X.K=T.K):Mir T W (p1 cQ) (fun xs H Q=>∃p ys,xs=[.ref p]/\(SqL X.K H p ys\/SqT X.K H p ys)/\∀l,H l=none->Q (.ref l) (upd H l (.lst ys))):=by
 intro B F L Y H Q F' H' xs vs fx g r nf nd new q
 match xs,r,q with
 | [x],r,q=>
  obtain⟨v,rfl,r1⟩:=r.one;simp only[p1,cQ]at q;cases e:aT x with
  |none=>rw[e]at q;exact q.elim
  |some ys=>rw[e]at q;obtain⟨a,ws,fx',rfl,hs,hr,sl⟩:=r1.seq e;exact⟨a,ws,rfl,by rw[hK];exact hs,GE.newL q g hr (fun b hb=>nf b (sl.subset hb)) (nd.sublist sl) (fun b hb=>new b (sl.subset hb))⟩
 | [],_,q|_::_::_,_,q=>exact q.elim
def fw(hK:X.K=T.K)(hg:Gl X "list")(hm:X.mg "list"=none)(hv:bootBuiltins "list"=some (.type "list"))(ha:SE X T W e m)(he:starEach [e] X.env=[(false,eval e X.env)]:=by rfl):SE X T W (.Call (.Name "list" p) [e] [] pos) (au (p1 cQ) (ae m am)):=
 jH oi (wt hK) hg hm hv (ac ha ag he) (he:=he)
def dZ:PV->Res PV:=fun x=>match aT x with
 |some xs=>.ok (.tup xs)
 |none=>.stuck
def ud(hK:X.K=T.K):Mir T W (p1 dZ) (fun xs H Q=>∃p ys,xs=[.ref p]/\((SqL X.K H p ys/\∀l,H l=none->Q (.ref l) (upd H l (.tup ys)))\/(SqT X.K H p ys/\Q (.ref p) H))):=by
 intro B F L Y H Q F' H' xs vs fx g r nf nd new q
 match xs,r,q with
 | [x],r,q=>
  obtain⟨v,rfl,r1⟩:=r.one;simp only[p1,dZ]at q;cases x with
  |lst f ys=>
   simp only[aT]at q;unfold Rel at r1;obtain⟨a,ws,fp',rfl,hl,hr,hf⟩:=r1;have sl:fp'.Sublist fx:=by
    cases f with
    |own=>obtain rfl:fx=a::fp':=hf;exact List.sublist_cons_self _ _
    |frz|bor|lnt|mod=>obtain⟨rfl,rfl⟩:=hf;exact Sublist.refl _
   exact⟨a,ws,rfl,.inl ⟨by rw[hK];exact hl.sq,GE.newT q g hr (fun b hb=>nf b (sl.subset hb)) (nd.sublist sl) (fun b hb=>new b (sl.subset hb))⟩⟩
  |tup ys=>simp only[aT]at q;have r2:=r1;unfold Rel at r2;obtain⟨a,ws,rfl,hs,hr⟩:=r2;exact⟨a,ws,rfl,.inr ⟨by rw[hK];exact hs,q _ _ _ fx g r1 nf nd new⟩⟩
  |_=>exact q.elim
 | [],_,q|_::_::_,_,q=>exact q.elim
def gQ(hK:X.K=T.K)(hg:Gl X "tuple")(hm:X.mg "tuple"=none)(hv:bootBuiltins "tuple"=some (.type "tuple"))(ha:SE X T W e m)(he:starEach [e] X.env=[(false,eval e X.env)]:=by rfl):SE X T W (.Call (.Name "tuple" p) [e] [] pos) (au (p1 dZ) (ae m am)):=
 jH lU (ud hK) hg hm hv (ac ha ag he) (he:=he)
def az:PV->PV->Res PV
 |x,.int i=>match aT x with
  |some xs=>match atI xs i with
   |some y=>if x.has Fl.isOwn&&y.has Fl.isOwn then .stuck else .ok y
   |none=>.stuck
  |none=>.stuck
 |_,_=>.stuck
def As(r:RelL T F B L H xs vs f)(e:atI xs i=some y):∃v f',atI vs i=some v/\Rel T F B L H y v f'/\f'.Sublist f:=by
 unfold atI at e ⊢;rw[<- r.length];cases e1:ixN xs.length i with
 |none=>rw[e1]at e;cases e
 |some j=>rw[e1]at e;exact r.get e
def zG(hK:X.K=T.K):kj T W az (fun x y H Q=>Bv X.K x y H Q \/(Bt X.K x y H Q\/Bu x y H Q)):=by
 intro B F L Y H Q F' H' x y v u fx fy g rx ry nf nd new q;cases y with
 |int i=>
  unfold Rel at ry;obtain⟨rfl,rfl⟩:=ry;simp only[az]at q;cases e:aT x with
  |none=>rw[e]at q;exact q.elim
  |some xs=>
   rw[e]at q;dsimp only at q;obtain⟨a,ws,fx',rfl,hs,hr,sl⟩:=rx.seq e;cases e2:atI xs i with
   |none=>rw[e2]at q;exact q.elim
   |some z=>
    rw[e2]at q;dsimp only at q;obtain⟨w,f',h1,h2,h3⟩:=As hr e2;have e0:f'=[]:=by
     by_cases ho:x.has Fl.isOwn=true
     ·by_cases hz:z.has Fl.isOwn=true
      ·rw[ho,hz]at q;exact q.elim
      ·exact Rel.noOwn (by simpa using hz) h2
     ·have:=Rel.noOwn (by simpa using ho) rx;subst this;exact sublist_nil.mp (h3.trans sl)
    subst e0;by_cases hb:(x.has Fl.isOwn&&z.has Fl.isOwn)=true
    ·rw[if_pos hb]at q;exact q.elim
    ·rw[if_neg hb]at q;rcases hs with hs|hs
     ·exact .inl ⟨a,ws,i,w,rfl,rfl,by rw[hK];exact hs,h1,q.scal g h2⟩
     ·exact .inr (.inl ⟨a,ws,i,w,rfl,rfl,by rw[hK];exact hs,h1,q.scal g h2⟩)
 |_=>exact q.elim
def Bc(hK:X.K=T.K)(ha:SE X T W a ma)(hb:SE X T W b mb)(hs:kA b):SE X T W (.Subscript a b pos) (mOp az ma mb):=
 Ez Cv (zG hK) ha hb hs
abbrev MO:=En->Res (Option Int)
def nR:MO:=fun _=>.ok none
def sd(m:ME):MO:=fun env=>(m env).bind fun
 |.int i=>.ok (some i)
 |_=>.stuck
def uJ(xs:List PV)(lo hi:Option Int):List PV:=(xs.drop (HT.sIx xs.length 0 lo)).take (HT.sIx xs.length xs.length hi-HT.sIx xs.length 0 lo)
def nQ(o:ME)(lo hi:MO):ME:=fun env=>(o env).bind fun x=>(lo env).bind fun l=>(hi env).bind fun h=>match x with
 |.lst _ xs=>.ok (.lst .own (uJ xs l h))
 |_=>.stuck
def RelL.drop:∀{xs:List PV}{vs:List V}{f:List Addr} (n:Nat),RelL T F B L H xs vs f->∃f',RelL T F B L H (xs.drop n) (vs.drop n) f'/\f'.Sublist f
 |xs,vs,f,0,h=>⟨f,h,Sublist.refl _⟩
 | [],vs,f,n+1,h=>by unfold RelL at h;obtain⟨rfl,rfl⟩:=h;exact⟨[],by simp[RelL],Sublist.refl _⟩
 |x::xs,_,_,n+1,h=>by unfold RelL at h;obtain⟨v,ws,f1,f2,rfl,h1,h2,rfl⟩:=h;obtain⟨f',r,s⟩:=RelL.drop n h2;exact⟨f',by simpa using r,s.trans (List.sublist_append_right _ _)⟩
def RelL.take:∀{xs:List PV}{vs:List V}{f:List Addr} (n:Nat),RelL T F B L H xs vs f->∃f',RelL T F B L H (xs.take n) (vs.take n) f'/\f'.Sublist f
 |xs,vs,f,0,h=>⟨[],by simp[RelL],List.nil_sublist _⟩
 | [],vs,f,n+1,h=>by unfold RelL at h;obtain⟨rfl,rfl⟩:=h;exact⟨[],by simp[RelL],Sublist.refl _⟩
 |x::xs,_,_,n+1,h=>by unfold RelL at h;obtain⟨v,ws,f1,f2,rfl,h1,h2,rfl⟩:=h;obtain⟨f',r,s⟩:=RelL.take n h2;refine⟨f1++f',?_,Sublist.append (Sublist.refl _) s⟩;rw[List.take_succ_cons,List.take_succ_cons];unfold RelL;exact⟨v,_,f1,f',rfl,h1,r,rfl⟩
def tO(T:Tb)(W:Nat->St->Hp->Prop)(m:MO):TO:=fun Y H Q=>∃Z F env fp,aA T Z F H Y env fp/\match m env with
 |.ok o=>∀H' F',Gr F H F' H'->Q o H'
 |.exc c=>∀H',Ext H H'->W c Y H'
 |.stuck=>False
abbrev SO(X:Cx)(T:Tb)(W:Nat->St->Hp->Prop)(e:Option Expr)(m:MO):Prop:=PO X e (tO T W m)
def yG:SO X T W none nR:=fun js s Y H Q I ⟨Z,F,env,fp,S,q⟩=>ze js s Y H Q I (q H F (Gr.refl S.hp.ft))
def yF(h:SE X T W e m):SO X T W (some e) (sd m):=fun js s Y H Q I ⟨Z,F,env,fp,S,q⟩=>zd h js s Y H Q I (by
 unfold sd at q;refine tE.bind S (fun c e=>by rw[e]at q;exact q) (fun e=>by rw[e]at q;exact q) fun x v H1 F1 f1 e1 g1 r1 n1 d1 w1=>?_;rw[e1]at q;cases x with
 |int i=>unfold Rel at r1;exact⟨i,r1.1,q H1 F1 g1⟩
 |_=>exact q.elim)
def vg(hK:X.K=T.K)(he:SE X T W e m)(hl:SO X T W lo ml)(hu:SO X T W hi mh):SE X T W (.Subscript e (.Slice lo hi none p2) pos) (nQ m ml mh):=
 PE.wk (vO (pos:=pos) (p2:=p2) yI he hl hu) fun Y H Q hz1=>by
  obtain⟨Z,F,env,fp,S,q⟩:=hz1;unfold nQ at q;refine tE.bind S (fun c e=>by rw[e]at q;exact q) (fun e=>by rw[e]at q;exact q) fun x v H1 F1 f1 e1 g1 r1 n1 d1 w1=>?_;rw[e1]at q;simp only[Res.ok_bind]at q;refine⟨Z,F1,env,fp,S.grow g1,?_⟩;cases e2:ml env with
  |exc c=>rw[e2]at q;exact fun H' x=>q H' (g1.ext.trans x)
  |stuck=>rw[e2]at q;exact q
  |ok l=>
   rw[e2]at q;intro H2 F2 g2;refine⟨Z,F2,env,fp,(S.grow g1).grow g2,?_⟩;simp only[Res.ok_bind]at q;cases e3:mh env with
   |exc c=>rw[e3]at q;exact fun H' x=>q H' ((g1.ext.trans g2.ext).trans x)
   |stuck=>rw[e3]at q;exact q
   |ok h=>
    rw[e3]at q;intro H3 F3 g3;simp only[Res.ok_bind]at q;cases x with
    |lst f xs=>
     have g:=(g1.trans g2).trans g3;have r3:=(r1.ext (g2.trans g3).ext (g2.trans g3).mono)
     have nf3:∀a∈f1,¬F3 a:=fun a ha z=>by
      rcases(g2.trans g3).only a z with z|z
      ·exact n1 a ha z
      ·obtain⟨o,ho⟩:=r1.there a ha;rw[ho]at z;cases z
     unfold Rel at r3;obtain⟨a,ws,fp',rfl,hll,hr,hf⟩:=r3;have sl:fp'.Sublist f1:=by
      cases f with
      |own=>obtain rfl:f1=a::fp':=hf;exact List.sublist_cons_self _ _
      |frz|bor|lnt|mod=>obtain⟨rfl,rfl⟩:=hf;exact Sublist.refl _
     obtain⟨f4,h4,s4⟩:=RelL.drop (HT.sIx xs.length 0 l) hr;obtain⟨f5,h5,s5⟩:=RelL.take (HT.sIx xs.length xs.length h-HT.sIx xs.length 0 l) h4;have sl2:=(s5.trans s4).trans sl;refine⟨a,ws,rfl,by rw[hK];exact hll.sq,?_⟩;unfold xr;rw[<- hr.length];exact GE.newL q g h5 (fun b hb=>nf3 b (sl2.subset hb)) (d1.sublist sl2) (fun b hb=>w1 b (sl2.subset hb))
    |_=>exact q.elim
def AD(K:PySem.W.Frag):R2:=fun x y H Q=>∃l b xs zs,x=.ref l/\y=.ref b/\Rd H l (.lst xs)/\Rd H b (.lst zs)/\xs.length+zs.length<=sizeLine/\∀p,H p=none->Q (.ref p) (upd H p (.lst (xs++zs)))
def zv:OpR X (binaryOp .Add) (AD K):=by
 intro js s Y H x y v u Q I rx ry h;obtain⟨l,b,xs,zs,rfl,rfl,hH,hB,hz,q⟩:=h;cases rx;cases ry;obtain⟨z,its,n,r,e⟩:=hH.ok I.hok;obtain⟨z2,its2,n2,r2,e2⟩:=hB.ok I.hok;have hl:=r.length;have hl2:=r2.length;refine PySem.P.add_list e e2 ?_ (by rw[size_toArray,size_toArray];omega);have ea:its.toArray++its2.toArray=(its++its2).toArray:=by simp
 rw[ea];exact⟨.ref _,_,I.lnew (t':=s.toks) (r.append r2) (by rw[length_append];omega),rfl,q _ I.fresh⟩
def aY:PV->PV->Res PV
 |.int i,.int j=>.ok (.int (i+j))
 |.lst f xs,.lst g ys=>if f=.mod\/g=.mod\/¬xs.length+ys.length<=10000000 then .stuck else .ok (.lst .own (xs++ys))
 |_,_=>.stuck
def lN.rd(h:lN T F B L H f a vs)(n:f≠.mod):Rd H a (.lst vs):=by
 cases f with
 |own=>exact .inl h
 |lnt=>exact .inl h.2
 |frz|bor=>exact h.2
 |mod=>exact absurd rfl n
def p3.sub(hf:p3 f a fp' fx):fp'.Sublist fx:=by
 cases f with
 |own=>obtain rfl:fx=a::fp':=hf;exact List.sublist_cons_self _ _
 |frz|bor|lnt|mod=>obtain⟨rfl,rfl⟩:=hf;exact Sublist.refl _
def wo:kj T W aY (fun x y H Q=>(rI0 fun i j=>.int (i+j)) x y H Q\/AD T.K x y H Q):=by
 intro B F L Y H Q F' H' x y v u fx fy g rx ry nf nd new q;cases x with
 |int i=>
  cases y with
  |int j=>unfold Rel at rx ry;exact .inl ⟨i,j,rx.1,ry.1,q.scal g dP⟩
  |_=>exact q.elim
 |lst f xs=>
  cases y with
  |lst f' ys=>
   simp only[aY]at q;by_cases hc:f=.mod\/f'=.mod\/¬xs.length+ys.length<=10000000
   ·rw[if_pos hc]at q;exact q.elim
   ·rw[if_neg hc]at q;unfold Rel at rx ry;obtain⟨a,vs,fp1,rfl,hl1,hr1,hf1⟩:=rx;obtain⟨b,us,fp2,rfl,hl2,hr2,hf2⟩:=ry;have sl:=Sublist.append hf1.sub hf2.sub;have h3:xs.length+ys.length<=10000000:=by
     rcases Nat.lt_or_ge 10000000 (xs.length+ys.length)with z|z
     ·exact absurd (.inr (.inr (by omega))) hc
     ·exact z
    refine .inr ⟨a,b,vs,us,rfl,rfl,hl1.rd fun z=>hc (.inl z),hl2.rd fun z=>hc (.inr (.inl z)),by rw[<- hr1.length,<- hr2.length,sizeLine_eq];omega,?_⟩;exact GE.newL q g (RelL.append hr1 hr2) (fun b hb=>nf b (sl.subset hb)) (nd.sublist sl) (fun b hb=>new b (sl.subset hb))
  |_=>exact q.elim
 |_=>exact q.elim
def OpR.or(h:OpR X f r)(h':OpR X f r'):OpR X f (fun x y H Q=>r x y H Q\/r' x y H Q):=by
 intro js s Y H x y v u Q I rx ry q;rcases q with q|q
 ·exact h js s Y H x y v u Q I rx ry q
 ·exact h' js s Y H x y v u Q I rx ry q
def a9(ha:SE X T W a ma)(hb:SE X T W b mb):SE X T W (.BinOp a .Add b pos) (mOp aY ma mb):=j2 (OpR.or BS zv) wo ha hb
end
mutual
def PV.data:PV->PyData
 |.non=>.none
 |.bl b=>.bool b
 |.int i=>.int i
 |.str x=>.str x
 |.lst _ xs=>.list (dataL xs)
 |.tup xs=>.tuple (dataL xs)
 |.obj _ _ _ _|.exc _|.box _ _=>.dict []
def dataL:List PV->List PyData
 | []=>[]
 |x::xs=>x.data::dataL xs
end
def shp(x:PV):Bool:=SeqAt.shaped x.data
section
variable{X:Cx}{T:Tb}{W:Nat->St->Hp->Prop}{Z:Zn}{F F1 B L:Addr->Prop}{H H1:Hp}{Y:St}{env:En}{fp:Nat->List Addr}{D:Ends}{js:List (Addr×Obj)}{s:Shared}
mutual
def Rel.reads(hK:X.K=T.K)(I:L2.Inv X js Y H s):∀{x:PV}{v:V}{f:List Addr}{u:Value},Rel T F B L H x v f->bv v u->x.data.canLay0=true->∃as,Reads s.heap u x.data as
 |.non,_,_,_,r,ru,_=>by unfold Rel at r;obtain⟨rfl,_⟩:=r;cases ru;exact⟨[],.none⟩
 |.bl b,_,_,_,r,ru,_=>by unfold Rel at r;obtain⟨rfl,_⟩:=r;cases ru;exact⟨[],.bool b⟩
 |.int i,_,_,_,r,ru,_=>by unfold Rel at r;obtain⟨rfl,_⟩:=r;obtain⟨t,rfl⟩:=ru;exact⟨[],.int i t⟩
 |.str x,_,_,_,r,ru,_=>by unfold Rel at r;obtain⟨rfl,_⟩:=r;obtain⟨t,rfl⟩:=ru;exact⟨[],.str x t⟩
 |.lst f xs,_,_,_,r,ru,hc=>by unfold Rel at r;obtain⟨a,vs,fp',rfl,hl,hr,_⟩:=r;cases ru;obtain⟨its,rv,⟨o,n,ho,hcl,_,hd⟩,_⟩:=I.list (by rw[hK];exact hl.sq);obtain⟨as,ra⟩:=RelL.reads hK I hr rv (by simpa[PV.data,PyData.canLay0]using hc);exact⟨_,.list ho hcl hd (by simpa using ra)⟩
 |.tup xs,_,_,_,r,ru,hc=>by unfold Rel at r;obtain⟨a,vs,rfl,hl,hr⟩:=r;cases ru;obtain⟨its,rv,⟨o,ho,hcl,n,hd⟩,_⟩:=I.tuple (by rw[hK];exact hl);obtain⟨as,ra⟩:=RelL.reads hK I hr rv (by simpa[PV.data,PyData.canLay0]using hc);exact⟨_,.tuple ho hcl hd (by simpa using ra)⟩
 |.obj _ _ _ _,_,_,_,_,_,hc|.exc _,_,_,_,_,_,hc|.box _ _,_,_,_,_,_,hc=>by simp[PV.data,PyData.canLay0]at hc
def RelL.reads(hK:X.K=T.K)(I:L2.Inv X js Y H s):∀{xs:List PV}{vs:List V}{f:List Addr}{us:List Value},RelL T F B L H xs vs f->aP vs us->PyData.canLayAll0 (dataL xs)=true->∃as,ReadsAll s.heap us (dataL xs) as
 | [],_,_,_,r,ru,_=>by unfold RelL at r;obtain⟨rfl,_⟩:=r;cases ru;exact⟨[],.nil⟩
 |x::xs,_,_,_,r,ru,hc=>by
  unfold RelL at r;obtain⟨v,ws,f1,f2,rfl,h1,h2,_⟩:=r;cases ru with
  |cons r1 r2=>simp only[dataL,PyData.canLayAll0,and_eq_true]at hc;obtain⟨as,ra⟩:=Rel.reads hK I h1 r1 hc.1;obtain⟨bs,rb⟩:=RelL.reads hK I h2 r2 hc.2;exact⟨_,.cons ra rb⟩
end
def pEq:PV->PV->Res PV:=fun x y=>if shp x&&shp y then .ok (.bl (PyData.eqv x.data y.data))else .stuck
def pNe:PV->PV->Res PV:=fun x y=>if shp x&&shp y then .ok (.bl (!PyData.eqv x.data y.data))else .stuck
def vD(X:Cx)(T:Tb)(g:PyData->PyData->Bool):R2:=fun v u H Q=>∃x y F B L fx fy,Rel T F B L H x v fx/\Rel T F B L H y u fy/\shp x=true/\shp y=true/\Q (.bl (g x.data y.data)) H
def vX(hK:X.K=T.K)(hu:X.A.units+64<cLine):OpR X (compareOp .Eq) (vD X T fun a b=>PyData.eqv a b):=by intro js s Y H v u v' u' Q I rv ru h;obtain⟨x,y,F,B,L,fx,fy,rx,ry,hx,hy,q⟩:=h;obtain⟨as,ra⟩:=rx.reads hK I rv (SeqAt.canLay_of_shaped hx);obtain⟨bs,rb⟩:=ry.reads hK I ru (SeqAt.canLay_of_shaped hy);exact PyProof.Rows.eq_dataH ra rb hx hy hu ⟨.bl _,H,I,rfl,q⟩
def vV(hK:X.K=T.K)(hu:X.A.units+64<cLine):OpR X (compareOp .NotEq) (vD X T fun a b=>!PyData.eqv a b):=by intro js s Y H v u v' u' Q I rv ru h;obtain⟨x,y,F,B,L,fx,fy,rx,ry,hx,hy,q⟩:=h;obtain⟨as,ra⟩:=rx.reads hK I rv (SeqAt.canLay_of_shaped hx);obtain⟨bs,rb⟩:=ry.reads hK I ru (SeqAt.canLay_of_shaped hy);exact PyProof.Rows.ne_dataH ra rb hx hy hu ⟨.bl _,H,I,rfl,q⟩
def jg:kj T W (fun x y=>if shp x&&shp y then .ok (.bl (g x.data y.data))else .stuck) (vD X T g):=by
 intro B F L Y H Q F' H' x y v u fx fy gr rx ry nf nd new q;dsimp only at q;by_cases hc:(shp x&&shp y)=true
 ·rw[if_pos hc]at q;rw[and_eq_true]at hc;exact⟨x,y,F',B,L,fx,fy,rx,ry,hc.1,hc.2,q.scal gr lQ⟩
 ·rw[if_neg hc]at q;exact q.elim
variable{a b:Expr}{ma mb:ME}{pos:Pos}
def kK(hK:X.K=T.K)(hu:X.A.units+64<cLine)(ha:SE X T W a ma)(hb:SE X T W b mb):SE X T W (.Compare a [.Eq] [b] pos) (mOp pEq ma mb):=ql (vX hK hu) jg ha hb (gZ _)
def vi(hK:X.K=T.K)(hu:X.A.units+64<cLine)(ha:SE X T W a ma)(hb:SE X T W b mb):SE X T W (.Compare a [.NotEq] [b] pos) (mOp pNe ma mb):=ql (vV hK hu) (jg (g:=fun a b=>!PyData.eqv a b)) ha hb (gZ _)
def bS(hK:X.K=T.K)(hu:X.A.units+64<cLine)(ha:SE X T W a ma)(hb:SE X T W b mb):ST X T W (.Compare a [.Eq] [b] pos) (aC (mOp pEq ma mb)):=gO (vX hK hu) jg ha hb (gZ _)
def i5(hK:X.K=T.K)(hu:X.A.units+64<cLine)(ha:SE X T W a ma)(hb:SE X T W b mb):ST X T W (.Compare a [.NotEq] [b] pos) (aC (mOp pNe ma mb)):=gO (vV hK hu) (jg (g:=fun a b=>!PyData.eqv a b)) ha hb (gZ _)
def fI(ha:SE X T W a ma)(hb:SE X T W b mb):ST X T W (.Compare a [.Lt] [b] pos) (aC (mOp pLt ma mb)):=gO EV (k8 fun _ _ _ _ _ _=>lQ) ha hb (gZ _)
def i6(ha:SE X T W a ma)(hb:SE X T W b mb):ST X T W (.Compare a [.Gt] [b] pos) (aC (mOp pGt ma mb)):=gO EW (k8 fun _ _ _ _ _ _=>lQ) ha hb (gZ _)
def oF(ha:SE X T W a ma)(hb:SE X T W b mb):ST X T W (.Compare a [.GtE] [b] pos) (aC (mOp pGe ma mb)):=gO EX (k8 fun _ _ _ _ _ _=>lQ) ha hb (gZ _)
def inL(x:PV)(ys:List PV):Bool:=ys.any fun y=>PyData.eqv y.data x.data
def pIn:PV->PV->Res PV:=fun x y=>match aT y with
 |some ys=>if shp x&&ys.all shp then .ok (.bl (inL x ys))else .stuck
 |none=>.stuck
def jL:PV->PV->Res PV:=fun x y=>match aT y with
 |some ys=>if shp x&&ys.all shp then .ok (.bl (!inL x ys))else .stuck
 |none=>.stuck
def lA(hK:X.K=T.K)(I:L2.Inv X js Y H s)(hu:A.units+64<cLine)(rx:Rel T F B L H x v fx)(ry:Rel T F B L H y u fy)(rv:bv v v')(ru:bv u u')(hx:shp x=true)(hy:shp y=true) :
  SeqAt.EqAt A s v' u' (PyData.eqv x.data y.data):=by
 obtain⟨as,ra⟩:=rx.reads hK I rv (SeqAt.canLay_of_shaped hx);obtain⟨bs,rb⟩:=ry.reads hK I ru (SeqAt.canLay_of_shaped hy);exact SeqAt.eqAt_reads _ _ A s v' u' as bs ra rb (SeqAt.canLay_of_shaped hx) (SeqAt.canLay_of_shaped hy) (SeqAt.room_of_shaped hx hu)
def jt(hK:X.K=T.K)(I:L2.Inv X js Y H s)(hu:A.units+64<cLine)(rx:Rel T F B L H x v fx)(rv:bv v v')(hx:shp x=true) :
  ∀{ys:List PV}{us:List V}{fy:List Addr}{us':List Value},RelL T F B L H ys us fy->aP us us'->ys.all shp=true->∃e:Value->Bool,(∀w∈us',SeqAt.EqAt A s w v' (e w))/\us'.any e=inL x ys:=by
 intro ys us fy us' r rv' hs;have one:∀(ys:List PV) (us:List V) (fy:List Addr) (us':List Value),RelL T F B L H ys us fy->aP us us'->ys.all shp=true->∀w∈us',∃b,SeqAt.EqAt A s w v' b/\(b=true->inL x ys=true):=by
  intro ys
  induction ys with
  |nil=>intro us fy us' r rv' _ w hw;unfold RelL at r;obtain⟨rfl,_⟩:=r;cases rv';cases hw
  |cons y ys ih=>
   intro us fy us' r rv' hs w hw;unfold RelL at r;obtain⟨u,ws,f1,f2,rfl,h1,h2,_⟩:=r;cases rv' with
   |cons r1 r2=>
    rw[all_cons,and_eq_true]at hs;rcases mem_cons.mp hw with rfl|hw
    ·exact⟨_,lA hK I hu h1 rx r1 rv hs.1 hx,fun z=>by simp[inL,z]⟩
    ·obtain⟨b,h3,h4⟩:=ih ws f2 _ h2 r2 hs.2 w hw;exact⟨b,h3,fun z=>by have:=h4 z;unfold inL at this ⊢;simp[this]⟩
 have some_:∀(ys:List PV) (us:List V) (fy:List Addr) (us':List Value),RelL T F B L H ys us fy->aP us us'->ys.all shp=true->inL x ys=true->∃w∈us',SeqAt.EqAt A s w v' true:=by
  intro ys
  induction ys with
  |nil=>intro us fy us' r rv' _ h;simp[inL]at h
  |cons y ys ih=>
   intro us fy us' r rv' hs h;unfold RelL at r;obtain⟨u,ws,f1,f2,rfl,h1,h2,_⟩:=r;cases rv' with
   |cons r1 r2=>
    rw[all_cons,and_eq_true]at hs;by_cases hy:PyData.eqv y.data x.data=true
    ·refine⟨_,mem_cons_self,?_⟩;have:=lA hK I hu h1 rx r1 rv hs.1 hx
     rwa [hy]at this
    ·have h':inL x ys=true:=by unfold inL at h ⊢;rw[any_cons]at h;simpa[hy]using h
     grind
 by_cases hin:inL x ys=true
 ·obtain⟨w0,hw0,q0⟩:=some_ ys us fy us' r rv' hs hin;refine⟨fun w=>@decide (SeqAt.EqAt A s w v' true) (Classical.propDecidable _),fun w hw=>?_,?_⟩
  ·obtain⟨b,h1,_⟩:=one ys us fy us' r rv' hs w hw;by_cases ht:SeqAt.EqAt A s w v' true
   ·simp only[ht,decide_true]
   ·simp only[ht,decide_false];cases b with
    |true=>exact absurd h1 ht
    |false=>exact h1
  ·rw[hin,List.any_eq_true];exact⟨w0,hw0,by simp[q0]⟩
 ·have hin':inL x ys=false:=by simpa using hin
  refine⟨fun _=>false,fun w hw=>?_,by rw[hin'];simp⟩
  grind
def Bw(X:Cx)(T:Tb)(neg:Bool):R2:=fun v u H Q=>∃x ys a vs F B L fx fy,u=.ref a/\(SqL T.K H a vs\/SqT T.K H a vs)/\Rel T F B L H x v fx/\RelL T F B L H ys vs fy/\shp x=true/\ys.all shp=true/\Q (.bl (if neg then !inL x ys else inL x ys)) H
def vW(hK:X.K=T.K)(hu:X.A.units+66<cLine):OpR X (compareOp .In) (Bw X T false):=by
 intro js s Y H v u v' u' Q I rv ru h;obtain⟨x,ys,a,vs,F,B,L,fx,fy,rfl,hs,rx,ry,hx,hy,q⟩:=h;cases ru;have hu1:X.A.in1.units+64<cLine:=by show X.A.units+1+64<cLine;omega
 rcases hs with hs|hs
 ·obtain⟨its,r,pl,_⟩:=I.list (by rw[hK];exact hs);obtain⟨e,h1,h2⟩:=jt hK I hu1 rx rv hx ry r hy;refine SeqAt.in_listAt e pl.isList (fun w hw=>h1 w (by simpa using hw)) ⟨.bl _,H,I,rfl,?_⟩;rw[show its.toArray.any e=its.any e by simp,h2];exact q
 ·obtain⟨its,r,pl,_⟩:=I.tuple (by rw[hK];exact hs);obtain⟨e,h1,h2⟩:=jt hK I hu1 rx rv hx ry r hy;refine SeqAt.in_tupleAt e pl (fun w hw=>h1 w (by simpa using hw)) ⟨.bl _,H,I,rfl,?_⟩;rw[show its.toArray.any e=its.any e by simp,h2];exact q
def t_(hK:X.K=T.K)(hu:X.A.units+66<cLine):OpR X (compareOp .NotIn) (Bw X T true):=by
 intro js s Y H v u v' u' Q I rv ru h;obtain⟨x,ys,a,vs,F,B,L,fx,fy,rfl,hs,rx,ry,hx,hy,q⟩:=h;cases ru;have hu1:X.A.in1.units+64<cLine:=by show X.A.units+1+64<cLine;omega
 rcases hs with hs|hs
 ·obtain⟨its,r,pl,_⟩:=I.list (by rw[hK];exact hs);obtain⟨e,h1,h2⟩:=jt hK I hu1 rx rv hx ry r hy;refine SeqAt.notIn_listAt e pl.isList (fun w hw=>h1 w (by simpa using hw)) ⟨.bl _,H,I,rfl,?_⟩;rw[show its.toArray.any e=its.any e by simp,h2];exact q
 ·obtain⟨its,r,pl,_⟩:=I.tuple (by rw[hK];exact hs);obtain⟨e,h1,h2⟩:=jt hK I hu1 rx rv hx ry r hy;refine SeqAt.notIn_tupleAt e pl (fun w hw=>h1 w (by simpa using hw)) ⟨.bl _,H,I,rfl,?_⟩;rw[show its.toArray.any e=its.any e by simp,h2];exact q
def qA:kj T W (fun x y=>match aT y with
 |some ys=>if shp x&&ys.all shp then .ok (.bl (if neg then !inL x ys else inL x ys))else .stuck
 |none=>.stuck) (Bw X T neg):=by
 intro B F L Y H Q F' H' x y v u fx fy gr rx ry nf nd new q;dsimp only at q;cases e:aT y with
 |none=>rw[e]at q;exact q.elim
 |some ys=>
  rw[e]at q;dsimp only at q;by_cases hc:(shp x&&ys.all shp)=true
  ·rw[if_pos hc]at q;rw[and_eq_true]at hc;obtain⟨a,ws,f',rfl,hs,hr,_⟩:=ry.seq e;exact⟨x,ys,a,ws,F',B,L,fx,f',rfl,hs,rx,hr,hc.1,hc.2,q.scal gr lQ⟩
  ·rw[if_neg hc]at q;exact q.elim
def EA(hK:X.K=T.K)(hu:X.A.units+66<cLine)(ha:SE X T W a ma)(hb:SE X T W b mb)(hk:behindInMarks .In b=false:=by with_unfolding_all rfl):SE X T W (.Compare a [.In] [b] pos) (mOp pIn ma mb):=ql (vW hK hu) (qA (neg:=false)) ha hb hk
def rE(hK:X.K=T.K)(hu:X.A.units+66<cLine)(ha:SE X T W a ma)(hb:SE X T W b mb)(hk:behindInMarks .In b=false:=by with_unfolding_all rfl):ST X T W (.Compare a [.In] [b] pos) (aC (mOp pIn ma mb)):=gO (vW hK hu) (qA (neg:=false)) ha hb hk
def u6(hK:X.K=T.K)(hu:X.A.units+66<cLine)(ha:SE X T W a ma)(hb:SE X T W b mb)(hk:behindInMarks .NotIn b=false:=by with_unfolding_all rfl):ST X T W (.Compare a [.NotIn] [b] pos) (aC (mOp jL ma mb)):=gO (t_ hK hu) (qA (neg:=true)) ha hb hk
def PV.isNon:PV->Bool
 |.non=>true
 |_=>false
def iD:PV->PV->Res PV
 |x,.non=>.ok (.bl (!x.isNon))
 |_,_=>.stuck
def Rel.isNon(r:Rel T F B L H x v f):decide (v=.non)=x.isNon:=by
 cases x with
 |non|bl b|int i|str i=>unfold Rel at r;rw[r.1];rfl
 |lst f xs=>unfold Rel at r;obtain⟨a,_,_,rfl,_⟩:=r;rfl
 |tup xs=>unfold Rel at r;obtain⟨a,_,rfl,_⟩:=r;rfl
 |obj f c ks xs=>unfold Rel at r;obtain⟨a,_,_,_,rfl,_⟩:=r;rfl
 |exc c=>unfold Rel at r;obtain⟨a,rfl,_⟩:=r;rfl
 |box k xs=>unfold Rel at r;obtain⟨a,vs,rfl,_⟩:=r;rfl
def wp:kj T W iD (fun x y H Q=>y=.non/\Q (.bl (!decide (x=.non))) H):=by
 intro B F L Y H Q F' H' x y v u fx fy gr rx ry nf nd new q;cases y with
 |non=>unfold Rel at ry;refine⟨ry.1,?_⟩;rw[rx.isNon];exact GE.scal (pv:=.bl (!x.isNon)) (by simpa[iD]using q) gr lQ
 |_=>simp only[iD]at q;exact q.elim
def rD(ha:SE X T W a ma)(hb:SE X T W b mb):ST X T W (.Compare a [.IsNot] [b] pos) (aC (mOp iD ma mb)):=gO zt wp ha hb (gZ _)
end
abbrev TgM:=PV->En->Option En
abbrev qZ:=List PV->En->Option En
def tgN(i:Nat):TgM:=fun v env=>if aS i env then some (env.set i (some v))else none
def kE:qZ:=fun vs env=>match vs with
 | []=>some env
 |_=>none
def dg(t:TgM)(u:qZ):qZ:=fun vs env=>match vs with
 |v::r=>match t v env with
  |some e=>u r e
  |none=>none
 | []=>none
def tgT(n:Nat)(u:qZ):TgM:=fun v env=>match v with
 |.tup xs=>if xs.length=n then u xs env else none
 |_=>none
structure uR(Z:Zn)(F:Addr->Prop)(fp:Nat->List Addr)(f:List Addr):Prop where
 nd:f.Nodup
 nf:∀a∈f,¬F a
 new:∀a∈f,Z.H0 a=none\/Z.fp0 a
 dj:∀a∈f,∀j,a∉fp j
def uR.nil:uR Z F fp []:=⟨nodup_nil,fun _ z=>(nomatch z),fun _ z=>(nomatch z),fun _ z=>(nomatch z)⟩
def GG(T:Tb)(Z:Zn)(F:Addr->Prop)(H:Hp)(Q:St->Hp->Prop):Option En->Prop
 |some e=>∀Y fp,aA T Z F H Y e fp->Q Y H
 |none=>False
def tG(T:Tb)(m:TgM):TG:=fun v Y H Q=>∃Z F env fp pv f,aA T Z F H Y env fp/\Rel T F Z.B NoL H pv v f/\uR Z F fp f/\GG T Z F H Q (m pv env)
def tGs(T:Tb)(m:qZ):TGs:=fun vs Y H Q=>∃Z F env fp pvs f,aA T Z F H Y env fp/\RelL T F Z.B NoL H pvs vs f/\uR Z F fp f/\GG T Z F H Q (m pvs env)
abbrev SG(X:Cx)(T:Tb)(tg:Expr)(m:TgM):Prop:=PG X tg (tG T m)
abbrev SGs(X:Cx)(T:Tb)(ts:List Expr)(m:qZ):Prop:=PGs X ts (tGs T m)
section
variable{X:Cx}{T:Tb}{W:Nat->St->Hp->Prop}{Z:Zn}{F F1 B L:Addr->Prop}{H H1:Hp}{Y:St}{env:En}{fp:Nat->List Addr}{D:Ends}
def PG.wk(h:PG X tg t)(w:∀v Y H Q,t' v Y H Q->t v Y H Q):PG X tg t':=fun js s Y H v u Q I r q=>h js s Y H v u Q I r (w v Y H Q q)
def PGs.wk(h:PGs X ts t)(w:∀v Y H Q,t' v Y H Q->t v Y H Q):PGs X ts t':=fun js s Y H v u Q I r q=>h js s Y H v u Q I r (w v Y H Q q)
def yL(hN:X.N.Nodup)(hi:X.N[i]?=some x)(hx:Loc X.env.scope x)(hf:X.fn x=true\/X.env.scope.names.lookup x=some .local:=by first|exact .inl rfl|exact .inr rfl|assumption):SG X T (.Name x pos) (tgN i):=
 PG.wk (rS (pos:=pos) hN hi hx hf) fun v Y H Q hz1=>by
  obtain⟨Z,F,env,fp,pv,f,S,r,fr,q⟩:=hz1;unfold tgN at q;by_cases ho:aS i env=true
  ·rw[if_pos ho]at q;exact q _ _ (S.put r fr.nd fr.nf fr.new (fun a ha j _=>fr.dj a ha j) ho)
  ·rw[if_neg ho]at q;exact q.elim
def nq:SGs X T [] kE:=PGs.wk zh fun vs Y H Q hz1=>by
 obtain⟨Z,F,env,fp,pvs,f,S,r,fr,q⟩:=hz1;cases pvs with
 |nil=>unfold RelL at r;exact⟨r.1,q Y fp S⟩
 |cons x xs=>exact q.elim
def fJ(hN:X.N.Nodup)(hi:X.N[i]?=some x)(hx:Loc X.env.scope x)(h2:SGs X T es u)
  (hs:(assignEach (.Name x pos::es) X.env).map (·.2)=assign (.Name x pos) X.env::(assignEach es X.env).map (·.2):=by rfl)
  (hf:X.fn x=true\/X.env.scope.names.lookup x=some .local:=by first|exact .inl rfl|exact .inr rfl|assumption):SGs X T (.Name x pos::es) (dg (tgN i) u):=
 PGs.wk (vM (rS (pos:=pos) hN hi hx hf) h2 hs) fun vs Y H Q hz1=>by
  obtain⟨Z,F,env,fp,pvs,f,S,r,fr,q⟩:=hz1;cases pvs with
  |nil=>exact q.elim
  |cons y ys=>
   unfold RelL at r;obtain⟨v,ws,f1,f2,rfl,r1,r2,rfl⟩:=r;obtain⟨n1,n2,n3⟩:=nodup_append.mp fr.nd;by_cases ho:aS i env=true
   case neg=>simp only[dg,tgN,if_neg ho]at q;exact q.elim
   simp only[dg,tgN,if_pos ho]at q;refine⟨v,ws,rfl,Z,F,env.set i (some y),b_ fp i f1,ys,f2,S.put r1 n1 (fun a ha=>fr.nf a (mem_append_left _ ha)) (fun a ha=>fr.new a (mem_append_left _ ha)) (fun a ha j _=>fr.dj a (mem_append_left _ ha) j) ho,r2,⟨n2,fun a ha=>fr.nf a (mem_append_right _ ha),fun a ha=>fr.new a (mem_append_right _ ha),fun a ha j=>?_⟩,q⟩;unfold b_;split
   ·exact fun z=>n3 a z a ha rfl
   ·exact fr.dj a (mem_append_right _ ha) j
def qi(hK:X.K=T.K)(hc:X.calm=true)(h:SGs X T es u)(hn:(assignEach es X.env).length=n:=by rfl)(hst:(assignEach es X.env).findIdx? (·.1)=none:=by rfl):SG X T (.Tuple es k pos) (tgT n u):=
 PG.wk (BF (pos:=pos) (k:=k) hc h hn hst) fun v Y H Q hz1=>by
  obtain⟨Z,F,env,fp,pv,f,S,r,fr,q⟩:=hz1;cases pv with
  |tup xs=>
   unfold Rel at r;obtain⟨a,vs,rfl,hl,hr⟩:=r;simp only[tgT]at q;by_cases hx:xs.length=n
   ·rw[if_pos hx]at q;exact⟨a,vs,rfl,by rw[hK];exact hl,by rw[<- hr.length];exact hx,Z,F,env,fp,xs,f,S,hr,fr,q⟩
   ·rw[if_neg hx]at q;exact q.elim
  |_=>exact q.elim
abbrev MI:=En->Res (List PV)
def ItR(T:Tb)(F B:Addr->Prop)(Ow:Addr->Prop)(H1:Hp)(J:It)(xs:List PV):Prop:=
 ∀H2,(∀a o,H1 a=some o->¬Ow a->H2 a=some o)->(∀(i:Nat) x,xs[i]?=some x->J.go i H2/\∀v H3,J.yld i H2 v H3->Ext H2 H3/\Rel T F B NoL H3 x v [])/\J.stop xs.length H2
def ItR.of0(h:∀H2,(∀a o,H1 a=some o->¬Ow a->H2 a=some o)->(∀(i:Nat) x,xs[i]?=some x->J.go i H2/\∀v H3,J.yld i H2 v H3->H3=H2/\Rel T F B NoL H2 x v [])/\J.stop xs.length H2):ItR T F B Ow H1 J xs:=fun H2 hk=>by obtain⟨a,b⟩:=h H2 hk;refine⟨fun i x e=>⟨(a i x e).1,fun v H3 hy=>?_⟩,b⟩;obtain⟨rfl,r⟩:=(a i x e).2 v H3 hy;exact⟨Ext.refl,r⟩
def GI(T:Tb)(W:Nat->St->Hp->Prop)(B F Ow:Addr->Prop)(Y:St)(H:Hp)(R:It->Hp->Prop):Res (List PV)->Prop
 |.ok xs=>∀J H1 F1,Gr F H F1 H1->ItR T F1 B Ow H1 J xs->R J H1
 |.exc c=>∀H',Ext H H'->W c Y H'
 |.stuck=>False
def tI(T:Tb)(W:Nat->St->Hp->Prop)(m:MI):TI:=fun Y H R=>∃Z F env fp,aA T Z F H Y env fp/\GI T W Z.B F (Own fp) Y H R (m env)
abbrev SI(X:Cx)(T:Tb)(W:Nat->St->Hp->Prop)(tg iter:Expr)(m:MI):Prop:=PI X tg iter (tI T W m)
def vL(hl:PE X l tl):PI X tg l (fun Y H R=>tl Y H fun x H1=>∃a,x=.ref a/\((∃xs,SqL X.K H1 a xs/\R (Itl X.K a) H1)\/ ∃xs,SqT X.K H1 a xs/\R (Itt X.K a) H1)):=by
 intro js s Y H R I h;refine thn (hl js s Y H _ I h) fun v s1 hz1=>?_;obtain⟨x,H1,I1,r1,q1⟩:=hz1;obtain⟨a,e,q⟩:=q1;subst e;cases r1;rcases q with⟨xs,hq,q⟩ |⟨xs,hq,q⟩
 ·obtain⟨its,rv,p,hz⟩:=I1.list hq;refine wpAny_pyIter_list p.isList ?_;refine⟨s1.heap.objs.size,[s1.heap.objs.size],_,_,H1,rfl,I1.kept (t':=s1.toks) fun b o e=>get?_push_of_some _ e,sV a _,⟨_,get?_push_size _ rfl,rfl,rfl⟩,fun b hb=>?_,q⟩;have e:b=s1.heap.objs.size:=by simpa using hb
  subst e;exact I1.fpOk (Nat.le_refl _) (I1.hok.fresh (Nat.le_refl _))
 ·obtain⟨its,rv,p,hz⟩:=I1.tuple hq;refine wpAny_pyIter_tuple (show s1.heap.IsTuple a its.toArray from p) ?_;refine⟨s1.heap.objs.size,[s1.heap.objs.size],_,_,H1,rfl,I1.kept (t':=s1.toks) fun b o e=>get?_push_of_some _ e,p6 a _,⟨_,get?_push_size _ rfl,rfl,rfl⟩,fun b hb=>?_,q⟩;have e:b=s1.heap.objs.size:=by simpa using hb
  subst e;exact I1.fpOk (Nat.le_refl _) (I1.hok.fresh (Nat.le_refl _))
def cZ(xs:List PV):Bool:=!hasL Fl.isOwn xs&&!hasL Fl.isLnt xs
def gE(m:ME):MI:=fun env=>(m env).bind fun x=>match x with
 |.lst f xs=>if !f.isLnt&&cZ xs then .ok xs else .stuck
 |.tup xs=>if cZ xs then .ok xs else .stuck
 |_=>.stuck
def iQ{H2:Hp}{Ow:Addr->Prop}(hF:∀a,F1 a->¬Ow a)(hB:∀a,B a->¬Ow a)(hO:∀a o,Ow a->H1 a=some o->Chg o)(hk:∀a o,H1 a=some o->¬Ow a->H2 a=some o){xs:List PV}{vs:List V}(r:RelL T F1 B NoL H1 xs vs []){i:Nat}{x:PV}{v:V}(e:xs[i]?=some x)(ev:vs[i]?=some v):Rel T F1 B NoL H2 x v []:=by
 obtain⟨w,f,e1,r1,sl⟩:=r.get e;rw[ev]at e1;cases e1;obtain rfl:=sublist_nil.mp sl;refine Rel.tr (fun _ h=>h) (fun _ h=>h) (fun _ h=>h) (fun a o q h=>hk a o q ?_) (fun _ z=>(nomatch z)) r1;rcases h with h|h|h|h
 ·exact hF a h
 ·exact hB a h
 ·exact h.elim
 ·intro z;have:=hO a o z q;cases o with
  |lst _|ins _ _ _=>exact h
  |_=>exact this
def aA.bow(S:aA T Z F H Y env fp):∀a,Z.B a->¬Own fp a:=fun a h hz1=>by
 obtain⟨i,hi⟩:=hz1;obtain⟨⟨o,h1⟩,h2⟩:=S.hp.bo.1 a h;rcases S.new i a hi with z|z
 ·rw[h1]at z;cases z
 ·exact h2 z
def aA.fow(S:aA T Z F H Y env fp):∀a,F a->¬Own fp a:=fun a h ⟨i,hi⟩=>(S.dis i a hi).1 h
def aA.oow(S:aA T Z F H Y env fp):∀a o,Own fp a->H a=some o->Chg o:=fun a o hz1 e=>by obtain⟨i,hi⟩:=hz1;obtain⟨o',h1,h2⟩:=S.ch i a hi;rw[e]at h1;cases h1;exact h2
def cY(h:cZ xs=true)(r:RelL T F B L H xs vs f):f=[]/\RelL T F B NoL H xs vs f:=by simp only[cZ,and_eq_true,not_eq_true']at h;exact⟨RelL.noOwn h.1 r,RelL.noL h.2 r⟩
def jG(hK:X.K=T.K)(he:SE X T W e m):SI X T W tg e (gE m):=fun js s Y H R I h=>vL he js s Y H R I (by
 obtain⟨Z,F,env,fp,S,q⟩:=h;unfold gE at q;refine tE.bind S (fun c e=>by rw[e]at q;exact q) (fun e=>by rw[e]at q;exact q) fun x v H1 F1 f1 e1 g1 r1 n1 d1 w1=>?_;rw[e1]at q;simp only[Res.ok_bind]at q;have S1:=S.grow g1;rw[hK];cases x with
 |lst f xs=>
  dsimp only at q;by_cases hc:(!f.isLnt&&cZ xs)=true
  ·rw[if_pos hc]at q;rw[and_eq_true]at hc;unfold Rel at r1;obtain⟨a,vs,fp',rfl,hl,hr,hf⟩:=r1;obtain⟨rfl,hr'⟩:=cY hc.2 hr;refine⟨a,rfl,.inl ⟨vs,hl.sq,q _ H1 F1 g1 (ItR.of0 fun H2 hk=>?_)⟩⟩;have na:f≠.mod->∀o,H1 a=some o->H2 a=some o:=fun hn o ho=>by
    refine hk a o ho ?_;cases f with
    |own=>rintro⟨i,hi⟩;obtain⟨_,o',ho'⟩:=S.dis i a hi;obtain rfl:f1=[a]:=hf;rw[w1 a mem_cons_self]at ho';cases ho'
    |frz=>exact S1.fow a hl.1
    |bor=>exact S1.bow a hl.1
    |lnt=>exact absurd hc.1 (by decide)
    |mod=>exact absurd rfl hn
   have hl2:SqL T.K H2 a vs:=by
    by_cases hn:f=.mod
    ·subst hn;exact .inr hl
    ·exact .inl (Rd.tr (na hn) (hl.rd hn))
   refine⟨fun i x ex=>?_,⟨vs,hl2,by rw[hr.length];exact Nat.le_refl _⟩⟩;obtain⟨v,_,ev,_,_⟩:=hr.get ex;refine⟨⟨vs,v,hl2,ev⟩,fun w H3 hy=>⟨hy.1,?_⟩⟩;have e3:=hy.2 vs hl2;exact iQ S1.fow S1.bow S1.oow hk hr' ex e3
  ·rw[if_neg hc]at q;exact q.elim
 |tup xs=>
  dsimp only at q;by_cases hc:cZ xs=true
  ·rw[if_pos hc]at q;unfold Rel at r1;obtain⟨a,vs,rfl,hl,hr⟩:=r1;obtain⟨rfl,hr'⟩:=cY hc hr;refine⟨a,rfl,.inr ⟨vs,hl,q _ H1 F1 g1 (ItR.of0 fun H2 hk=>?_)⟩⟩;have hl2:SqT T.K H2 a vs:=SqT.tr (fun o ho hfx=>hk a o ho fun z=>by
    have:=S1.oow a o z ho;cases o with
    |lst _|ins _ _ _=>exact hfx
    |_=>exact this) hl
   refine⟨fun i x ex=>?_,⟨vs,hl2,by rw[hr.length];exact Nat.le_refl _⟩⟩;obtain⟨v,_,ev,_,_⟩:=hr.get ex;refine⟨⟨vs,v,hl2,ev⟩,fun w H3 hy=>⟨hy.1,?_⟩⟩;exact iQ S1.fow S1.bow S1.oow hk hr' ex (hy.2 vs hl2)
  ·rw[if_neg hc]at q;exact q.elim
 |_=>exact q.elim)
def cq(lo:Int)(n:Nat):List PV:=(range n).map fun k=>.int (lo+(k:Nat))
def inR(i:Int):Bool:=decide (-(2 ^ 62)<= i/\i<2 ^ 62)
def bU(ms:MA):MI:=fun env=>(ms env).bind fun xs=>match xs with
 | [.int n]=>if inR n then .ok (cq 0 n.toNat)else .stuck
 |_=>.stuck
def ji(ms:MA):MI:=fun env=>(ms env).bind fun xs=>match xs with
 | [.int i,.int j]=>if inR i&&inR j then .ok (cq i (j-i).toNat)else .stuck
 |_=>.stuck
def sj:ItR T F1 B Ow H1 (Itr lo n) (cq lo n):=by
 apply ItR.of0;intro H2 _;refine⟨fun i x ex=>?_,by simp[cq,Itr]⟩;have hi:i<n:=by have:=(List.getElem?_eq_some_iff.mp ex).1;simpa[cq]using this
 refine⟨hi,fun v H3 hy=>⟨hy.1,?_⟩⟩;obtain⟨_,rfl⟩:=hy;have:x=.int (lo+(i:Nat)):=by simp[cq,hi]at ex;exact ex.symm
 subst this;exact dP
def dy(hg:Gl X "range")(hm:X.mg "range" = none)(ha:SA X T W [a] ms)(hs:starEach [a] X.env=[(false,eval a X.env)]:=by rfl):SI X T W tg (.Call (.Name "range" p) [a] [] pos) (bU ms):=fun js s Y H R I h=>my hg hm ha hs js s Y H R I (by
 obtain⟨Z,F,env,fp,S,q⟩:=h;unfold bU at q;refine tA.bind S (fun c e=>by rw[e]at q;exact q) (fun e=>by rw[e]at q;exact q) fun xs vs H1 F1 f1 e1 g1 r1 n1 d1 w1=>?_;rw[e1]at q;simp only[Res.ok_bind]at q;split at q
 ·rename_i n
  split at q
  ·rename_i hc
   obtain⟨v,rfl,r2⟩:=r1.one;unfold Rel at r2;obtain⟨rfl,_⟩:=r2;have hc':-(2 ^ 62)<= n/\n<2 ^ 62:=by simpa[inR]using hc
   exact⟨n,rfl,hc'.1,hc'.2,q _ H1 F1 g1 sj⟩
  ·exact q.elim
 ·exact q.elim)
def tj(hg:Gl X "range")(hm:X.mg "range"=none)(ha:SA X T W [a,b] ms)(hs:starEach [a,b] X.env=[(false,eval a X.env),(false,eval b X.env)]:=by rfl)(hs2:starEach [b] X.env=[(false,eval b X.env)]:=by rfl) :
  SI X T W tg (.Call (.Name "range" p) [a,b] [] pos) (ji ms):=fun js s Y H R I h=>mw hg hm ha hs hs2 js s Y H R I (by
 obtain⟨Z,F,env,fp,S,q⟩:=h;unfold ji at q;refine tA.bind S (fun c e=>by rw[e]at q;exact q) (fun e=>by rw[e]at q;exact q) fun xs vs H1 F1 f1 e1 g1 r1 n1 d1 w1=>?_;rw[e1]at q;simp only[Res.ok_bind]at q;split at q
 ·rename_i i j
  split at q
  ·rename_i hc
   unfold RelL at r1;obtain⟨v,ws,f1,f2,rfl,h1,h2,_⟩:=r1;obtain⟨v2,rfl,h3⟩:=h2.one;unfold Rel at h1 h3;obtain⟨rfl,_⟩:=h1;obtain⟨rfl,_⟩:=h3;have hc':(-(2 ^ 62)<= i/\i<2 ^ 62)/\(-(2 ^ 62)<= j/\j<2 ^ 62):=by simpa[inR]using hc
   exact⟨i,j,rfl,⟨hc'.1.1,hc'.1.2,hc'.2.1,hc'.2.2⟩,q _ H1 F1 g1 sj⟩
  ·exact q.elim
 ·exact q.elim)
def c9(it:MI)(tg:TgM)(body:MS):MS:=fun env=>match it env with
 | .ok xs=>lS (fun x e=>match tg x e with
  |some e'=>body e'
  |none=>.stuck) xs env
 |.exc c=>.exc c env
 |.stuck=>.stuck
def cH(hp:PassesOwn (model X.prog X.w) X.A X.env X.xe)(hc:X.calm=true)(hi:SI X T W tg iter mi)(hg:SG X T tg g)(hb:SSs X T W body mb)
  (hs:∀x,foldedSetIterable iter X.env x=pure x:=by intro _;rfl):SS X T W (.For tg iter body [] pos) (c9 mi g mb):=PS.wk (BA (pos:=pos) hp hc hi hg hb hs) fun D Y H hz1=>by
 obtain⟨Z,F,env,fp,S,q⟩:=hz1;unfold c9 at q;refine⟨Z,F,env,fp,S,?_⟩;cases em:mi env with
 |exc c=>rw[em]at q;exact fun H' x=>q F H' Y fp (S.grow (Gr.same S.hp.ft x))
 |stuck=>rw[em]at q;exact q
 |ok xs=>
  rw[em]at q;dsimp only at q;intro J H1 F1 g1 it;have S1:=S.grow g1;generalize hbd:(fun (x:PV) (e:En)=>match g x e with
   |some e'=>mb e'
   |none=>Out.stuck)=bd at q
  refine⟨fun i m σ2 H2=>m=xs.length-i/\i<=xs.length/\∃F2 env2 fp2,aA T (Z.re F1 H1 fp) F2 H2 σ2 env2 fp2/\GS T W Z D (lS bd (xs.drop i) env2),⟨xs.length,by simp,zero_le _,F1,env,fp,S1.enter,q⟩,?_⟩;rintro i m σ2 H2 ⟨rfl,hi,F2,env2,fp2,S2,q2⟩;obtain⟨go,stop⟩:=it H2 S2.hp.keep;by_cases hlt:i<xs.length
  ·have hx:xs[i]?=some xs[i]:=by simp[hlt]
   obtain⟨g1',yl⟩:=go i _ hx;refine .inr ⟨g1',fun σ3 H3=>∃F3 env3 fp3,aA T (Z.re F1 H1 fp) F3 H3 σ3 env3 fp3/\GS T W Z D (lS bd (xs.drop (i+1)) env3),fun σ3 H3 h3=>⟨xs.length-(i+1),by omega,rfl,hlt,h3⟩,fun v H3 hy=>?_⟩;obtain⟨ex3,r⟩:=yl v H3 hy;rw[List.drop_eq_getElem_cons hlt]at q2;unfold lS at q2;rw[<- hbd]at q2;dsimp only at q2;refine⟨Z.re F1 H1 fp,F2,env2,fp2,xs[i],[],S2.grow (Gr.same S2.hp.ft ex3),r.ext Ext.refl S2.hp.f0,uR.nil,?_⟩;cases eg:g xs[i] env2 with
   |none=>rw[eg]at q2;exact q2
   |some e'=>
    rw[eg]at q2;dsimp only at q2;intro σ' fp' S';refine⟨Z.re F1 H1 fp,F2,e',fp',S',?_⟩;cases eb:mb e' with
    |next e2|cont e2=>rw[eb]at q2;exact fun F3 H3 σ3 fp3 S3=>⟨F3,e2,fp3,S3,by rw[<- hbd];exact q2⟩
    |brk e2=>rw[eb]at q2;exact fun F3 H3 σ3 fp3 S3=>q2 F3 H3 σ3 fp3 (S1.leave S3)
    |ret v=>rw[eb]at q2;exact fun F3 H3 v f hp r nd nf new=>q2 F3 H3 v f (bY.leave S1 hp) r nd nf fun a ha=>S1.newL (new a ha)
    |exc c e2=>rw[eb]at q2;exact fun F3 H3 σ3 fp3 S3=>q2 F3 H3 σ3 fp3 (S1.leave S3)
    |stuck=>rw[eb]at q2;exact q2
  ·have e:i=xs.length:=by omega
   subst e;rw[List.drop_length]at q2;exact .inl ⟨stop,q2 F2 H2 σ2 fp2 (S1.leave S2)⟩
end
end PR
namespace L2
open PySem PySem.Spec
def d7(cells:List (Str×Addr)):List (Str×NameKind)->List (Str×Addr)->List (Str×Addr)
 | [],acc=>acc
 | (n,k)::r,acc=>if (k == .free)=true then (match cells.lookup n with
  |some c=>d7 cells r ((n,c)::acc)
  |none=>d7 cells r acc)else d7 cells r acc
def iT:∀(names:List (Str×NameKind)) (acc:List (Str×Addr)),(∀y∈names,y.2=.free->∃c,env.cells.lookup y.1=some c)->
  (forIn names acc fun (x:Str × NameKind) (cs:List (Str × Addr))=>match x with
   |(name,kind)=>if(kind==.free)=true then do let c <- cellOf env name;pure (ForInStep.yield ((name,c)::cs))else pure (ForInStep.yield cs):Sem (List (Str×Addr)))=pure (d7 env.cells names acc)
 | [],acc,_=>by simp[d7]
 |(n,k)::r,acc,h=>by
  rw[List.forIn_cons];by_cases hk:(k==NameKind.free)=true
  ·obtain⟨c,hc⟩:=h (n,k) mem_cons_self (by simpa using hk);dsimp only at hc;simp only[hk,if_true,cellOf,hc,pure_bind];rw[d7,if_pos hk,hc];exact iT r _ fun y hy=>h y (mem_cons_of_mem _ hy)
  ·simp only[hk,false_eq_true,if_false,pure_bind];rw[d7,if_neg hk];exact iT r _ fun y hy=>h y (mem_cons_of_mem _ hy)
def lT(h:∀y∈scope.names,y.2=.free->∃c,env.cells.lookup y.1=some c):closureFor scope env=pure (d7 env.cells scope.names []):=by unfold closureFor;simp only[];rw[<- iT scope.names [] h];simp
def fV{cells:List (Str×Addr)}:∀{names:List (Str×NameKind)}{acc:List (Str×Addr)},(∀p∈acc,cells.lookup p.1=some p.2)->∀p∈d7 cells names acc,cells.lookup p.1=some p.2
 | [],_,h=>h
 |(n,k)::r,acc,h=>by
  unfold d7;split
  ·split
   ·rename_i c hc
    exact fV (by grind)
   ·exact fV h
  ·exact fV h
def jx:∀{names:List (Str×NameKind)}{acc:List (Str×Addr)}{p:Str×Addr},p∈acc->p∈d7 cells names acc
 | [],_,_,h=>h
 |(n,k)::r,acc,p,h=>by
  unfold d7;split
  ·split
   ·exact jx (mem_cons_of_mem _ h)
   ·exact jx h
  ·exact jx h
def ik{cells:List (Str×Addr)}{x:Str}{c:Addr}(hc:cells.lookup x=some c):∀{names:List (Str×NameKind)}{acc:List (Str×Addr)},(x,NameKind.free)∈ names->(x,c)∈ d7 cells names acc
 | [],_,h=>nomatch h
 |(n,k)::r,acc,h=>by
  unfold d7;rcases mem_cons.mp h with e|h
  ·cases e;rw[if_pos (by rfl),hc];exact jx mem_cons_self
  ·split
   ·split
    ·exact ik hc h
    ·exact ik hc h
   ·exact ik hc h
def iF{cells l:List (Str×Addr)}(h:∀p∈l,cells.lookup p.1=some p.2){x:Str}{c:Addr}(m:(x,c)∈ l):l.lookup x=some c:=by
 induction l with
 |nil=>cases m
 |cons p r ih=>
  grind
def fU{cells:List (Str×Addr)}{names:List (Str×NameKind)}{x:Str}{c:Addr}(h:(d7 cells names []).lookup x=some c):cells.lookup x=some c:=
 fV (names:=names) (acc:=[]) (fun _ z=>nomatch z) (x,c) (PySem.mem_of_lookup h)
def lE:∀(names:List (Str×NameKind)) (a:Nat) (l acc:List (Str×Addr)),cellsFrom a names (l++acc)=cellsFrom a names l++acc
 | [],_,_,_=>rfl
 |(n,k)::r,a,l,acc=>by
  unfold cellsFrom;split
  ·exact lE r (a+1) ((n,a)::l) acc
  ·exact lE r a l acc
def lD:∀{names:List (Str×NameKind)}{a:Nat}{l:List (Str×Addr)}{p:Str×Addr},p∈cellsFrom a names l->p∈l \/(a<=p.2/\(p.1,NameKind.cell)∈ names)
 | [],_,_,_,h=>.inl h
 |(n,k)::r,a,l,p,h=>by
  unfold cellsFrom at h;split at h
  ·rename_i hk
   have hk:k=.cell:=by simpa using hk
   subst hk;rcases lD h with h|h
   ·grind
   ·exact .inr ⟨by omega,mem_cons_of_mem _ h.2⟩
  ·rcases lD h with h|h
   ·exact .inl h
   ·exact .inr ⟨h.1,mem_cons_of_mem _ h.2⟩
def n8:∀{names:List (Str×NameKind)}{a:Nat}{l:List (Str×Addr)}{x:Str},((x,NameKind.cell)∈ names \/(l.lookup x).isSome=true)->((cellsFrom a names l).lookup x).isSome=true
 | [],_,_,_,h=>h.resolve_left (fun z=>nomatch z)
 |(n,k)::r,a,l,x,h=>by
  unfold cellsFrom;split
  ·rename_i hk
   have hk:k=.cell:=by simpa using hk
   subst hk;refine n8 ?_
   grind
  ·rename_i hk
   refine n8 ?_
   grind
def lF:∀{names:List (Str×NameKind)}{a:Nat}{l:List (Str×Addr)},(∀p∈l,p.2<a)->(l.Pairwise fun x y=>x.2≠y.2)->(cellsFrom a names l).Pairwise fun x y=>x.2≠y.2
 | [],_,_,_,h=>h
 |(n,k)::r,a,l,hl,h=>by
  unfold cellsFrom;split
  ·refine lF (fun p hp=>?_) (pairwise_cons.mpr ⟨fun y hy e=>?_,h⟩)
   ·grind
   ·have e':a=y.2:=e;exact Nat.lt_irrefl _ (Nat.lt_of_lt_of_eq (hl y hy) e')
  ·exact lF hl h
def lm{α:Type}{x:Str}:∀{l m:List (Str×α)},(l++m).lookup x=(l.lookup x).or (m.lookup x)
 | [],m=>by simp
 |(n,c)::l,m=>by
  grind
abbrev pN(X:Cx)(scope:Scope)(C:Addr):List (Str×Addr):=cellsFrom (C+1) scope.names (d7 X.env.cells scope.names [])
def jy{X:Cx}{scope:Scope}{C:Addr}{x:Str}{c:Addr}(h:(pN X scope C).lookup x=some c):(C+1<=c/\(x,NameKind.cell)∈ scope.names/\(x,c)∈ cellsFrom (C+1) scope.names [])\/(d7 X.env.cells scope.names []).lookup x=some c:=by
 unfold pN at h;rw[show d7 X.env.cells scope.names []=[]++ d7 X.env.cells scope.names []from rfl,lE,lm]at h;cases e:(cellsFrom (C+1) scope.names []).lookup x with
 |some d=>
  rw[e]at h;cases h;have m:=PySem.mem_of_lookup e;rcases lD m with z|z
  ·cases z
  ·exact .inl ⟨z.1,z.2,m⟩
 |none=>rw[e]at h;exact .inr (by simpa using h)
def C9(hx:(x,NameKind.cell)∉ scope.names)(h:(d7 X.env.cells scope.names []).lookup x=some c):(pN X scope C).lookup x=some c:=by
 unfold pN;rw[show d7 X.env.cells scope.names []=[]++ d7 X.env.cells scope.names []from rfl,lE,lm];cases e:(cellsFrom (C+1) scope.names []).lookup x with
 |some d=>
  rcases lD (PySem.mem_of_lookup e)with z|z
  ·cases z
  ·exact absurd z.2 hx
 |none=>simpa using h
def o6{M:Model}{A:Around}{E:Value->Shared->Prop}{s:Shared}{scope:Scope}{globals:Addr}{closure:List (Str×Addr)}{qual:Str}{func:Option Addr}{code:Value}{outer:Env}{builtins:Addr}{Q:Env->Shared->Prop}
  (hQ:∀ h',h'.Ns s.heap.objs.size (fun _=>none)->(∀ b o,s.heap.get? b=some o->h'.get? b=some o)->(∀ n c,(n,c) ∈ cellsFrom (s.heap.objs.size+1) scope.names []->h'.IsCell c none) ->
   Q (newEnv scope s.heap.objs.size globals (cellsFrom (s.heap.objs.size+1) scope.names closure) qual func code (some outer) builtins) {s with heap:=h'}) :
  wpAny M A (newFunctionEnv scope globals closure [] qual func code (some outer) builtins) Q E s:=by
 simp only[newFunctionEnv,Option.isSome_some,if_true];refine wpAny_bind (wpAny_alloc ?_);refine wpAny_bind (wpAny_layCells _ (fun name kind cells=>by cases hkc:kind==NameKind.cell<;>simp[hkc]) _ _ _ _ ?_);have ok:=cellsFrom_ok scope.names (s.heap.push {cls:=.type "dict",data:=.dict #[]}) (s.heap.objs.size+1) [] ⟨fun _ _ hm=>(nomatch hm),Pairwise.nil⟩ (by rw[size_push];exact Nat.le_refl _);rw[size_push]at ok;rw[show({s with heap:=s.heap.push {cls:=.type "dict",data:=.dict #[]}}:Shared).heap.objs.size=s.heap.objs.size+1 from size_push ..];refine wpAny_bind ?_;rw[List.forIn_nil];exact wpAny_pure (wpAny_pure (hQ _ ((Heap.Ns.new s.heap (.type "dict")).keeps (pushCells_keeps _ _)) (fun b o e=>pushCells_keeps _ _ b o (get?_push_of_some _ e)) fun n c hm=>(ok.empty n c hm).1))
def cxC(X:Cx)(scope:Scope)(C:Addr)(N:List Str)(s:Shared)(H:Hp)(ex:List Addr):Cx:=
 {X with env:=compEnvC scope (pN X scope C) C X.env,N:=N,s₀:=s,H₀:=H,outer:=X.stack,stack:=X.stack,ex:=ex,fn:=fun x=>scope.names.lookup x==some .cell,pn:=[],xe:=fun _ _=>False}
structure d9(X:Cx)(scope:Scope)(caps:List Nat)(N tn:List Str):Prop where
 kind:scope.kind=.function
 cel:∀y∈scope.names,y.2=.cell->scope.names.lookup y.1=some .cell
 names:∀y∈scope.names,y.2=.local->scope.names.lookup y.1=some .local
 free:∀y∈scope.names,y.2=.free->X.env.kindOf y.1=some .cell\/X.env.kindOf y.1=some .free
 eN:N=caps.map (fun i=>X.N.getD i "")++ tn
 capN:∀i∈caps,i<X.N.length
 capF:∀i∈caps,∀x,X.N[i]?=some x->(x,NameKind.free)∈ scope.names/\scope.names.lookup x=some .free
 nd:N.Nodup
def jb{scope:Scope}{env:Env}{x:Str}{k:NameKind}(h:(relabel scope env).names.lookup x=some k)(hc:k=.cell\/k=.free):(x,NameKind.free)∈ scope.names \/(x,NameKind.cell)∈ scope.names:=by
 have m:=PySem.mem_of_lookup h;obtain⟨⟨n,k0⟩,hm,e⟩:=mem_map.mp m
 grind
def jc{scope:Scope}{env:Env}{x:Str}:∀{names:List (Str×NameKind)},names.lookup x=some .free ->
  (names.map fun(n,k)=>if(k==NameKind.free&&env.scope.kind==.function&&env.kindOf n==some .cell)then(n,NameKind.cell)else(n,k)).lookup x=some .cell \/
  (names.map fun(n,k)=>if(k==NameKind.free&&env.scope.kind==.function&&env.kindOf n==some .cell)then(n,NameKind.cell)else(n,k)).lookup x=some .free
 | [],h=>by simp at h
 |(n,k)::r,h=>by
  show List.lookup x ((if(k==NameKind.free&&env.scope.kind==.function&&env.kindOf n==some .cell)=true then(n,NameKind.cell)else(n,k))::_)=_\/List.lookup x ((if(k==NameKind.free&&env.scope.kind==.function&&env.kindOf n==some .cell)=true then(n,NameKind.cell)else(n,k))::_)=_;have ih:=@jc scope env x r
  grind
section
variable{X:Cx}{scope:Scope}{caps:List Nat}{N tn:List Str}{js:List (Addr×Obj)}{Y:St}{H:Hp}{s:Shared}{fp:List Addr}{C:Addr}
def n4(cs:d9 X scope caps N tn)(I:Inv X js Y H s)(hf:∀b∈fp,lO X js H b)(hlt:∀b∈fp,b<s.heap.objs.size)(hC:s.heap.objs.size<=C):(cxC X scope C N s H fp).Ok where
 mod:=I.ok.mod
 kind:=by show(relabel scope X.env).kind=_;exact cs.kind
 glob:=I.ok.glob
 blt:=I.ok.blt
 above:=hC
 inj:=fun x y c h1 h2=>by
  have old:∀z,(d7 X.env.cells scope.names []).lookup z=some c->c<s.heap.objs.size:=fun z hz=>let⟨_,hv⟩:=I.cell z c (fU hz);hv.lt
  rcases jy h1 with⟨l1,_,m1⟩|h1<;>rcases jy h2 with⟨l2,_,m2⟩|h2
  ·exact name_of_addr (lF (l:=[]) (fun _ z=>nomatch z) Pairwise.nil) m1 m2
  ·grind
  ·grind
  ·exact I.ok.inj x y c (fU h1) (fU h2)
 has:=fun x hx=>by
  have hx:(relabel scope X.env).names.lookup x=some .cell \/(relabel scope X.env).names.lookup x=some .free:=hx;have m:(x,NameKind.free)∈ scope.names \/(x,NameKind.cell)∈ scope.names:=by
   rcases hx with h|h
   ·exact jb h (.inl rfl)
   ·exact jb h (.inr rfl)
  refine isSome_iff_exists.mp (n8 (l:=d7 X.env.cells scope.names []) ?_);rcases m with m|m
  ·obtain⟨c,hc⟩:=I.ok.has x (cs.free _ m rfl);exact .inr (by rw[iF (fV (acc:=[]) fun _ z=>nomatch z) (ik hc m)];rfl)
  ·exact .inl m
 cab:=fun x c h hc=>by
  have h':(scope.names.lookup x==some NameKind.cell)=true:=h;have hx:scope.names.lookup x=some .cell:=by simpa using h'
  have hs:s.heap.objs.size<=C:=hC;have hc:(pN X scope C).lookup x=some c:=hc;obtain⟨d,hd⟩:=isSome_iff_exists.mp (n8 (a:=C+1) (l:=[]) (.inl (PySem.mem_of_lookup hx)));unfold pN at hc;rw[show d7 X.env.cells scope.names []=[]++ d7 X.env.cells scope.names []from rfl,lE,lm,hd]at hc;cases hc;rcases lD (PySem.mem_of_lookup hd)with z|z
  ·cases z
  ·exact Nat.le_trans hs (Nat.le_trans (le_succ _) z.1)
 hd:=I.ok.hd
 frames:=I.ok.frames
 stk:=.inl rfl
 exf:=fun b hb=>⟨Nat.ne_of_lt (Nat.lt_of_lt_of_le (hlt b hb) hC),fun x c h=>by
  rcases jy h with⟨l1,_,_⟩|h
  ·exact fun z=>absurd (Nat.lt_of_lt_of_le (hlt b hb) (Nat.le_trans hC (Nat.le_trans (le_succ _) l1))) (by rw[z];exact Nat.lt_irrefl _)
  ·exact(hf b hb).2.2.2.2.1 x c (fU h)⟩
 bs:=I.bs
 bsz:=Nat.le_trans I.ok.bsz I.sz
 noex:=fun b o e hb=>by
  rcases(hf b hb).2.2.2.1 with z|z
  ·exact I.ok.noex b o e z
  ·exact absurd (Nat.lt_of_lt_of_le (lt_size e) (Nat.le_trans I.ok.bsz z)) (Nat.lt_irrefl _)
 exfs:=fun b hb hs=>by
  rcases mem_cons.mp (I.stkSub b hs)with z|z
  ·exact(hf b hb).2.1 z
  ·exact(hf b hb).2.2.1 z
 funs:=I.stack
 frf:=I.stkFree
def n9(caps:List Nat)(k:Nat)(Y:St):St:=caps.map (fun i=>(Y[i]?).join)++ replicate k none
def wF(cs:d9 X scope caps N tn)(I:Inv X js Y H s)(hf:∀b∈fp,lO X js H b)(hlt:∀b∈fp,b<s.heap.objs.size)
  (hns:h₁.Ns (s.heap.objs.size+1) fun _=>none) (hD:h₁.get? s.heap.objs.size=some {cls:=.type "list",data:=.seq ([]:List Value).toArray}) (old:∀b o,s.heap.get? b=some o->h₁.get? b=some o)
  (hcl:∀n c,(n,c)∈ cellsFrom (s.heap.objs.size+1+1) scope.names []->h₁.IsCell c none) :
  Inv (cxC X scope (s.heap.objs.size+1) N s H fp) [] (n9 caps tn.length Y) (upd H s.heap.objs.size (.lst [])) {s with heap:=h₁,toks:=t}:=by
 have fresh:∀b,s.heap.objs.size<=b->H b=none:=fun b hb=>I.hok.fresh hb;have neD:s.heap.objs.size+1≠s.heap.objs.size:=Nat.succ_ne_self _;have ltc:∀x c,(d7 X.env.cells scope.names []).lookup x=some c->∃v,s.heap.IsCell c v:=fun x c h=>I.cell x c (fU h);refine⟨n4 cs I hf hlt (le_succ _),rfl,I.bare,Un.laid old (Nat.le_refl _) (fresh _ (Nat.le_refl _)),⟨_,hns,fun i y v h1 h2 h3=>?_⟩,fun x c h=>?_,?_,fun x c h=>?_,fun p hp=>absurd (show p ∈([]:List (Addr×Obj))from hp) (by simp),?_,?_⟩
 ·have hi:i<caps.length:=by
   unfold n9 at h2;by_cases hi:i<caps.length
   ·exact hi
   ·rw[getElem?_append_right (by simpa using hi),getElem?_replicate]at h2;split at h2<;>cases h2
  unfold n9 at h2;rw[getElem?_append_left (by simpa using hi),getElem?_map]at h2;obtain⟨j,hj,e2⟩:=map_eq_some_iff.mp h2;have hjc:j∈caps:=List.mem_of_getElem? hj;have hjN:=cs.capN j hjc;have hy:X.N[j]?=some y:=by
   have h1':N[i]?=some y:=h1;rw[cs.eN,getElem?_append_left (by simpa using hi),getElem?_map,hj]at h1';have:X.N.getD j ""=y:=by simpa using h1'
   rw[<- this];simp[hjN]
  have hσ:Y[j]?=some (some v):=by
   cases e:Y[j]? with
   |none=>rw[e]at e2;cases e2
   |some w=>rw[e]at e2;simp only[join_some]at e2;rw[e2]
  obtain⟨m0,hn0,hl⟩:=I.loc;obtain⟨hm,hlk⟩:=cs.capF j hjc y hy;have hk:=cs.free _ hm rfl;dsimp only at hk;have hvis:Vis X.env.scope y:=by
   rcases hk with z|z
   ·exact .inr (.inl z)
   ·exact .inr (.inr z)
  obtain⟨u,ru,lk⟩:=hl j y v hy hσ hvis;refine⟨u,ru,.inr ?_⟩;rcases lk with⟨z,_⟩ |⟨_,c,hc,hcell⟩
  ·rcases hk with w|w
   ·rw[z]at w;cases w
   ·rw[z]at w;cases w
  ·refine⟨jc (scope:=scope) hlk,c,C9 (fun z=>?_) (iF (fV (acc:=[]) fun _ z=>nomatch z) (ik hc hm)),hcell.keeps old⟩;have:=cs.cel _ z rfl;rw[hlk]at this;cases this
 ·rcases jy h with⟨_,_,m⟩|h
  ·exact⟨none,hcl x c m⟩
  ·obtain⟨v,hv⟩:=ltc x c h;exact⟨v,hv.keeps old⟩
 ·show upd H _ _ (s.heap.objs.size+1)=none;rw[aF neD];exact fresh _ (le_succ _)
 ·rcases jy h with⟨l1,_,_⟩|h2
  ·rw[aF (Nat.ne_of_gt (Nat.lt_of_lt_of_le (Nat.lt_succ_of_lt (Nat.lt_succ_self _)) l1))];exact .inl (fresh _ (Nat.le_trans (Nat.le_succ_of_le (le_succ _)) l1))
  ·obtain⟨v,hv⟩:=ltc x c h2;rw[aF (Nat.ne_of_lt hv.lt)];exact(I.freeC x c (fU h2)).imp (fun z=>z) fun q=>⟨Bool.eq_false_iff.mpr fun e=>Nat.lt_irrefl _ (Nat.lt_of_lt_of_le hv.lt ((n4 cs I hf hlt (le_succ _)).cab x c e h)),q.2⟩
 ·exact I.hok.laid old (Nat.le_refl _) ⟨zero_le _,[],_,.nil,hD⟩
 ·show(n9 caps tn.length Y).length=N.length;rw[cs.eN];simp[n9]
end
end L2
namespace PR
open PySem PySem.Spec L2
def Fl.borrow:Fl->Fl
 |.own|.lnt=>.bor
 |f=>f
def PV.borrow(x:PV):PV:=x.mapF Fl.borrow
def uc(hB:∀a,B a->B' a)(hL:∀a,L a->B' a):Mp T Fl.borrow (fun _=>false) (fun _=>[]) B' F B L H F B' L' H:=
 ⟨fun f a vs _ c h=>by
  cases f with
  |own=>exact⟨c rfl,.inl h⟩
  |bor=>exact⟨hB a h.1,h.2⟩
  |lnt=>exact⟨hL a h.1,.inl h.2⟩
  | _=>exact h,fun f a _ c h=>⟨by
  cases f with
  |own=>exact c rfl
  |bor=>exact hB a h
  |lnt=>exact hL a h
  |_=>exact h,fun _ q=>q⟩,fun f a x y h=>by cases f<;>exact⟨rfl,rfl⟩,rfl,fun _ _=>rfl,fun _ _ q _=>q⟩
def Rel.borrow(hB:∀a,B a->B' a)(hL:∀a,L a->B' a)(hp:∀a∈fo,B' a)(h:Rel T F B L H x v fo):Rel T F B' L' H (x.mapF Fl.borrow) v []:=(uc hB hL).rel (lx x) hp h
mutual
def iU:∀x:PV,(x.mapF Fl.borrow).has Fl.isOwn=false
 |.non|.bl _|.int _|.str _=>rfl
 |.lst f xs=>by simp only[PV.mapF,PV.has,borrow_ownL xs,Bool.or_false];cases f<;>rfl
 |.tup xs=>by simp only[PV.mapF,PV.has,borrow_ownL xs]
 |.obj f c ks xs=>by simp only[PV.mapF,PV.has,borrow_ownL xs,Bool.or_false];cases f<;>rfl
 |.exc _=>rfl
 |.box k xs=>by simp only[PV.mapF,PV.has,borrow_ownL xs]
def borrow_ownL:∀xs:List PV,hasL Fl.isOwn (mapL Fl.borrow xs)=false
 | []=>rfl
 |x::xs=>by simp only[mapL,hasL,iU x,borrow_ownL xs,Bool.or_false]
end
def ItC(T:Tb)(F B L:Addr->Prop)(H1:Hp)(J:It)(xs:List PV):Prop:=
 ∀H2,Ext H1 H2->(∀(i:Nat) x,xs[i]?=some x->J.go i H2/\∀v H3,J.yld i H2 v H3->Ext H2 H3/\∃f,(∀a∈f,∃o,H1 a=some o)/\Rel T F B L H3 x v f)/\J.stop xs.length H2
def ItC.of0(h:∀H2,Ext H1 H2->(∀(i:Nat) x,xs[i]?=some x->J.go i H2/\∀v H3,J.yld i H2 v H3->H3=H2/\∃f,Rel T F B L H1 x v f)/\J.stop xs.length H2):ItC T F B L H1 J xs:=fun H2 hk=>by obtain⟨a,b⟩:=h H2 hk;refine⟨fun i x e=>⟨(a i x e).1,fun v H3 hy=>?_⟩,b⟩;obtain⟨rfl,f,r⟩:=(a i x e).2 v H3 hy;exact⟨Ext.refl,f,fun a ha=>r.there a ha,r.ext hk fun _ h=>h⟩
def GIc(T:Tb)(W:Nat->St->Hp->Prop)(B F L:Addr->Prop)(Y:St)(H:Hp)(R:It->Hp->Prop):Res (List PV)->Prop
 |.ok xs=>∀J H1 F1,Gr F H F1 H1->ItC T F1 B L H1 J xs->R J H1
 |.exc c=>∀H',Ext H H'->W c Y H'
 |.stuck=>False
def tIc(T:Tb)(W:Nat->St->Hp->Prop)(m:MI):TI:=fun Y H R=>∃Z F env fp,aA T Z F H Y env fp/\GIc T W Z.B F (Own fp) Y H R (m env)
abbrev SIc(X:Cx)(T:Tb)(W:Nat->St->Hp->Prop)(tg iter:Expr)(m:MI):Prop:=PI X tg iter (tIc T W m)
def cb(m:ME):MI:=fun env=>(m env).bind fun x=>match aT x with
 |some xs=>.ok xs
 |none=>.stuck
section
variable{X:Cx}{T:Tb}{W:Nat->St->Hp->Prop}{Z:Zn}{F F1 B L:Addr->Prop}{H H1:Hp}{Y:St}{env:En}{fp:Nat->List Addr}{D:Ends}
def bM(hK:X.K=T.K)(he:SE X T W e m):SIc X T W tg e (cb m):=fun js s Y H R I h=>vL he js s Y H R I (by
 obtain⟨Z,F,env,fp,S,q⟩:=h;unfold cb at q;refine tE.bind S (fun c e=>by rw[e]at q;exact q) (fun e=>by rw[e]at q;exact q) fun x v H1 F1 f1 e1 g1 r1 n1 d1 w1=>?_;rw[e1]at q;simp only[Res.ok_bind]at q;cases es:aT x with
 |none=>rw[es]at q;exact q.elim
 |some xs=>
  rw[es]at q;obtain⟨a,vs,f',rfl,hs,hr,_⟩:=r1.seq es;refine⟨a,rfl,?_⟩;rw[hK];rcases hs with hs|hs
  ·refine .inl ⟨vs,hs,q _ H1 F1 g1 (ItC.of0 fun H2 hx=>?_)⟩;have h2:SqL T.K H2 a vs:=by
    rcases hs with z|z
    ·exact .inl (Rd.tr (fun o q=>hx a o q) z)
    ·exact .inr z
   refine⟨fun i x ex=>?_,⟨vs,h2,by rw[hr.length];exact Nat.le_refl _⟩⟩;obtain⟨v,f,ev,rv,_⟩:=hr.get ex;refine⟨⟨vs,v,h2,ev⟩,fun w H3 hy=>⟨hy.1,f,?_⟩⟩;have:=hy.2 vs h2;rw[ev]at this;cases this;exact rv
  ·refine .inr ⟨vs,hs,q _ H1 F1 g1 (ItC.of0 fun H2 hx=>?_)⟩;have h2:SqT T.K H2 a vs:=SqT.tr (fun o q _=>hx a o q) hs;refine⟨fun i x ex=>?_,⟨vs,h2,by rw[hr.length];exact Nat.le_refl _⟩⟩;obtain⟨v,f,ev,rv,_⟩:=hr.get ex;refine⟨⟨vs,v,h2,ev⟩,fun w H3 hy=>⟨hy.1,f,?_⟩⟩;have:=hy.2 vs h2;rw[ev]at this;cases this;exact rv)
def sk:ItC T F1 B L H1 (Itr lo n) (cq lo n):=by
 apply ItC.of0;intro H2 _;refine⟨fun i x ex=>?_,by simp[cq,Itr]⟩;have hi:i<n:=by have:=(List.getElem?_eq_some_iff.mp ex).1;simpa[cq]using this
 refine⟨hi,fun v H3 hy=>⟨hy.1,[],?_⟩⟩;obtain⟨_,rfl⟩:=hy;have:x=.int (lo+(i:Nat)):=by simp[cq,hi]at ex;exact ex.symm
 subst this;exact dP
def bD(hg:Gl X "range")(hm:X.mg "range" = none)(ha:SA X T W [a] ms)(hs:starEach [a] X.env=[(false,eval a X.env)]:=by rfl):SIc X T W tg (.Call (.Name "range" p) [a] [] pos) (bU ms):=fun js s Y H R I h=>my hg hm ha hs js s Y H R I (by
 obtain⟨Z,F,env,fp,S,q⟩:=h;unfold bU at q;refine tA.bind S (fun c e=>by rw[e]at q;exact q) (fun e=>by rw[e]at q;exact q) fun xs vs H1 F1 f1 e1 g1 r1 n1 d1 w1=>?_;rw[e1]at q;simp only[Res.ok_bind]at q;split at q
 ·rename_i n
  split at q
  ·rename_i hc
   obtain⟨v,rfl,r2⟩:=r1.one;unfold Rel at r2;obtain⟨rfl,_⟩:=r2;have hc':-(2 ^ 62)<= n/\n<2 ^ 62:=by simpa[inR]using hc
   exact⟨n,rfl,hc'.1,hc'.2,q _ H1 F1 g1 sk⟩
  ·exact q.elim
 ·exact q.elim)
def qg(hg:Gl X "range")(hm:X.mg "range"=none)(ha:SA X T W [a,b] ms)(hs:starEach [a,b] X.env=[(false,eval a X.env),(false,eval b X.env)]:=by rfl)(hs2:starEach [b] X.env=[(false,eval b X.env)]:=by rfl) :
  SIc X T W tg (.Call (.Name "range" p) [a,b] [] pos) (ji ms):=fun js s Y H R I h=>mw hg hm ha hs hs2 js s Y H R I (by
 obtain⟨Z,F,env,fp,S,q⟩:=h;unfold ji at q;refine tA.bind S (fun c e=>by rw[e]at q;exact q) (fun e=>by rw[e]at q;exact q) fun xs vs H1 F1 f1 e1 g1 r1 n1 d1 w1=>?_;rw[e1]at q;simp only[Res.ok_bind]at q;split at q
 ·rename_i i j
  split at q
  ·rename_i hc
   unfold RelL at r1;obtain⟨v,ws,f1,f2,rfl,h1,h2,_⟩:=r1;obtain⟨v2,rfl,h3⟩:=h2.one;unfold Rel at h1 h3;obtain⟨rfl,_⟩:=h1;obtain⟨rfl,_⟩:=h3;have hc':(-(2 ^ 62)<= i/\i<2 ^ 62)/\(-(2 ^ 62)<= j/\j<2 ^ 62):=by simpa[inR]using hc
   exact⟨i,j,rfl,⟨hc'.1.1,hc'.1.2,hc'.2.1,hc'.2.2⟩,q _ H1 F1 g1 sk⟩
  ·exact q.elim
 ·exact q.elim)
abbrev WF:Nat->St->Hp->Prop:=fun _ _ _=>False
def STs(X:Cx)(T:Tb)(W:Nat->St->Hp->Prop)(ifs:List Expr)(m:MT):Prop:=
 ∀(js:List (Addr×Obj)) (s:Shared) (Y:St) (H:Hp) (Q:Bool->Hp->Prop),L2.Inv X js Y H s->tT T W m Y H Q ->
  wpAny (model X.prog X.w) X.A (forIn ifs true fun c r=>if r=true then do let ok <- isTrue c X.env (eval c X.env);pure (ForInStep.yield ok)else pure (ForInStep.yield r)) (TP X js Y Q) X.xe s
def bX:MT:=fun _=>.ok true
def bA:STs X T W [] bX:=fun js s Y H Q I ⟨Z,F,env,fp,S,q⟩=>wpAny_tests_nil ⟨H,I,q H F (Gr.refl S.hp.ft)⟩
def cL(h:ST X T W c m):STs X T W [c] m:=fun js s Y H Q I q=>wpAny_tests_one (h js s Y H Q I q)
structure gy(g:TgM)(k:Nat):Prop where
 keep:∀x env e',g x env=some e'->e'.length=env.length/\∀j<k,e'[j]?=env[j]?
 own:∀x env e',g x env=some e'->x.has Fl.isOwn=false->∀(j:Nat) pv,e'[j]?=some (some pv)->env[j]?=some (some pv)\/ pv.has Fl.isOwn=false
structure kz(g:qZ)(k:Nat):Prop where
 keep:∀x env e',g x env=some e'->e'.length=env.length/\∀j<k,e'[j]?=env[j]?
 own:∀x env e',g x env=some e'->hasL Fl.isOwn x=false->∀(j:Nat) pv,e'[j]?=some (some pv)->env[j]?=some (some pv)\/ pv.has Fl.isOwn=false
def uV(h:k<=i):gy (tgN i) k:=by
 refine⟨fun x env e' e=>?_,fun x env e' e hx j pv hj=>?_⟩
 ·unfold tgN at e;split at e
  ·cases e;exact⟨by simp,fun j hj=>getElem?_set_ne (by omega)⟩
  ·cases e
 ·unfold tgN at e;split at e
  ·cases e;by_cases hij:i=j
   ·subst hij;have hl:i<env.length:=by have:=(List.getElem?_eq_some_iff.mp hj).1;simpa using this
    rw[getElem?_set_self hl]at hj;cases hj;exact .inr hx
   ·rw[getElem?_set_ne hij]at hj;exact .inl hj
  ·cases e
def oB:kz kE k:=by
 refine⟨fun x env e' e=>?_,fun x env e' e _ j pv hj=>?_⟩
 ·cases x with
  |nil=>cases e;exact⟨rfl,fun _ _=>rfl⟩
  |cons _ _=>cases e
 ·cases x with
  |nil=>cases e;exact .inl hj
  |cons _ _=>cases e
def io(h1:gy g k)(h2:kz u k):kz (dg g u) k:=by
 refine⟨fun x env e' e=>?_,fun x env e' e hx j pv hj=>?_⟩
 ·cases x with
  |nil=>cases e
  |cons y ys=>
   simp only[dg]at e;cases e1:g y env with
   |none=>rw[e1]at e;cases e
   |some e2=>rw[e1]at e;obtain⟨l1,k1⟩:=h1.keep y env e2 e1;obtain⟨l2,k2⟩:=h2.keep ys e2 e' e;exact⟨l2.trans l1,fun j hj=>(k2 j hj).trans (k1 j hj)⟩
 ·cases x with
  |nil=>cases e
  |cons y ys=>
   simp only[hasL,or_eq_false_iff]at hx;simp only[dg]at e;cases e1:g y env with
   |none=>rw[e1]at e;cases e
   |some e2=>
    rw[e1]at e;rcases h2.own ys e2 e' e hx.2 j pv hj with z|z
    ·exact h1.own y env e2 e1 hx.1 j pv z
    ·exact .inr z
def rp(h:kz u k):gy (tgT n u) k:=by
 refine⟨fun x env e' e=>?_,fun x env e' e hx j pv hj=>?_⟩
 ·cases x with
  |tup xs=>
   simp only[tgT]at e;split at e
   ·exact h.keep xs env e' e
   ·cases e
  |_=>cases e
 ·cases x with
  |tup xs=>
   simp only[tgT]at e;simp only[PV.has]at hx;split at e
   ·exact h.own xs env e' e hx j pv hj
   ·cases e
  |_=>cases e
def bH(caps:List Nat)(k:Nat)(env:En):En:=caps.map (fun i=>((env[i]?).join).map PV.borrow)++ replicate k none
def dB(g:TgM)(mc:MT)(me:ME)(env:En):List PV->Res (List PV)
 | []=>.ok []
 |x::xs=>match g x.borrow env with
  |none=>.stuck
  |some e=>(mc e).bind fun b=>if b then(me e).bind fun y=>if y.has Fl.isBor||y.has Fl.isLnt then .stuck else(dB g mc me env xs).bind fun ys=>.ok (y::ys)else dB g mc me env xs
def a6(caps:List Nat)(k:Nat)(mi:MI)(g:TgM)(mc:MT)(me:ME):ME:=fun env=>(mi env).bind fun xs=>if xs.length <= 10000000 then (match dB g mc me (bH caps k env) xs with
 |.ok ys=>.ok (.lst .own ys)
 |_=>.stuck)else .stuck
end
section
variable{prog:Program}{w:World}{A:Around}{R:Result->Shared->Prop}{s:Shared}
def n6(I:Nat->Shared->Prop)
  (turn:∀ n s,I n s->wpAny (model prog w) A (pyNext it) (fun r s₁=>match r with
   |none=>R (.ok .next) s₁
   | some v=>wpAny (model prog w) A (letOwnedTupleGo target it v) (fun _ s₁'=>wpAny (model prog w) A (assign target env v) (fun _ s₂=>
     wpAny (model prog w) A (forIn ifs true fun c r=>if r=true then do let ok <- isTrue c env (eval c env);pure (ForInStep.yield ok) else pure (ForInStep.yield r)) (fun ok s₃=>
      if ok=true then wpAny (model prog w) A (eval elt env) (fun x s₄=>
       wpAny (model prog w) A (call (.builtin "list.append") [acc,x]) (fun _ s₅=>∃m,m<n/\I m s₅) (notedBy (model prog w) A env fun e s'=>R (.error e) s') s₄) (notedBy (model prog w) A env fun e s'=>R (.error e) s') s₃
      else ∃m,m<n/\I m s₃) (notedBy (model prog w) A env fun e s'=>R (.error e) s') s₂) (notedBy (model prog w) A env fun e s'=>R (.error e) s') s₁') (notedBy (model prog w) A env fun e s'=>R (.error e) s') s₁) (notedBy (model prog w) A env fun e s'=>R (.error e) s') s)
  (n:Nat) (h:I n s) :
  codeAny (model prog w) A (.compLoop (.ListComp elt [⟨target,iter,ifs,0⟩] scope pos) 0 it acc env) R s:=by
 refine codeAny_loop rfl I (fun n s hI=>?_) n h;show wpAny _ A ((compTurn (.ListComp elt [⟨target,iter,ifs,0⟩] scope pos) 0 it acc env).onRaise (fun x=>do noteFrame x env;theTreesLotGoes x)) _ _ s;refine wpAny_noted ?_;rw[compTurn_list];refine wpAny_bind (wpAny_standAt (wpAny_bind (wpAny_mono (turn n s hI) (fun r s₁ h₁=>?_) fun _ _ h'=>h')));cases r with
 |none=>exact wpAny_pure h₁
 |some v=>
  refine wpAny_bind (wpAny_mono h₁ (fun _ s₁' h₁'=>?_) fun _ _ h'=>h');refine wpAny_bind (wpAny_mono h₁' (fun _ s₂ h₂=>wpAny_bind (wpAny_mono h₂ (fun ok s₃ h₃=>?_) fun _ _ h'=>h')) fun _ _ h'=>h');cases ok with
  |false=>exact wpAny_pure ⟨rfl,h₃⟩
  |true=>exact wpAny_bind (wpAny_bind (wpAny_mono h₃ (fun x s₄ h₄=>wpAny_bind (wpAny_mono h₄ (fun _ s₅ h₅=>wpAny_pure (wpAny_pure ⟨rfl,h₅⟩)) fun _ _ h'=>h')) fun _ _ h'=>h'))
end
end PR
namespace PR
open PySem PySem.Spec L2
section
variable{X:Cx}{T:Tb}{W:Nat->St->Hp->Prop}{Z:Zn}{F F1 B L:Addr->Prop}{H H1:Hp}{Y:St}{env:En}{fp:Nat->List Addr}{D:Ends}
def aA.wk(S:aA T Z F H Y env fp)(hpin:Z.pin=none)(hl:e2.length=env.length)(h:∀(i:Nat) pv,e2[i]?=some (some pv)->env[i]?=some (some pv)):aA T Z F H Y e2 fp:=
 ⟨S.hp,S.len.trans hl.symm,fun i pv e=>S.rel i pv (h i pv e),S.nd,S.dj,S.dis,S.new,S.ch,fun v hv=>by rw[hpin]at hv;cases hv⟩
def aA.noOwn(S:aA T Z F H Y env fp)(h:∀(i:Nat) pv,env[i]?=some (some pv)->pv.has Fl.isOwn=false):aA T Z F H Y env (fun _=>[]):=
 ⟨S.hp,S.len,fun i pv e=>by
  obtain⟨v,h1,h2⟩:=S.rel i pv e;have:=Rel.noOwn (h i pv e) h2;rw[this]at h2;exact⟨v,h1,h2⟩,fun _=>nodup_nil,fun _ _ _ _ z=>(nomatch z),fun _ _ z=>(nomatch z),fun _ _ z=>(nomatch z),fun _ _ z=>(nomatch z),S.pn⟩
def aA.updD(S:aA T Z F H Y env (fun _=>[]))(hF:¬F Dd)(h0:Z.H0 Dd=none)(hD:H Dd=some o)(hfx:¬fP o):aA T Z F (upd H Dd o') Y env (fun _=>[]):=by
 have ne:∀a u,H a=some u->(F a\/Z.B a\/NoL a\/fP u)->a≠Dd:=(by grind[b_,aA,bY,Gr])
 refine⟨⟨S.hp.bo,fun a u e n=>?_,S.hp.f0,S.hp.fn,fun a h=>?_⟩,S.len,fun i pv e=>?_,S.nd,S.dj,fun _ _ z=>(nomatch z),S.new,fun _ _ z=>(nomatch z),S.pn⟩
 ·have:a≠Dd:=fun z=>by rw[z,h0]at e;cases e
  rw[aF this];exact S.hp.keep a u e n
 ·obtain⟨u,e⟩:=S.hp.ft a h;exact⟨u,by rw[aF (show a≠Dd from fun z=>hF (by rw[<- z];exact h))];exact e⟩
 ·obtain⟨v,h1,h2⟩:=S.rel i pv e;refine⟨v,h1,Rel.tr (fun _ h=>h) (fun _ h=>h) (fun _ h=>h) (fun a u q h=>?_) (fun _ z=>(nomatch z)) h2⟩;rw[aF (ne a u q h)];exact q
def zC(F:Addr->Prop)(H:Hp):Zn:=⟨H,F,fun _=>False,fun a=>∃o,H a=some o,none⟩
def uK(S:aA T Z F H Y env fp)(hD:H Dd=none)(hFD:¬F Dd) :
  aA T (zC F H) F (upd H Dd (.lst [])) (n9 caps k Y) (bH caps k env) (fun _=>[]):=by
 have ext:Ext H (upd H Dd (.lst [])):=Ext.upd hD;refine⟨⟨⟨fun a h=>⟨h,fun z=>z⟩,S.tbo Ext.refl fun _ z=>False.elim z⟩,fun a o h _=>ext a o h,fun _ h=>h,fun _ h=>.inl h,fun a h=>let⟨o,e⟩:=S.hp.ft a h;⟨o,ext a o e⟩⟩,by simp[n9,bH],fun i pv e=>?_,fun _=>nodup_nil,fun _ _ _ _ z=>(nomatch z),fun _ _ z=>(nomatch z),fun _ _ z=>(nomatch z),fun _ _ z=>(nomatch z),fun _ h=>(nomatch h)⟩;unfold bH at e;unfold n9;by_cases hi:i<caps.length
 ·rw[getElem?_append_left (by simpa using hi),getElem?_map]at e ⊢;obtain⟨j,hj,e2⟩:=map_eq_some_iff.mp e;rw[hj];obtain⟨pv0,e3,rfl⟩:=map_eq_some_iff.mp e2;have e4:env[j]?=some (some pv0):=by
   cases e5:env[j]? with
   |none=>rw[e5]at e3;cases e3
   |some w=>rw[e5]at e3;simp only[join_some]at e3;rw[e3]
  obtain⟨v,h1,h2⟩:=S.rel j pv0 e4;refine⟨v,by simp[h1],?_⟩;refine Rel.borrow (B:=fun a=>∃o,H a=some o) (L:=NoL) (fun _ h=>h) (fun _ h=>h.elim) (fun a ha=>(S.dis j a ha).2) ?_;exact Rel.tr (fun _ h=>h) (fun a h=>let⟨⟨o,h1⟩,h2⟩:=S.hp.bo.1 a h;⟨o,S.hp.keep a o h1 h2⟩) (fun _ h=>h) (fun a o q _=>ext a o q) (fun a _ o q=>ext a o q) h2
 ·rw[getElem?_append_right (by simpa using hi),getElem?_replicate]at e;split at e<;>cases e
set_option maxHeartbeats 1000000 in
def mT
  (cs:d9 X scope caps N tn) (hc:X.calm=true) (hi:SIc X T W tg iter mi) (hk:gy g caps.length)
  (hb:∀C s H ex,SG (cxC X scope C N s H ex) T tg g/\STs (cxC X scope C N s H ex) T WF ifs mc/\SE (cxC X scope C N s H ex) T WF elt me)
  (hs:∀x,foldedSetIterable iter X.env x=pure x) (I:L2.Inv X js Y H s) (h:tE T W (a6 caps tn.length mi g mc me) Y H Q)
  (hfin:∀(Dd C:Addr) (H':Hp) (s6:Shared) (m:Str->Option Value),Q (.ref Dd) H'->L2.Inv X js Y H' s6->s6.heap.Ns C m->H' C=none->C≠X.env.locals->C∉X.fs->X.s₀.heap.objs.size<=C->(∀x c,X.env.cells.lookup x=some c->c≠C)->(∀p∈X.pn++js,p.1≠C)->compPost (model X.prog X.w) X.A X.xe use Q' (.ref Dd) C (.ok .next) s6) :
  wpAny (model X.prog X.w) X.A (comprehension (.ListComp elt [⟨tg,iter,ifs,0⟩] scope pos) scope X.env p' (newList []) false (eval iter X.env) use) Q' X.xe s:=by
 obtain⟨Z,F,env,fp,S,q⟩:=h;unfold a6 at q;refine wpAny_comprehension_free (use:=use) rfl hs (lT fun y hy hf=>I.ok.has y.1 (cs.free y hy hf)) cs.kind cs.names ?_;refine thn (hi js s Y H (fun J H1=>∃F1 xs,mi env=.ok xs/\Gr F H F1 H1/\ItC T F1 Z.B (Own fp) H1 J xs) I ⟨Z,F,env,fp,S,?_⟩) fun xv s1 h1=>thn h1 fun itv s2 h2=>?_
 ·cases em:mi env with
  |ok xs=>exact fun J H1 F1 g1 it=>⟨F1,xs,rfl,g1,it⟩
  |exc c|stuck=>rw[em]at q;exact q
 obtain⟨it,fpi,tn_,J,H2,rfl,I2,Tn,st2,f2,F1,xs,em,g1,itc⟩:=h2;rw[em]at q;simp only[Res.ok_bind]at q;split at q
 case isFalse=>exact q.elim
 rename_i hlen
 cases ec:dB g mc me (bH caps tn.length env) xs with
 |exc c|stuck=>rw[ec]at q;exact q.elim
 |ok full=>
 rw[ec]at q;dsimp only at q;have S2:=S.grow g1;have hlt:∀b∈fpi,b<s2.heap.objs.size:=fun b hb=>by obtain⟨o,ho,_⟩:=Tn.obj 0 _ st2 b hb;exact lt_size ho
 refine PySem.wpAny_newObj_type (o6 fun h₁ hns₁ hsb₁ hcl₁=>?_);dsimp only at hns₁ hsb₁ hcl₁ ⊢;generalize hH2:s2.heap.push {cls:=.type "list",dict:=none,data:=.seq ([]:List Value).toArray}=P2 at hns₁ hsb₁ hcl₁ ⊢;have hC:P2.objs.size=s2.heap.objs.size+1:=by rw[<- hH2,size_push]
 have old:∀b o,s2.heap.get? b=some o->h₁.get? b=some o:=fun b o e=>hsb₁ b o (hH2▸get?_push_of_some _ e);have hDo:h₁.get? s2.heap.objs.size=some {cls:=.type "list",data:=.seq ([]:List Value).toArray}:=hsb₁ _ _ (hH2▸get?_push_size _ rfl);rw[hC]at hns₁ hcl₁;have inv0:=wF (t:=s2.toks) cs I2 f2 hlt hns₁ hDo old hcl₁;have hDH:H2 s2.heap.objs.size=none:=I2.hok.fresh (Nat.le_refl _);have hDF:¬F1 s2.heap.objs.size:=fun z=>by obtain⟨o,e⟩:=g1.dom _ z;rw[hDH]at e;cases e
 have SB:=uK (caps:=caps) (k:=tn.length) S2 hDH hDF;obtain⟨hgN,hts,hel⟩:=hb (s2.heap.objs.size+1) s2 H2 fpi;have never:∀{α:Type}{t:Sem α}{Qa:α->Shared->Prop}{E':Value->Shared->Prop}{s':Shared},wpAny (model X.prog X.w) X.A t Qa (fun _ _=>False) s'->wpAny (model X.prog X.w) X.A t Qa E' s':=fun h=>wpAny_mono h (fun _ _ x=>x) fun _ _ z=>z.elim;have fpok:∀{H':Hp}{pins':List (Addr×Obj)},(∀p∈pins',p.1∉fpi)->(∀b∈fpi,H' b=none)->∀b∈fpi,lO (cxC X scope (s2.heap.objs.size+1) N s2 H2 fpi) pins' H' b:=fun {H' pins'} hp hn b hb=>by
  refine⟨hn b hb,Nat.ne_of_lt (Nat.lt_succ_of_lt (hlt b hb)),(n4 cs I2 f2 hlt (le_succ _)).exfs b hb,.inl hb,((n4 cs I2 f2 hlt (le_succ _)).exf b hb).2,fun p hp' z=>?_⟩;rcases mem_append.mp hp' with w|w
  ·exact absurd (show p ∈([]:List (Addr×Obj))from w) (by simp)
  ·exact hp p w (z▸hb)
 have key:∀s4:Shared,L2.Inv (cxC X scope (s2.heap.objs.size+1) N s2 H2 fpi) [] (n9 caps tn.length Y) (upd H2 s2.heap.objs.size (.lst [])) s4->tn_ 0 s4.heap ->
   codeAny (model X.prog X.w) X.A (.compLoop (.ListComp elt [⟨tg,iter,ifs,0⟩] scope pos) 0 (.ref it) (.ref s2.heap.objs.size) (compEnvC scope (pN X scope (s2.heap.objs.size+1)) (s2.heap.objs.size+1) X.env))
    (compPost (model X.prog X.w) X.A X.xe use Q' (.ref s2.heap.objs.size) (s2.heap.objs.size+1)) s4:=by
  intro s4 inv4 st4;refine n6 (fun n s'=>∃ (i:Nat) (σ':St) (H':Hp) (Fi:Addr->Prop) (ys zs:List PV) (vs:List V) (f:List Addr),n=xs.length - i/\i <= xs.length/\L2.Inv (cxC X scope (s2.heap.objs.size+1) N s2 H2 fpi) [] σ' H' s'/\tn_ i s'.heap/\(∀ b ∈ fpi,H' b=none) /\
   aA T (zC F1 H2) Fi H' σ' (bH caps tn.length env) (fun _=>[])/\H' s2.heap.objs.size=some (.lst vs)/\RelL T Fi Z.B (Own fp) H' ys vs f/\f.Nodup/\(∀a∈f,¬Fi a/\H2 a=none/\a≠s2.heap.objs.size)/\¬Fi s2.heap.objs.size/\ys.length<=i /\
   dB g mc me (bH caps tn.length env) (xs.drop i)=.ok zs/\full=ys++zs) ?_ xs.length ?_
  case refine_2=>
   refine⟨0,_,_,F1,[],full,[],[],by simp,zero_le _,inv4,st4,fun b hb=>?_,SB,aN,by unfold RelL;exact⟨rfl,rfl⟩,nodup_nil,fun _ z=>(nomatch z),hDF,zero_le _,ec,rfl⟩;rw[aF (Nat.ne_of_lt (hlt b hb))];exact(f2 b hb).1
  rintro n s5 ⟨i,σ',H',Fi,ys,zs,vs,f,rfl,hil,inv5,st5,fr5,SI5,hD5,ry,nd5,nf5,nFD,hyl,ecl,efull⟩;have ext5:Ext H2 H':=fun a o e=>SI5.hp.keep a o e fun z=>z;have gr5:Gr F1 H2 Fi H':=⟨ext5,SI5.hp.f0,fun a h=>by
   rcases SI5.hp.fn a h with z|z|z
   ·exact .inl z
   ·exact .inr z
   ·exact z.elim,SI5.hp.ft⟩
  obtain⟨go,stop⟩:=itc H' ext5;by_cases hlt5:i<xs.length
  ·have hx:xs[i]?=some xs[i]:=by simp[hlt5]
   obtain⟨g5,yl⟩:=go i _ hx;rw[List.drop_eq_getElem_cons hlt5]at ecl;unfold dB at ecl;cases eg:g xs[i].borrow (bH caps tn.length env)with
   |none=>rw[eg]at ecl;cases ecl
   |some e'=>
   rw[eg]at ecl;dsimp only at ecl;refine thn (Tn.item (cxC X scope (s2.heap.objs.size+1) N s2 H2 fpi) rfl rfl rfl hc i [] s5 σ' H' _ inv5 (fpok (fun _ z=>absurd z (by simp)) fr5) st5 g5) fun r s6 hz1=>?_;obtain⟨u,hr,h6⟩:=hz1;subst hr;refine thn h6 fun _ s7 hz1=>?_;obtain⟨v,H7,inv7,rv,yy,st7,fr7⟩:=hz1;obtain⟨ex7,fx,tx,rx⟩:=yl v H7 yy
   replace SI5:=SI5.grow (Gr.same SI5.hp.ft ex7)
   replace ry:=ry.ext ex7 fun _ h=>h
   replace hD5:=ex7 _ _ hD5
   replace gr5:=gr5.trans (Gr.same gr5.dom ex7)
   replace ext5:=gr5.ext
   have pinv:=inv7.pinned (fpok (fun _ z=>absurd z (by simp)) fr7) (Tn.obj _ _ st7);have rxb:Rel T Fi (zC F1 H2).B NoL H7 xs[i].borrow v []:=by refine Rel.borrow (B:=fun a=>∃o,H2 a=some o) (L:=Own fp) (fun _ h=>h) (fun a ⟨j,hj⟩=>(S2.dis j a hj).2) (fun a ha=>tx a ha) ?_;exact Rel.tr SI5.hp.f0 (fun a h=>let⟨⟨o,h1⟩,h2⟩:=S2.hp.bo.1 a h;⟨o,S2.hp.keep a o h1 h2⟩) (fun _ h=>h) (fun a o q _=>q) (fun a _ o q=>q) rx
   refine never (thn (hgN _ s7 σ' H7 v u (fun σ8 H8=>H8=H7/\∃fp8,aA T (zC F1 H2) Fi H7 σ8 e' fp8) pinv rv ⟨zC F1 H2,Fi,bH caps tn.length env,fun _=>[],xs[i].borrow,[],SI5,rxb,uR.nil,?_⟩) fun _ s8 ⟨σ8,H8,inv8,e8,fp8,S8⟩=>?_)
   ·rw[eg];exact fun σ8 fp8 S8=>⟨rfl,fp8,S8⟩
   subst e8;obtain⟨kl,kk⟩:=hk.keep _ _ _ eg;have capOwn:∀(j:Nat) pv,(bH caps tn.length env)[j]?=some (some pv)->pv.has Fl.isOwn=false:=fun j pv ej=>by
    unfold bH at ej;by_cases hj:j<caps.length
    ·rw[getElem?_append_left (by simpa using hj),getElem?_map]at ej;obtain⟨jj,_,e2⟩:=map_eq_some_iff.mp ej;obtain⟨pv0,_,rfl⟩:=map_eq_some_iff.mp e2;exact iU pv0
    ·rw[getElem?_append_right (by simpa using hj),getElem?_replicate]at ej;split at ej<;>cases ej
   have S8':aA T (zC F1 H2) Fi H8 σ8 e' (fun _=>[]):=S8.noOwn fun j pv ej=>by
    rcases hk.own _ _ _ eg (iU _) j pv ej with z|z
    ·exact capOwn j pv z
    ·exact z
   have back:∀{F9:Addr->Prop}{H9:Hp},aA T (zC F1 H2) F9 H9 σ8 e' (fun _=>[])->aA T (zC F1 H2) F9 H9 σ8 (bH caps tn.length env) (fun _=>[]):=fun S9=>S9.wk rfl kl.symm fun j pv ej=>by
    have hj:j<caps.length:=by
     by_cases hj:j<caps.length
     ·exact hj
     ·unfold bH at ej;rw[getElem?_append_right (by simpa using hj),getElem?_replicate]at ej;split at ej<;>cases ej
    rw[kk j hj];exact ej
   have pinback:∀{H9:Hp}{s9:Shared},L2.Inv (cxC X scope (s2.heap.objs.size+1) N s2 H2 fpi) ([]++ kP fpi s7.heap) σ8 H9 s9->L2.Inv (cxC X scope (s2.heap.objs.size+1) N s2 H2 fpi) [] σ8 H9 s9/\tn_ (i+1) s9.heap/\∀b∈fpi,H9 b=none:=fun {H9 s9} i9=>
    ⟨i9.unpinned,Tn.keep _ _ _ st7 fun b hb o e=>(i9.pin (b,o) (mem_append_right _ (mem_append_right _ (gu hb e)))).1,fun b hb=>by
     obtain⟨o,e,_⟩:=Tn.obj _ _ st7 b hb;exact(i9.pin (b,o) (mem_append_right _ (mem_append_right _ (gu hb e)))).2.1⟩
   cases emc:mc e' with
   |exc c|stuck=>rw[emc]at ecl;cases ecl
   |ok bb=>
   rw[emc]at ecl;simp only[Res.ok_bind]at ecl;refine never (thn (hts _ s8 σ8 H8 (fun b H9=>b=bb/\∃F9,Gr Fi H8 F9 H9) inv8 ⟨zC F1 H2,Fi,e',fun _=>[],S8',?_⟩) fun ok s9 ⟨H9,inv9,eb,F9,g9⟩=>?_)
   ·rw[emc];exact fun H9 F9 g9=>⟨rfl,F9,g9⟩
   subst eb;have S9:=S8'.grow g9;have ry9:=ry.ext g9.ext g9.mono;have nf9:∀a∈f,¬F9 a:=fun a ha z=>by
    rcases g9.only a z with z|z
    ·exact(nf5 a ha).1 z
    ·obtain⟨o,e⟩:=ry.there a ha;rw[e]at z;cases z
   have nFD9:¬F9 s2.heap.objs.size:=fun z=>by
    rcases g9.only _ z with z|z
    ·exact nFD z
    ·rw[hD5]at z;cases z
   cases ok with
   |false=>simp only[false_eq_true,if_false]at ecl ⊢;obtain⟨i10,st10,fr10⟩:=pinback inv9;exact⟨xs.length-(i+1),by omega,i+1,σ8,H9,F9,ys,zs,vs,f,rfl,hlt5,i10,st10,fr10,back S9,g9.ext _ _ hD5,ry9,nd5,fun a ha=>⟨nf9 a ha,(nf5 a ha).2⟩,nFD9,by omega,ecl,efull⟩
   |true=>
    simp only[if_true]at ecl ⊢;cases eme:me e' with
    |exc c|stuck=>rw[eme]at ecl;cases ecl
    |ok y=>
    rw[eme]at ecl;simp only[Res.ok_bind]at ecl;split at ecl
    case isTrue=>cases ecl
    rename_i hyb
    simp only[or_eq_true,not_or,Bool.not_eq_true]at hyb;cases ecr:dB g mc me (bH caps tn.length env) (xs.drop (i+1))with
    |exc c|stuck=>rw[ecr]at ecl;cases ecl
    |ok zs'=>
    rw[ecr]at ecl;simp only[Res.ok_bind]at ecl;cases ecl;refine never (thn (hel _ s9 σ8 H9 (fun v' H10=>∃F10 f10,Gr F9 H9 F10 H10/\Rel T F10 (zC F1 H2).B (Own fun _=>[]) H10 y v' f10/\(∀a∈f10,¬F10 a)/\f10.Nodup/\∀a∈f10,H9 a=none) inv9 ⟨zC F1 H2,F9,e',fun _=>[],S9,?_⟩) fun w s10 ⟨v',H10,inv10,rw10,F10,f10,g10,r10,n10,d10,w10⟩=>?_)
    ·rw[eme];exact fun v' H10 F10 f10 g10 r10 n10 d10 w10=>⟨F10,f10,g10,r10,n10,d10,w10⟩
    have hvl:vs.length<sizeLine:=by have h1:=ry.length;have h2:sizeLine=16777216:=sizeLine_eq;omega
    have hD10:H10 s2.heap.objs.size=some (.lst vs):=g10.ext _ _ (g9.ext _ _ hD5);refine never (thn (jO _ s10 σ8 H10 (.ref s2.heap.objs.size) [v'] (.ref s2.heap.objs.size) [w] (fun _ H11=>H11=upd H10 s2.heap.objs.size (.lst (vs++[v']))) inv10 rfl (.cons rw10 .nil) ⟨s2.heap.objs.size,vs,v',rfl,rfl,hD10,hvl,rfl⟩) fun _ s11 zz=>?_);obtain⟨_,H11,inv11,_,e11⟩:=zz;subst e11;obtain⟨i12,st12,fr12⟩:=pinback inv11;have S10:=S9.grow g10;have nFD10:¬F10 s2.heap.objs.size:=fun z=>by
     rcases g10.only _ z with z|z
     ·exact nFD9 z
     ·rw[g9.ext _ _ hD5]at z;cases z
    have ry10:=ry9.ext g10.ext g10.mono;have ryy:RelL T F10 Z.B (Own fp) (upd H10 s2.heap.objs.size (.lst (vs++[v']))) (ys++[y]) (vs++[v']) (f++f10):=by
     have ry1:Rel T F10 Z.B (Own fp) H10 y v' f10:=Rel.noL hyb.2 (Rel.noB (B':=Z.B) hyb.1 r10);have all:RelL T F10 Z.B (Own fp) H10 (ys++[y]) (vs++[v']) (f++f10):=RelL.append ry10 (by unfold RelL;exact⟨v',[],f10,[],rfl,ry1,by unfold RelL;exact⟨rfl,rfl⟩,by simp⟩);refine RelL.tr (fun _ h=>h) (fun _ h=>h) (fun _ h=>h) (fun a o e h=>?_) (fun a ha o e=>?_) all
     ·refine(aF fun z=>?_).trans e;subst z;rcases h with h|h|h|h
      ·exact nFD10 h
      ·obtain⟨⟨o',h1⟩,h2⟩:=S2.hp.bo.1 _ h;rw[S2.hp.keep _ o' h1 h2]at hDH;cases hDH
      ·obtain⟨j,hj⟩:=h;obtain⟨_,o',ho'⟩:=S2.dis j _ hj;rw[hDH]at ho';cases ho'
      ·rw[hD10]at e;cases e;exact h
     ·refine(aF fun z=>?_).trans e;subst z;rcases mem_append.mp ha with ha|ha
      ·exact(nf5 _ ha).2.2 rfl
      ·have:=w10 _ ha;rw[g9.ext _ _ hD5]at this;cases this
    have nf10:∀a∈f,¬F10 a:=fun a ha z=>by
     rcases g10.only a z with z|z
     ·exact nf9 a ha z
     ·obtain⟨o,e⟩:=ry9.there a ha;rw[e]at z;cases z
    refine⟨xs.length-(i+1),by omega,i+1,σ8,_,F10,ys++[y],zs',vs++[v'],f++f10,rfl,hlt5,i12,st12,fr12,back (S10.updD nFD10 hDH hD10 (fun z=>z)),aN,ryy,?_,fun a ha=>?_,nFD10,by simp;omega,ecr,by rw[efull,append_assoc];rfl⟩
    ·refine nodup_append.mpr ⟨nd5,d10,fun a ha b hb z=>?_⟩;subst z;obtain⟨o,e⟩:=ry9.there a ha;rw[w10 a hb]at e;cases e
    ·rcases mem_append.mp ha with ha|ha
     ·exact⟨nf10 a ha,(nf5 a ha).2⟩
     ·refine⟨n10 a ha,?_,fun z=>?_⟩
      ·have:=w10 a ha;exact ext5.free (g9.ext.free this)
      ·subst z;have:=w10 _ ha;rw[g9.ext _ _ hD5]at this;cases this
  ·have e:i=xs.length:=by omega
   subst e;rw[List.drop_length]at ecl;unfold dB at ecl;cases ecl;rw[append_nil]at efull;subst efull;refine thn (Tn.done (cxC X scope (s2.heap.objs.size+1) N s2 H2 fpi) rfl rfl rfl hc xs.length [] s5 σ' H' _ inv5 (fpok (fun _ z=>absurd z (by simp)) fr5) st5 stop) fun r s6 hz1=>?_;obtain⟨hr,inv6⟩:=hz1;subst hr;obtain⟨m,hn,_⟩:=id inv6.loc;have hlc:X.env.locals<s2.heap.objs.size+1:=Nat.lt_succ_of_lt I2.lt;have iX:L2.Inv X js Y H' s6:=I2.call' inv6.os inv6.base inv6.hok inv6.bare fun b hb=>⟨(f2 b hb).2.2.2.1,(f2 b hb).2.1,(f2 b hb).2.2.2.2.1,(f2 b hb).2.2.2.2.2⟩
   refine hfin _ (s2.heap.objs.size+1) H' s6 m ?_ iX hn inv6.free (Nat.ne_of_gt hlc) (I2.nofs (le_succ _)) (Nat.le_trans I2.sz (le_succ _)) (fun x c e z=>?_) (fun p hp z=>?_)
   case refine_2=>
    obtain⟨v,hv⟩:=I2.cell x c e;rw[z]at hv;exact absurd hv.lt (Nat.not_lt.mpr (le_succ _))
   case refine_3=>
    have:=lt_size (I2.pin p hp).1;rw[z]at this;exact absurd this (Nat.not_lt.mpr (le_succ _))
   refine q (.ref s2.heap.objs.size) H' Fi (s2.heap.objs.size::f) (g1.trans gr5) ?_ (fun a ha=>?_) ?_ (fun a ha=>?_)
   ·unfold Rel;exact⟨_,vs,f,rfl,hD5,ry,rfl⟩
   ·grind
   ·exact nodup_cons.mpr ⟨fun z=>(nf5 _ z).2.2 rfl,nd5⟩
   ·rcases mem_cons.mp ha with rfl|ha
    ·exact g1.ext.free hDH
    ·exact g1.ext.free (nf5 a ha).2.1
 have st0:tn_ 0 h₁:=Tn.keep _ _ _ st2 fun b _ o e=>old b o e;have lp:=key _ inv0 st0;simp only[hC];exact codeAny_compStart_list lp (Tn.self _ 0 _ _ _ st0 lp)
def yS
  (cs:d9 X scope caps N tn) (hc:X.calm=true) (hi:SIc X T W tg iter mi) (hk:gy g caps.length)
  (hb:∀C s H ex,SG (cxC X scope C N s H ex) T tg g/\STs (cxC X scope C N s H ex) T WF ifs mc/\SE (cxC X scope C N s H ex) T WF elt me)
  (hs:∀x,foldedSetIterable iter X.env x=pure x:=by intro _;rfl):SE X T W (.ListComp elt [⟨tg,iter,ifs,0⟩] scope pos) (a6 caps tn.length mi g mc me):=by
 intro js s Y H Q I h;rw[eval_ListComp];refine mT cs hc hi hk hb hs I h fun Dd C H' s6 m hq iX hn hCn hCl hCf hC0 hCc hCp=>⟨m,hn,fun h' hs'=>⟨.ref Dd,H',?_,rfl,hq⟩⟩
 exact iX.turned (t':=s6.toks) (fun b o hb e=>(hs'.2 b hb).trans e) hCn hCl (.inr hC0) hCc hCp
def yB
  (cs:d9 X scope caps N tn) (hc:X.calm=true) (hN:X.N.Nodup) (hy:X.N[i]?=some y) (hx:Loc X.env.scope y) (hi:SIc X T W tg iter mi) (hk:gy g caps.length)
  (hb:∀C s H ex,SG (cxC X scope C N s H ex) T tg g/\STs (cxC X scope C N s H ex) T WF ifs mc/\SE (cxC X scope C N s H ex) T WF elt me)
  (hsw:swapsWith (.ListComp elt [⟨tg,iter,ifs,0⟩] scope pos) (some (.Name y py)) spos.line X.env=pure true:=by rfl)
  (hs:∀x,foldedSetIterable iter X.env x=pure x:=by intro _;rfl)
  (hf:X.fn y=true\/X.env.scope.names.lookup y=some .local:=by first|exact .inl rfl|exact .inr rfl|assumption) :
  SS X T W (.Assign [.Name y py] (.ListComp elt [⟨tg,iter,ifs,0⟩] scope pos) spos) (aV i (a6 caps tn.length mi g mc me)):=by
 intro js s Y H D I h;obtain⟨Z,F,env,fp,S,q⟩:=h;unfold aV at q;rw[exec_Assign_Name_used _ _ _ _ hsw];refine wpAny_bind (wpAny_standAt (wpAny_bind ?_));show wpAny _ X.A (do let _ <- comprehension (.ListComp elt [⟨tg,iter,ifs,0⟩] scope pos) scope X.env _ (newList []) false (eval iter X.env) (some (assign (.Name y py) X.env))) _ _ s;refine wpAny_bind (wpAny_mono (mT (use:=some (assign (.Name y py) X.env)) (Q':=fun _ s'=>SP X js D .next s') (Q:=fun v H1=>D.nx (Y.set i (some v)) H1) cs hc hi hk hb hs I ?_ fun Dd C H' s6 m hq iX hn hCn hCl hCf hC0 hCc hCp=>?_) (fun _ s' hq=>wpAny_pure (wpAny_pure hq)) fun _ _ e=>e)
 ·refine tE.bind S (fun c e H' x=>?_) (fun e=>by rw[e]at q;exact q) fun pv v H1 F1 f e g r h1 h2 h3=>?_
  ·rw[e]at q;exact q F H' Y fp (S.grow (Gr.same S.hp.ft x))
  ·rw[e]at q;simp only at q;split at q
   ·rename_i hl
    rw[and_eq_true]at hl;exact q F1 H1 _ _ (S.putN g hl.2 r hl.1 h1 h2 h3)
   ·exact q.elim
 ·refine wpAny_assign_Name (l9 (v:=.ref Dd) (u:=.ref Dd) iX hN hy hx rfl (fun s7 i7 ⟨a,hsa,ha⟩=>?_) hf);have hCa:C≠a:=by
   rcases ha with ha|ha
   ·rw[ha];exact hCl
   ·exact fun z=>hCc y a ha z.symm
  refine⟨m,hn.sameBut hsa hCa,fun h' hs'=>⟨_,H',?_,hq⟩⟩;exact i7.turned (t':=s7.toks) (fun b o hb e=>(hs'.2 b hb).trans e) hCn hCl (.inr hC0) hCc hCp
end
def GFI(T:Tb)(Z:Zn)(v0:V)(Q:VK)(E:XK):Res PV->Prop
 |.ok pv=>∀F H f,bY T Z F H->Rel T F Z.B NoL H pv v0 f->f.Nodup->(∀a∈f,¬F a)->(∀a∈f,Z.H0 a=none\/Z.fp0 a)->Q .non H
 |.exc c=>∀H,(∀a o,Z.H0 a=some o->¬Z.fp0 a->H a=some o)->E (.ref (T.xcl c)) none H
 |.stuck=>False
def spI(T:Tb)(n:Nat)(m:List PV->Res PV):Sp:=fun vs H Q E=>vs.length=n/\∃v0 pvs F B f,vs[0]?=some v0/\rj T F B H pvs vs f/\(∃fl c ks xs,pvs[0]?=some (.obj fl c ks xs))/\GFI T ⟨H,F,(·∈f),B,some v0⟩ v0 Q E (m pvs)
def iC(n:Nat)(m:MS)(args:List PV):Res PV:=match m (args.map some++replicate (n-args.length) none)with
 |.next e=>match e[0]? with
  |some (some o)=>.ok o
  |_=>.stuck
 |.exc c _=>.exc c
 |_=>.stuck
section
variable{P:Program}{w:World}{K:PySem.W.Frag}{mg:Str->Option Value}{base:Heap}{T:Tb}
def CF(F:Fun K x qual st f fd)(S:dO N ps (aH st))
  (body:∀ (cdv:Value) (A:Around) (outer:List Env) (s:Shared) (H:Hp) (E:XK),dw k (A.deeper (PyProof.Rows.envOfC qual (aH st) s.heap.objs.size f cdv)) ->
   SSs (c_ (CXP P w) P w K mg base N qual (aH st) f cdv A outer s H E) T (WD T E) (bP st) m):cU P w K mg base (CXP P w) (k+1) f fd ps (spI T ps.length (iC N.length m)):=by
 obtain⟨oc,od,kV,doc,pm,an,cdv,ct,osl,rfl,lk,hcd⟩:=F.ex;refine AL lk hcd S (fun vs H Q E h=>h.1) fun A outer s H vs Q E hr hsp=>⟨_,body cdv A outer s H E hr,?_⟩
 obtain⟨_,v0,pvs,F,B,fl,hv0,R,hob,q⟩:=hsp;obtain⟨fp,S0⟩:=iA N R (some v0) (fun v hv=>by cases hv;exact⟨hv0,hob⟩);refine⟨_,F,_,fp,S0,?_⟩;unfold iC at q;cases e:m (pvs.map some++replicate (N.length-pvs.length) none)with
 |next e'=>
  rw[e]at q;dsimp only at q;intro F' H' σ' fp' S';obtain⟨h1,_⟩:=S'.pn v0 rfl;cases e0:e'[0]? with
  |none=>rw[e0]at q;exact q.elim
  |some o0=>
   cases o0 with
   |none=>rw[e0]at q;exact q.elim
   |some o=>rw[e0]at q;obtain⟨v,h2,r⟩:=S'.rel 0 o e0;rw[h1]at h2;cases h2;exact q F' H' (fp' 0) S'.hp r (S'.nd 0) (fun a ha=>(S'.dis 0 a ha).1) (S'.new 0)
 |ret v|brk e'|cont e'=>rw[e]at q;exact q.elim
 |exc c e'=>rw[e]at q;exact fun F' H' σ' fp' S'=>q H' S'.hp.keep
 |stuck=>rw[e]at q;exact q.elim
end
section
variable{X:Cx}{T:Tb}{W:Nat->St->Hp->Prop}{Z:Zn}{F F1 B L:Addr->Prop}{H H1:Hp}{Y:St}{env:En}{fp:Nat->List Addr}{D:Ends}
def Bg
  (M:Mk X.K (T.cls c) f) (hcn:c<T.nc) (G:cU X.prog X.w X.K X.mg X.base (CXP X.prog X.w) k f fd ps (spI T ps.length m)) (hr:dw (k+1) X.A) (hb:fq X.K fd ps ds) (hd:aP dvs ds) (hdp:∀F B L H,RelL T F B L H dps dvs []) (hx:XF X T W)
  (S:aA T Z F H Y env fp) (g:Gr F H F1 H1) (r:RelL T F1 Z.B (Own fp) H1 xs vs fx) (nf:∀a∈fx,¬F1 a) (nd:fx.Nodup) (new:∀a∈fx,H a=none) (q:GE T W Z.B F (Own fp) Y H Q (aU m (.obj .own c [] []::(xs++dps))))
  (I1:L2.Inv X js Y H1 s1) (rv:aP vs us) (hlen:vs.length+dvs.length+1=ps.length):wpAny (model X.prog X.w) X.A (call (.ref (T.cls c)) us) (EP X js Y Q) X.xe s1:=by
 have hxn:H1 (s1.heap.objs.size+1)=none:=I1.hok.fresh (le_succ _);have hdn:H1 s1.heap.objs.size=none:=I1.hok.fresh (Nat.le_refl _);have hne:s1.heap.objs.size≠s1.heap.objs.size+1:=Nat.ne_of_lt (Nat.lt_succ_self _);generalize hH2:upd (upd H1 s1.heap.objs.size (.own (s1.heap.objs.size+1))) (s1.heap.objs.size+1) (.ins (T.cls c) s1.heap.objs.size [])=H2;have ext2:Ext H1 H2:=by rw[<- hH2];exact(Ext.upd hdn).trans (Ext.upd (by rw[aF hne.symm];exact hxn))
 have free2:∀a,H2 a=none->H1 a=none:=fun a h=>ext2.free h;have hx2:H2 (s1.heap.objs.size+1)=some (.ins (T.cls c) s1.heap.objs.size []):=by rw[<- hH2];exact aN
 have I2:=L2.Inv.made (C:=T.cls c) I1;rw[hH2]at I2;have r2:aP (V.ref (s1.heap.objs.size+1)::(vs++dvs)) (Value.ref (s1.heap.objs.size+1)::(us++ds)):=.cons rfl (rv.append hd);have hl:(Value.ref (s1.heap.objs.size+1)::us++ds).length=ps.length:=by have e:=r2.length;simp only[length_cons,length_append]at e hlen ⊢;omega
 have rr:RelL T F1 Z.B (Own fp) H1 (xs++dps) (vs++dvs) fx:=by
  have:=RelL.append r (hdp F1 Z.B (Own fp) H1)
  rwa [append_nil]at this
 have nx:s1.heap.objs.size+1∉fx:=fun z=>by obtain⟨o,ho⟩:=r.there _ z;rw[hxn]at ho;cases ho
 have hBo:∀a,Z.B a->(∃o,H2 a=some o)/\a ∉(s1.heap.objs.size+1)::fx:=fun a h=>by
  obtain⟨⟨o,h1⟩,h2⟩:=S.hp.bo.1 a h;have h3:=S.hp.keep a o h1 h2;refine⟨⟨o,ext2 a o (g.ext a o h3)⟩,fun z=>?_⟩;rcases mem_cons.mp z with z|z
  ·rw[z]at h3;rw[g.ext _ _ h3]at hxn;cases hxn
  ·rw[new a z]at h3;cases h3
 have hOw:∀a,Own fp a->(∃o,H2 a=some o)/\a ∉(s1.heap.objs.size+1)::fx:=fun a hz1=>by
  obtain⟨i,hi⟩:=hz1;obtain⟨_,o,ho⟩:=S.dis i a hi;refine⟨⟨o,ext2 a o (g.ext a o ho)⟩,fun z=>?_⟩;rcases mem_cons.mp z with z|z
  ·rw[z]at ho;rw[g.ext _ _ ho]at hxn;cases hxn
  ·rw[new a z]at ho;cases ho
 have nF:¬F1 (s1.heap.objs.size+1):=fun z=>by obtain⟨o,ho⟩:=g.dom _ z;rw[hxn]at ho;cases ho
 have R:rj T F1 (fun a=>(∃o,H2 a=some o)/\a ∉(s1.heap.objs.size+1)::fx) H2 (.obj .own c [] []::mapL Fl.toBor (xs++dps)) (.ref (s1.heap.objs.size+1)::(vs++dvs)) ((s1.heap.objs.size+1)::fx):=by
  refine⟨?_,nodup_cons.mpr ⟨nx,nd⟩,fun a ha=>?_,⟨fun a h=>h,S.tbo (g.ext.trans ext2) fun a z=>.inl ((mem_cons.mp z).elim (fun z=>by rw[z];exact g.ext.free hxn) (new a))⟩,fun a h=>let⟨o,ho⟩:=g.dom a h;⟨o,ext2 a o ho⟩⟩
  ·unfold RelL;refine⟨_,_,[s1.heap.objs.size+1],fx,rfl,?_,RelL.toBor hBo hOw (rr.ext ext2 fun _ h=>h),rfl⟩;unfold Rel;exact⟨_,s1.heap.objs.size,[],[],rfl,by simpa using hx2,⟨rfl,hcn⟩,by unfold RelL;exact⟨rfl,rfl⟩,rfl,True.intro⟩
  ·rcases mem_cons.mp ha with rfl|ha
   ·exact nF
   ·exact nf a ha
 have newx:∀a ∈(s1.heap.objs.size+1)::fx,H a=none:=fun a ha=>by
  rcases mem_cons.mp ha with rfl|ha
  ·exact g.ext.free hxn
  ·exact new a ha
 refine wpAny_call (ww (f:=f) I1.kIn M.makes M.init (beq_iff_eq.mp M.fn) (codeAny_mono (G.run _ X.stack _ _ ⟨Value.ref (s1.heap.objs.size+1)::us,[]⟩ (Value.ref (s1.heap.objs.size+1)::(us ++ ds)) _ (fun v H3=>v=.non/\Q (.ref (s1.heap.objs.size+1)) H3) (fun cls _ H'=>∃ c,cls=.ref (T.xcl c)/\W c Y H') (hr.make (T.cls c) us [])
  (I2.env0.make (T.cls c) us []) (hb _ (Value.ref (s1.heap.objs.size+1)::us) I2.kIn hl) r2 ⟨by rw[r2.length];exact hl,_,_,F1,_,_,rfl,R,⟨.own,c,[],[],rfl⟩,?_⟩) fun rs s' hq'=>?_))
 ·unfold aU at q;have e0:mapL Fl.toBor (PV.obj .own c [] []::(xs++dps))=.obj .own c [] []::mapL Fl.toBor (xs++dps):=by simp[mapL,PV.mapF,Fl.toBor]
  rw[e0]at q;cases e:m (.obj .own c [] []::mapL Fl.toBor (xs++dps))with
  |ok v=>
   rw[e]at q;dsimp only at q;intro F3 H3 f3 hp3 r3 nd3 nf3 new3;refine⟨rfl,?_⟩;by_cases hbr:v.has Fl.isBor=true
   ·rw[if_pos hbr]at q;exact q.elim
   ·rw[if_neg hbr]at q;have hbr':v.has Fl.isBor=false:=by simpa using hbr
    refine q _ H3 F3 f3 ⟨fun a o h=>hp3.keep a o (ext2 a o (g.ext a o h)) fun z=>(by rw[newx a z]at h;cases h),fun a h=>hp3.f0 a (g.mono a h),fun a h=>?_,hp3.ft⟩ ?_ nf3 nd3 fun a ha=>?_
    ·rcases hp3.fn a h with z|z|z
     ·exact g.only a z
     ·exact .inr (g.ext.free (free2 a z))
     ·exact .inr (newx a z)
    ·exact Rel.tr (fun _ h=>h) (fun _ h=>h) (fun _ h=>h.elim) (fun _ _ h _=>h) (fun _ _ _ h=>h) (Rel.noB (B':=Z.B) hbr' r3)
    ·rcases new3 a ha with z|z
     ·exact g.ext.free (free2 a z)
     ·exact newx a z
  |exc c'=>rw[e]at q;exact fun H' h=>⟨c',rfl,q H' fun a o z=>h a o (ext2 a o (g.ext a o z)) fun z'=>by rw[newx a z']at z;cases z⟩
  |stuck=>rw[e]at q;exact q.elim
 ·cases rs with
  |error e=>obtain⟨cls,H',fl,c',rfl,hw⟩:=hq';exact hx js Y H2 _ c' H' e s' I2 fl hw
  |ok fl=>
   cases fl with
   |ret u=>obtain⟨v,H',I3,rv',ev,q3⟩:=I2.after hq';subst ev;exact⟨rv',⟨V.ref (s1.heap.objs.size+1),H',I3,rfl,q3⟩⟩
   |next|brk|cont=>exact False.elim hq'
def yQ
  (M:Mk X.K (T.cls c) f) (hcn:c<T.nc) (G:cU X.prog X.w X.K X.mg X.base (CXP X.prog X.w) k f fd ps (spI T ps.length m)) (hr:dw (k+1) X.A) (hg:Gl X x) (hm:X.mg x=some (.ref (T.cls c))) (hb:fq X.K fd ps ds) (hd:aP dvs ds) (hdp:∀F B L H,RelL T F B L H dps dvs []) (hx:XF X T W)
  (hn:gA ms n) (hps:n+dvs.length+1=ps.length) (ha:SA X T W (e::es) ms)
  (hdb:(x ==("__debug__":Str))=false:=by decide) (he:starEach (e::es) X.env=(false,eval e X.env)::starEach es X.env:=by rfl) (hpl:(backTo pos (starEach es X.env)).any (·.1)=false:=by rfl) :
  SE X T W (.Call (.Name x p) (e::es) [] pos) (au (fun xs=>aU m (.obj .own c [] []::(xs++dps))) ms):=by
 intro js s Y H Q I h;obtain⟨Z,F,env,fp,S,q⟩:=h;unfold au at q;refine wpAny_Call_Name_kw (jr I hg hm ?_ hdb);refine callWith_K (h₀:=X.base) I.ok.mod.kin M.kp (thn (ha pos js s Y H (fun vs H1=>∀ us s1,L2.Inv X js Y H1 s1->aP vs us->wpAny (model X.prog X.w) X.A (call (.ref (T.cls c)) us) (EP X js Y Q) X.xe s1) I
  (tA.bind S (fun c e=>by rw[e]at q;exact q) (fun e=>by rw[e]at q;exact q) fun xs vs H1 F1 f1 e1 g1 r1 n1 d1 w1 us s1 I1 rv=>?_)) fun us s1 ⟨vs,H1,I1,r,q1⟩=>⟨I1.kIn,q1 us s1 I1 r⟩) he hpl
 rw[e1]at q;exact Bg M hcn G hr hb hd hdp hx S g1 r1 n1 d1 w1 q I1 rv (by rw[<- r1.length,hn env xs e1];exact hps)
def aA.mut(S:aA T Z F H Y env fp)(hi:i<env.length)(hv:Y[i]?=some (some v))(ha:a∈fp i)(r:Rel T F Z.B NoL (upd H a o') pv' v f')(nd:f'.Nodup)(nf:∀b∈f',¬F b)
  (new:∀b∈f',Z.H0 b=none\/Z.fp0 b) (dj:∀b∈f',∀j,j≠i->b∉fp j) (ho:i=0->cR env=true->∃fl c ks xs,pv'=.obj fl c ks xs):aA T Z F (upd H a o') Y (env.set i (some pv')) (b_ fp i f'):=by
 obtain⟨oa,hoa,hch⟩:=S.ch i a ha;have nFa:¬F a:=(S.dis i a ha).1;have nBa:¬Z.B a:=fun z=>S.bow a z ⟨i,ha⟩;have ne:∀b u,H b=some u->(F b\/Z.B b\/NoL b\/fP u)->b≠a:=fun b u e h z=>by
  subst z;rcases h with h|h|h|h
  ·exact nFa h
  ·exact nBa h
  ·exact h
  ·rw[hoa]at e;cases e;cases oa with
   |lst _|ins _ _ _=>exact h
   |_=>exact hch
 have nz:∀b u,Z.H0 b=some u->¬Z.fp0 b->b≠a:=(by grind[b_,aA,bY,Gr])
 have nj:∀j,j≠i->∀b∈fp j,b≠a:=fun j hj b hb z=>by subst z;exact S.dj j i hj _ hb ha
 refine⟨⟨S.hp.bo,fun b u e n=>by rw[aF (nz b u e n)];exact S.hp.keep b u e n,S.hp.f0,S.hp.fn,fun b h=>?_⟩,by rw[length_set,S.len],fun j pv e=>?_,fun j=>?_,fun j k hjk b hb=>?_,fun j b hb=>?_,fun j b hb=>?_,fun j b hb=>?_,fun w hw=>?_⟩
 ·obtain⟨u,e⟩:=S.hp.ft b h;exact⟨u,by rw[aF (show b≠a from fun z=>nFa (by rw[<- z];exact h))];exact e⟩
 ·by_cases hj:j=i
  ·subst hj;rw[getElem?_set_self hi]at e;cases e;refine⟨v,hv,?_⟩;unfold b_;rw[if_pos rfl];exact r
  ·rw[getElem?_set_ne (Ne.symm hj)]at e;obtain⟨w,h1,h2⟩:=S.rel j pv e;refine⟨w,h1,?_⟩;unfold b_;rw[if_neg hj];exact Rel.tr (fun _ h=>h) (fun _ h=>h) (fun _ h=>h) (fun b u q h=>by rw[aF (ne b u q h)];exact q) (fun b hb u q=>by rw[aF (nj j hj b hb)];exact q) h2
 ·unfold b_;split
  ·exact nd
  ·exact S.nd j
 ·grind[b_,aA,bY,Gr]
 ·unfold b_ at hb;by_cases h1:j=i
  ·rw[if_pos h1]at hb;exact⟨nf b hb,r.there b hb⟩
  ·rw[if_neg h1]at hb;obtain⟨n,u,e⟩:=S.dis j b hb;exact⟨n,u,by rw[aF (nj j h1 b hb)];exact e⟩
 ·unfold b_ at hb;by_cases h1:j=i
  ·rw[if_pos h1]at hb;exact new b hb
  ·rw[if_neg h1]at hb;exact S.new j b hb
 ·unfold b_ at hb;by_cases h1:j=i
  ·rw[if_pos h1]at hb;exact r.chg b hb
  ·rw[if_neg h1]at hb;obtain⟨u,e,c⟩:=S.ch j b hb;exact⟨u,by rw[aF (nj j h1 b hb)];exact e,c⟩
 ·obtain⟨h1,h2⟩:=S.pn w hw;refine⟨h1,?_⟩;by_cases hi0:i=0
  ·obtain⟨fl,c,ks,xs,e⟩:=ho hi0 h2;subst hi0 e;unfold cR;rw[getElem?_set_self hi]
  ·unfold cR at h2 ⊢;rw[getElem?_set_ne hi0];exact h2
def fN(i k:Nat)(e:ME):MS:=fun env=>match e env with
 | .ok v=>(match env[i]? with
  |some (some (.obj .own c ks vs))=>if v.noLnt&&!ks.contains k&&decide (ks.length<900)then .next (env.set i (some (.obj .own c (ks++[k]) (vs++[v]))))else .stuck
  |_=>.stuck)
 |.exc c=>.exc c env
 |.stuck=>.stuck
def oT:∀{ks:List Nat}{ws:List V},ks.contains k=false->ks.length=ws.length->f9 (T.att k) y ((ks.map T.att).zip ws)=((ks++[k]).map T.att).zip (ws++[y])
 | [],[],_,_=>rfl
 |j::ks,w::ws,h,hl=>by simp only[List.contains_cons,or_eq_false_iff,beq_eq_false_iff_ne]at h;show f9 (T.att k) y ((T.att j,w)::(ks.map T.att).zip ws)=(T.att j,w)::((ks++[k]).map T.att).zip (ws++[y]);unfold f9;rw[if_neg (fun z=>h.1 (T.inj _ _ z).symm),oT h.2 (by simpa using hl)]
 | [],_::_,_,hl|_::_,[],_,hl=>by simp at hl
def A4(hK:X.K=T.K)(hf:T.att k=f)(hc:∀c<T.nc,Cls T.K (T.cls c))(hn:∀c<T.nc,eO T.K (T.cls c) f)(hN:X.N[i]?=some x)(hv:Vis X.env.scope x)(he:SE X T W e m)
  (hs:swapsWith e (some (.Attribute (.Name x px) f pos')) pos.line X.env=pure false:=by rfl) (hd:(x ==("__debug__":Str))=false:=by decide) (hcd:(x ==("__classdict__":Str))=false:=by decide) :
  SS X T W (.Assign [.Attribute (.Name x px) f pos'] e pos) (fN i k m):=PS.wk (BB (pos:=pos) (pos':=pos') (dG (pos:=px) hN hv hd hcd) he hs) fun D Y H hz1=>by
 obtain⟨Z,F,env,fp,S,q⟩:=hz1;unfold fN at q;refine tE.bind S (fun c e H' x=>?_) (fun e=>by rw[e]at q;exact q) fun pv v H1 F1 f1 e g r h1 h2 h3=>?_
 ·rw[e]at q;exact q F H' Y fp (S.grow (Gr.same S.hp.ft x))
 ·rw[e]at q;dsimp only at q;split at q
  ·rename_i c ks vs eo
   split at q
   ·rename_i hcnd
    simp only[and_eq_true,not_eq_true',decide_eq_true_eq]at hcnd;obtain⟨⟨hln,hkn⟩,hkl⟩:=hcnd;have S1:=S.grow g;obtain⟨vo,ho1,ho2⟩:=S1.rel i _ eo;have ho3:=ho2;unfold Rel at ho3;obtain⟨a,dx,ws,fp',rfl,hl,hk,hr,hfl,_⟩:=ho3;have hfl':fp i=a::fp':=hfl;have hil:i<env.length:=(List.getElem?_eq_some_iff.mp eo).1;refine⟨_,ho1,a,_,dx,_,rfl,hl,by rw[hK];exact hc c hk.2,by rw[hK];exact hn c hk.2,?_,?_⟩
    ·have:=hr.length;rw[List.length_zip,length_map];omega
    ·rw[<- hf,oT hkn (by rw[<- hr.length];exact hk.1)];have ha:a∈fp i:=by rw[hfl'];exact mem_cons_self
     have nd:(a::fp').Nodup:=by rw[<- hfl'];exact S1.nd i
     have old:∀b∈f1,∀j,b∉fp j:=fun b hb j hj=>by obtain⟨_,o,e⟩:=S.dis j b hj;rw[h3 b hb]at e;cases e
     have hrv:Rel T F1 Z.B NoL H1 pv v f1:=Rel.noL (by simpa[PV.noLnt]using hln) r;have nea:∀b u,H1 b=some u->(F1 b\/Z.B b\/NoL b\/fP u)->b≠a:=fun b u e h z=>by
      subst z;rcases h with h|h|h|h
      ·exact(S1.dis i _ ha).1 h
      ·exact S1.bow _ h ⟨i,ha⟩
      ·exact h
      ·rw[hl]at e;cases e;exact h
     refine q F1 _ Y _ (S1.mut (f':=a::(fp'++f1)) hil ho1 ha ?_ ?_ (fun b hb=>?_) (fun b hb=>?_) (fun b hb j hj=>?_) fun _ _=>⟨_,_,_,_,rfl⟩)
     ·unfold Rel;have hrr:RelL T F1 Z.B NoL H1 (vs++[pv]) (ws++[v]) (fp'++f1):=RelL.append hr (by unfold RelL;exact⟨v,[],f1,[],rfl,hrv,by unfold RelL;exact⟨rfl,rfl⟩,by simp⟩);refine⟨a,dx,ws++[v],fp'++f1,rfl,aN,⟨by simp[hk.1],hk.2⟩,?_,rfl,True.intro⟩;refine RelL.tr (fun _ h=>h) (fun _ h=>h) (fun _ h=>h) (fun b u e h=>by rw[aF (nea b u e h)];exact e) (fun b hb u e=>?_) hrr;refine(aF fun z=>?_).trans e
      grind
     ·grind
     ·grind[b_,aA,bY,Gr]
     ·rcases mem_cons.mp hb with rfl|hb
      ·exact S1.new i _ ha
      ·rcases mem_append.mp hb with hb|hb
       ·exact S1.new i b (by rw[hfl'];exact mem_cons_of_mem _ hb)
       ·exact S.hp.newE h3 b hb
     grind[b_,aA,bY,Gr]
   ·exact q.elim
  ·exact q.elim
def aA.mutL{i:Nat}{xs ys:List PV}{ws us:List V}{a:Addr}{v:V}{f' fp':List Addr}(S:aA T Z F H Y env fp)(eo:env[i]?=some (some (.lst .own xs)))(hv:Y[i]?=some (some (.ref a)))(hfp:fp i=a::fp')(r:RelL T F Z.B NoL H ys us f')(nd:f'.Nodup)
  (hf:∀b∈f',(b∈fp')\/(¬F b/\(Z.H0 b=none\/Z.fp0 b)/\∀j,b∉fp j)) (hl:H a=some (.lst ws)):aA T Z F (upd H a (.lst us)) Y (env.set i (some (.lst .own ys))) (b_ fp i (a::f')):=by
 have ha:a∈fp i:=by rw[hfp];exact mem_cons_self
 have ndi:(a::fp').Nodup:=by rw[<- hfp];exact S.nd i
 have sub:∀b∈fp',b∈fp i:=fun b hb=>by rw[hfp];exact mem_cons_of_mem _ hb
 have na:∀b∈f',b≠a:=(by grind)
 have hil:i<env.length:=(List.getElem?_eq_some_iff.mp eo).1;have nea:∀b u,H b=some u->(F b\/Z.B b\/NoL b\/fP u)->b≠a:=fun b u e h z=>by
  subst z;rcases h with h|h|h|h
  ·exact(S.dis i _ ha).1 h
  ·exact S.bow _ h ⟨i,ha⟩
  ·exact h
  ·rw[hl]at e;cases e;exact h
 refine S.mut hil hv ha ?_ (nodup_cons.mpr ⟨fun z=>na a z rfl,nd⟩) (fun b hb=>?_) (fun b hb=>?_) (fun b hb j hj=>?_) fun h0 h1=>?_
 ·unfold Rel;exact⟨a,us,f',rfl,aN,RelL.tr (fun _ h=>h) (fun _ h=>h) (fun _ h=>h) (fun b u e h=>by rw[aF (nea b u e h)];exact e) (fun b hb u e=>by rw[aF (na b hb)];exact e) r,rfl⟩
 ·rcases mem_cons.mp hb with rfl|hb
  ·exact(S.dis i _ ha).1
  ·rcases hf b hb with h|h
   ·exact(S.dis i b (sub b h)).1
   ·exact h.1
 ·grind[b_,aA,bY,Gr]
 ·grind[b_,aA,bY,Gr]
 ·subst h0;unfold cR at h1;rw[eo]at h1;cases h1
def aA.lst{i:Nat}{xs:List PV}(S:aA T Z F H Y env fp)(eo:env[i]?=some (some (.lst .own xs))):∃a ws fp',Y[i]?=some (some (.ref a))/\H a=some (.lst ws)/\RelL T F Z.B NoL H xs ws fp'/\fp i=a::fp':=by obtain⟨v,h1,h2⟩:=S.rel i _ eo;unfold Rel at h2;obtain⟨a,ws,fp',rfl,hl,hr,hf⟩:=h2;exact⟨a,ws,fp',h1,hl,hr,hf⟩
def aA.beside{f1:List Addr}(S:aA T Z F H Y env fp)(g:Gr F H F1 H1)(h1:∀ a ∈ f1,¬ F1 a)(h3:∀ a ∈ f1,H a=none):∀ b ∈ f1,¬ F1 b/\(Z.H0 b=none \/ Z.fp0 b)/\∀ j,b ∉ fp j:=fun b hb=>⟨h1 b hb,S.hp.newE h3 b hb,fun j hj=>by
 obtain⟨_,o,e⟩:=S.dis j b hj;rw[h3 b hb]at e;cases e⟩
def ee(i:Nat)(e:ME):MS:=fun env=>match e env with
 | .ok v=>(match env[i]? with
  |some (some (.lst .own xs))=>if v.noLnt&&decide (xs.length<10000000)then .next (env.set i (some (.lst .own (xs++[v]))))else .stuck
  |_=>.stuck)
 | .exc c=>(match env[i]? with
  |some (some (.lst .own _))=>.exc c env
  |_=>.stuck)
 |.stuck=>.stuck
def sZ{i:Nat}{x:Str}{e:Expr}{m:ME}{pos px apos cpos:Pos}(hK:X.K=T.K)(hN:X.N[i]?=some x)(hv:Vis X.env.scope x)(he:SE X T W e m)
  (hs:swapsWith (.Call (.Attribute (.Name x px) "append" apos) [e] [] cpos) none pos.line X.env=pure false:=by rfl) (hst:starEach [e] X.env=[(false,eval e X.env)]:=by rfl)
  (hfew:((backTo cpos (starEach [e] X.env)).all (fun x=>!x.1)&&(backToKw cpos (keywordEach [] X.env)).all (fun x=>x.1.isSome)&&decide ([e].length+([]:List Keyword).length+(if([]:List Keyword).isEmpty then 0 else 1)<30))=true:=by rfl)
  (hline:(apos.endLine==cpos.line)=true:=by rfl) (hd:(x ==("__debug__":Str))=false:=by decide) (hcd:(x ==("__classdict__":Str))=false:=by decide) :
  SS X T W (.Expr (.Call (.Attribute (.Name x px) "append" apos) [e] [] cpos) pos) (ee i m):=
 PS.wk (km (pos:=pos) (rT (cpos:=cpos) (apos:=apos) PySem.F.plainAttrs_list PySem.F.slot_list_append PySem.F.type_list_append jO (dG (pos:=px) hN hv hd hcd) (ac he ag hst) rfl hfew hline hst) hs) fun D Y H hz1=>by
  obtain⟨Z,F,env,fp,S,q⟩:=hz1;unfold ee at q;cases em:m env with
  |stuck=>rw[em]at q;exact q.elim
  |exc c=>
   rw[em]at q;dsimp only at q;split at q
   ·rename_i xs eo
    obtain⟨a,ws,fp',h1,hl,hr,hf⟩:=S.lst eo;refine⟨_,h1,.inl ⟨rfl,ws,by rw[hK];exact SqL.of hl⟩,Z,F,env,fp,S,?_⟩;unfold ae;rw[em];exact fun H' x=>q F H' Y fp (S.grow (Gr.same S.hp.ft x))
   ·exact q.elim
  |ok v=>
   rw[em]at q;dsimp only at q;split at q
   ·rename_i xs eo
    split at q
    ·rename_i hc
     simp only[and_eq_true,decide_eq_true_eq]at hc;obtain⟨a,ws,fp',h1,hl,hr,hf⟩:=S.lst eo;refine⟨_,h1,.inl ⟨rfl,ws,by rw[hK];exact SqL.of hl⟩,Z,F,env,fp,S,?_⟩;unfold ae am;rw[em];intro vs H1 F1 f1 g r n1 d1 w1;obtain⟨u,rfl,ru⟩:=r.one;have S1:=S.grow g;have hl1:=g.ext a _ hl;refine⟨a,ws,u,rfl,rfl,hl1,?_,?_⟩
     ·rw[<- hr.length,sizeLine_eq];omega
     ·have rone:RelL T F1 Z.B NoL H1 [v] [u] f1:=by unfold RelL;exact⟨u,[],f1,[],rfl,Rel.noL (by simpa[PV.noLnt]using hc.1) ru,by unfold RelL;exact⟨rfl,rfl⟩,by simp⟩
      refine q F1 _ Y _ (S1.mutL (v:=u) eo h1 hf (RelL.append (hr.ext g.ext g.mono) rone) ?_ (fun b hb=>?_) hl1)
      ·have ndi:(a::fp').Nodup:=by rw[<- hf];exact S.nd i
       refine nodup_append.mpr ⟨(nodup_cons.mp ndi).2,d1,fun b hb b' hb' z=>?_⟩;subst z;exact(S.beside g n1 w1 b hb').2.2 i (by rw[hf];exact mem_cons_of_mem _ hb)
      ·rcases mem_append.mp hb with hb|hb
       ·exact .inl hb
       ·exact .inr (S.beside g n1 w1 b hb)
    ·exact q.elim
   ·exact q.elim
def eJ(i:Nat)(k e:ME):MS:=fun env=>match e env with
 | .ok v=>(match env[i]? with
  | some (some (.lst .own xs))=>(match k env with
   | .ok (.int j)=>(match ixN xs.length j with
    |some n=>if v.noLnt then .next (env.set i (some (.lst .own (xs.set n v))))else .stuck
    |none=>.stuck)
   |_=>.stuck)
  |_=>.stuck)
 |.exc c=>.exc c env
 |.stuck=>.stuck
def RelL.set{y:PV}{w:V}{g:List Addr}(ry:Rel T F B L H y w g):∀{xs:List PV}{vs:List V}{f:List Addr} (n:Nat),RelL T F B L H xs vs f->(f++g).Nodup->∃f',RelL T F B L H (xs.set n y) (vs.set n w) f'/\f'.Nodup/\∀b∈f',b∈f\/b∈g
 | [],vs,f,n,h,nd=>by unfold RelL at h;obtain⟨rfl,rfl⟩:=h;exact⟨[],by simp[RelL],nodup_nil,fun _ z=>(nomatch z)⟩
 |x::xs,_,_,0,h,nd=>by
  unfold RelL at h;obtain⟨v,ws,f1,f2,rfl,h1,h2,rfl⟩:=h;obtain⟨n1,n2,n3⟩:=nodup_append.mp nd;obtain⟨m1,m2,m3⟩:=nodup_append.mp n1;refine⟨g++f2,?_,(by grind),fun b hb=>?_⟩
  ·rw[List.set_cons_zero,List.set_cons_zero];unfold RelL;exact⟨w,ws,g,f2,rfl,ry,h2,rfl⟩
  grind
 |x::xs,_,_,n+1,h,nd=>by
  unfold RelL at h;obtain⟨v,ws,f1,f2,rfl,h1,h2,rfl⟩:=h;obtain⟨n1,n2,n3⟩:=nodup_append.mp nd;obtain⟨m1,m2,m3⟩:=nodup_append.mp n1;obtain⟨f',r,d,s⟩:=RelL.set ry n h2 (nodup_append.mpr ⟨m2,n2,fun a ha b hb=>n3 a (mem_append_right _ ha) b hb⟩);refine⟨f1++f',?_,nodup_append.mpr ⟨m1,d,fun a ha b hb z=>?_⟩,fun b hb=>?_⟩
  ·rw[List.set_cons_succ,List.set_cons_succ];unfold RelL;exact⟨v,_,f1,f',rfl,h1,r,rfl⟩
  ·grind
  grind
def eU{i:Nat}{x:Str}{k e:Expr}{mk me:ME}{pos px tpos:Pos}(hN:X.N[i]?=some x)(hv:Vis X.env.scope x)(hk:SE X T W k mk)(he:SE X T W e me)
  (ha:∀ v,assign (.Subscript (.Name x px) k tpos) X.env v=(do
   let ov <- holding [v] (eval (.Name x px) X.env)
   let iv <- holding [v,ov] (eval k X.env)
   standAt tpos
   holding [v,ov,iv] (setItem ov iv v)
   release [v,ov,iv] []):=by intro _;rfl)
  (hs:swapsWithSole [.Subscript (.Name x px) k tpos] e pos.line X.env=pure false:=by rfl) (hw:swappedStores [.Subscript (.Name x px) k tpos] e X.env=pure none:=by rfl)
  (h1:(assignEach [.Subscript (.Name x px) k tpos] X.env).map (·.2)=[assign (.Subscript (.Name x px) k tpos) X.env]:=by rfl) (hd:(x ==("__debug__":Str))=false:=by decide) (hcd:(x ==("__classdict__":Str))=false:=by decide) :
  SS X T W (.Assign [.Subscript (.Name x px) k tpos] e pos) (eJ i mk me):=
 PS.wk (BC (pos:=pos) he (BG (pos:=tpos) (dG (pos:=px) hN hv hd hcd) hk ve ha) hs hw h1) fun D Y H hz1=>by
  obtain⟨Z,F,env,fp,S,q⟩:=hz1;unfold eJ at q;refine tE.bind S (fun c e H' x=>?_) (fun e=>by rw[e]at q;exact q) fun pv v H1 F1 f1 e g r n1 d1 w1=>?_
  ·rw[e]at q;exact q F H' Y fp (S.grow (Gr.same S.hp.ft x))
  ·rw[e]at q;dsimp only at q;split at q
   ·rename_i xs eo
    have S1:=S.grow g;obtain⟨a,ws,fp',h1,hl,hr,hf⟩:=S1.lst eo;cases ek:mk env with
    |stuck|exc c=>rw[ek]at q;exact q.elim
    |ok kv=>
     rw[ek]at q;refine⟨_,h1,Z,F1,env,fp,S1,?_⟩;rw[ek];intro u H2 F2 f2 g2 r2 _ _ _;cases kv with
     |int j=>
      dsimp only at q;unfold Rel at r2;obtain⟨rfl,_⟩:=r2;cases en:ixN xs.length j with
      |none=>rw[en]at q;exact q.elim
      |some n=>
       rw[en]at q;dsimp only at q;split at q
       ·rename_i hln
        have S2:=S1.grow g2;have hr2:=hr.ext g2.ext g2.mono;have ndi:(a::fp').Nodup:=by rw[<- hf];exact S.nd i
        have g12:=g.trans g2;have nn:∀b∈f1,¬F2 b:=fun b hb z=>by
         rcases g2.only b z with z|z
         ·exact n1 b hb z
         ·obtain⟨o,ho⟩:=r.there b hb;rw[ho]at z;cases z
        obtain ⟨f',r',nd',sub'⟩:=RelL.set (T:=T) (Rel.noL (L':=NoL) (by simpa [PV.noLnt] using hln) (r.ext g2.ext g2.mono)) n hr2 (nodup_append.mpr ⟨(nodup_cons.mp ndi).2,d1,fun b hb b' hb' z=>by
         subst z;exact(S.beside g12 nn w1 b hb').2.2 i (by rw[hf];exact mem_cons_of_mem _ hb)⟩)
        refine⟨a,ws,j,n,rfl,rfl,g2.ext a _ hl,by rw[<- hr.length];exact en,?_⟩;refine q F2 _ Y _ (S2.mutL (v:=v) eo h1 hf r' nd' (fun b hb=>?_) (g2.ext a _ hl));rcases sub' b hb with h|h
        ·exact .inl h
        ·exact .inr (S.beside g12 nn w1 b h)
       ·exact q.elim
     |_=>exact q.elim
   ·exact q.elim
end
def zy(i:Nat):Str:=⟨#[1114112+i]⟩
def jA(l:List Str)(i:Nat):Str:=match l[i]? with
 |some x=>x
 |none=>zy i
def jJ(x:Str):Bool:=x.cps.all fun c=>decide (c<1114112)
def fC(i:Nat):jJ (zy i)=false:=by simp[jJ,zy]
def uQ(nd:l.Nodup)(h:l.all jJ=true)(i j:Nat)(e:jA l i=jA l j):i=j:=by
 have pl:∀(i:Nat) x,l[i]?=some x->jJ x=true:=fun i x hx=>all_eq_true.mp h x (List.mem_of_getElem? hx);unfold jA at e;cases ei:l[i]? with
 |some x=>
  cases ej:l[j]? with
  |some y=>rw[ei,ej]at e;dsimp only at e;subst e;obtain⟨h1,e1⟩:=List.getElem?_eq_some_iff.mp ei;obtain⟨h2,e2⟩:=List.getElem?_eq_some_iff.mp ej;exact(getElem_inj nd).mp (e1.trans e2.symm)
  |none=>rw[ei,ej]at e;dsimp only at e;have:=pl i x ei;rw[e,fC]at this;cases this
 |none=>
  cases ej:l[j]? with
  |some y=>rw[ei,ej]at e;dsimp only at e;have:=pl j y ej;rw[<- e,fC]at this;cases this
  |none=>rw[ei,ej]at e;dsimp only at e;simpa[zy]using e
def ye(hp:jJ m=true)(hm:m∉l)(k:Nat):jA l k≠m:=by
 unfold jA;cases e:l[k]? with
 |some x=>exact fun z=>hm (z▸List.mem_of_getElem? e)
 |none=>intro z;dsimp only at z;rw[<- z,fC]at hp;cases hp
structure Ctx(X:Cx)(T:Tb)(W:Nat->St->Hp->Prop)(k:Nat):Prop where
 hK:X.K=T.K
 calm:X.calm=true
 room:dw k X.A
 xf:XF X T W
 po:PassesOwn (model X.prog X.w) X.A X.env X.xe
def Ctx.hu(c:Ctx X T W k):X.A.units+64<cLine:=c.room.units
def Ctx.hu2(c:Ctx X T W k):X.A.units+66<cLine:=by have:=c.room.un;omega
def n5
  (hr:dw k (A.deeper (PyProof.Rows.envOfC qual scope s.heap.objs.size f cd))):Ctx (c_ (CXP P w) P w T.K mg base N qual scope f cd A outer s H E) T (WD T E) k:=⟨rfl,rfl,hr,AV,PassesOwn.leaving⟩
def Ctx.comp(c:Ctx X T W k):Ctx (cxC X scope C N s H ex) T WF k:=⟨c.hK,c.calm,c.room,fun _ _ _ _ _ _ _ _ _ _ h=>h.elim,PassesOwn.never⟩
def lB(scD scope:Scope)(NX:List Str)(caps:List Nat)(N tn:List Str):Bool:=
 decide (scope.kind=.function)&&scope.names.all (fun y=>decide (y.2=.cell->scope.names.lookup y.1=some .cell))&&scope.names.all (fun y=>decide (y.2=.local->scope.names.lookup y.1=some .local)) &&
 scope.names.all (fun y=>decide (y.2=.free->scD.names.lookup y.1=some .cell\/scD.names.lookup y.1=some .free))&&decide (N=caps.map (fun i=>NX.getD i "")++ tn)&&caps.all (fun i=>decide (i<NX.length)) &&
 caps.all (fun i=>match NX[i]? with|some x=>decide ((x,NameKind.free)∈ scope.names/\scope.names.lookup x=some .free)|none=>false)&&decide N.Nodup
def Al(h:lB scD scope NX caps N tn=true)(hs:X.env.scope=scD)(hN:X.N=NX):d9 X scope caps N tn:=by simp only[lB,and_eq_true,decide_eq_true_eq,all_eq_true]at h;obtain⟨⟨⟨⟨⟨⟨⟨h1,h2⟩,h3⟩,h4⟩,h5⟩,h6⟩,h7⟩,h9⟩:=h;subst hs hN;refine⟨h1,h2,h3,h4,h5,h6,fun i hi x hx=>?_,h9⟩;have:=h7 i hi;rw[hx]at this;simpa using this
section
variable{X:Cx}{T:Tb}{W:Nat->St->Hp->Prop}
def sv(i:Nat)(hN:X.N[i]?=some x:=by rfl)(hv:Vis X.env.scope x:=by first|exact Or.inl rfl|exact Or.inr (Or.inl rfl)|exact Or.inr (Or.inr rfl))(hd:(x ==("__debug__":Str))=false:=by decide)
  (hcd:(x ==("__classdict__":Str))=false:=by decide):SE X T W (.Name x pos) (aa i):=A6 hN hv hd hcd
def tyP:PV->String
 |.non=>"NoneType"
 |.bl _=>"bool"
 |.int _=>"int"
 |.str _=>"str"
 |.lst _ _=>"list"
 |.tup _=>"tuple"
 |_=>""
def lR(t c:String):Bool:=t==c ||(t=="bool"&&c=="int")
def o4(c:String):PV->Res PV:=fun x=>if tyP x="" then .stuck else .ok (.bl (lR (tyP x) c))
def yx(m:ME)(c:String):ME:=fun env=>(m env).bind (o4 c)
def DN(K:PySem.W.Frag)(c:String):Prop:=∀t∈["NoneType","bool","int","str","list","tuple"],kitOne K (.type t) (.type c)=some (lR t c)
def zP(hK:X.K=T.K)(hc:DN T.K c)(I:L2.Inv X js Y H s)(r:Rel T F B L H x v f)(ru:bv v u)(hx:tyP x≠"")
  (h:∀tk,Q (.bool (lR (tyP x) c)) {s with toks:=tk}):wpAny (model X.prog X.w) A (call (.builtin "isinstance") [u,.type c]) Q E s:=by
 have kin:T.K.In s.heap:=by rw[<- hK];exact I.kIn
 cases x with
 |non=>unfold Rel at r;obtain⟨rfl,_⟩:=r;cases ru;exact kia_one PySem.W.kitx_none kin True.intro (hc _ (by simp)) (fun z=>nomatch z) h
 |bl b=>unfold Rel at r;obtain⟨rfl,_⟩:=r;cases ru;exact kia_one PySem.W.kitx_bool kin True.intro (hc _ (by simp)) (fun z=>nomatch z) h
 |int i=>unfold Rel at r;obtain⟨rfl,_⟩:=r;obtain⟨t,rfl⟩:=ru;exact kia_one PySem.W.kitx_int kin True.intro (hc _ (by simp)) (fun z=>nomatch z) h
 |str i=>unfold Rel at r;obtain⟨rfl,_⟩:=r;obtain⟨t,rfl⟩:=ru;exact kia_one PySem.W.kitx_str kin True.intro (hc _ (by simp)) (fun z=>nomatch z) h
 |lst f xs=>unfold Rel at r;obtain⟨a,vs,fp',rfl,hl,hr,_⟩:=r;cases ru;obtain⟨its,_,⟨o,n,ho,hcl,_,_⟩,_⟩:=I.list (by rw[hK];exact hl.sq);exact kia_one PySem.W.kitx_list kin ⟨_,ho,hcl⟩ (hc _ (by simp)) (fun z=>nomatch z) h
 |tup xs=>unfold Rel at r;obtain⟨a,vs,rfl,hl,hr⟩:=r;cases ru;obtain⟨its,_,⟨o,ho,hcl,_⟩,_⟩:=I.tuple (by rw[hK];exact hl);exact kia_one PySem.W.kitx_tuple kin ⟨_,ho,hcl⟩ (hc _ (by simp)) (fun z=>nomatch z) h
 |obj f c ks xs|exc c|box k xs=>exact absurd rfl hx
def Bb(hK:X.K=T.K)(hc:DN T.K c)(hg:Gl X "isinstance")(hm:X.mg "isinstance"=none)(hb:bootBuiltins "isinstance"=some (.builtin "isinstance"))(hgc:Gl X cn)(hmc:X.mg cn=none)(hvc:bootBuiltins cn=some (.type c))(he:SE X T W e m)
  (hcn:cn≠"__name__":=by decide) (hcd:(cn ==("__debug__":Str))=false:=by decide) (hst:starEach [e,.Name cn pc] X.env=[(false,eval e X.env),(false,eval (.Name cn pc) X.env)]:=by rfl)
  (hst2:starEach [.Name cn pc] X.env=[(false,eval (.Name cn pc) X.env)]:=by rfl):SE X T W (.Call (.Name "isinstance" p) [e,.Name cn pc] [] pos) (yx m c):=by
 have ht:PE X (.Name cn pc) (tC (.ty c)):=zn hgc hmc hvc rfl hcn hcd;have hcall:dY X (.builtin "isinstance") (fun vs H Q=>∃v x F B L f,vs=[v,.ty c]/\Rel T F B L H x v f/\tyP x≠"" /\ Q (.bl (lR (tyP x) c)) H):=by
  intro js s Y H vs us Q I rv h;obtain⟨v,x,F,B,L,f,rfl,r,hx,q⟩:=h;cases rv with
  |cons r1 r2=>
   cases r2 with
   |cons r3 r4=>cases r4;cases r3;exact zP hK hc I r r1 hx fun tk=>⟨.bl _,H,I.tok tk,rfl,q⟩
 have hargs:PA X [e,.Name cn pc] (rq (tE T W m) (rq (tC (.ty c)) A0)):=da he (da ht gd hst2) (by rw[hst,hst2]);refine PE.wk (kQ (pos:=pos) (p:=p) hcall hg hm hb hargs (he:=by rw[hst,hst2]) (hpl:=by rw[hst2];rfl)) fun Y H Q hz1=>?_;obtain⟨Z,F,env,fp,S,q⟩:=hz1;unfold yx at q;refine tE.bind S (fun c e=>by rw[e]at q;exact q) (fun e=>by rw[e]at q;exact q) fun x v H1 F1 f1 e1 g1 r1 n1 d1 w1=>?_;rw[e1]at q;simp only[Res.ok_bind,o4]at q;by_cases hx:tyP x=""
 ·rw[if_pos hx]at q;exact q.elim
 ·rw[if_neg hx]at q;exact⟨v,x,F1,Z.B,Own fp,f1,rfl,r1,hx,q.scal g1 lQ⟩
end
def vk(hg:Gl X x)(hm:X.mg x=some (.int i t))(hd:(x ==("__debug__":Str))=false:=by decide):SE X T W (.Name x pos) (mC (.int i)):=
 kJ (v:=.int i) (zk hg hm ⟨t,rfl⟩ hd) fun _ _ _ _=>dP
end PR
namespace PR
open PySem PySem.Spec
structure Hx(K:PySem.W.Frag)(C:Addr):Prop where
 ga:PySem.W.findIn K (.ref C) "__getattribute__"=some (some (.builtin "BaseException.__getattribute__"))
 gt:PySem.W.findIn K (.ref C) "__getattr__"=some none
 ca:PySem.W.findIn K (.ref C) "__class__"=some (some (.builtin "object.__class__"))
 sb:mroIn K C (.type "BaseException")=some true
 so:mroIn K C (.type "object")=some true
 cl:(clsIn K C).isSome=true
end PR
namespace PR
open PySem PySem.Spec L2
def eX(F B L:Addr->Prop)(H:Hp):RelL T F B L H [] [] []:=by unfold RelL;exact⟨rfl,rfl⟩
def cC(disp:Nat->Option (List PV->Res PV))(o:ME)(ms:MA):ME:=fun env=>(o env).bind fun ov=>match ov with
 |.obj _ c _ _=>match disp c with
  |some m=>(ms env).bind fun xs=>aU m (ov::xs)
  |none=>.stuck
 |_=>.stuck
def zL(disp:Nat->Option (List PV->Res PV))(o:ME)(ms:MA):se disp [] o ms=cC disp o ms:=by
 funext env;unfold se cC;congr 1;funext ov;cases ov with
 |obj f c ks vs=>simp only[append_nil,List.cons_append]<;>rfl
 |_=>rfl
def iP(c:Nat)(m:List PV->Res PV)(ms:MA):ME:=au (fun xs=>aU m (.obj .own c [] []::xs)) ms
section
variable{X:Cx}{T:Tb}{W:Nat->St->Hp->Prop}
def vm
  (G:cU X.prog X.w X.K X.mg X.base (CXP X.prog X.w) k f fd ps (spM T ps.length m)) (cx:Ctx X T W kk) (hk:k<=kk) (hg:Gl X x) (hm:X.mg x=some (.ref f)) (hkp:PySem.W.keepIn X.K (.ref f)=true) (hb:fq X.K fd ps [])
  (hn:gA ms n) (hps:n=ps.length) (ha:SA X T W (e::es) ms)
  (hdb:(x ==("__debug__":Str))=false:=by decide) (he:starEach (e::es) X.env=(false,eval e X.env)::starEach es X.env:=by rfl) (hpl:(backTo pos (starEach es X.env)).any (·.1)=false:=by rfl) :
  SE X T W (.Call (.Name x p) (e::es) [] pos) (au (aU m) ms):=by
 have h:=yT (dvs:=[]) (dps:=[]) (p:=p) (pos:=pos) G (cx.room.mono hk) hg hm hkp hb .nil eX cx.xf (fun env xs q=>by rw[hn env xs q];exact hps) ha hdb he hpl;simpa using h
def A_
  (cx:Ctx X T W kk) (hc:∀c<T.nc,Cls T.K (T.cls c)) (hm:∀k,T.att k≠mn) (D:gB X T k mn ps [] disp) (hk:k<=kk)
  (hn:gA ms n) (hps:n+1=ps.length) (ho:SE X T W o mo) (ha:SA X T W (e::es) ms)
  (hst:starEach (e::es) X.env=(false,eval e X.env)::starEach es X.env:=by rfl) (hpl:(backTo pos (starEach es X.env)).any (·.1)=false:=by rfl)
  (ht:eval (.Call (.Attribute o mn apos) (e::es) [] pos) X.env=(do
   let ov <- eval o X.env
   standAt apos.atName
   let(f,first) <- holding [ov] (getMethod ov mn pl)
   callWith pos f first (backTo pos (starEach (e::es) X.env)) (backToKw pos (keywordEach [] X.env))):=by rfl) :
  SE X T W (.Call (.Attribute o mn apos) (e::es) [] pos) (cC disp mo ms):=by
 rw[<- zL];exact yP (pl:=pl) (dvs:=[]) (dps:=[]) cx.hK hc hm D (cx.room.mono hk) .nil eX cx.xf (fun env xs q=>by rw[hn env xs q];exact hps) ho ha hst hpl ht
def A9
  (M:Mk X.K (T.cls c) f) (hcn:c<T.nc) (G:cU X.prog X.w X.K X.mg X.base (CXP X.prog X.w) k f fd ps (spI T ps.length m)) (cx:Ctx X T W kk) (hk:k+1<=kk) (hg:Gl X x) (hm:X.mg x=some (.ref (T.cls c))) (hb:fq X.K fd ps [])
  (hn:gA ms n) (hps:n+1=ps.length) (ha:SA X T W (e::es) ms)
  (hdb:(x ==("__debug__":Str))=false:=by decide) (he:starEach (e::es) X.env=(false,eval e X.env)::starEach es X.env:=by rfl) (hpl:(backTo pos (starEach es X.env)).any (·.1)=false:=by rfl) :
  SE X T W (.Call (.Name x p) (e::es) [] pos) (iP c m ms):=by
 have h:=yQ (dvs:=[]) (dps:=[]) (p:=p) (pos:=pos) M hcn G (cx.room.mono hk) hg hm hb .nil eX cx.xf hn hps ha hdb he hpl;unfold iP;simpa using h
end
def zZ(X:K.In h)(q:excIn K C [.type "ValueError",.type "Exception",.type "BaseException",.type "object"] "ValueError.__new__"=true) :
  ∃bm N nm q bs hdct sn sub ab col dd k0 k1 k2 k3 k5 mN,h.get? C=some (excClassObj nm q C N bs bm hdct sn sub ab col dd k0 k1 k2 k3 k5 "ValueError.__new__")/\h.Ns N mN/\mN "__init__"=none /\
   OwnTail h [.type "ValueError",.type "Exception",.type "BaseException",.type "object"] bm:=by
 unfold excIn at q;split at q
 ·rename_i dd cd sl ho
  split at q
  ·rename_i C' bm k0 k1 k2 k3 n k5 hm hs
   simp only[and_eq_true,beq_iff_eq,not_eq_true']at q;obtain⟨⟨⟨⟨⟨rfl,rfl⟩,hdel⟩,ht⟩,hok⟩,hni⟩:=q;cases cd;cases sl;dsimp only at hm hdel hok hni hs;subst hm hdel hs;exact⟨bm,_,_,_,_,_,_,_,_,_,dd,k0,k1,k2,k3,k5,_,X _ _ ho,.of_isNs (PySem.W.isNs_of_in X hok),PySem.W.nsMap_none_of_in X hok hni,PySem.W.tail_of_in X ht⟩
  ·cases q
 ·cases q
def bw(c:Nat)(ms:MA):MS:=fun env=>match ms env with
 |.ok _=>.exc c env
 |.exc k=>.exc k env
 |.stuck=>.stuck
def sY(cx:Ctx X T W k)(hm:X.mg x=some (.ref (T.xcl c)))(hB:T.K.In X.base)
  (hE:excIn T.K (T.xcl c) [.type "ValueError",.type "Exception",.type "BaseException",.type "object"] "ValueError.__new__"=true) (hx:XM X T W) (hg:Gl X x) (hn:gA ms n) (hn2:n<=100) (ha:SA X T W (e::es) ms)
  (hd:(x ==("__debug__":Str))=false:=by decide)
  (he:starEach (e::es) X.env=(false,eval e X.env)::starEach es X.env:=by rfl) (hpl:(backTo cpos (starEach es X.env)).any (·.1)=false:=by rfl) :
  SS X T W (.Raise (some (.Call (.Name x np) (e::es) [] cpos)) none pos) (bw c ms):=
 u_ (np:=np) (cpos:=cpos) (pos:=pos) ⟨hm,zZ hB hE⟩ hx cx.calm hg ha (fun env pvs q=>by rw[hn env pvs q];exact hn2) hd he hpl
structure Scr(fl:Fl):Prop where
 is:fl=.frz\/fl=.mod
def Scr.lend(h:Scr fl):fl.lend=fl:=by rcases h.is with rfl|rfl<;>rfl
def Scr.toBor(h:Scr fl):fl.toBor=fl:=by rcases h.is with rfl|rfl<;>rfl
def Scr.isLnt(h:Scr fl):fl.isLnt=false:=by rcases h.is with rfl|rfl<;>rfl
def Scr.isOwn(h:Scr fl):fl.isOwn=false:=by rcases h.is with rfl|rfl<;>rfl
def Scr.borrow(h:Scr fl):fl.borrow=fl:=by rcases h.is with rfl|rfl<;>rfl
def jI:∀ns:List Int,RelL T F B L H (ns.map PV.int) (ns.map V.int) []
 | []=>eX _ _ _ _
 |n::ns=>by rw[map_cons,map_cons];unfold RelL;exact⟨_,_,[],[],rfl,dP,jI ns,rfl⟩
def va(K:PySem.W.Frag)(tb:Addr->Option (Array Value):=fun _=>none):Sp:=fun vs H Q _=>(∀b ps,tb b=some ps->H b=some (.tbl ps))/\∃(a:Addr) (ns:List Int),vs=[.ref a]/\SqL K H a (ns.map V.int)/\ns.length<=63/\∀v H',v=.bl true->Q v H'
def Co(G:cU P w T.K mg base (CXP P w) k f fd [x] (spM T 1 m))
  (h:∀(fl:Fl) (ns:List Int),Scr fl->ns.length<=63->m [.lst fl (ns.map .int)]=.ok (.bl true)):cU P w T.K mg base (CXP P w) k f fd [x] (va T.K T.tb):=by
 refine G.imp fun vs H Q E q=>?_;obtain⟨hT,a,ns,rfl,hS,hl,hQ⟩:=q;have hTb:Au T H (· ∈([]:List Addr)):=fun b ps h=>⟨hT b ps h,fun z=>nomatch z⟩
 have fin:∀fl,Scr fl->∀Z:Zn,GF T Z Q E (m [.lst fl (ns.map .int)]):=fun fl hf Z=>by rw[h fl ns hf hl];intro F H' v f' _ r _ _ _;unfold Rel at r;exact hQ v H' r.1
 refine⟨rfl,?_⟩;rcases hS with hS|hS
 ·refine⟨[.lst .frz (ns.map .int)],(·=a),fun _=>False,[],⟨?_,nodup_nil,fun _ z=>(nomatch z),⟨fun _ z=>False.elim z,hTb⟩,fun b hb=>?_⟩,fin _ ⟨.inl rfl⟩ _⟩
  ·unfold RelL;refine⟨_,_,[],[],rfl,?_,eX _ _ _ _,rfl⟩;unfold Rel;exact⟨a,_,[],rfl,⟨rfl,hS⟩,jI ns,rfl,rfl⟩
  ·subst hb;rcases hS with e |⟨o,e⟩
   ·exact⟨_,e⟩
   ·exact⟨_,e⟩
 ·refine⟨[.lst .mod (ns.map .int)],fun _=>False,fun _=>False,[],⟨?_,nodup_nil,fun _ z=>(nomatch z),⟨fun _ z=>False.elim z,hTb⟩,fun _ z=>z.elim⟩,fin _ ⟨.inr rfl⟩ _⟩;unfold RelL;refine⟨_,_,[],[],rfl,?_,eX _ _ _ _,rfl⟩;unfold Rel;exact⟨a,_,[],rfl,hS,jI ns,rfl,rfl⟩
def wB:DN K "list":=by intro t ht;simp only[mem_cons,not_mem_nil,or_false]at ht;rcases ht with rfl|rfl|rfl|rfl|rfl|rfl<;>kernel_rfl
def lY:bootBuiltins "isinstance"=some (.builtin "isinstance"):=by decide +kernel
def Dl:bootBuiltins "int"=some (.type "int"):=by decide +kernel
def et:bootBuiltins "list"=some (.type "list"):=by decide +kernel
def il:bootBuiltins "tuple"=some (.type "tuple"):=by decide +kernel
def uC(K:PySem.W.Frag)(C:Addr):Bool:=
 decide (PySem.W.findIn K (.ref C) "__getattribute__"=some (some (.builtin "BaseException.__getattribute__")))&&decide (PySem.W.findIn K (.ref C) "__getattr__"=some none) &&
 decide (PySem.W.findIn K (.ref C) "__class__"=some (some (.builtin "object.__class__")))&&decide (mroIn K C (.type "BaseException")=some true)&&decide (mroIn K C (.type "object")=some true)&&(clsIn K C).isSome &&
 excIn K C [.type "ValueError",.type "Exception",.type "BaseException",.type "object"] "ValueError.__new__"
def z5(h:uC K C=true):Hx K C/\excIn K C [.type "ValueError",.type "Exception",.type "BaseException",.type "object"] "ValueError.__new__"=true:=by simp only[uC,and_eq_true,decide_eq_true_eq]at h;obtain⟨⟨⟨⟨⟨⟨h1,h2⟩,h3⟩,h4⟩,h5⟩,h6⟩,h7⟩:=h;exact⟨⟨h1,h2,h3,h4,h5,h6⟩,h7⟩
def zg(l:List Addr)(i:Nat):Addr:=l.getD i (l.headD 0)
def oY(l:List Bool)(i:Nat):Bool:=l.getD i (l.headD false)
def vK{α:Type}{f:Addr->Option α}{g:α->Bool}{l:List Addr}{bs:List Bool}{r:Bool->Option α}(hl:l≠[])(h:l.map f=bs.map r)(i:Nat):f (zg l i)=r (oY bs i):=by
 have hlen:l.length=bs.length:=by simpa using congrArg List.length h
 unfold zg oY;rw[getD_eq_getElem?_getD,getD_eq_getElem?_getD];have key:∀j,(l[j]?).map f=(bs[j]?).map r:=fun j=>by rw[<- getElem?_map,<- getElem?_map,h]
 cases e:l[i]? with
 |some C=>
  have:=key i;rw[e]at this;cases e2:bs[i]? with
  |some b=>rw[e2]at this;simpa using this
  |none=>rw[e2]at this;simp at this
 |none=>
  have hb:bs[i]?=none:=by rw[List.getElem?_eq_none_iff]at e ⊢;omega
  rw[hb];cases l with
  |nil=>exact absurd rfl hl
  |cons a l=>
   cases bs with
   |nil=>simp at hlen
   |cons b bs=>simpa using key 0
def rm:∀(xs:List V) (ys:List Value),xs.length=ys.length->(∀(i:Nat) x y,xs[i]?=some x->ys[i]?=some y->bv x y)->aP xs ys
 | [],[],_,_=>.nil
 |x::xs,y::ys,hl,h=>.cons (h 0 x y rfl rfl) (rm xs ys (by simpa using hl) fun i a b e1 e2=>h (i+1) a b (by simpa using e1) (by simpa using e2))
 | [],_::_,hl,_|_::_,[],hl,_=>by simp at hl
def qo(lo:Int)(n:Nat):List V:=(range n).map fun k=>.int (lo+(k:Nat))
section
variable{X:Cx}{T:Tb}{W:Nat->St->Hp->Prop}{Z:Zn}{F F1 B L:Addr->Prop}{H H1:Hp}{Y:St}{env:En}{fp:Nat->List Addr}
def vB(lo:Int)(n:Nat):RelL T F B L H (cq lo n) (qo lo n) []:=by
 unfold cq qo;have:∀l:List Nat,RelL T F B L H (l.map fun k=>PV.int (lo+(k:Nat))) (l.map fun k=>V.int (lo+(k:Nat))) []:=by
  intro l
  induction l with
  |nil=>exact eX _ _ _ _
  |cons a l ih=>rw[map_cons,map_cons];unfold RelL;exact⟨_,_,[],[],rfl,dP,ih,rfl⟩
 exact this _
def tZ(hg:Gl X "range")(hm:X.mg "range"=none)(ha:PA X [a] ta)(hs:starEach [a] X.env=[(false,eval a X.env)]:=by rfl) :
  PE X (.Call (.Name "range" p) [a] [] pos) (fun Y H Q=>ta Y H fun vs H1=>∃j:Int,vs=[.int j]/\∀r,H1 r=none->Q (.ref r) (upd H1 r (.rng 0 j))):=by
 intro js s Y H Q I h;refine PyProof.Rows.Call_ (fE I hg hm PyProof.Rows.boot_range (PyProof.Rows.callWith_type1 (thn (ha pos js s Y H _ I h) fun us s1 zz=>?_) hs rfl));obtain⟨vs,H1,I1,r1,q1⟩:=zz;obtain⟨j,e,q⟩:=q1;subst e;cases r1 with
 |cons r rr=>cases rr;obtain⟨t,rfl⟩:=r;refine call_range_1 ⟨.ref s1.heap.objs.size,_,I1.laid (fun b u e=>get?_push_of_some _ e) (Nat.le_refl _) ?_,rfl,q _ (I1.hok.fresh (Nat.le_refl _))⟩;exact⟨_,_,_,get?_push_size _ rfl⟩
def lW(hc:X.calm=true):dY X (.type "list") (fun xs H Q=>∃r hi,xs=[.ref r]/\H r=some (.rng 0 hi)/\(0<=hi/\hi<=1000000)/\∀l,H l=none->Q (.ref l) (upd H l (.lst (qo 0 hi.toNat)))):=by
 intro js s Y H xs us Q I rv h;obtain⟨r,hi,rfl,hr,⟨h0,h1⟩,q⟩:=h;obtain⟨u,rfl,rx⟩:=dR rv;cases rx;obtain⟨t,u,v,e⟩:=I.hok r _ hr;have hsz:Builtin.Range.rangeSize 0 hi 1=(hi.toNat:Int):=by unfold Builtin.Range.rangeSize;rw[if_pos (by decide)];split<;>omega
 have hsm:Builtin.Range.small 0 hi 1=true:=by unfold Builtin.Range.small;rw[hsz];simp only[Builtin.Range.rangeFitsLong,and_eq_true,or_eq_true,decide_eq_true_eq,show(1:Int)>0 by decide,if_true];refine⟨⟨⟨⟨by decide,by omega⟩,by decide⟩,by omega⟩,.inr (by omega)⟩
 refine call_list_range (I.ok.hd hc) e hsm hsz (by omega) fun h' tk acc c' kp eS hacc=>?_;refine⟨.ref s.heap.objs.size,_,I.laid (t':=tk) kp (Nat.le_refl _) ?_,rfl,q _ (I.hok.fresh (Nat.le_refl _))⟩;refine⟨?_,acc.toList,c',rm _ _ ?_ fun i x y e1 e2=>?_,?_⟩
 ·rw[sizeLine_eq];simp[qo];omega
 ·simp[qo,hacc.1]
 ·have:=hacc.2 i y (by simpa using e2);obtain⟨t,rfl⟩:=this;have hi:i<hi.toNat:=by have:=(List.getElem?_eq_some_iff.mp e1).1;simpa[qo]using this
  simp[qo,hi]at e1;subst e1;exact⟨t,by simp⟩
 ·simpa using eS
def nH:List PV->Res PV
 | [.int n]=>if decide (0<=n/\n<=1000000)then .ok (.lst .own (cq 0 n.toNat))else .stuck
 |_=>.stuck
def tw(hc:X.calm=true)(hg:Gl X "list")(hm:X.mg "list"=none)(hv:bootBuiltins "list"=some (.type "list"))(hg2:Gl X "range")(hm2:X.mg "range"=none)(ha:SA X T W [a] ms)
  (hs:starEach [a] X.env=[(false,eval a X.env)]:=by rfl)
  (he:starEach [.Call (.Name "range" p2) [a] [] pos2] X.env=[(false,eval (.Call (.Name "range" p2) [a] [] pos2) X.env)]:=by rfl) :
  SE X T W (.Call (.Name "list" p) [.Call (.Name "range" p2) [a] [] pos2] [] pos) (au nH ms):=by
 refine PE.wk (jK (p:=p) (pos:=pos) (lW hc) hg hm hv (da (tZ (p:=p2) (pos:=pos2) hg2 hm2 ha hs) gd (by rw[he];rfl)) (he:=by rw[he];rfl) (hpl:=rfl)) fun Y H Q hz1=>?_;obtain⟨Z,F,env,fp,S,q⟩:=hz1;unfold au at q;refine tA.bind S (fun c e=>by rw[e]at q;exact q) (fun e=>by rw[e]at q;exact q) fun pvs vs H1 F1 f1 e1 g1 r1 n1 d1 w1=>?_;rw[e1]at q;simp only[Res.ok_bind]at q
 match pvs,r1,q with
 | [.int n],r1,q=>
  obtain⟨v,rfl,rv⟩:=RelL.one r1;unfold Rel at rv;obtain⟨rfl,rfl⟩:=rv;simp only[nH]at q;refine⟨n,rfl,fun r hr=>?_⟩;by_cases hn:decide (0<=n/\n<=1000000)=true
  ·rw[if_pos hn]at q;have g2:Gr F H F1 (upd H1 r (.rng 0 n)):=g1.trans (Gr.same g1.dom (Ext.upd hr));exact⟨r,n,rfl,aN,of_decide_eq_true hn,fun l hl=>GE.newL q g2 (vB 0 n.toNat) (fun _ z=>(nomatch z)) nodup_nil (fun _ z=>(nomatch z)) l hl⟩
  ·rw[if_neg hn]at q;exact q.elim
 | [],_,q|[.non],_,q|[.bl _],_,q|[.str _],_,q|[.lst _ _],_,q|[.tup _],_,q|[.obj _ _ _ _],_,q|[.exc _],_,q|[.box _ _],_,q|.int _::_::_,_,q|.non::_::_,_,q|.bl _::_::_,_,q|.str _::_::_,_,q|.lst _ _::_::_,_,q|.tup _::_::_,_,q|.obj _ _ _ _::_::_,_,q|.exc _::_::_,_,q|.box _ _::_::_,_,q=>exact q.elim
end
def bz:List PV->Option (List Int)
 | []=>some []
 |.int i::xs=>(bz xs).map (i::·)
 |_::_=>none
def mR(ns:List Int):Nat:=(firstMet (fun i=>ns.getD i 0) ns.length).length
def iw:PV->Res PV
 |.lst _ xs=>match bz xs with
  |some ns=>if decide (ns.length<=1000)then .ok (.int (mR ns))else .stuck
  |none=>.stuck
 |_=>.stuck
section
variable{X:Cx}{T:Tb}{W:Nat->St->Hp->Prop}{Z:Zn}{F F1 B L:Addr->Prop}{H H1:Hp}{Y:St}{env:En}{fp:Nat->List Addr}
def cS:∀{xs:List PV}{vs:List V}{f:List Addr}{ns:List Int},bz xs=some ns->RelL T F B L H xs vs f->vs=ns.map V.int
 | [],_,_,_,e,r=>by cases e;unfold RelL at r;exact r.1
 |.int i::xs,_,_,ns,e,r=>by
  unfold RelL at r;obtain⟨v,ws,f1,f2,rfl,h1,h2,rfl⟩:=r;simp only[bz]at e;cases e2:bz xs with
  |none=>rw[e2]at e;cases e
  |some ms=>rw[e2]at e;cases e;unfold Rel at h1;rw[h1.1,cS e2 h2];rfl
 |.non::_,_,_,_,e,_|.bl _::_,_,_,_,e,_|.str _::_,_,_,_,e,_|.lst _ _::_,_,_,_,e,_|.tup _::_,_,_,_,e,_|.obj _ _ _ _::_,_,_,_,e,_|.exc _::_,_,_,_,e,_|.box _ _::_,_,_,_,e,_=>by simp[bz]at e
def fX:∀{ns:List Int}{its:List Value},aP (ns.map V.int) its->PyProof.Rows.IntsAre its ns
 | [],_,r=>by cases r;exact .nil
 |n::ns,_,r=>by
  cases r with
  |cons h t=>obtain⟨tk,rfl⟩:=h;exact .cons _ _ (fX t)
def lV(hc:X.calm=true):dY X (.type "set") (fun xs H Q=>∃p ns,xs=[.ref p]/\SqL X.K H p (ns.map V.int)/\ns.length<=1000/\∀r S,H r=none->Q (.ref r) (upd H r (.set S (mR ns)))):=by
 intro js s Y H xs us Q I rv h;obtain⟨p,ns,rfl,hS,hl,q⟩:=h;obtain⟨u,rfl,rx⟩:=dR rv;cases rx;obtain⟨its,r',pl,hz⟩:=I.list hS;have hlen:=r'.length;rw[length_map]at hlen;refine call_set_list (I.ok.hd hc) pl.isList (ns:=ns) (by simpa using fX r') (by simp only[size_toArray,<- hlen];unfold scanBound;omega) fun h' tk hs kp=>?_;have e:its.toArray.size=ns.length:=by simp[hlen]
 rw[e]at hs;exact⟨.ref s.heap.objs.size,_,I.laid (t':=tk) (o:=.set (fun k'=>(firstMet (fun i=>ns.getD i 0) ns.length).any (·==k')) (mR ns)) (fun b o e=>kp b o (lt_size e) e) (Nat.le_refl _) hs,rfl,q _ _ (I.hok.fresh (Nat.le_refl _))⟩
def lX:dY X (.builtin "len") (fun xs H Q=>∃r S n,xs=[.ref r]/\H r=some (.set S n)/\Q (.int n) H):=by intro js s Y H xs us Q I rv h;obtain⟨r,S,n,rfl,hr,q⟩:=h;obtain⟨u,rfl,rx⟩:=dR rv;cases rx;obtain⟨o,es,ep,t,ho,hex,hd,_,_,hb,hf,hn⟩:=I.hok r _ hr;have hb':es.size<4096:=hb;exact call_len_set ho hex hd hf (by omega) ⟨.int n,H,I.tok _,⟨s.toks+1,by rw[hn]⟩,q⟩
def Dj:bootBuiltins "set"=some (.type "set"):=by decide +kernel
def mq(hK:X.K=T.K)(hc:X.calm=true)(hg:Gl X "len")(hm:X.mg "len"=none)(hg2:Gl X "set")(hm2:X.mg "set"=none)(he:SE X T W e m)
  (hs:starEach [e] X.env=[(false,eval e X.env)]:=by rfl)
  (hs2:starEach [.Call (.Name "set" p2) [e] [] pos2] X.env=[(false,eval (.Call (.Name "set" p2) [e] [] pos2) X.env)]:=by rfl) :
  SE X T W (.Call (.Name "len" p) [.Call (.Name "set" p2) [e] [] pos2] [] pos) (mUn iw m):=by
 refine PE.wk (kQ (p:=p) (pos:=pos) lX hg hm boot_len (da (jK (p:=p2) (pos:=pos2) (lV hc) hg2 hm2 Dj (da he gd (by rw[hs];rfl)) (he:=by rw[hs];rfl) (hpl:=rfl)) gd (by rw[hs2];rfl)) (he:=by rw[hs2];rfl) (hpl:=rfl)) fun Y H Q hz1=>?_;obtain⟨Z,F,env,fp,S,q⟩:=hz1;unfold mUn at q;refine tE.bind S (fun c e=>by rw[e]at q;exact q) (fun e=>by rw[e]at q;exact q) fun x v H1 F1 f1 e1 g1 r1 n1 d1 w1=>?_;rw[e1]at q;cases x with
 |lst fl xs=>
  simp only[Res.ok_bind,iw]at q;cases en:bz xs with
  |none=>rw[en]at q;exact q.elim
  |some ns=>
   rw[en]at q;dsimp only at q;unfold Rel at r1;obtain⟨a,vs,fp',rfl,hl,hr,_⟩:=r1;by_cases hn:decide (ns.length<=1000)=true
   ·rw[if_pos hn]at q;have hv:=cS en hr;subst hv;exact⟨a,ns,rfl,by rw[hK];exact hl.sq,of_decide_eq_true hn,fun r S hr=>⟨r,S,_,rfl,aN,q.scal (g1.trans (Gr.same g1.dom (Ext.upd hr))) dP⟩⟩
   ·rw[if_neg hn]at q;exact q.elim
 |_=>exact q.elim
end
def fv:List Int->Int
 | []=>0
 | [a]=>a
 |a::b::l=>min a (fv (b::l))
def dC:List Int->Int
 | []=>0
 | [a]=>a
 |a::b::l=>max a (dC (b::l))
def ff:∀{l:List Int},l≠[]->fv l∈l/\∀x∈l,fv l<=x
 | [],h=>absurd rfl h
 | [a],_=>by simp[fv]
 |a::b::l,_=>by
  obtain⟨h1,h2⟩:=ff (l:=b::l) (by simp);unfold fv
  grind
def jh:∀{l:List Int},l≠[]->dC l∈l/\∀x∈l,x<=dC l
 | [],h=>absurd rfl h
 | [a],_=>by simp[dC]
 |a::b::l,_=>by
  obtain⟨h1,h2⟩:=jh (l:=b::l) (by simp);unfold dC;refine⟨?_,fun x hx=>?_⟩
  ·rcases Int.le_total a (dC (b::l))with h|h
   ·rw[Int.max_eq_right h];exact mem_cons_of_mem _ h1
   ·rw[Int.max_eq_left h];exact mem_cons_self
  ·rcases mem_cons.mp hx with rfl|hx
   ·exact Int.le_max_left _ _
   ·exact Int.le_trans (h2 x hx) (Int.le_max_right _ _)
section
variable{X:Cx}{T:Tb}{W:Nat->St->Hp->Prop}{Z:Zn}{F F1 B L:Addr->Prop}{H H1:Hp}{Y:St}{env:En}{fp:Nat->List Addr}{js:List (Addr×Obj)}{s:Shared}
def fg{h':Heap}{t:Nat}(I:L2.Inv X js Y H s)(k:∀b o,s.heap.get? b=some o->h'.get? b=some o):L2.Inv X js Y H {s with heap:=h',toks:=t}:=I.un (Un.kept k) (I.hok.kept k)
def dM{its:List Value}{ns:List Int}(r:aP (ns.map V.int) its):∀(i:Nat) (v:Value),its.toArray[i]?=some v->∃t,v=.int (ns.getD i 0) t:=by
 intro i v e;have e':its[i]?=some v:=by simpa using e
 have hi:i<ns.length:=by have h1:=(List.getElem?_eq_some_iff.mp e').1;have h2:=r.length;rw[length_map]at h2;omega
 have:∀{ns:List Int}{its:List Value}{i:Nat}{v:Value},aP (ns.map V.int) its->its[i]?=some v->∃t,v=.int (ns.getD i 0) t:=by
  intro ns
  induction ns with
  |nil=>intro its i v r e;cases r;simp at e
  |cons n ns ih=>
   intro its i v r e;cases r with
   |cons h t=>
    obtain⟨tk,rfl⟩:=h;cases i with
    |zero=>simp at e;exact⟨tk,by rw[<- e];rfl⟩
    |succ i=>obtain⟨tk',h'⟩:=ih t (by simpa using e);exact⟨tk',by rw[h'];rfl⟩
 exact this r e'
def pU{ns:List Int}(h:0<ns.length):ns.getD (argBest (fun i j=>decide (ns.getD i 0<ns.getD j 0)) (ns.length-1)) 0=fv ns:=by
 obtain⟨h1,h2⟩:=argBest_lt (fun i=>ns.getD i 0) (ns.length-1);obtain⟨m1,m2⟩:=ff (l:=ns) (by intro z;simp[z]at h);refine Int.le_antisymm ?_ (m2 _ ?_)
 ·obtain⟨i,hi,e⟩:=getElem_of_mem m1;have:=h2 i (by omega)
  grind
 ·rw[getD_eq_getElem?_getD,getElem?_eq_getElem (by omega)];exact getElem_mem _
def xD{ns:List Int}(h:0<ns.length):ns.getD (argBest (fun i j=>decide (ns.getD i 0>ns.getD j 0)) (ns.length-1)) 0=dC ns:=by
 obtain⟨h1,h2⟩:=argBest_gt (fun i=>ns.getD i 0) (ns.length-1);obtain⟨m1,m2⟩:=jh (l:=ns) (by intro z;simp[z]at h);refine Int.le_antisymm (m2 _ ?_) ?_
 ·rw[getD_eq_getElem?_getD,getElem?_eq_getElem (by omega)];exact getElem_mem _
 ·obtain⟨i,hi,e⟩:=getElem_of_mem m1;have:=h2 i (by omega)
  grind
def gN{n:Nat}{l I:Addr}(hl:l<n)(e:I=n):∀b∈[I,l],b<n+1:=(by grind)
def dJ{h h':Heap}{o:Obj}(hk:∀b u,b∉[h.objs.size]->(h.push o).get? b=some u->h'.get? b=some u):∀b u,h.get? b=some u->h'.get? b=some u:=fun b u e=>
 hk b u (fun hm=>by
  rcases mem_cons.mp hm with z|z
  ·exact absurd (z▸lt_size e) (Nat.lt_irrefl _)
  ·cases z) (get?_push_of_some _ e)
def og(hc:X.calm=true):dY X (.builtin "min") (fun xs H Q=>∃p ns,xs=[.ref p]/\(SqL X.K H p (ns.map V.int)\/ SqT X.K H p (ns.map V.int))/\0<ns.length/\Q (.int (fv ns)) H):=by
 intro js s Y H xs us Q I rv h;obtain⟨p,ns,rfl,hq,hn,q⟩:=h;obtain⟨u,rfl,rx⟩:=dR rv;cases rx;have hh:=I.ok.hd hc;have key:∀{its:List Value},aP (ns.map V.int) its->∀{v:Value}{h':Heap}{tk:Nat},its.toArray[argBest (fun i j=>decide (ns.getD i 0<ns.getD j 0)) (its.toArray.size-1)]?=some v->(∀b o,s.heap.get? b=some o->h'.get? b=some o)->EP X js Y Q v {s with heap:=h',toks:=tk}:=by
  intro its r v h' tk hv k;have hl:its.toArray.size=ns.length:=by have:=r.length;simpa using this.symm
  rw[hl]at hv;obtain⟨t,rfl⟩:=dM r _ _ hv;rw[pU hn];exact⟨.int _,H,fg I k,⟨t,rfl⟩,q⟩
 rcases hq with hq|hq
 ·obtain⟨its,r,pl,hz⟩:=I.list hq;have hl:its.toArray.size=ns.length:=by have:=r.length;simpa using this.symm
  obtain⟨o,ho,hcl,n,hd⟩:=pl.isList;have hlt:=lt_size ho;refine call_min_walk (wpAny_pyIter_list pl.isList ?_);refine⟨_,_,_,_,_,_,_,rfl,Walks.list (A:=X.A.in1) hh _ p (Nat.ne_of_lt hlt) its.toArray,⟨⟨_,get?_push_size _ rfl,rfl,rfl⟩,pl.isList.push _⟩,fun b hb=>?_,by omega,CmpOf.ints_lt (fun i=>ns.getD i 0) (dM r),fun v h' tk hP hk=>key r hP (dJ hk)⟩;show b <(s.heap.push _).objs.size;rw[size_push];exact gN hlt rfl b hb
 ·obtain⟨its,r,pl,hz⟩:=I.tuple hq;have hl:its.toArray.size=ns.length:=by have:=r.length;simpa using this.symm
  have pt:s.heap.IsTuple p its.toArray:=pl;obtain⟨o,ho,hcl,n,hd⟩:=pl;have hlt:=lt_size ho;refine call_min_walk (wpAny_pyIter_tuple pt ?_);refine⟨_,_,_,_,_,_,_,rfl,Walks.tuple (A:=X.A.in1) hh _ p (Nat.ne_of_lt hlt) its.toArray,⟨⟨_,get?_push_size _ rfl,rfl,rfl⟩,pt.push _⟩,fun b hb=>?_,by omega,CmpOf.ints_lt (fun i=>ns.getD i 0) (dM r),fun v h' tk hP hk=>key r hP (dJ hk)⟩;show b <(s.heap.push _).objs.size;rw[size_push];exact gN hlt rfl b hb
def oh(hc:X.calm=true):dY X (.builtin "max") (fun xs H Q=>∃p ns,xs=[.ref p]/\(SqL X.K H p (ns.map V.int)\/ SqT X.K H p (ns.map V.int))/\0<ns.length/\Q (.int (dC ns)) H):=by
 intro js s Y H xs us Q I rv h;obtain⟨p,ns,rfl,hq,hn,q⟩:=h;obtain⟨u,rfl,rx⟩:=dR rv;cases rx;have hh:=I.ok.hd hc;have key:∀{its:List Value},aP (ns.map V.int) its->∀{v:Value}{h':Heap}{tk:Nat},its.toArray[argBest (fun i j=>decide (ns.getD i 0>ns.getD j 0)) (its.toArray.size-1)]?=some v->(∀b o,s.heap.get? b=some o->h'.get? b=some o)->EP X js Y Q v {s with heap:=h',toks:=tk}:=by
  intro its r v h' tk hv k;have hl:its.toArray.size=ns.length:=by have:=r.length;simpa using this.symm
  rw[hl]at hv;obtain⟨t,rfl⟩:=dM r _ _ hv;rw[xD hn];exact⟨.int _,H,fg I k,⟨t,rfl⟩,q⟩
 rcases hq with hq|hq
 ·obtain⟨its,r,pl,hz⟩:=I.list hq;have hl:its.toArray.size=ns.length:=by have:=r.length;simpa using this.symm
  obtain⟨o,ho,hcl,n,hd⟩:=pl.isList;have hlt:=lt_size ho;refine call_max_walk (wpAny_pyIter_list pl.isList ?_);refine⟨_,_,_,_,_,_,_,rfl,Walks.list (A:=X.A.in1) hh _ p (Nat.ne_of_lt hlt) its.toArray,⟨⟨_,get?_push_size _ rfl,rfl,rfl⟩,pl.isList.push _⟩,fun b hb=>?_,by omega,CmpOf.ints_gt (fun i=>ns.getD i 0) (dM r),fun v h' tk hP hk=>key r hP (dJ hk)⟩;show b <(s.heap.push _).objs.size;rw[size_push];exact gN hlt rfl b hb
 ·obtain⟨its,r,pl,hz⟩:=I.tuple hq;have hl:its.toArray.size=ns.length:=by have:=r.length;simpa using this.symm
  have pt:s.heap.IsTuple p its.toArray:=pl;obtain⟨o,ho,hcl,n,hd⟩:=pl;have hlt:=lt_size ho;refine call_max_walk (wpAny_pyIter_tuple pt ?_);refine⟨_,_,_,_,_,_,_,rfl,Walks.tuple (A:=X.A.in1) hh _ p (Nat.ne_of_lt hlt) its.toArray,⟨⟨_,get?_push_size _ rfl,rfl,rfl⟩,pt.push _⟩,fun b hb=>?_,by omega,CmpOf.ints_gt (fun i=>ns.getD i 0) (dM r),fun v h' tk hP hk=>key r hP (dJ hk)⟩;show b <(s.heap.push _).objs.size;rw[size_push];exact gN hlt rfl b hb
def eP(g:List Int->Int):PV->Res PV:=fun x=>match aT x with
 |some xs=>match bz xs with
  |some ns=>if ns.isEmpty then .stuck else .ok (.int (g ns))
  |none=>.stuck
 |none=>.stuck
def o9(hK:X.K=T.K):Mir T W (p1 (eP g)) (fun xs H Q=>∃p ns,xs=[.ref p]/\(SqL X.K H p (ns.map V.int)\/ SqT X.K H p (ns.map V.int))/\0<ns.length/\Q (.int (g ns)) H):=by
 intro B F L Y H Q F' H' xs vs fx gr r nf nd new q
 match xs,r,q with
 | [x],r,q=>
  obtain⟨v,rfl,rv⟩:=RelL.one r;simp only[p1,eP]at q;cases e:aT x with
  |none=>rw[e]at q;exact q.elim
  |some ys=>
   rw[e]at q;dsimp only at q;cases e2:bz ys with
   |none=>rw[e2]at q;exact q.elim
   |some ns=>
    rw[e2]at q;dsimp only at q;obtain⟨a,us,fx',rfl,hs,hr,_⟩:=rv.seq e;have hu:=cS e2 hr;subst hu;cases ns with
    |nil=>exact q.elim
    |cons n ns=>exact⟨a,_,rfl,by rw[hK];exact hs,by simp,q.scal gr dP⟩
 | [],_,q=>exact q.elim
 |_::_::_,_,q=>simp only[p1]at q;exact q.elim
def qV:bootBuiltins "min"=some (.builtin "min"):=by decide +kernel
def Dk:bootBuiltins "max"=some (.builtin "max"):=by decide +kernel
def rH(hK:X.K=T.K)(hc:X.calm=true)(hg:Gl X "min")(hm:X.mg "min"=none)(ha:SE X T W e m)(he:starEach [e] X.env=[(false,eval e X.env)]:=by rfl):SE X T W (.Call (.Name "min" p) [e] [] pos) (au (p1 (eP fv)) (ae m am)):=
 eW (og hc) (o9 hK) hg hm qV (ac ha ag (by rw[he];rfl)) (he:=by rw[he];rfl) (hpl:=rfl)
def ny(hK:X.K=T.K)(hc:X.calm=true)(hg:Gl X "max")(hm:X.mg "max"=none)(ha:SE X T W e m)(he:starEach [e] X.env=[(false,eval e X.env)]:=by rfl):SE X T W (.Call (.Name "max" p) [e] [] pos) (au (p1 (eP dC)) (ae m am)):=
 eW (oh hc) (o9 hK) hg hm Dk (ac ha ag (by rw[he];rfl)) (he:=by rw[he];rfl) (hpl:=rfl)
def dq(g:Int->Int->Int):List PV->Res PV
 | [.int i,.int j]=>.ok (.int (g i j))
 |_=>.stuck
def uf{g:Int->Int->Int}{g':Int->Int->Int}(hg:∀i j,g' i j=g i j):Mir T W (dq g) (fun xs H Q=>∃i j,xs=[.int i,.int j]/\Q (.int (g' i j)) H):=by
 intro B F L Y H Q F' H' xs vs fx gr r nf nd new q
 match xs,r,q with
 | [x,y],r,q=>
  cases x with
  |int i=>
   cases y with
   |int j=>unfold RelL at r;obtain⟨v,ws,f1,f2,rfl,h1,h2,rfl⟩:=r;obtain⟨u,rfl,h3⟩:=RelL.one h2;unfold Rel at h1 h3;obtain⟨rfl,_⟩:=h1;obtain⟨rfl,_⟩:=h3;exact⟨i,j,rfl,by rw[hg];exact q.scal gr dP⟩
   |_=>exact q.elim
  |_=>exact q.elim
 | [],_,q=>exact q.elim
 | [x],_,q=>cases x<;>exact q.elim
 |x::y::z::l,_,q=>cases x<;>cases y<;>exact q.elim
def i_(hc:X.calm=true)(hg:Gl X "min")(hm:X.mg "min"=none)(ha:SA X T W [a,b] ms)(he:starEach [a,b] X.env=[(false,eval a X.env),(false,eval b X.env)]:=by rfl)(he2:starEach [b] X.env=[(false,eval b X.env)]:=by rfl) :
  SE X T W (.Call (.Name "min" p) [a,b] [] pos) (au (dq min) ms):=
 eW (uM hc) (uf fun i j=>by simp only[Int.min_def];split<;>split<;>omega) hg hm qV ha (he:=by rw[he,he2]) (hpl:=by rw[he2];rfl)
end
end PR
namespace PR
open PySem PySem.W PyProof.Rows
structure Ord(N:Nat)(lt:Nat->Nat->Bool):Prop where
 tr:∀i j k,i<N->j<N->k<N->lt i j=true->lt j k=true->lt i k=true
 tot:∀i j,i<N->j<N->i≠j->lt i j=false->lt j i=true
 irr:∀i,i<N->lt i i=false
structure Plc(N:Nat)(p:Array Nat):Prop where
 pm:p.toList.Perm (range N)
abbrev at_(p:Array Nat)(i:Nat):Nat:=p.getD i 0
section
variable{N:Nat}{lt:Nat->Nat->Bool}{p:Array Nat}
def Plc.sz(P:Plc N p):p.size=N:=by simpa using P.pm.length_eq
def Plc.get(P:Plc N p)(h:i<N):p[i]?=some (at_ p i):=by
 have:i<p.size:=by rw[P.sz];exact h
 simp[at_,this]
def Plc.bd(P:Plc N p)(h:i<N):at_ p i<N:=by
 have hm:at_ p i∈p.toList:=by have:=P.get h;exact Array.mem_toList_iff.mpr (Array.mem_of_getElem? this)
 simpa using P.pm.mem_iff.mp hm
def Plc.inj(P:Plc N p)(hi:i<N)(hj:j<N)(e:at_ p i=at_ p j):i=j:=by
 have nd:p.toList.Nodup:=P.pm.nodup_iff.mpr nodup_range;have h1:=P.get hi;have h2:=P.get hj;rw[e]at h1;have h1':p.toList[i]?=some (at_ p j):=by simpa using h1
 have h2':p.toList[j]?=some (at_ p j):=by simpa using h2
 obtain⟨a1,b1⟩:=List.getElem?_eq_some_iff.mp h1';obtain⟨a2,b2⟩:=List.getElem?_eq_some_iff.mp h2';exact(getElem_inj nd).mp (b1.trans b2.symm)
def Asc(lt:Nat->Nat->Bool)(p:Array Nat)(n:Nat):Prop:=∀a b,a<b->b<n->lt (at_ p a) (at_ p b)=true
def Dsc(lt:Nat->Nat->Bool)(p:Array Nat)(n:Nat):Prop:=∀a b,a<b->b<n->lt (at_ p b) (at_ p a)=true
def Asc.more(O:Ord N lt)(P:Plc N p)(h:Asc lt p n)(h1:1<=n)(hn:n<N)(hl:lt (at_ p (n-1)) (at_ p n)=true):Asc lt p (n+1):=fun a b hab hb=>by
 by_cases hbn:b<n
 ·exact h a b hab hbn
 ·obtain rfl:b=n:=by omega
  by_cases ha:a=b-1
  ·rw[ha];exact hl
  ·exact O.tr _ _ _ (P.bd (by omega)) (P.bd (by omega)) (P.bd (by omega)) (h a (b-1) (by omega) (by omega)) hl
def Dsc.more(O:Ord N lt)(P:Plc N p)(h:Dsc lt p n)(h1:1<=n)(hn:n<N)(hl:lt (at_ p n) (at_ p (n-1))=true):Dsc lt p (n+1):=fun a b hab hb=>by
 by_cases hbn:b<n
 ·exact h a b hab hbn
 ·obtain rfl:b=n:=by omega
  by_cases ha:a=b-1
  ·rw[ha];exact hl
  ·exact O.tr _ _ _ (P.bd (by omega)) (P.bd (by omega)) (P.bd (by omega)) hl (h a (b-1) (by omega) (by omega))
def Dsc.rev(P:Plc N p)(h:Dsc lt p n)(hn:n<=N):Asc lt (kas_rev p 0 n) n/\Plc N (kas_rev p 0 n):=by
 have hp:(kas_rev p 0 n).toList.Perm p.toList:=Array.perm_iff_toList_perm.mp (mirror_perm _ _ _ _);have P':Plc N (kas_rev p 0 n):=⟨hp.trans P.pm⟩
 have ix:∀k,k<n->at_ (kas_rev p 0 n) k=at_ p (n-1-k):=fun k hk=>by
  have e:=getElem?_mirror_all (xs:=p) (i:=0) (j:=n) (by rw[P.sz];exact hn) k;have h1:(kas_rev p 0 n)[k]?=p[0+n-1-k]?:=by unfold kas_rev;rw[e,if_pos ⟨by omega,hk⟩]
  rw[P'.get (by omega),show 0+n-1-k=n-1-k by omega,P.get (by omega)]at h1;exact Option.some.inj h1
 refine⟨fun a b hab hb=>?_,P'⟩;rw[ix a (by omega),ix b hb];exact h _ _ (by omega) (by omega)
variable{cmp:Nat->Nat->(Bool->Shared->Prop)->Shared->Prop}{s:Shared}
abbrev Cmp(N:Nat)(lt:Nat->Nat->Bool)(cmp:Nat->Nat->(Bool->Shared->Prop)->Shared->Prop)(s:Shared):Prop:=∀(i j:Nat) (C:Bool->Shared->Prop),i<N->j<N->C (lt i j) s->cmp i j C s
def qW(O:Ord N lt)(C:Cmp N lt cmp s)(P:Plc N p):∀(f n:Nat) (Q:Nat->Shared->Prop),1<=n->n+f=N->Asc lt p n->(∀m,n<=m->m<=N->Asc lt p m->(m<N->lt (at_ p m) (at_ p (m-1))=true)->Q m s)->(kas_asc p f n).kasWp cmp Q s
 |0,n,Q,h1,hn,ha,k=>k n (Nat.le_refl _) (by omega) ha (by omega)
 |f+1,n,Q,h1,hn,ha,k=>by
  refine C _ _ _ (P.bd (by omega)) (P.bd (by omega)) ?_;cases e:lt (at_ p n) (at_ p (n-1))with
  |true=>exact k n (Nat.le_refl _) (by omega) ha fun _=>e
  |false=>have hl:=O.tot _ _ (P.bd (by omega)) (P.bd (by omega)) (fun z=>by have:=P.inj (by omega) (by omega) z;omega) e;exact qW O C P f (n+1) Q (by omega) (by omega) (ha.more O P h1 (by omega) hl) fun m hm=>k m (by omega)
def xo(O:Ord N lt)(C:Cmp N lt cmp s)(P:Plc N p):∀(f n:Nat) (Q:Array Nat×Nat×Nat->Shared->Prop),1<=n->n+f=N->Dsc lt p n->(∀m,n<=m->m<=N->Dsc lt p m->Q (p,m,0) s)->(kas_desc f p n 0).kasWp cmp Q s
 |0,n,Q,h1,hn,ha,k=>k n (Nat.le_refl _) (by omega) ha
 |f+1,n,Q,h1,hn,ha,k=>by
  refine C _ _ _ (P.bd (by omega)) (P.bd (by omega)) ?_;cases e:lt (at_ p n) (at_ p (n-1))with
  |true=>exact xo O C P f (n+1) Q (by omega) (by omega) (ha.more O P h1 (by omega) e) fun m hm=>k m (by omega)
  |false=>have hl:=O.tot _ _ (P.bd (by omega)) (P.bd (by omega)) (fun z=>by have:=P.inj (by omega) (by omega) z;omega) e;refine C _ _ _ (P.bd (by omega)) (P.bd (by omega)) ?_;have e2:lt (p.getD (n-1) 0) (p.getD n 0)=true:=hl;rw[e2];exact k n (Nat.le_refl _) (by omega) ha
def xt(O:Ord N lt)(C:Cmp N lt cmp s)(P:Plc N p)(h2:2<=N)(Q:Nat×Array Nat->Shared->Prop)(k:∀m p',1<=m->m<=N->Plc N p'->Asc lt p' m->Q (m,p') s):(kas_count N p).kasWp cmp Q s:=by
 unfold kas_count;rw[KasT.kasWp_bind];refine qW O C P (N-1) 1 _ (Nat.le_refl _) (by omega) (fun a b _ hb=>by omega) fun n h1 hn ha hs=>?_;by_cases e:n=N
 ·rw[if_pos (by simpa using e)];exact k n p h1 hn P ha
 ·rw[if_neg (by simpa using e)];by_cases hn1:n>1
  ·rw[if_pos hn1];refine C _ _ _ (P.bd (by omega)) (P.bd (by omega)) ?_;have e2:lt (p.getD 0 0) (p.getD (n-1) 0)=true:=ha 0 (n-1) (by omega) (by omega);rw[e2];exact k n p h1 hn P ha
  ·rw[if_neg hn1];obtain rfl:n=1:=by omega
   unfold kas_descPart;rw[KasT.kasWp_bind];refine xo O C P (N-2) 2 _ (by omega) (by omega) (fun a b hab hb=>?_) fun m hm1 hm2 hd=>?_
   ·obtain rfl:a=0:=by omega
    obtain rfl:b=1:=by omega
    exact hs (by omega)
   ·dsimp only;rw[if_neg (Nat.lt_irrefl 0)];obtain⟨ha',P'⟩:=hd.rev P hm2;unfold kas_tail3;rw[KasT.kasWp_bind];exact qW O C P' (N-m) m _ (by omega) (by omega) ha' fun n' h1' hn' ha'' _=>k n' _ (by omega) hn' P' ha''
def kO(O:Ord N lt)(C:Cmp N lt cmp s)(P:Plc N p)(hk:k<N)(ha:Asc lt p k):∀(f l r:Nat) (Q:Nat->Shared->Prop),l<=r->r<=k->r-l<=f->(∀a,a<l->lt (at_ p a) (at_ p k)=true)->(∀a,r<=a->a<k->lt (at_ p k) (at_ p a)=true)->
  (∀m,m<=k->(∀a,a<m->lt (at_ p a) (at_ p k)=true)->(∀a,m<=a->a<k->lt (at_ p k) (at_ p a)=true)->Q m s)->(kas_place p k f l r).kasWp cmp Q s
 |0,l,r,Q,h1,h2,h3,h4,h5,q=>by
  obtain rfl:l=r:=by omega
  exact q l h2 h4 h5
 |f+1,l,r,Q,h1,h2,h3,h4,h5,q=>by
  unfold kas_place;by_cases e:l >= r
  ·rw[if_pos e];obtain rfl:l=r:=by omega
   exact q l h2 h4 h5
  ·rw[if_neg e];have hm:(l+r) / 2<r:=by omega
   have hm2:l <=(l+r) / 2:=by omega
   refine C _ _ _ (P.bd hk) (P.bd (by omega)) ?_;cases e2:lt (at_ p k) (at_ p ((l+r) / 2))with
   |true=>
    refine kO O C P hk ha f l ((l+r) / 2) Q hm2 (by omega) (by omega) h4 (fun a h6 h7=>?_) q;by_cases hae:a=(l+r) / 2
    ·rw[hae];exact e2
    ·exact O.tr _ _ _ (P.bd hk) (P.bd (by omega)) (P.bd (by omega)) e2 (ha _ a (by omega) h7)
   |false=>
    have hl:=O.tot _ _ (P.bd hk) (P.bd (by omega)) (fun z=>by have:=P.inj hk (by omega) z;omega) e2;refine kO O C P hk ha f ((l+r) / 2+1) r Q (by omega) h2 (by omega) (fun a h6=>?_) h5 q;by_cases hae:a=(l+r) / 2
    ·rw[hae];exact hl
    ·exact O.tr _ _ _ (P.bd (by omega)) (P.bd (by omega)) (P.bd hk) (ha a _ (by omega) (by omega)) hl
def xC(O:Ord N lt)(C:Cmp N lt cmp s):∀(f k:Nat) (p:Array Nat) (Q:Array Nat->Shared->Prop),Plc N p->Asc lt p k->k+f=N->(∀p',Plc N p'->Asc lt p' N->Q p' s)->(kas_bin f p k).kasWp cmp Q s
 |0,k,p,Q,P,ha,hk,q=>q p P (by rw[<- hk];exact ha)
 |f+1,k,p,Q,P,ha,hk,q=>by
  unfold kas_bin;rw[KasT.kasWp_bind];refine kO O C P (by omega) ha k 0 k _ (zero_le _) (Nat.le_refl _) (by omega) (fun _ z=>absurd z (Nat.not_lt_zero _)) (fun a h1 h2=>by omega) fun m hm h1 h2=>?_;have P':Plc N (bubble p k (k-m)):=⟨(Array.perm_iff_toList_perm.mp (bubble_perm _ _ _)).trans P.pm⟩
  have ix:=getElem?_bubble (xs:=p) (src:=k) (by rw[P.sz];omega) (k-m) (by omega);have g:∀i,i<k+1->at_ (bubble p k (k-m)) i=if i=m then at_ p k else if m<i then at_ p (i-1)else at_ p i:=fun i hi=>by
   have e:=ix i;rw[P'.get (by omega)]at e;have hkm:k-(k-m)=m:=by omega
   rw[hkm]at e;by_cases c1:i=m
   ·rw[if_pos c1];rw[if_pos c1,P.get (by omega)]at e;exact Option.some.inj e
   ·rw[if_neg c1]at e ⊢;by_cases c2:m<i
    ·rw[if_pos c2];rw[if_pos ⟨c2,by omega⟩,P.get (by omega)]at e;exact Option.some.inj e
    ·rw[if_neg c2];rw[if_neg (fun z=>c2 z.1),P.get (by omega)]at e;exact Option.some.inj e
  refine xC O C f (k+1) _ Q P' (fun a b hab hb=>?_) (by omega) q;rw[g a (by omega),g b hb];by_cases a1:a=m
  ·rw[if_pos a1,if_neg (by omega),if_pos (by omega)];exact h2 (b-1) (by omega) (by omega)
  ·rw[if_neg a1];by_cases a2:m<a
   ·rw[if_pos a2,if_neg (by omega),if_pos (by omega)];exact ha _ _ (by omega) (by omega)
   ·rw[if_neg a2];by_cases b1:b=m
    ·rw[if_pos b1];exact h1 a (by omega)
    ·rw[if_neg b1];by_cases b2:m<b
     ·rw[if_pos b2];by_cases hh:a=b-1
      ·omega
      ·exact ha _ _ (by omega) (by omega)
     ·rw[if_neg b2];exact ha _ _ hab (by omega)
def yE(O:Ord N lt)(C:Cmp N lt cmp s)(h2:2<=N)(Q:Array Nat->Shared->Prop)(q:∀p,Plc N p->Asc lt p N->Q p s):(kas_sort N).kasWp cmp Q s:=by
 unfold kas_sort;rw[KasT.kasWp_bind];refine xt O C (p:=List.toArray (range N)) ⟨by simp⟩ h2 _ fun m p' h1 hm P ha=>?_;dsimp only;by_cases e:m<N
 ·rw[if_pos e,Nat.max_eq_left h1];exact xC O C (N-m) m p' Q P ha (by omega) q
 ·rw[if_neg e];obtain rfl:m=N:=by omega
  exact q p' P ha
end
end PR
namespace PR
open PySem PySem.Spec L2 PyProof.Rows PySem.W
section
variable{prog:Program}{w:World}{A:Around}{E:Value->Shared->Prop}{s:Shared}
def kU(vs:List Value)(p:Array Nat):Array Value:=(p.toList.map fun i=>vs.getD i Value.none).toArray
def tW(N:Nat):Plc N (range N).toArray:=⟨by simp⟩
def j8:kU vs (range vs.length).toArray=vs.toArray:=by unfold kU;congr 1;refine ext_getElem (by simp) fun i h1 h2=>?_;simp[h2]
def yn{vs:List Value}(h:vs.length<2):(vs.toArray.zip vs.toArray).map (·.2)=vs.toArray:=by
 cases vs with
 |nil=>simp
 |cons v l=>cases l with
  |nil=>simp
  |cons w l=>simp only[List.length_cons]at h;omega
def uj{κ:SortKind}(ho:s.heap.get? a=some (seqObj "list" vs.toArray n))(h64:vs.length<64)
  (hK:2<=vs.length->∀s':Shared,(∀b o,b≠a->s.heap.get? b=some o->s'.heap.get? b=some o)->Ord vs.length lt/\(∀Q:SortKind->Shared->Prop,Q κ s'->wpAny (model prog w) A (keyKind' vs.toArray) Q E s')/\Cmp vs.length lt (kas_ask prog w A κ vs) s')
  (h:∀p,Plc vs.length p->Asc lt p vs.length->P (.done (.ret .none)) {s with heap:=sortedHeap s.heap a vs (kU vs p)}) :
  wpAny (model prog w) A (Builtin.«list.sort» ⟨[.ref a],[]⟩) P E s:=by
 have lo:=lt_size ho;obtain⟨e1,g1⟩:∃e1,(s.heap.update a (Obj.mapSeq fun _=>#[])).get? a=some (seqObj "list" #[] e1):=⟨_,get?_update_seq ho (fun _=>#[])⟩
 have g6:(((s.heap.update a (Obj.mapSeq fun _=>#[])).push (seqObj "tuple" vs.toArray 0)).push (seqObj "list" #[] 0)).get? a=some (seqObj "list" #[] e1):=get?_push_of_some _ (get?_push_of_some _ g1);have kp:∀b o,b≠a->s.heap.get? b=some o->(((s.heap.update a (Obj.mapSeq fun _=>#[])).push (seqObj "tuple" vs.toArray 0)).push (seqObj "list" #[] 0)).get? b=some o:=fun b o hb q=>
  get?_push_of_some _ (get?_push_of_some _ ((Heap.get?_update_ne _ _ _ _ hb).trans q))
 rw[list_sort_plain];refine wpAny_bind (listItems_at ho rfl (wpAny_bind (listUpdate_at ho rfl (wpAny_bind (seqEpoch_at g1 rfl (wpAny_bind (wpAny_newTuple (wpAny_bind (wpAny_newList (wpAny_holding ?_))))))))))<;>try (simp only[size_toArray,sizeLine_eq];omega)
 show wpAny (model prog w) A _ P E {s with heap:=((s.heap.update a (Obj.mapSeq fun _=>#[])).push (seqObj "tuple" vs.toArray 0)).push (seqObj "list" #[] 0)};dsimp only;by_cases h2:vs.toArray.size<2
 ·have h2':vs.length<2:=by simpa using h2
  rw[if_pos h2,if_pos h2];refine wpAny_bind (wpAny_pure ?_);rw[StateT.run_pure];refine wpAny_bind (wpAny_pure ?_);dsimp only;have e3:(arrOf (SortSt.mk' general' (vs.toArray.zip vs.toArray) #[] 7 none)).map (·.2)=kU vs (range vs.length).toArray:=by rw[j8];show(vs.toArray.zip vs.toArray).map (·.2)=vs.toArray;exact yn h2'
  rw[e3];refine wpAny_bind (seqEpoch_at g6 rfl (wpAny_bind (listUpdate_at g6 rfl ?_ (zero_le _) (by rw[j8];simp only[size_toArray,sizeLine_eq];omega))));simp only[bne_self_eq_false,false_eq_true,if_false];exact wpAny_pure (h _ (tW _) fun x y hxy hy=>by omega)
 ·have h2':2<=vs.length:=by simp at h2;omega
  rw[if_neg h2,if_neg h2];obtain⟨O,hk,C⟩:=hK h2' {s with heap:=((s.heap.update a (Obj.mapSeq fun _=>#[])).push (seqObj "tuple" vs.toArray 0)).push (seqObj "list" #[] 0)} kp;refine wpAny_bind (hk _ ?_);refine wpAny_bind (wpAny_mono (kat_run (κ:=κ) (ks:=vs) (vs:=vs) (Q:=fun st' s'=>∃ p:Array Nat,arrOf st'=p.map (kas_item (vs.toArray.zip vs.toArray))/\failedOf st'=none/\Plc vs.length p/\Asc lt p vs.length/\s'=_) rfl h2' h64
   (fun p st' s' _ a2 a3 a4=>⟨p,a2,a3,a4⟩) (yE O C h2' _ fun p c1 c2=>⟨c1,c2,rfl⟩)) ?_ fun _ _ e=>e)
  rintro⟨⟨⟩,st'⟩ s' ⟨p,har,hf,c1,c2,rfl⟩;dsimp only;have e3:=kat_snds (ks:=vs) (vs:=vs) rfl har;rw[e3];refine wpAny_bind (seqEpoch_at g6 rfl (wpAny_bind (listUpdate_at g6 rfl ?_ (zero_le _) (by
   rw[size_toArray,length_map,Array.length_toList,c1.sz,sizeLine_eq];omega))))
  rw[hf];simp only[bne_self_eq_false,false_eq_true,if_false];exact wpAny_pure (h _ c1 c2)
def qd{κ:SortKind}(hl:s.heap.IsList l vs.toArray)(h64:vs.length<64)
  (hK:2<=vs.length->∀s':Shared,(∀b o,s.heap.get? b=some o->s'.heap.get? b=some o)->Ord vs.length lt/\(∀(E:Value->Shared->Prop) (Q:SortKind->Shared->Prop),Q κ s'->wpAny (model prog w) A.in1.in1 (keyKind' vs.toArray) Q E s')/\Cmp vs.length lt (kas_ask prog w A.in1.in1 κ vs) s')
  (h:∀p,Plc vs.length p->Asc lt p vs.length->Q (.ref (s.heap.objs.size+1)) {s with heap:=sortedAll s.heap vs (kU vs p)}) :
  wpAny (model prog w) A (call (.builtin "sorted") [.ref l]) Q E s:=by
 refine Calls.call_function_entry kind_sorted plain_sorted entry_sorted (args_sorted1 _) ?_;unfold Builtin.«sorted»;have sz:((s.heap.push (seqObj "list" #[] 0)).update s.heap.objs.size (Obj.mapSeq (·++vs.toArray))).objs.size=s.heap.objs.size+1:=(Heap.size_update _ _ _).trans (size_push' _ _);refine wpAny_bind (m:=checkCount "sorted" 1 1 _) (wpAny_pure (wpAny_bind (collect_list hl (wpAny_bind (wpAny_newList ?_ (by rw[sizeLine_eq];omega))) (by rw[sizeLine_eq];omega))));have g:(((s.heap.push (seqObj "list" #[] 0)).update s.heap.objs.size (Obj.mapSeq (·++vs.toArray))).push (seqObj "list" vs.toArray 0)).get? (s.heap.objs.size+1)=some (seqObj "list" vs.toArray 0):=sz▸get?_push_size _ rfl;have kp:∀b o,s.heap.get? b=some o->(((s.heap.push (seqObj "list" #[] 0)).update s.heap.objs.size (Obj.mapSeq (·++vs.toArray))).push (seqObj "list" vs.toArray 0)).get? b=some o:=fun b o q=>
  get?_push_of_some _ ((Heap.get?_update_ne _ _ _ _ (Nat.ne_of_lt (lt_size q))).trans (get?_push_of_some _ q))
 show wpAny _ _ _ _ _ {s with heap:=((s.heap.push (seqObj "list" #[] 0)).update s.heap.objs.size (Obj.mapSeq (·++vs.toArray))).push (seqObj "list" vs.toArray 0)};rw[sz];refine wpAny_bind (wpAny_holding (wpAny_call_entry slot_list_sort ⟨_,g,rfl⟩ entry_list_sort ?body (args_list_sort _)));refine uj (κ:=κ) (lt:=lt) g h64 (fun h2 s' k'=>?_) fun p c1 c2=>⟨_,rfl,wpAny_pure ⟨_,rfl,h p c1 c2⟩⟩
 obtain⟨O,hk,C⟩:=hK h2 s' fun b o q=>k' b o (Nat.ne_of_lt (Nat.lt_succ_of_lt (lt_size q))) (kp b o q);exact⟨O,fun Q q=>hk _ Q q,C⟩
def eT(x y:Int×Int):Bool:=decide (x.1<y.1) ||(x.1==y.1&&decide (x.2<y.2))
def iM(h1:eT x y=true)(h2:eT y z=true):eT x z=true:=by simp only[eT,or_eq_true,and_eq_true,decide_eq_true_eq,beq_iff_eq]at *;omega
def oX(x:Int×Int):eT x x=false:=by simp[eT]
def oW(h:x≠y):eT x y=true\/eT y x=true:=by
 obtain⟨a,b⟩:=x;obtain⟨c,d⟩:=y;have:a≠c\/b≠d:=by
  by_cases e:a=c
  ·right;intro e2;exact h (by rw[e,e2])
  ·exact .inl e
 simp only[eT,or_eq_true,and_eq_true,decide_eq_true_eq,beq_iff_eq];omega
def cM(h:Heap):List Value->List (Int×Int)->Prop
 | [],[]=>True
 |v::vs,x::ps=>(∃a o n t u,v=.ref a/\h.get? a=some o/\o.cls=.type "tuple" /\ o.data=.seq #[.int x.1 t,.int x.2 u] n)/\cM h vs ps
 |_,_=>False
def cM.len:∀{vs:List Value}{ps:List (Int×Int)},cM h vs ps->vs.length=ps.length
 | [],[],_=>rfl
 |_::_,_::_,q=>by simp[q.2.len]
def cM.kept(k:∀b o,h.get? b=some o->h'.get? b=some o):∀{vs:List Value}{ps:List (Int×Int)},cM h vs ps->cM h' vs ps
 | [],[],_=>trivial
 |_::_,_::_,⟨⟨a,o,n,t,u,e1,e2,e3⟩,q⟩=>⟨⟨a,o,n,t,u,e1,k _ _ e2,e3⟩,q.kept k⟩
def cM.at:∀{vs:List Value}{ps:List (Int×Int)},cM h vs ps->∀i,i<ps.length->∃a o n t u,vs.getD i Value.none=.ref a/\h.get? a=some o/\o.data=.seq #[.int (ps.getD i (0,0)).1 t,.int (ps.getD i (0,0)).2 u] n
 |_::_,_::_,⟨⟨a,o,n,t,u,e1,e2,e3⟩,q⟩,0,_=>⟨a,o,n,t,u,by simp[e1],e2,by simpa using e3.2⟩
 |v::vs,x::ps,⟨_,q⟩,i+1,hi=>by have:=q.at i (by simpa using hi);simpa using this
 | [],[],_,i,hi=>by simp at hi
def cM.firsts:∀{vs:List Value}{ps:List (Int×Int)},cM h vs ps->∃fs,KatTups h vs fs/\fs.length=ps.length/\∀v∈fs,∃i t,v=.int i t
 | [],[],_=>⟨[],.nil,rfl,fun v hv=>by cases hv⟩
 |_::_,_::_,⟨⟨a,o,n,t,u,e1,e2,e3,e4⟩,q⟩=>by
  obtain⟨fs,h1,h2,h3⟩:=q.firsts;subst e1;refine⟨_::fs,.cons e2 e3 e4 rfl h1,by simp[h2],fun v hv=>?_⟩;rcases mem_cons.mp hv with rfl|hv
  ·exact⟨_,_,rfl⟩
  ·exact h3 v hv
def t3{ps:List (Int×Int)}(hd:ps.Nodup):Ord ps.length (fun i j=>eT (ps.getD i (0,0)) (ps.getD j (0,0))):=by
 refine⟨fun i j k _ _ _ h1 h2=>iM h1 h2,fun i j hi hj hn h=>?_,fun i _=>oX _⟩;have:ps.getD i (0,0)≠ ps.getD j (0,0):=by simp only[getD_eq_getElem?_getD,getElem?_eq_getElem hi,getElem?_eq_getElem hj,getD_some];exact fun e=>hn ((getElem_inj hd).mp e)
 rcases oW this with q|q
 ·rw[q]at h;cases h
 ·exact q
def mB(h:Q (decide (x<y)) s):wpAny (model prog w) A (oneLt' b (.int x t) (.int y u)) Q E s:=by
 cases b with
 |true=>exact oneLt_int h
 |false=>exact kat_one _ _ (wpAny_lt_int h)
def t5(hp:cM s.heap vs ps):Cmp vs.length (fun i j=>eT (ps.getD i (0,0)) (ps.getD j (0,0))) (kas_ask prog w A (tuples' true) vs) s:=by
 intro i j C hi hj q;rw[hp.len]at hi hj;obtain⟨a,o,n,t,u,e1,e2,e3⟩:=hp.at i hi;obtain⟨a',o',n',t',u',e1',e2',e3'⟩:=hp.at j hj;unfold kas_ask;rw[e1,e1'];dsimp only at q;generalize ps.getD i (0,0)=x at *;generalize ps.getD j (0,0)=y at *;refine kat_lt e2 e3 e2' e3' (kat_cons (wpAny_eqBool_int (kat_go (fun h1=>kat_yes (kat_cons (wpAny_eqBool_int (kat_go (fun h2=>kat_yes (kat_nil ?_)) fun h2=>kat_no (mB ?_))))) fun h1=>kat_no (mB ?_))))
 ·simp only[beq_iff_eq]at h1 h2;have:eT x y=false:=by simp[eT,h1,h2]
  rw[this]at q;exact q
 ·simp only[beq_iff_eq]at h1;have:eT x y=decide (x.2<y.2):=by simp[eT,h1]
  rw[this]at q;exact q
 ·have:eT x y=decide (x.1<y.1):=by simp[eT,h1]
  rw[this]at q;exact q
def qu(hp:cM s.heap vs ps)(h2:2<=vs.length){Q:SortKind->Shared->Prop}(q:Q (tuples' true) s):wpAny (model prog w) A (keyKind' vs.toArray) Q E s:=by obtain⟨fs,h1,hl,hi⟩:=hp.firsts;refine kat_kind (T:=.type "int") h1 (by rw[hl,<- hp.len];omega) (fun v hv=>?_) rfl q;obtain⟨i,t,rfl⟩:=hi v hv;exact Looks.of_pure rfl
def nh(hl:s.heap.IsList l vs.toArray)(h64:vs.length<64)(hp:cM s.heap vs ps)(hd:ps.Nodup)
  (h:∀p,Plc vs.length p->Asc (fun i j=>eT (ps.getD i (0,0)) (ps.getD j (0,0))) p vs.length->Q (.ref (s.heap.objs.size+1)) {s with heap:=sortedAll s.heap vs (kU vs p)}) :
  wpAny (model prog w) A (call (.builtin "sorted") [.ref l]) Q E s:=
 qd hl h64 (fun h2 s' k=>⟨hp.len▸t3 hd,fun E Q q=>qu (hp.kept k) h2 q,t5 (hp.kept k)⟩) h
end
end PR
namespace PR
open PySem PySem.Spec L2 PyProof.Rows
def qL(x:Int):List Int->List Int
 | []=>[x]
 |y::l=>if x<=y then x::y::l else y::qL x l
def gP:List Int->List Int
 | []=>[]
 |x::l=>qL x (gP l)
def jX(x:Int):∀l,(qL x l).Perm (x::l)
 | []=>.refl _
 |y::l=>by
  unfold qL;split
  ·exact .refl _
  ·exact((jX x l).cons y).trans (.swap x y l)
def cO:∀l,(gP l).Perm l
 | []=>.refl _
 |x::l=>(jX x _).trans ((cO l).cons x)
def pB(x:Int):∀{l:List Int},l.Pairwise (·<=·)->(qL x l).Pairwise (·<=·)
 | [],_=>by simp[qL]
 |y::l,h=>by
  obtain⟨h1,h2⟩:=pairwise_cons.mp h;unfold qL;split
  ·refine pairwise_cons.mpr ⟨fun z hz=>?_,h⟩;rcases mem_cons.mp hz with rfl|hz
   ·assumption
   ·have:=h1 z hz;omega
  ·refine pairwise_cons.mpr ⟨fun z hz=>?_,pB x h2⟩;rcases mem_cons.mp ((jX x l).mem_iff.mp hz)with rfl|hz
   ·omega
   ·exact h1 z hz
def jF:∀l,(gP l).Pairwise (·<=·)
 | []=>.nil
 |x::l=>pB x (jF l)
def kI{l l':List Int}(h1:l'.Perm l)(h2:l'.Pairwise (·<=·)):l'=gP l:=
 List.Perm.eq_of_pairwise (fun a b _ _ x y=>Int.le_antisymm x y) h2 (jF l) (h1.trans (cO l).symm)
def qK(x:Int×Int):List (Int×Int)->List (Int×Int)
 | []=>[x]
 |y::l=>if eT x y then x::y::l else y::qK x l
def aW:List (Int×Int)->List (Int×Int)
 | []=>[]
 |x::l=>qK x (aW l)
def jW(x:Int×Int):∀l,(qK x l).Perm (x::l)
 | []=>.refl _
 |y::l=>by
  unfold qK;split
  ·exact .refl _
  ·exact((jW x l).cons y).trans (.swap x y l)
def bC:∀l,(aW l).Perm l
 | []=>.refl _
 |x::l=>(jW x _).trans ((bC l).cons x)
def pA(x:Int×Int):∀{l:List (Int×Int)},x∉l->l.Pairwise (fun a b=>eT a b=true)->(qK x l).Pairwise (fun a b=>eT a b=true)
 | [],_,_=>by simp[qK]
 |y::l,hn,h=>by
  obtain⟨h1,h2⟩:=pairwise_cons.mp h;unfold qK;split
  ·refine pairwise_cons.mpr ⟨fun z hz=>?_,h⟩;rcases mem_cons.mp hz with rfl|hz
   ·assumption
   ·exact iM ‹_› (h1 z hz)
  ·refine pairwise_cons.mpr ⟨fun z hz=>?_,pA x (fun z=>hn (mem_cons_of_mem _ z)) h2⟩;rcases mem_cons.mp ((jW x l).mem_iff.mp hz)with rfl|hz
   ·rcases oW (x:=y) (y:=z) (fun e=>hn (e▸mem_cons_self))with q|q
    ·exact q
    ·contradiction
   ·exact h1 z hz
def l_:∀{l:List (Int×Int)},l.Nodup->(aW l).Pairwise (fun a b=>eT a b=true)
 | [],_=>.nil
 |x::l,h=>by obtain⟨h1,h2⟩:=nodup_cons.mp h;exact pA x (fun z=>h1 ((bC l).mem_iff.mp z)) (l_ h2)
def qe(hd:l.Nodup)(h1:l'.Perm l)(h2:l'.Pairwise (fun a b=>eT a b=true)):l'=aW l:=
 List.Perm.eq_of_pairwise (fun a b _ _ x y=>by
  have:=iM x y;rw[oX]at this;cases this) h2 (l_ hd) (h1.trans (bC l).symm)
def tQ{α:Type}(l:List α)(d:α):(range l.length).map (fun i=>l.getD i d)=l:=by refine ext_getElem (by simp) fun i h1 h2=>?_;simp[h2]
def tV{ps:List (Int×Int)}{p:Array Nat}(hd:ps.Nodup)(P:Plc ps.length p)(a:Asc (fun i j=>eT (ps.getD i (0,0)) (ps.getD j (0,0))) p ps.length):p.toList.map (fun i=>ps.getD i (0,0))=aW ps:=by
 refine qe hd (by have:=P.pm.map (fun i=>ps.getD i (0,0));rwa [tQ]at this) ?_;refine List.pairwise_iff_getElem.mpr fun i j hi hj hij=>?_;have hs:=P.sz;have hi':i<p.size:=by simpa using hi
 have hj':j<p.size:=by simpa using hj
 have:=a i j hij (by omega);simpa[at_,Array.getD,hi',hj']using this
def PrH(K:PySem.W.Frag)(H:Hp):List V->List (Int×Int)->Prop
 | [],[]=>True
 |v::vs,x::ps=>(∃a,v=.ref a/\SqT K H a [.int x.1,.int x.2])/\PrH K H vs ps
 |_,_=>False
def PrH.len{K:PySem.W.Frag}{H:Hp}:∀{vs:List V}{ps:List (Int×Int)},PrH K H vs ps->vs.length=ps.length
 | [],[],_=>rfl
 |_::_,_::_,q=>by simp[q.2.len]
section
variable{X:Cx}{T:Tb}{W:Nat->L2.St->Hp->Prop}{Z:Zn}{F F1 B L:Addr->Prop}{H H1:Hp}{Y:L2.St}{env:En}{fp:Nat->List Addr}{js:List (Addr×Obj)}{s:Shared}
def PrH.at(I:L2.Inv X js Y H s):∀{vs:List V}{its:List Value}{ps:List (Int×Int)},PrH X.K H vs ps->aP vs its->cM s.heap its ps
 | [],_,[],_,r=>by cases r;trivial
 |_::_,_,_::_,⟨⟨a,e,h⟩,q⟩,r=>by
  cases r with
  |cons h1 h2=>
   subst e;cases h1;refine⟨?_,q.at I h2⟩;obtain⟨its,r,pl,_⟩:=I.tuple h;obtain⟨u,r2,rfl,⟨t,rfl⟩,r3⟩:∃u r2,its=u::r2/\bv _ u/\aP _ r2:=by cases r with|cons a b=>exact⟨_,_,rfl,a,b⟩
   obtain⟨u',rfl,⟨t',rfl⟩⟩:=dR r3;obtain⟨o,ho,hcl,n,hd⟩:=pl;exact⟨a,o,n,t,t',rfl,ho,hcl,hd⟩
def uS{vs:List V}{its:List Value}(r:aP vs its)(q:List Nat)(hq:∀i∈q,i<vs.length):aP (q.map fun i=>vs.getD i .non) (q.map fun i=>its.getD i Value.none):=by
 induction q with
 |nil=>exact .nil
 |cons i q ih=>
  refine .cons ?_ (ih fun j hj=>hq j (mem_cons_of_mem _ hj));have hi:=hq i mem_cons_self;have:∀{vs:List V}{its:List Value}{i:Nat},aP vs its->i<vs.length->bv (vs.getD i .non) (its.getD i Value.none):=by
   intro vs its i r
   induction r generalizing i with
   |nil=>intro h;simp at h
   |cons a b ih=>
    intro h;cases i with
    |zero=>simpa using a
    |succ i=>simpa using ih (by simpa using h)
  exact this r hi
def nU:∀{ns:List Int}{its:List Value},PyProof.Rows.IntsAre its ns->aP (ns.map V.int) its:=by
 intro ns its h
 induction h with
 |nil=>exact .nil
 |cons=>exact .cons ⟨_,rfl⟩ ‹_›
def pQ:dY X (.builtin "sorted") (fun xs H Q=>∃ p ys,xs=[.ref p]/\SqL X.K H p ys/\ys.length < 64 /\
    ((∃ ns,ys=ns.map V.int/\∀ l,H l=none->Q (.ref l) (upd H l (.lst ((gP ns).map V.int)))) \/
     (∃ps,PrH X.K H ys ps/\ps.Nodup/\∀l (q:List Nat),H l=none->q.Perm (range ys.length)->q.map (fun i=>ps.getD i (0,0))=aW ps->Q (.ref l) (upd H l (.lst (q.map fun i=>ys.getD i .non)))))):=by
  intro js s Y H xs us Q I rv h;obtain⟨p,ys,rfl,hq,h64,h⟩:=h;obtain⟨u,rfl,rx⟩:=dR rv;cases rx;obtain⟨its,r,pl,hz⟩:=I.list hq;have hlen:=r.length;have hfr:=I.hok.fresh (le_succ s.heap.objs.size);rcases h with⟨ns,rfl,q⟩ |⟨ps,hp,hd,q⟩
  . refine sorted_ints pl.isList (fX r) (by omega) fun out ns' a1 a2 a3=>?_;obtain⟨c,hc⟩:=sortedAll_at s.heap its out;have e:=kI a2 a3;subst e;refine⟨.ref (s.heap.objs.size+1),_,I.laid (fun b o=>sortedAll_old) (le_succ _) ?_,rfl,q _ hfr⟩;refine⟨?_,out.toList,c,nU a1,by simpa using hc⟩;rw[sizeLine_eq];simp[(cO ns).length_eq]at h64 ⊢;omega
  . refine nh pl.isList (by omega) (hp.at I r) hd fun p P a=>?_;obtain⟨c,hc⟩:=sortedAll_at s.heap its (kU its p);have hl:=hp.len;have pm:p.toList.Perm (range ys.length):=by rw[hlen];exact P.pm
    refine⟨.ref (s.heap.objs.size+1),_,I.laid (fun b o=>sortedAll_old) (le_succ _) ?_,rfl,q _ p.toList hfr pm (tV hd (by rw[<- hl,hlen];exact P) (by rw[<- hl,hlen];exact a))⟩;refine⟨?_,_,c,uS r p.toList (fun i hi=>by simpa using pm.mem_iff.mp hi),hc⟩;rw[sizeLine_eq];simp[P.sz,<- hlen];omega
end
end PR
namespace PR
open PySem PySem.Spec L2
def prV(x:Int×Int):PV:=.tup [.int x.1,.int x.2]
def kS:PV->Option (Int×Int)
 |.tup [.int a,.int b]=>some (a,b)
 |_=>none
def gW:List PV->Option (List (Int×Int))
 | []=>some []
 |x::xs=>match kS x,gW xs with
  |some y,some ys=>some (y::ys)
  |_,_=>none
def dH:PV->Res PV
 | .lst _ xs=>if decide (xs.length < 64) then (match bz xs with
  |some ns=>.ok (.lst .own ((gP ns).map .int))
  |none=>match gW xs with
   |some ps=>if decide ps.Nodup then .ok (.lst .own ((aW ps).map prV))else .stuck
   |none=>.stuck)else .stuck
 |_=>.stuck
section
variable{X:Cx}{T:Tb}{W:Nat->St->Hp->Prop}{Z:Zn}{F F1 B L:Addr->Prop}{H H1:Hp}{Y:St}{env:En}{fp:Nat->List Addr}
def t6(e:kS x=some y):x=prV y:=by
 unfold kS at e;split at e
 ·cases e;rfl
 ·cases e
def kR:∀{xs:List PV}{vs:List V}{f:List Addr}{ps:List (Int×Int)},gW xs=some ps->RelL T F B L H xs vs f->PrH T.K H vs ps/\f=[]
 | [],_,_,_,e,r=>by cases e;unfold RelL at r;obtain⟨rfl,rfl⟩:=r;exact⟨trivial,rfl⟩
 |x::xs,_,_,ps,e,r=>by
  unfold RelL at r;obtain⟨v,ws,f1,f2,rfl,h1,h2,rfl⟩:=r;unfold gW at e;cases e1:kS x with
  |none=>rw[e1]at e;cases e
  |some y=>
   cases e2:gW xs with
   |none=>rw[e1,e2]at e;cases e
   |some ys=>rw[e1,e2]at e;cases e;obtain⟨q,rfl⟩:=kR e2 h2;have:=t6 e1;subst this;unfold prV Rel at h1;obtain⟨a,us,rfl,hs,hr⟩:=h1;unfold RelL at hr;obtain⟨v1,w1,g1,g2,rfl,k1,k2,rfl⟩:=hr;obtain⟨v2,rfl,k3⟩:=RelL.one k2;unfold Rel at k1 k3;obtain⟨rfl,rfl⟩:=k1;obtain⟨rfl,rfl⟩:=k3;exact⟨⟨⟨a,rfl,hs⟩,q⟩,rfl⟩
def PrH.rel:∀{vs:List V}{ps:List (Int×Int)},PrH T.K H vs ps->RelL T F B L H (ps.map prV) vs []
 | [],[],_=>eX _ _ _ _
 |_::_,x::ps,⟨⟨a,e,h⟩,q⟩=>by subst e;rw[map_cons];unfold RelL;refine⟨_,_,[],[],rfl,?_,q.rel,rfl⟩;unfold prV Rel;refine⟨a,_,rfl,h,?_⟩;unfold RelL;refine⟨_,_,[],[],rfl,dP,?_,rfl⟩;unfold RelL;exact⟨_,_,[],[],rfl,dP,eX _ _ _ _,rfl⟩
def PrH.get:∀{vs:List V}{ps:List (Int×Int)},PrH K H vs ps->∀i,i<vs.length->∃a,vs.getD i .non=.ref a/\SqT K H a [.int (ps.getD i (0,0)).1,.int (ps.getD i (0,0)).2]
 |_::_,_::_,⟨h,q⟩,0,_=>by simpa using h
 |_::_,_::_,⟨_,q⟩,i+1,hi=>by simpa using q.get i (by simpa using hi)
 | [],[],_,_,hi=>by simp at hi
def PrH.map(h:PrH K H vs ps)(q:List Nat)(hq:∀i∈q,i<vs.length):PrH K H (q.map fun i=>vs.getD i .non) (q.map fun i=>ps.getD i (0,0)):=by
 induction q with
 |nil=>trivial
 |cons i q ih=>exact⟨h.get i (hq i mem_cons_self),ih fun j hj=>hq j (mem_cons_of_mem _ hj)⟩
def y4(ns:List Int):RelL T F B L H (ns.map PV.int) (ns.map V.int) []:=by
 induction ns with
 |nil=>exact eX _ _ _ _
 |cons a l ih=>rw[map_cons,map_cons];unfold RelL;exact⟨_,_,[],[],rfl,dP,ih,rfl⟩
def RelL.len2:∀{xs:List PV}{vs:List V}{f:List Addr},RelL T F B L H xs vs f->xs.length=vs.length
 | [],_,_,r=>by unfold RelL at r;rw[r.1];rfl
 |x::xs,_,_,r=>by unfold RelL at r;obtain⟨v,ws,f1,f2,rfl,_,h2,_⟩:=r;simp[h2.len2]
def qz(hK:X.K=T.K):Mir T W (p1 dH) (fun xs H Q=>∃ p ys,xs=[.ref p]/\SqL X.K H p ys/\ys.length < 64 /\
    ((∃ ns,ys=ns.map V.int/\∀ l,H l=none->Q (.ref l) (upd H l (.lst ((gP ns).map V.int)))) \/
     (∃ps,PrH X.K H ys ps/\ps.Nodup/\∀l (q:List Nat),H l=none->q.Perm (range ys.length)->q.map (fun i=>ps.getD i (0,0))=aW ps->Q (.ref l) (upd H l (.lst (q.map fun i=>ys.getD i .non)))))):=by
  intro B F L Y H Q F' H' xs vs fx g r nf nd new q
  match xs,r,q with
  | [x],r,q=>
    obtain⟨v,rfl,r1⟩:=r.one;simp only[p1]at q;cases x with
    |lst f xs=>
      unfold Rel at r1;obtain⟨a,ws,fp',rfl,hl,hr,_⟩:=r1;simp only[dH]at q;by_cases hn:decide (xs.length<64)=true
      . rw[if_pos hn]at q;refine⟨a,ws,rfl,by rw[hK];exact hl.sq,by rw[<- hr.len2];exact of_decide_eq_true hn,?_⟩;cases e1:bz xs with
        |some ns=>rw[e1]at q;dsimp only at q;exact .inl ⟨ns,cS e1 hr,GE.newL q g (y4 _) (fun _ h=>by cases h) .nil (fun _ h=>by cases h)⟩
        |none=>
          rw[e1]at q;dsimp only at q;cases e2:gW xs with
          |none=>rw[e2]at q;exact q.elim
          |some ps=>
            rw[e2]at q;dsimp only at q;by_cases hd:decide ps.Nodup=true
            . rw[if_pos hd]at q;obtain⟨hp,rfl⟩:=kR e2 hr;refine .inr ⟨ps,by rw[hK];exact hp,of_decide_eq_true hd,fun l q' hl' pm e=>?_⟩;have h2:=hp.map q' fun i hi=>by simpa using pm.mem_iff.mp hi
              rw[e]at h2;exact GE.newL q g h2.rel (fun _ h=>by cases h) .nil (fun _ h=>by cases h) l hl'
            . rw[if_neg hd]at q;exact q.elim
      . rw[if_neg hn]at q;exact q.elim
    |_=>exact q.elim
  | [],_,q=>exact q.elim
  |_::_::_,_,q=>simp only[p1]at q;exact q.elim
def uP:bootBuiltins "sorted"=some (.builtin "sorted"):=by decide +kernel
def iq(hK:X.K=T.K)(hg:Gl X "sorted")(hm:X.mg "sorted"=none)(ha:SE X T W e m)(he:starEach [e] X.env=[(false,eval e X.env)]:=by rfl):SE X T W (.Call (.Name "sorted" p) [e] [] pos) (au (p1 dH) (ae m am)):=
 eW pQ (qz hK) hg hm uP (ac ha ag (by rw[he];rfl)) (he:=by rw[he];rfl) (hpl:=rfl)
end
section
variable{X:Cx}{T:Tb}{W:Nat->St->Hp->Prop}{Z:Zn}{F:Addr->Prop}{H:Hp}{Y:St}{env:En}{fp:Nat->List Addr}
def dE(hg:Gl X x)(hm:∃t,X.mg x=some (.int i t))(hd:(x ==("__debug__":Str))=false:=by decide):SE X T W (.Name x pos) (mC (.int i)):=by obtain⟨t,h⟩:=hm;exact vk hg h hd
end
def gT{α:Type}(n:Nat)(y:α)(xs:List α):List α:=xs.take n++y::xs.drop n
def zr:PV->PV->Res PV:=eZ (fun _ j=>decide (0<=j)) fun i j=>.int (i / 2 ^ j.toNat)
def rW:PV->PV->Res PV:=j5 fun i j=>.int (Builtin.bitAnd i j)
def dD(ns:List Int):Bool:=ns.all fun v=>decide (-1000000<=v/\v<=1000000)
def nG:PV->Res PV:=fun x=>match aT x with
 |some xs=>match bz xs with
  |some ns=>if decide (ns.length<=1000)&&dD ns then .ok (.int ns.sum)else .stuck
  |none=>.stuck
 |none=>.stuck
def nD(ns:List Int):∀n,n<=ns.length->preSum (fun i=>ns.getD i 0) n=(ns.take n).sum
 |0,_=>rfl
 |n+1,h=>by have hn:n<ns.length:=h;have e:preSum (fun i=>ns.getD i 0) (n+1)=preSum (fun i=>ns.getD i 0) n+ns.getD n 0:=rfl;rw[e,nD ns n (by omega),take_add_one,getElem?_eq_getElem hn,Option.toList_some,sum_append,List.sum_singleton];simp[hn]
def l8:∀{ns:List Int},dD ns=true->-(1000000*ns.length:Int)<= ns.sum/\ns.sum<=1000000*ns.length
 | [],_=>by simp
 |n::ns,h=>by simp only[dD,all_cons,and_eq_true,decide_eq_true_eq]at h;have:=l8 (ns:=ns) (by simpa[dD]using h.2);simp only[sum_cons,length_cons];omega
def qf(h:dD ns=true)(k:Nat):dD (ns.take k)=true:=by simp only[dD,all_eq_true]at h ⊢;exact fun x hx=>h x (List.mem_of_mem_take hx)
section
variable{X:Cx}{T:Tb}{W:Nat->St->Hp->Prop}{Z:Zn}{F F1 B L:Addr->Prop}{H H1:Hp}{Y:St}{env:En}{fp:Nat->List Addr}{js:List (Addr×Obj)}{s:Shared}{a b:Expr}{ma mb:ME}{pos:Pos}
def A8(ha:SE X T W a ma)(hb:SE X T W b mb):SE X T W (.BinOp a .RShift b pos) (mOp zr ma mb):=j2 BN (o_ (fun _ _ h=>of_decide_eq_true h) fun _ _ _ _ _ _=>dP) ha hb
def yU(ha:SE X T W a ma)(hb:SE X T W b mb):SE X T W (.BinOp a .BitAnd b pos) (mOp rW ma mb):=j2 BR (k8 fun _ _ _ _ _ _=>dP) ha hb
def oe(hc:X.calm=true):dY X (.builtin "sum") (fun xs H Q=>∃p ns,xs=[.ref p]/\(SqL X.K H p (ns.map V.int)\/ SqT X.K H p (ns.map V.int))/\ns.length<=1000/\dD ns=true/\Q (.int ns.sum) H):=by
 intro js s Y H xs us Q I rv h;obtain⟨p,ns,rfl,hq,hn,hsm,q⟩:=h;obtain⟨u,rfl,rx⟩:=dR rv;cases rx;have hh:=I.ok.hd hc;have fit:∀m,m=ns.length->∀j,j<m->InLong (ns.getD j 0)/\InLong (preSum (fun i=>ns.getD i 0) (j+1)):=fun m e j hj=>by
  subst e;have h1:ns.getD j 0∈ns:=by simp[hj]
  simp only[dD,all_eq_true,decide_eq_true_eq]at hsm;have h2:=hsm _ h1;have h3:=l8 (qf (k:=j+1) (show dD ns=true by simpa[dD,all_eq_true]using hsm));rw[nD ns (j+1) hj];have h4:(ns.take (j+1)).length<=1000:=by simp;omega
  unfold InLong;omega
 have key:∀{its:List Value},aP (ns.map V.int) its->∀{h':Heap}{tk t':Nat},(∀b o,s.heap.get? b=some o->h'.get? b=some o)->EP X js Y Q (.int (preSum (fun i=>ns.getD i 0) its.toArray.size) t') {s with heap:=h',toks:=tk}:=by
  intro its r h' tk t' k;have hl:its.toArray.size=ns.length:=by have:=r.length;simpa using this.symm
  rw[hl,nD ns _ (Nat.le_refl _),take_length];exact⟨.int _,H,fg I k,⟨t',rfl⟩,q⟩
 rcases hq with hq|hq
 ·obtain⟨its,r,pl,hz⟩:=I.list hq;have hl:its.toArray.size=ns.length:=by have:=r.length;simpa using this.symm
  obtain⟨o,ho,hcl,n,hd⟩:=pl.isList;have hlt:=lt_size ho;refine call_sum_walk (wpAny_pyIter_list pl.isList ?_);refine⟨_,_,_,_,_,_,(fun i=>ns.getD i 0),rfl,Walks.list (A:=X.A.in1) hh _ p (Nat.ne_of_lt hlt) its.toArray,⟨⟨_,get?_push_size _ rfl,rfl,rfl⟩,pl.isList.push _⟩,fun b hb=>?_,dM r,fit _ hl,fun h' tk t' hk=>key r (dJ hk)⟩;show b <(s.heap.push _).objs.size;rw[size_push];exact gN hlt rfl b hb
 ·obtain⟨its,r,pl,hz⟩:=I.tuple hq;have hl:its.toArray.size=ns.length:=by have:=r.length;simpa using this.symm
  have pt:s.heap.IsTuple p its.toArray:=pl;obtain⟨o,ho,hcl,n,hd⟩:=pl;have hlt:=lt_size ho;refine call_sum_walk (wpAny_pyIter_tuple pt ?_);refine⟨_,_,_,_,_,_,(fun i=>ns.getD i 0),rfl,Walks.tuple (A:=X.A.in1) hh _ p (Nat.ne_of_lt hlt) its.toArray,⟨⟨_,get?_push_size _ rfl,rfl,rfl⟩,pt.push _⟩,fun b hb=>?_,dM r,fit _ hl,fun h' tk t' hk=>key r (dJ hk)⟩;show b <(s.heap.push _).objs.size;rw[size_push];exact gN hlt rfl b hb
def zE(hK:X.K=T.K):Mir T W (p1 nG) (fun xs H Q=>∃p ns,xs=[.ref p]/\(SqL X.K H p (ns.map V.int)\/ SqT X.K H p (ns.map V.int))/\ns.length<=1000/\dD ns=true/\Q (.int ns.sum) H):=by
 intro B F L Y H Q F' H' xs vs fx gr r nf nd new q
 match xs,r,q with
 | [x],r,q=>
  obtain⟨v,rfl,rv⟩:=RelL.one r;simp only[p1,nG]at q;cases e:aT x with
  |none=>rw[e]at q;exact q.elim
  |some ys=>
   rw[e]at q;dsimp only at q;cases e2:bz ys with
   |none=>rw[e2]at q;exact q.elim
   |some ns=>
    rw[e2]at q;dsimp only at q;obtain⟨a,us,fx',rfl,hs,hr,_⟩:=rv.seq e;have hu:=cS e2 hr;subst hu;split at q
    ·rename_i hc
     simp only[and_eq_true,decide_eq_true_eq]at hc;exact⟨a,_,rfl,by rw[hK];exact hs,hc.1,hc.2,q.scal gr dP⟩
    ·exact q.elim
 | [],_,q=>exact q.elim
 |_::_::_,_,q=>simp only[p1]at q;exact q.elim
def Di:bootBuiltins "sum"=some (.builtin "sum"):=by decide +kernel
def vf(hK:X.K=T.K)(hc:X.calm=true)(hg:Gl X "sum")(hm:X.mg "sum"=none)(ha:SE X T W e m)(he:starEach [e] X.env=[(false,eval e X.env)]:=by rfl):SE X T W (.Call (.Name "sum" p) [e] [] pos) (au (p1 nG) (ae m am)):=
 eW (oe hc) (zE hK) hg hm Di (ac ha ag (by rw[he];rfl)) (he:=by rw[he];rfl) (hpl:=rfl)
end
structure Sup(K:PySem.W.Frag)(C f:Addr):Prop where
 ga:specialIn K (.ref C) "__getattribute__"=some (some (.builtin "type.__getattribute__"))
 rd:readsIn K C (.type "type")=true
 fc:findCls K (.ref C) (.type "type") "__init__"=some (.val (.ref f))
 kp:PySem.W.keepIn K (.ref f)=true
def gM(m:List PV->Res PV)(ms:MA):MS:=fun env=>match (env[(0:Nat)]?:Option (Option PV))with
 |some (some (.obj .own c ks vs))=>match ms env with
  |.ok xs=>if hasL Fl.isLnt xs then .stuck else match m (.obj .own c ks vs::mapL Fl.toBor xs)with
   |.ok (.obj fl c' ks' vs')=>if(PV.obj fl c' ks' vs').has Fl.isBor then .stuck else .next (env.set 0 (some (.obj fl c' ks' vs')))
   |_=>.stuck
  |.exc c=>.exc c env
  |.stuck=>.stuck
 |_=>.stuck
section
variable{X:Cx}{T:Tb}{W:Nat->St->Hp->Prop}{Z:Zn}{F F1 F3:Addr->Prop}{H H1 H3:Hp}{Y:St}{env:En}{fp:Nat->List Addr}
def aA.sup(S:aA T Z F H Y env fp)(h0:Y[0]?=some (some v0))(hl:0<env.length)
  (nx:∀a∈fx,Z.H0 a=none\/Z.fp0 a) (nj:∀a∈fx,∀i,a∉fp i) (nF:∀a∈fx,¬F a) (cx:∀a∈fx,∃o,H a=some o/\Chg o)
  (hp3:bY T ⟨H,F,(·∈fp 0++fx),B',some v0⟩ F3 H3) (r:Rel T F3 B' NoL H3 o v0 f3) (hb:o.has Fl.isBor=false) (nd3:f3.Nodup) (nf3:∀a∈f3,¬F3 a) (new3:∀a∈f3,H a=none\/a∈fp 0++fx)
  (ho:∃fl c ks xs,o=.obj fl c ks xs):aA T Z F3 H3 Y (env.set 0 (some o)) (b_ fp 0 f3):=by
 have zfree:∀a,H a=none->Z.H0 a=none\/Z.fp0 a:=fun a z=>by
  by_cases q:Z.fp0 a
  ·exact .inr q
  ·refine .inl ?_;cases w:Z.H0 a with
   |none=>rfl
   |some o=>rw[S.hp.keep a o w q]at z;exact(nomatch z)
 have inn:∀a∈fp 0++fx,Z.H0 a=none\/Z.fp0 a:=fun a h=>by
  rcases mem_append.mp h with h|h
  ·exact S.new 0 a h
  ·exact nx a h
 have jn:∀j,j≠0->∀a∈fp j,a∉fp 0++fx:=fun j hj a ha z=>by
  rcases mem_append.mp z with z|z
  ·exact S.dj j 0 hj a ha z
  ·exact nj a z j ha
 have chgn:∀a∈fp 0++fx,∃o,H a=some o/\Chg o:=fun a h=>by
  rcases mem_append.mp h with h|h
  ·exact S.ch 0 a h
  ·exact cx a h
 have rel':Rel T F3 Z.B NoL H3 o v0 f3:=Rel.noB hb r;refine⟨⟨S.hp.bo,fun a u e n=>hp3.keep a u (S.hp.keep a u e n) fun z=>?_,fun a h=>hp3.f0 a (S.hp.f0 a h),fun a h=>?_,hp3.ft⟩,by rw[length_set,S.len],fun j pv e=>?_,fun j=>?_,fun j k hjk b hb=>?_,fun j b hb=>?_,fun j b hb=>?_,fun j b hb=>?_,fun w hw=>?_⟩
 ·rcases inn a z with q|q
  ·rw[e]at q;cases q
  ·exact n q
 ·rcases hp3.fn a h with z|z|z
  ·exact S.hp.fn a z
  ·exact .inr (zfree a z)
  ·exact .inr (inn a z)
 ·by_cases hj:j=0
  ·subst hj;rw[getElem?_set_self hl]at e;cases e;refine⟨v0,h0,?_⟩;unfold b_;rw[if_pos rfl];exact rel'
  ·rw[getElem?_set_ne (Ne.symm hj)]at e;obtain⟨w,h1,h2⟩:=S.rel j pv e;refine⟨w,h1,?_⟩;unfold b_;rw[if_neg hj];refine Rel.tr (fun a h=>hp3.f0 a h) (fun _ h=>h) (fun _ h=>h) (fun b u q h=>hp3.keep b u q fun z=>?_) (fun b hb u q=>hp3.keep b u q (jn j hj b hb)) h2;rcases h with h|h|h|h
   ·rcases mem_append.mp z with z|z
    ·exact(S.dis 0 b z).1 h
    ·exact nF b z h
   ·obtain⟨⟨o',e1⟩,e2⟩:=S.hp.bo.1 b h;rcases inn b z with q'|q'
    ·rw[e1]at q';cases q'
    ·exact e2 q'
   ·exact h
   ·obtain⟨o',e1,e2⟩:=chgn b z;have q1:H b=some u:=q;rw[q1]at e1;cases e1;cases u with
    |lst _|ins _ _ _=>exact h
    |_=>exact e2
 ·unfold b_;split
  ·exact nd3
  ·exact S.nd j
 ·grind[b_,aA,bY,Gr]
 ·unfold b_ at hb;by_cases h1:j=0
  ·rw[if_pos h1]at hb;exact⟨nf3 b hb,r.there b hb⟩
  ·rw[if_neg h1]at hb;obtain⟨n,u,e⟩:=S.dis j b hb;refine⟨fun z=>?_,u,hp3.keep b u e (jn j h1 b hb)⟩;rcases hp3.fn b z with q|q|q
   ·exact n q
   ·have q':H b=none:=q;rw[e]at q';cases q'
   ·exact jn j h1 b hb q
 ·unfold b_ at hb;by_cases h1:j=0
  ·rw[if_pos h1]at hb;rcases new3 b hb with q|q
   ·exact zfree b q
   ·exact inn b q
  ·rw[if_neg h1]at hb;exact S.new j b hb
 ·unfold b_ at hb;by_cases h1:j=0
  ·rw[if_pos h1]at hb;exact r.chg b hb
  ·rw[if_neg h1]at hb;obtain⟨u,e,c⟩:=S.ch j b hb;exact⟨u,hp3.keep b u e (jn j h1 b hb),c⟩
 ·obtain⟨h1,h2⟩:=S.pn w hw;refine⟨h1,?_⟩;obtain⟨fl,c,ks,xs,e⟩:=ho;subst e;unfold cR;rw[getElem?_set_self hl]
def A2
  (cx:Ctx X T W kk) (U:Sup X.K C f) (G:cU X.prog X.w X.K X.mg X.base (CXP X.prog X.w) k f fd ps (spI T ps.length m)) (hk:k<=kk) (hg:Gl X x) (hm:X.mg x=some (.ref C)) (hb:fq X.K fd ps [])
  (hN:X.N[0]?=some y) (hv:Vis X.env.scope y) (hn:gA ms n) (hps:n+1=ps.length) (ha:SA X T W es ms)
  (hdb:(x ==("__debug__":Str))=false:=by decide) (hdy:(y ==("__debug__":Str))=false:=by decide) (hcy:(y ==("__classdict__":Str))=false:=by decide)
  (hst:starEach (.Name y px::es) X.env=(false,eval (.Name y px) X.env)::starEach es X.env:=by rfl) (hpl:(backTo pos (starEach es X.env)).any (·.1)=false:=by rfl)
  (ht:eval (.Call (.Attribute (.Name x p) "__init__" apos) (.Name y px::es) [] pos) X.env=(do
   let ov <- eval (.Name x p) X.env
   standAt apos.atName
   let(f,first) <- holding [ov] (getMethod ov "__init__" pl)
   callWith pos f first (backTo pos (starEach (.Name y px::es) X.env)) (backToKw pos (keywordEach [] X.env))):=by rfl)
  (hs:swapsWith (.Call (.Attribute (.Name x p) "__init__" apos) (.Name y px::es) [] pos) none pos'.line X.env=pure false:=by rfl) :
  SS X T W (.Expr (.Call (.Attribute (.Name x p) "__init__" apos) (.Name y px::es) [] pos) pos') (gM m ms):=by
 have pe:PE X (.Call (.Attribute (.Name x p) "__init__" apos) (.Name y px::es) [] pos) (fun Y H Q=>∃ Z F env fp,aA T Z F H Y env fp/\(match gM m ms env with
   |.next e=>∀F' H' fp',aA T Z F' H' Y e fp'->Q .non H'
   |.exc c e=>∀F' H' fp',aA T Z F' H' Y e fp'->W c Y H'
   |_=>False)):=by
  intro js s Y H Q I h;obtain⟨Z,F,env,fp,S,q⟩:=h;refine PySem.W.methodCall_KW (pl:=pl) (jr I hg hm ?_ hdb) ht;refine PySem.W.method_cls I.kIn U.ga (PySem.W.cls_value I.kIn U.rd U.fc rfl ?_);have I':=I.tok (s.toks+1);unfold gM at q;cases e0:env[0]? with
  |none=>rw[e0]at q;exact q.elim
  |some o0=>
  cases o0 with
  |none=>rw[e0]at q;exact q.elim
  |some ov=>
  obtain⟨v0,hv0,r0⟩:=S.rel 0 ov e0;have hl0:0<env.length:=(List.getElem?_eq_some_iff.mp e0).1;rw[e0]at q;by_cases hob:∃c ks vs,ov=.obj .own c ks vs
  case neg=>
   exfalso;cases ov with
   |obj fl c ks vs=>
    cases fl with
    |own=>exact hob ⟨_,_,_,rfl⟩
    |_=>exact q
   |_=>exact q
  obtain⟨c,ks,vs0,rfl⟩:=hob;dsimp only at q;have pa:=da (X:=X) (dG (pos:=px) hN hv hdy hcy) ha hst;refine callWith_K (first:=[]) (h₀:=X.base) I'.ok.mod.kin U.kp (thn (pa pos js _ Y H (fun vs H1=>∀ us s1,L2.Inv X js Y H1 s1->aP vs us->wpAny (model X.prog X.w) X.A (call (.ref f) us) (EP X js Y Q) X.xe s1) I'
   ⟨v0,hv0,tA.bind S (fun c e=>?_) (fun e=>by rw[e]at q;exact q) fun xs vs H1 F1 f1 e1 g1 r1 n1 d1 w1 us s1 I1 rv=>?_⟩) fun us s1 ⟨vs,H1,I1,r,q1⟩=>⟨I1.kIn,q1 us s1 I1 r⟩) hst hpl
  ·rw[e]at q;exact fun H' x=>q F H' fp (S.grow (Gr.same S.hp.ft x))
  rw[e1]at q;dsimp only at q;by_cases hln:hasL Fl.isLnt xs=true
  ·rw[if_pos hln]at q;exact q.elim
  rw[if_neg hln]at q;have hln':hasL Fl.isLnt xs=false:=by simpa using hln
  have S1:=S.grow g1;obtain⟨v0',hv0',r0'⟩:=S1.rel 0 _ e0;rw[hv0]at hv0';cases hv0';have xn:∀a∈f1,∀i,a∉fp i:=fun a ha i hi=>by obtain⟨_,o,e⟩:=S.dis i a hi;rw[w1 a ha]at e;cases e
  have xz:∀a∈f1,Z.H0 a=none\/Z.fp0 a:=fun a ha=>by
   by_cases q:Z.fp0 a
   ·exact .inr q
   ·refine .inl ?_;cases w:Z.H0 a with
    |none=>rfl
    |some o=>have:=w1 a ha;rw[S.hp.keep a o w q]at this;cases this
  have hBo:∀a,Z.B a->(∃o,H1 a=some o)/\a∉fp 0++f1:=fun a h=>by
   obtain⟨⟨o,h1⟩,h2⟩:=S.hp.bo.1 a h;have h3:=S.hp.keep a o h1 h2;refine⟨⟨o,g1.ext a o h3⟩,fun z=>?_⟩;rcases mem_append.mp z with z|z
   ·exact S.bow a h ⟨0,z⟩
   ·rw[w1 a z]at h3;cases h3
  have R:rj T F1 (fun a=>(∃o,H1 a=some o)/\a∉fp 0++f1) H1 (.obj .own c ks vs0::mapL Fl.toBor xs) (v0::vs) (fp 0++f1):=by
   refine⟨?_,nodup_append.mpr ⟨S.nd 0,d1,fun a ha b hb z=>by subst z;exact xn a hb 0 ha⟩,fun a ha=>?_,⟨fun a h=>h,S.tbo g1.ext fun a z=>(mem_append.mp z).elim (fun z=>.inr ⟨0,z⟩) fun z=>.inl (w1 a z)⟩,g1.dom⟩
   ·unfold RelL;refine⟨v0,vs,fp 0,f1,rfl,Rel.tr (fun _ h=>h) hBo (fun _ h=>h) (fun _ _ q _=>q) (fun _ _ _ q=>q) r0',?_,rfl⟩;exact RelL.toBor hBo (fun _ h=>h.elim) (RelL.noL (L':=NoL) hln' r1)
   ·rcases mem_append.mp ha with ha|ha
    ·exact(S1.dis 0 a ha).1
    ·exact n1 a ha
  have r2:aP (v0::vs) us:=rv;have hl:us.length=ps.length:=by rw[<- r2.length,length_cons,<- r1.length,hn env xs e1];exact hps
  refine wpAny_call (codeAny_mono (G.run X.A X.stack s1 H1 ⟨us,[]⟩ us (v0::vs) Q (fun cls _ H'=>∃ c,cls=.ref (T.xcl c)/\W c Y H') (cx.room.mono hk) I1.env0 (by simpa using hb s1 us I1.kIn (by simpa using hl)) r2
   ⟨by rw[r2.length,hl],v0,_,F1,_,_,rfl,R,⟨.own,c,ks,vs0,rfl⟩,?_⟩) fun rs s' hq=>?_)
  ·cases e:m (.obj .own c ks vs0::mapL Fl.toBor xs)with
   |ok o=>
    rw[e]at q;cases o with
    |obj fl c' ks' vs'=>
     dsimp only at q;by_cases hbr:(PV.obj fl c' ks' vs').has Fl.isBor=true
     ·rw[if_pos hbr]at q;exact q.elim
     ·rw[if_neg hbr]at q;dsimp only at q;have hbr':(PV.obj fl c' ks' vs').has Fl.isBor=false:=by simpa using hbr
      intro F3 H3 f3 hp3 r3 nd3 nf3 new3;exact q F3 H3 _ (S1.sup hv0 hl0 xz xn n1 r1.chg hp3 r3 hbr' nd3 nf3 new3 ⟨_,_,_,_,rfl⟩)
    |_=>exact q.elim
   |exc c|stuck=>rw[e]at q;exact q.elim
  ·cases rs with
   |error e=>obtain⟨cls,H',fl,c,rfl,hw⟩:=hq;exact cx.xf js Y H1 s1 c H' e s' I1 fl hw
   |ok fl=>
    cases fl with
    |ret u=>exact I1.after hq
    |next|brk|cont=>exact False.elim hq
 exact PS.wk (km (pos:=pos') pe hs) fun D Y H hz1=>by
  obtain⟨Z,F,env,fp,S,q⟩:=hz1;refine⟨Z,F,env,fp,S,?_⟩;cases e:gM m ms env with
  |next e'|exc c e'=>rw[e]at q;exact fun F' H' fp' S'=>q F' H' Y fp' S'
  |ret v=>
   exfalso;revert e;unfold gM;split
   ·split
    ·split
     ·simp
     ·split
      ·split<;>simp
      ·simp
    ·simp
    ·simp
   ·simp
  |brk e'=>
   exfalso;revert e;unfold gM;split
   ·split
    ·split
     ·simp
     ·split
      ·split<;>simp
      ·simp
    ·simp
    ·simp
   ·simp
  |cont e'=>
   exfalso;revert e;unfold gM;split
   ·split
    ·split
     ·simp
     ·split
      ·split<;>simp
      ·simp
    ·simp
    ·simp
   ·simp
  |stuck=>rw[e]at q;exact q
end
end PR
namespace PR
open PySem PySem.Spec L2 PyProof.Rows
def iK(lo c:Int)(n:Nat):List PV:=(range n).map fun k=>.int (lo+(k:Nat)*c)
def kN(i j c:Int):Nat:=(Builtin.Range.rangeSize i j c).toNat
def inM(i:Int):Bool:=decide (-1000000<=i/\i<=1000000)
def mF(ms:MA):MI:=fun env=>(ms env).bind fun xs=>match xs with
 | [.int i,.int j,.int c]=>if inM i&&inM j&&inM c&&decide (c≠0)then .ok (iK i c (kN i j c))else .stuck
 |_=>.stuck
def yi(lo c:Int)(n:Nat):It:=⟨fun i _=>i<n,fun i H x H'=>H'=H/\x=.int (lo+(i:Nat)*c),fun i _=>n<=i⟩
def oA{P:Program}{w:World}{K:PySem.W.Frag}(it:Addr)(lo c:Int)(n:Nat):qY P w K tg (yi lo c n) [it] it (fun i h=>IsRangeIter h it (lo+(i:Nat)*c) ((n:Int)-(i:Nat)) c) where
 mem:=by simp
 obj:=fun i h st b hb=>by
  have e:b=it:=by simpa using hb
  subst e;exact ⟨_,st,fun v z=>by
   have z':Data.fields _=Data.cell v:=z;cases z'⟩
 keep:=fun i h h' st k=>k it (by simp) _ st
 item:=by intro X hP hw hK hc i js s Y H E I hf st hg;subst hP hw hK;obtain⟨f0,f1,f2,f3,f4,f5⟩:=hf it (by simp);have W:=Walks.range (prog:=X.prog) (w:=X.w) (I.ok.hd hc) it lo c n;refine W.item i s _ _ hg st fun v h' tk hv st' kk=>?_;obtain⟨t,rfl⟩:=hv;have I1:L2.Inv X js Y H {s with heap:=h',toks:=tk}:=I.turned (fun b o hb e=>kk b o (by simpa using hb) e) f0 f1 f3 f4 f5;exact⟨_,rfl,sy (s:={s with heap:=h',toks:=tk}) (n:="range_iterator") st' rfl rfl (by decide) ⟨.int (lo+(i:Nat)*c),H,I1,⟨t,rfl⟩,⟨rfl,rfl⟩,st',fun b hb=>(hf b hb).1⟩⟩
 done:=by intro X hP hw hK hc i js s Y H E I hf st hg;subst hP hw hK;obtain⟨f0,f1,f2,f3,f4,f5⟩:=hf it (by simp);exact wpAny_pyNext_range_end (I.ok.hd hc) st (by have:n<=i:=hg;omega) fun h' eb=>⟨rfl,I.turned (t':=s.toks) (fun b o hb e=>eb b o hb e) f0 f1 f3 f4 f5⟩
 self:=fun _ _ _ _ _ st h=>wpAny_pyIter_rangeiter st h
def j1(ha:-1000000<=a/\a<=1000000)(hb:-1000000<=b/\b<=1000000)(hc:-1000000<=c/\c<=1000000)(h0:c≠0):0<=Builtin.Range.rangeSize a b c/\Builtin.Range.rangeSize a b c<=3000000:=by
 unfold Builtin.Range.rangeSize;split
 ·rename_i hp
  split
  ·have h1:0 <=(b-a-1) / c:=Int.ediv_nonneg (by omega) (by omega);have h2:(b-a-1) / c<=b-a-1:=Int.ediv_le_self _ (by omega);omega
  ·omega
 ·rename_i hp
  split
  ·have h1:0 <=(a-b-1) / (-c):=Int.ediv_nonneg (by omega) (by omega);have h2:(a-b-1) / (-c)<= a-b-1:=Int.ediv_le_self _ (by omega);omega
  ·omega
def yH(ha:-1000000<=a/\a<=1000000)(hb:-1000000<=b/\b<=1000000)(hc:-1000000<=c/\c<=1000000)(h0:c≠0):Builtin.Range.small a b c=true:=by
 have hz:=j1 ha hb hc h0;unfold Builtin.Range.small;simp only[Builtin.Range.rangeFitsLong,and_eq_true,or_eq_true,decide_eq_true_eq,beq_iff_eq];generalize Builtin.Range.rangeSize a b c=z at hz;refine⟨⟨⟨⟨by omega,by omega⟩,by omega⟩,by omega⟩,.inr ?_⟩;split
 ·simp only[and_eq_true,decide_eq_true_eq];omega
 ·simp only[and_eq_true,decide_eq_true_eq];omega
section
variable{X:Cx}{T:Tb}{W:Nat->L2.St->Hp->Prop}{Z:Zn}{F F1 B L:Addr->Prop}{H H1:Hp}{Y:L2.St}{env:En}{fp:Nat->List Addr}{D:Ends}
def tR{js:List (Addr×Obj)}{s:Shared}{R:It->Hp->Prop}{E:Value->Shared->Prop}{lo hi c:Int}{t u v:Tok}{tk:Nat}(I:L2.Inv X js Y H s)(ha:-1000000<=lo/\lo<=1000000)(hb:-1000000<=hi/\hi<=1000000)(hc:-1000000<=c/\c<=1000000)(h0:c≠0)
  (q:R (yi lo c (kN lo hi c)) H):wpAny (model X.prog X.w) X.A (pyIter (.ref s.heap.objs.size)) (PIE X js Y tg R) E {s with heap:=s.heap.push {cls:=.type "range",data:=.fields #[.int lo t,.int hi u,.int c v]},toks:=tk}:=by
 refine wpAny_pyIter_range (IsRange.new ..) (yH ha hb hc h0) ?_;have I1:L2.Inv X js Y H {s with heap:=s.heap.push {cls:=.type "range",data:=.fields #[.int lo t,.int hi u,.int c v]},toks:=tk}:=I.kept fun b o e=>get?_push_of_some _ e;refine ⟨(s.heap.push { cls:=.type "range", data:=.fields #[.int lo t,.int hi u,.int c v] }).objs.size,[(s.heap.push { cls:=.type "range", data:=.fields #[.int lo t,.int hi u,.int c v] }).objs.size],_,_,H,rfl,
  I1.kept (t':=tk) fun b o e=>get?_push_of_some _ e,oA _ lo c (kN lo hi c),?_,fun b hb=>?_,q⟩
 ·have e1:lo+((0:Nat):Int)*c=lo:=by simp
  have e2:((kN lo hi c:Nat):Int)-((0:Nat):Int)=Builtin.Range.rangeSize lo hi c:=by have:=(j1 ha hb hc h0).1;unfold kN;omega
  show IsRangeIter _ _ (lo+((0:Nat):Int)*c) (((kN lo hi c:Nat):Int)-((0:Nat):Int)) c;rw[e1,e2];exact get?_push_size _ rfl
 ·have e:b=(s.heap.push {cls:=.type "range",data:=.fields #[.int lo t,.int hi u,.int c v]}).objs.size:=by simpa using hb
  subst e;exact I1.fpOk (Nat.le_refl _) (I1.hok.fresh (Nat.le_refl _))
def FN(ta:TA):TI:=fun Y H R=>ta Y H fun vs H1=>∃i j c:Int,vs=[.int i,.int j,.int c]/\(-1000000<=i/\i<=1000000)/\(-1000000<=j/\j<=1000000)/\(-1000000<=c/\c<=1000000)/\c≠0/\R (yi i c (kN i j c)) H1
def tY(hg:Gl X "range")(hm:X.mg "range"=none)(ha:PA X [a,b,c] ta)(hs:starEach [a,b,c] X.env=[(false,eval a X.env),(false,eval b X.env),(false,eval c X.env)]:=by rfl)
  (hs2:starEach [b,c] X.env=[(false,eval b X.env),(false,eval c X.env)]:=by rfl):PI X tg (.Call (.Name "range" p) [a,b,c] [] pos) (FN ta):=by
 intro js s Y H R I h;refine Call_ (fE I hg hm boot_range (PyProof.Rows.callWith_type1 (thn (ha pos js s Y H _ I h) fun us s1 zz=>?_) (by rw[hs,hs2]) (by rw[hs2];rfl)));obtain⟨vs,H1,I1,r1,q1⟩:=zz;obtain⟨i,j,k,e,q1,q2,q3,q4,q⟩:=q1;subst e;cases r1 with
 |cons r rr=>
  cases rr with
  |cons r' rr=>
   cases rr with
   |cons r'' rr=>cases rr;obtain⟨t,rfl⟩:=r;obtain⟨t',rfl⟩:=r';obtain⟨t'',rfl⟩:=r'';exact call_range_3 q4 (tR I1 q1 q2 q3 q4 q) (.inl (PyProof.noPylong_small (by omega)))
def wE{lo c:Int}{n:Nat}{Ow:Addr->Prop}:ItR T F1 B Ow H1 (yi lo c n) (iK lo c n):=by
 apply ItR.of0;intro H2 _;refine⟨fun i x ex=>?_,by simp[iK,yi]⟩;have hi:i<n:=by have:=(List.getElem?_eq_some_iff.mp ex).1;simpa[iK]using this
 refine⟨hi,fun v H3 hy=>⟨hy.1,?_⟩⟩;obtain⟨_,rfl⟩:=hy;have:x=.int (lo+(i:Nat)*c):=by simp[iK,hi]at ex;exact ex.symm
 subst this;exact dP
def p9(r:RelL T F B L H [.int i,.int j,.int c] vs f):vs=[.int i,.int j,.int c]:=by unfold RelL at r;obtain⟨v,ws,f1,f2,rfl,h1,h2,_⟩:=r;unfold RelL at h2;obtain⟨v2,ws,f1,f2,rfl,h3,h4,_⟩:=h2;obtain⟨v3,rfl,h5⟩:=h4.one;unfold Rel at h1 h3 h5;rw[h1.1,h3.1,h5.1]
def md(hg:Gl X "range")(hm:X.mg "range"=none)(ha:SA X T W [a,b,c] ms)(hs:starEach [a,b,c] X.env=[(false,eval a X.env),(false,eval b X.env),(false,eval c X.env)]:=by rfl)
  (hs2:starEach [b,c] X.env=[(false,eval b X.env),(false,eval c X.env)]:=by rfl):SI X T W tg (.Call (.Name "range" p) [a,b,c] [] pos) (mF ms):=fun js s Y H R I h=>tY hg hm ha hs hs2 js s Y H R I (by
 obtain⟨Z,F,env,fp,S,q⟩:=h;unfold mF at q;refine tA.bind S (fun c e=>by rw[e]at q;exact q) (fun e=>by rw[e]at q;exact q) fun xs vs H1 F1 f1 e1 g1 r1 n1 d1 w1=>?_;rw[e1]at q;simp only[Res.ok_bind]at q;split at q
 ·rename_i i j k
  split at q
  ·rename_i hc
   simp only[inM,and_eq_true,decide_eq_true_eq]at hc;exact⟨i,j,k,p9 r1,hc.1.1.1,hc.1.1.2,hc.1.2,hc.2,q _ H1 F1 g1 wE⟩
  ·exact q.elim
 ·exact q.elim)
end
end PR
namespace PR
open PySem PySem.Spec L2
def whL(c:MT)(b:MS):Nat->MS
 |0,_=>.stuck
 |k+1,env=>match c env with
  |.ok true=>match b env with
   |.next e|.cont e=>whL c b k e
   |.brk e=>.next e
   |.ret v=>.ret v
   |.exc x e=>.exc x e
   |.stuck=>.stuck
  |.ok false=>.next env
  |.exc x=>.exc x env
  |.stuck=>.stuck
def jQ(c:MT)(b:MS):MS:=whL c b 100000
section
variable{X:Cx}{T:Tb}{W:Nat->St->Hp->Prop}
def oG(hp:PassesOwn (model X.prog X.w) X.A X.env X.xe)(hc:ST X T W c mc)(hb:SSs X T W body mb):SS X T W (.While c body [] pos) (jQ mc mb):=
 PS.wk (vF (pos:=pos) hp hc hb) fun D Y H hz1=>by
  obtain⟨Z,F,env,fp,S,q⟩:=hz1;unfold jQ at q;refine⟨fun m σ' H'=>∃F' env' fp',aA T Z F' H' σ' env' fp'/\GS T W Z D (whL mc mb m env'),⟨100000,F,env,fp,S,q⟩,?_⟩;rintro m σ' H' ⟨F',env',fp',S',q'⟩;cases m with
  |zero=>exact q'.elim
  |succ k=>
   unfold whL at q';refine tT.bind S' (fun c e H2 x=>?_) (fun e=>by rw[e]at q';exact q') fun b H1 F1 e g=>?_
   ·rw[e]at q';exact q' F' H2 σ' fp' (S'.grow (Gr.same S'.hp.ft x))
   ·cases b with
    |false=>rw[e]at q';exact(if_neg (by decide)).mpr (q' F1 H1 σ' fp' (S'.grow g))
    |true=>
     rw[e]at q';dsimp only at q';refine(if_pos rfl).mpr ⟨fun σ2 H2=>∃F2 env2 fp2,aA T Z F2 H2 σ2 env2 fp2/\GS T W Z D (whL mc mb k env2),fun σ2 H2 h=>⟨k,Nat.lt_succ_self k,h⟩,Z,F1,env',fp',S'.grow g,?_⟩;cases eb:mb env' with
     |next e2|cont e2=>rw[eb]at q';exact fun F3 H3 σ3 fp3 S3=>⟨F3,e2,fp3,S3,q'⟩
     |brk e2|ret v|exc c e2|stuck=>rw[eb]at q';exact q'
end
def eF:List PV->Option (List Bool)
 | []=>some []
 |.bl b::xs=>(eF xs).map (b::·)
 |_=>none
def vU(f:List Bool->Bool):PV->Res PV
 |.lst _ xs=>match eF xs with
  |some bs=>.ok (.bl (f bs))
  |none=>.stuck
 |_=>.stuck
def pY(bs:List Bool):Bool:=bs.all id
section
variable{X:Cx}{T:Tb}{W:Nat->St->Hp->Prop}{Z:Zn}{F F1 B L:Addr->Prop}{H H1:Hp}{Y:St}{env:En}{fp:Nat->List Addr}{js:List (Addr×Obj)}{s:Shared}
def mV:∀{xs:List PV}{vs:List V}{f:List Addr}{bs:List Bool},eF xs=some bs->RelL T F B L H xs vs f->vs=bs.map V.bl
 | [],_,_,_,e,h=>by simp only[eF,Option.some.injEq]at e;subst e;unfold RelL at h;rw[h.1];rfl
 |.bl b::xs,_,_,bs,e,h=>by
  simp only[eF]at e;cases e2:eF xs with
  |none=>rw[e2]at e;cases e
  |some ms=>rw[e2]at e;cases e;unfold RelL at h;obtain⟨v,ws,f1,f2,rfl,h1,h2,_⟩:=h;unfold Rel at h1;rw[h1.1,mV e2 h2];rfl
 |.non::_,_,_,_,e,_|.int _::_,_,_,_,e,_|.str _::_,_,_,_,e,_|.lst _ _::_,_,_,_,e,_|.tup _::_,_,_,_,e,_|.obj _ _ _ _::_,_,_,_,e,_|.exc _::_,_,_,_,e,_|.box _ _::_,_,_,_,e,_=>by simp[eF]at e
def xB:∀{bs:List Bool}{its:List Value},aP (bs.map V.bl) its->∀(i:Nat) (v:Value),its.toArray[i]?=some v->v=.bool (bs.getD i false)
 | [],_,r,i,v,e=>by cases r;simp at e
 |b::bs,_,r,i,v,e=>by
  cases r with
  |cons r1 r2=>
   cases i with
   |zero=>simp at e;subst e;exact r1
   |succ i=>exact xB r2 i v (by simpa using e)
def yX(bs:List Bool)(n:Nat)(h:n=bs.length):(range n).all (fun i=>bs.getD i false)=pY bs:=by
 subst h;unfold pY;rw[Bool.eq_iff_iff,all_eq_true,all_eq_true];refine⟨fun z x hx=>?_,fun z i hi=>?_⟩
 ·obtain⟨i,hi,e⟩:=getElem_of_mem hx;have:=z i (mem_range.mpr hi);rw[<- e];simpa[hi]using this
 ·have hi':=mem_range.mp hi;have:=z bs[i] (getElem_mem hi');simpa[hi']using this
def uN{bs:List Bool}{its:List Value}(r:aP (bs.map V.bl) its):TruthOf X.prog X.w A (fun i v=>its.toArray[i]?=some v) (fun i=>bs.getD i false):=fun i v s Q E hP hQ=>by rw[xB r i v hP];exact wpAny_truthy_bool hQ
def om(hc:X.calm=true):dY X (.builtin "all") (fun xs H Q=>∃p bs,xs=[.ref p]/\SqL X.K H p (bs.map V.bl)/\Q (.bl (pY bs)) H):=by
 intro js s Y H xs us Q I rv h;obtain⟨p,bs,rfl,hq,q⟩:=h;obtain⟨u,rfl,rx⟩:=dR rv;cases rx;have hh:=I.ok.hd hc;obtain⟨its,r,pl,hz⟩:=I.list hq;have hl:its.toArray.size=bs.length:=by have:=r.length;simpa using this.symm
 obtain⟨o,ho,hcl,n,hd⟩:=pl.isList;have hlt:=lt_size ho;have key:∀{h':Heap}{tk:Nat},(∀b o,s.heap.get? b=some o->h'.get? b=some o)->EP X js Y Q (.bool (pY bs)) {s with heap:=h',toks:=tk}:=fun k=>⟨.bl _,H,fg I k,rfl,q⟩
 refine call_all_walk (wpAny_pyIter_list pl.isList ?_);refine⟨_,_,_,_,_,_,(fun i=>bs.getD i false),rfl,Walks.list (A:=X.A.in1) hh _ p (Nat.ne_of_lt hlt) its.toArray,⟨⟨_,get?_push_size _ rfl,rfl,rfl⟩,pl.isList.push _⟩,uN r,fun h' tk hk=>?_⟩;rw[yX bs _ hl];exact key (dJ hk)
def zH(hK:X.K=T.K)(f:List Bool->Bool):Mir T W (p1 (vU f)) (fun xs H Q=>∃p bs,xs=[.ref p]/\SqL X.K H p (bs.map V.bl)/\Q (.bl (f bs)) H):=by
 intro B F L Y H Q F' H' xs vs fx gr r nf nd new q
 match xs,r,q with
 | [x],r,q=>
  obtain⟨v,rfl,rv⟩:=RelL.one r;simp only[p1]at q;cases x with
  |lst fl ys=>
   simp only[vU]at q;cases e2:eF ys with
   |none=>rw[e2]at q;exact q.elim
   |some bs=>rw[e2]at q;dsimp only at q;unfold Rel at rv;obtain⟨a,us,fp',rfl,hl,hr,_⟩:=rv;have hu:=mV e2 hr;subst hu;exact⟨a,_,rfl,by rw[hK];exact hl.sq,q.scal gr lQ⟩
  |_=>exact q.elim
 | [],_,q=>exact q.elim
 |_::_::_,_,q=>simp only[p1]at q;exact q.elim
def Dm:bootBuiltins "all"=some (.builtin "all"):=by decide +kernel
def Be(hK:X.K=T.K)(hc:X.calm=true)(hg:Gl X "all")(hm:X.mg "all"=none)(ha:SE X T W e m)(he:starEach [e] X.env=[(false,eval e X.env)]:=by rfl):SE X T W (.Call (.Name "all" p) [e] [] pos) (au (p1 (vU pY)) (ae m am)):=
 eW (om hc) (zH hK pY) hg hm Dm (ac ha ag (by rw[he];rfl)) (he:=by rw[he];rfl) (hpl:=rfl)
end
end PR
namespace PR
open PySem PySem.Spec L2
def kT:PV->Res PV
 |.bl b=>.ok (.int (if b then 1 else 0))
 |.int i=>.ok (.int i)
 |_=>.stuck
section
variable{X:Cx}{T:Tb}{W:Nat->St->Hp->Prop}
def pR:dY X (.type "int") (fun xs H Q=>(∃b,xs=[.bl b]/\Q (.int (if b then 1 else 0)) H)\/ ∃i,xs=[.int i]/\Q (.int i) H):=by
 intro js s Y H xs us Q I rv h;rcases h with⟨b,rfl,q⟩ |⟨i,rfl,q⟩
 ·obtain⟨u,rfl,rx⟩:=dR rv;cases rx;exact PySem.call_int_bool ⟨.int _,H,fg I fun _ _ e=>e,⟨_,rfl⟩,q⟩
 ·obtain⟨u,rfl,rx⟩:=dR rv;obtain⟨t,rfl⟩:=rx;exact PySem.call_int_int ⟨.int _,H,I,⟨_,rfl⟩,q⟩
def ue:Mir T W (p1 kT) (fun xs H Q=>(∃b,xs=[.bl b]/\Q (.int (if b then 1 else 0)) H)\/ ∃i,xs=[.int i]/\Q (.int i) H):=by
 intro B F L Y H Q F' H' xs vs fx g r nf nd new q
 match xs,r,q with
 | [x],r,q=>
  obtain⟨v,rfl,r1⟩:=r.one;cases x with
  |bl b=>unfold Rel at r1;obtain⟨rfl,_⟩:=r1;exact .inl ⟨b,rfl,q.scal g dP⟩
  |int i=>unfold Rel at r1;obtain⟨rfl,_⟩:=r1;exact .inr ⟨i,rfl,q.scal g dP⟩
  |_=>exact q.elim
 | [],_,q|_::_::_,_,q=>exact q.elim
def vj(hg:Gl X "int")(hm:X.mg "int"=none)(ha:SE X T W e m)(he:starEach [e] X.env=[(false,eval e X.env)]:=by rfl):SE X T W (.Call (.Name "int" p) [e] [] pos) (au (p1 kT) (ae m am)):=
 jH pR ue hg hm Dl (ac ha ag he) (he:=he)
end
open AutoSeq1 (wpAny_loadPart')
section
variable{prog:Program}{w:World}{A:Around}{E:Value->Shared->Prop}{s:Shared}
def mU(ft:TypeCalled T nI iI)
  (c1:checkTypeCall T ⟨us,kw⟩=pure ()) (c2:checkBuiltinCall nI ⟨.type T::us,kw⟩=pure ()) (eN:entryFor table nI=some Bn) (eI:entryFor table iI=some Bi) (g:Meets (Bn ⟨.type T::us,kw⟩) S)
  (h:S A.in1 (wants Q1 E) s) (nx:∀ob s1,Q1 ob s1->s1.TypeIs ob T/\argsOk iI ⟨ob::us,kw⟩/\∃Si,Meets (Bi ⟨ob::us,kw⟩) Si/\Si A.in1 (wants (fun r s2=>r=.none/\Q ob s2) E) s1) :
  wpAny (model prog w) A (call (.type T) us kw) Q E s:=by
 obtain⟨cc,tt,hmro⟩:=ft.mro;have hmade:=ft.made;have hsub:=ft.sub;have h1:=ft.notType;have h2:=ft.canCreate;refine wpAny_call (codeAny_of_tree (show wpAny _ _ (callAny (.type T) _) _ _ _ from wpAny_pure ⟨Code.quiet_builtin _ (by decide +kernel),codeAny_builtin F.entry_type_call ?_⟩));rw[Around.under_plain (weight_type_call_type T us kw) (units_type_call_type T us kw)]
 repeat (any_goals (first|assumption|wp_step|fail))
 refine codeAny_mono (codeAny_call_builtin ft.plain eN (wpAny_of_eq c2 (g prog w A.in1 _ s h))) fun r s1 hr=>?_;cases r with
 |error e=>exact hr
 |ok fl=>
  cases fl with
  |ret ob=>
   obtain⟨hT,hok,Si,gi,hsi⟩:=nx _ _ hr;have hli:=ft.init.lookup;have hbi:=ft.init.bind ob
   repeat (any_goals (first|assumption|wp_step|fail))
   refine codeAny_mono (codeAny_call_builtin ft.init.plain eI (ft.init.check _ _ _ _ _ _ _ _ hT hok (gi prog w A.in1 _ s1 hsi))) fun r2 s2 hr2=>?_;cases r2 with
   |error e=>exact hr2
   |ok fl2=>
    cases fl2 with
    |ret r=>
     obtain⟨rfl,hq⟩:=hr2
     repeat (any_goals (first|assumption|wp_step|fail))
    |_=>exact hr2.elim
  |_=>exact hr.elim
def FM(hl:typeLookup (.type T) "__init__"=pure (some (.builtin "object.__init__")))(hm:Bind.madeBy (.type T)=pure (some nI))(hne:(some nI != some "object.__new__")=true) :
  Meets (Builtin.«object.__init__» ⟨[self,a],kw⟩) (fun _ R s=>s.TypeIs self T/\R (.ok (.ret .none)) s):=by
 refine Meets.of_wp fun pr w A R s0 hs=>?_;obtain⟨hT,hq⟩:=hs
 repeat (any_goals (first|assumption|wp_step|fail))
 exact⟨_,rfl,hq⟩
def cK1(a v:Value):checkTypeCall "enumerate" ⟨[a],[("start",v)]⟩=pure ():=by kernel_rfl
def cK2(a v:Value):checkBuiltinCall "enumerate.__new__" ⟨[.type "enumerate",a],[("start",v)]⟩=pure ():=by kernel_rfl
def cK3(a b v:Value):argsOk "object.__init__" ⟨[a,b],[("start",v)]⟩:=by
 unfold argsOk;rw[signature?_of (id:="object.__init__") (n:=['_','_','t','i','n','i','_','_']) (o:=['t','c','e','j','b','o']) (by kernel_rfl) F.owner_object]
 kernel_rfl
abbrev itO(n:String)(l:Addr):Obj:={cls:=.type n,data:=.fields #[.ref l,.int 0 0]}
abbrev enO(it:Addr)(i:Int):Obj:={cls:=.type "enumerate",data:=.fields #[.none,.bool false,.ref it,rawInt i,.none,.none]}
def yj(n:String)(l:Addr)(s:Shared):Prop:=∀(pr:Program) (w:World) (A:Around) (Q:Value->Shared->Prop) (E:Value->Shared->Prop),Q (.ref s.heap.objs.size) {s with heap:=s.heap.push (itO n l)}->wpAny (model pr w) A (pyIter (.ref l)) Q E s
def FX(n:String)(l:Addr)(t:Tok) :
  Meets (Builtin.«enumerate.__new__» ⟨[.type "enumerate",.ref l],[("start",.int 1 t)]⟩) (fun _ R s=>yj n l s/\R (.ok (.ret (.ref (s.heap.push (itO n l)).objs.size))) {s with heap:=(s.heap.push (itO n l)).push (enO s.heap.objs.size 1)}):=
 .of_wp fun pr w A R s0 h=>by
  obtain⟨hp,g,d,tk,os⟩:=s0;obtain⟨hI,h⟩:=h;have hsub:=sub_enumerate;have hJ:∀{Q:Value->Shared->Prop}{E:Value->Shared->Prop},Q (.ref hp.objs.size) ⟨hp.push (itO n l),g,d,tk,os⟩->wpAny (model pr w) A.in1 (pyIter (.ref l)) Q E ⟨hp,g,d,tk,os⟩:=fun {Q E} q=>hI pr w A.in1 Q E q;have hJ':∀{Q:Value->Shared->Prop}{E:Value->Shared->Prop},Q (.ref hp.objs.size) ⟨hp.push (itO n l),g,d,tk,os⟩->wpAny (model pr w) A (pyIter (.ref l)) Q E ⟨hp,g,d,tk,os⟩:=fun {Q E} q=>hI pr w A Q E q
  wp_walk
  refine wpAny_stack_any fun st=>wpAny_pure ?_;split<;>try (rename_i c _ _ _ _ _;cases(c==Value.type "enumerate"))
  all_goals (wp_walk using hJ,hJ')
  all_goals exact⟨_,rfl,h⟩
def Da(hI:yj n l s)(h:Q (.ref (s.heap.objs.size+1)) {s with heap:=(s.heap.push (itO n l)).push (enO s.heap.objs.size 1)}) :
  wpAny (model prog w) A (call (.type "enumerate") [.ref l] [("start",.int 1 t)]) Q E s:=by
 have hz:(s.heap.push (itO n l)).objs.size=s.heap.objs.size+1:=size_push ..
 refine mU (Q1:=fun ob s1=>s1.TypeIs ob "enumerate" /\ Q ob s1) F.called_enumerate (cK1 _ _) (cK2 _ _) F.entry_enumerate_new F.entry_object_init (FX n l t) ⟨hI,?_⟩ fun ob s1 hq=>⟨hq.1,cK3 ob _ _,_,FM F.called_enumerate.init.lookup F.called_enumerate.made (by decide),hq.1,rfl,hq.2⟩
 show _/\_;rw[hz];have:=get?_push_size (s.heap.push (itO n l)) (o:=enO s.heap.objs.size 1) rfl;rw[hz]at this;exact⟨⟨_,this,rfl⟩,h⟩
def oR(t:Addr):¬((Value.ref t==Value.none)=true):=Bool.false_ne_true
def wb(hit:s.heap.IsTupleIter it t i)(ht:s.heap.IsTuple t items)(hx:items[i]?=some x)
  (hQ:∀h',h'.IsTupleIter it t (i+1)->SameBut it s.heap h'->Q x {s with heap:=h'}):wpAny (model prog w) A (Builtin.SmallTypes.nextOf (.ref it)) Q E s:=by
 obtain⟨o,ho,hc,hd⟩:=id hit;obtain⟨o2,ho2,_,n2,hd2⟩:=ht;unfold Builtin.SmallTypes.nextOf;refine wpAny_bind (wpAny_callSpecial?_slot (name:=Str.ofString "__next__") hit.typeIs F.slot_tuple_iterator_next (wpAny_call_entry F.slot_tuple_iterator_next hit.typeIs F.entry_tuple_iterator_next ?_ (F.args_tuple_iterator_next_1 _)));refine(show wpAny _ _ (field (.ref it) 0 >>= _) _ _ s from wpAny_bind (wpAny_field ho hd (x:=.ref t) rfl ?_));refine(show wpAny _ _ (if(Value.ref t==Value.none)=true then _ else _) _ _ s from ?_);rw[if_neg (oR t)];refine(show wpAny _ _ (field (.ref it) 1 >>= _) _ _ s from wpAny_bind (wpAny_field ho hd (x:=.int i 0) rfl ?_));refine(show wpAny _ _ (seqItems? (.ref t) >>= _) _ _ s from wpAny_bind (wpAny_seqItems ho2 hd2 ?_));simp only[toNat_natCast,hx];refine wpAny_bind (wpAny_setField ho hd (by simp) (wpAny_pure ⟨x,rfl,wpAny_pure (hQ _ ⟨_,Heap.get?_update_self _ ho (Obj.isFreed_of_fields (Obj.data_mapFields hd _)),(Obj.cls_mapFields ..).trans hc,by rw[Obj.data_mapFields hd];simp[rawInt]⟩ (SameBut.update ..))⟩))
def zA(hh:A.handled=none)(hit:s.heap.IsTupleIter it t i)(ht:s.heap.IsTuple t items)(hx:items[i]?=none)
  (hE:∀h' e,ExtBut it s.heap h'->(∃o,h'.get? e=some o/\o.cls=.type "StopIteration")->E (.ref e) {s with heap:=h'}):wpAny (model prog w) A (Builtin.SmallTypes.nextOf (.ref it)) Q E s:=by
 obtain⟨o,ho,hc,hd⟩:=id hit;obtain⟨o2,ho2,_,n2,hd2⟩:=ht;unfold Builtin.SmallTypes.nextOf;refine wpAny_bind (wpAny_callSpecial?_slot (name:=Str.ofString "__next__") hit.typeIs F.slot_tuple_iterator_next (wpAny_call_entry F.slot_tuple_iterator_next hit.typeIs F.entry_tuple_iterator_next ?_ (F.args_tuple_iterator_next_1 _)));refine(show wpAny _ _ (field (.ref it) 0 >>= _) _ _ s from wpAny_bind (wpAny_field ho hd (x:=.ref t) rfl ?_));refine(show wpAny _ _ (if(Value.ref t==Value.none)=true then _ else _) _ _ s from ?_);rw[if_neg (oR t)];refine(show wpAny _ _ (field (.ref it) 1 >>= _) _ _ s from wpAny_bind (wpAny_field ho hd (x:=.int i 0) rfl ?_));refine(show wpAny _ _ (seqItems? (.ref t) >>= _) _ _ s from wpAny_bind (wpAny_seqItems ho2 hd2 ?_));simp only[toNat_natCast,hx];refine wpAny_bind (wpAny_rule (wpAny_bind (wpAny_setField ho hd (by simp) (show wpAny _ _ (newExc (.type "StopIteration") [] >>= _) _ _ _ from wpAny_bind ?_))));simp only[newExc,newTuple];refine wpAny_bind (wpAny_newObj_type (wpAny_bind (m:=firstArgMember _ _) (wpAny_of_eq (a:=Value.none) (by first|rfl |(simp only[firstArgMember];rfl)) (wpAny_newObj_type ?_ (by size_fits)))) (by size_fits));simp only[raiseNew];refine wpAny_bind (wpAny_handled ?_)
 first|rw[show A.in1.handled=none from hh]|rw[hh]|skip
 exact wpAny_bind (wpAny_pure (wpAny_throw (hE _ _ (((SameBut.update ..).extBut.push _).push _) ⟨_,get?_push_size _ rfl,rfl⟩)))
inductive iW(h:Heap)(it l:Addr)(its:Array Value)(i:Nat):Prop
 |lst (a:h.IsListIter it l i) (b:h.IsList l its)
 |tup (a:h.IsTupleIter it l i) (b:h.IsTuple l its)
def iW.at(x:iW h it l its i)(k1:∀o,h.get? it=some o->h'.get? it=some o)(k2:∀o,h.get? l=some o->h'.get? l=some o):iW h' it l its i:=by
 rcases x with⟨⟨o,e,r⟩,⟨o2,e2,r2⟩⟩ |⟨⟨o,e,r⟩,⟨o2,e2,r2⟩⟩
 ·exact .lst ⟨o,k1 o e,r⟩ ⟨o2,k2 o2 e2,r2⟩
 ·exact .tup ⟨o,k1 o e,r⟩ ⟨o2,k2 o2 e2,r2⟩
def iW.obj(x:iW h it l its i):∃o,h.get? it=some o/\∀v,o.data≠.cell v:=by
 rcases x with⟨⟨o,e,_,d⟩,_⟩ |⟨⟨o,e,_,d⟩,_⟩
 ·exact⟨o,e,fun v z=>by rw[d]at z;cases z⟩
 ·exact⟨o,e,fun v z=>by rw[d]at z;cases z⟩
def zz(hi:iW s.heap it l its i)(hne:l≠it)(hx:its[i]?=some x)(hQ:∀h',iW h' it l its (i+1)->SameBut it s.heap h'->Q x {s with heap:=h'}) :
  wpAny (model prog w) A (Builtin.SmallTypes.nextOf (.ref it)) Q E s:=by
 rcases hi with⟨a,b⟩ |⟨a,b⟩
 ·exact wpAny_nextOf_list_item a b hx fun h' q sb=>hQ h' (.lst q (b.extBut sb.extBut hne)) sb
 ·exact wb a b hx fun h' q sb=>hQ h' (.tup q (b.extBut sb.extBut hne)) sb
def Ch(hh:A.handled=none)(hi:iW s.heap it l its i)(hx:its[i]?=none)
  (hE:∀h' e,ExtBut it s.heap h'->(∃o,h'.get? e=some o/\o.cls=.type "StopIteration")->E (.ref e) {s with heap:=h'}):wpAny (model prog w) A (Builtin.SmallTypes.nextOf (.ref it)) Q E s:=by
 rcases hi with⟨a,b⟩ |⟨a,b⟩
 ·exact wpAny_nextOf_list_end hh a b hx hE
 ·exact zA hh a b hx hE
def Aa{Q:Value->Shared->Prop}(he:IsEnum s.heap e it k old)(hi:iW s.heap it l its i)(hne:e≠it)(hli:l≠it)(hle:l≠e)(hx:its[i]?=some x)
  (hQ:∀ h',IsEnumOut h' e it (k+1) x s.heap.objs.size->iW h' it l its (i+1)->h'.get? s.heap.objs.size=some { cls:=.type "tuple", data:=.seq #[.int k s.toks,x] }->h'.objs.size=s.heap.objs.size+1 ->
   (∀b o,b≠e->b≠it->s.heap.get? b=some o->h'.get? b=some o)->Q (.ref s.heap.objs.size) {s with heap:=h',toks:=s.toks+1}) :
  wpAny (model prog w) A (Builtin.«enumerate.__next__» ⟨[.ref e],[]⟩) (fun fin s'=>∃v,fin=.done (.ret v)/\Q v s') E s:=by
 obtain⟨hp,g,d,tk,os⟩:=s;refine(show wpAny _ _ (field (.ref e) 2 >>= _) _ _ _ from wpAny_bind (wpAny_field he rfl (x:=.ref it) rfl ?_));refine wpAny_bind (zz hi hli hx fun h1 i1 s1=>?_)
 replace s1:SameBut it hp h1:=s1
 have e1:IsEnum h1 e it k old:=(s1.2 e hne).trans he;refine(show wpAny _ _ (field (.ref e) 3 >>= _) _ _ ⟨h1,g,d,tk,os⟩from wpAny_bind (wpAny_field e1 rfl (x:=rawInt k) rfl ?_));refine(show wpAny _ _ (field (.ref e) 4 >>= _) _ _ ⟨h1,g,d,tk,os⟩from wpAny_bind (wpAny_field e1 rfl (x:=.none) rfl ?_));refine(show wpAny _ _ (mkInt k >>= _) _ _ ⟨h1,g,d,tk,os⟩from wpAny_bind (wpAny_mkInt ?_));refine(show wpAny _ _ (setField (.ref e) 3 (rawInt (k+1)) >>= _) _ _ ⟨h1,g,d,tk+1,os⟩from wpAny_bind (wpAny_setField_rec e1 (by simp) fun h2 e2 s2=>?_))
 replace s2:SameBut e h1 h2:=s2
 replace e2:IsEnum h2 e it (k+1) old:=e2
 refine(show wpAny _ _ (setField (.ref e) 4 .none >>= _) _ _ ⟨h2,g,d,tk+1,os⟩from wpAny_bind (wpAny_setField_rec e2 (by simp) fun h3 e3 s3=>?_))
 replace s3:SameBut e h2 h3:=s3
 replace e3:IsEnum h3 e it (k+1) old:=e3
 refine(show wpAny _ _ (newTuple [.int k tk,x] >>= _) _ _ ⟨h3,g,d,tk+1,os⟩from wpAny_bind (wpAny_newTuple ?_));have e4:IsEnum (h3.push {cls:=.type "tuple",data:=.seq #[.int k tk,x]}) e it (k+1) old:=get?_push_of_some _ e3;generalize hh4:h3.push {cls:=.type "tuple",data:=.seq #[.int k tk,x]}=h4 at e4;have z3:h3.objs.size=hp.objs.size:=by rw[s3.1,s2.1,s1.1]
 have lte:e<hp.objs.size:=lt_size he;have t4:h4.get? hp.objs.size=some {cls:=.type "tuple",data:=.seq #[.int k tk,x]}:=by rw[<- hh4,<- z3];exact get?_push_size _ rfl
 have z4:h4.objs.size=hp.objs.size+1:=by rw[<- hh4,size_push,z3]
 have k4:∀b o,b≠e->h1.get? b=some o->h4.get? b=some o:=fun b o hb q=>by rw[<- hh4];exact get?_push_of_some _ (s3.extBut b o hb (s2.extBut b o hb q))
 refine(show wpAny _ _ (Builtin.SmallTypes.ownedTupleIsFree (.ref e) >>= _) _ _ ⟨h4,g,d,tk+1,os⟩from ?_);rw[z3];refine wpAny_bind ?_;unfold Builtin.SmallTypes.ownedTupleIsFree;refine wpAny_bind (wpAny_field e4 rfl (x:=.none) rfl (wpAny_pure ?_));simp only[if_true];refine wpAny_bind (wpAny_rule (wpAny_bind (wpAny_field e4 rfl (x:=old) rfl (wpAny_bind (wpAny_setField_rec e4 (by simp) fun h5 e5 s5=>?_)))))
 replace s5:SameBut e h4 h5:=s5
 replace e5:IsEnum h5 e it (k+1) x:=e5
 refine(show wpAny _ _ (Builtin.SmallTypes.ownedTupleHandOut (.ref e) (.ref hp.objs.size) >>= _) _ _ ⟨h5,g,d,tk+1,os⟩from wpAny_bind ?_);unfold Builtin.SmallTypes.ownedTupleHandOut;refine wpAny_bind (wpAny_setField_rec e5 (by simp) fun h6 e6 s6=>?_)
 replace s6:SameBut e h5 h6:=s6
 replace e6:IsEnumOut h6 e it (k+1) x hp.objs.size:=e6
 refine wpAny_setField_rec e6 (by simp) fun h7 e7 s7=>?_
 replace s7:SameBut e h6 h7:=s7
 replace e7:IsEnumOut h7 e it (k+1) x hp.objs.size:=e7
 have up:∀b o,b≠e->h4.get? b=some o->h7.get? b=some o:=fun b o hb q=>s7.extBut b o hb (s6.extBut b o hb (s5.extBut b o hb q));refine wpAny_bind (wpAny_letGo (wpAny_pure ⟨_,rfl,hQ h7 e7 (i1.at (fun o q=>up it o hne.symm (k4 it o hne.symm q)) fun o q=>up l o hle (k4 l o hle q)) (up _ _ (Nat.ne_of_gt lte) t4) (by rw[s7.1,s6.1,s5.1,z4]) fun b o hb hb2 q=>up b o hb (k4 b o hb (s1.extBut b o hb2 q))⟩))
def zf(he:IsEnum s.heap e it k old)(hi:iW s.heap it l its i)(hne:e≠it)(hli:l≠it)(hle:l≠e)(hx:its[i]?=some x)
  (hQ:∀ h',IsEnumOut h' e it (k+1) x s.heap.objs.size->iW h' it l its (i+1)->h'.get? s.heap.objs.size=some { cls:=.type "tuple", data:=.seq #[.int k s.toks,x] }->h'.objs.size=s.heap.objs.size+1 ->
   (∀b o,b≠e->b≠it->s.heap.get? b=some o->h'.get? b=some o)->Q (some (.ref s.heap.objs.size)) {s with heap:=h',toks:=s.toks+1}):wpAny (model prog w) A (pyNext (.ref e)) Q E s:=by
 have hT:s.TypeIs (.ref e) "enumerate":=⟨_,he,rfl⟩
 unfold pyNext;exact wpAny_bind (wpAny_attempt (wpAny_callSpecial?_slot (name:=Str.ofString "__next__") hT F.slot_enumerate_next (wpAny_call_entry F.slot_enumerate_next hT F.entry_enumerate_next (Aa he hi hne hli hle hx fun h' a b c d q=>wpAny_pure (hQ h' a b c d q)) (F.args_enumerate_next_1 _))))
def BD(hh:A.handled=none)(he:IsEnum s.heap e it k old)(hi:iW s.heap it l its i)(hx:its[i]?=none)
  (hQ:∀h',ExtBut it s.heap h'->Q none {s with heap:=h'}):wpAny (model prog w) A (pyNext (.ref e)) Q E s:=by
 have hT:s.TypeIs (.ref e) "enumerate":=⟨_,he,rfl⟩
 unfold pyNext;refine wpAny_bind (wpAny_attempt (wpAny_callSpecial?_slot (name:=Str.ofString "__next__") hT F.slot_enumerate_next (wpAny_call_entry F.slot_enumerate_next hT F.entry_enumerate_next ?_ (F.args_enumerate_next_1 _))));refine(show wpAny _ _ (field (.ref e) 2 >>= _) _ _ _ from wpAny_bind (wpAny_field he rfl (x:=.ref it) rfl ?_));refine wpAny_bind (Ch hh hi hx fun h' y q ⟨o,ho,hc⟩=>?_);exact wpAny_bind (wpAny_isInstance (T:="StopIteration") (b:=true) ⟨o,ho,hc⟩ isSubtype_stop (wpAny_pure (hQ _ q)))
end
section
variable{X:Cx}{T:Tb}{W:Nat->St->Hp->Prop}{Z:Zn}{F F1 B L:Addr->Prop}{H H1:Hp}{Y:St}{env:En}{js:List (Addr×Obj)}{s:Shared}
def mL{fp:List Addr}{vs:List V}(I:L2.Inv X js Y H s)(hf:∀b∈fp,lO X js H b)(k:∀b o,b∉fp->s.heap.get? b=some o->h'.get? b=some o)(hp:s.heap.objs.size<=a)(new:bW X.prog X.w (upd H a (.tup vs)) h' a (.tup vs)) :
  L2.Inv X js Y (upd H a (.tup vs)) {s with heap:=h',toks:=t'}:=by
 have hn:H a=none:=I.hok.fresh hp;have nit:∀b u,H b=some u->b∉fp:=fun b u e z=>by rw[(hf b z).1]at e;cases e
 refine I.step (g':=s.gens) (d':=s.drawn) (ch:=fp) (fun b hb=>?_) (fun b o _ _ hc e _=>k b o hc e) (fun b o _ _ hc e _=>⟨o.slots,k b o hc e⟩) (fun b o _ e n=>?_) (fun b o hc e=>⟨o,k b o hc e⟩)
  (fun b xs e=>by rw[aF (bu e hn)];exact e) (fun b o u e=>by rw[aF (bu e hn)];exact e) (fun b ps e=>⟨#[],by rw[aF (bu e hn),e];simp⟩) (fun m hm=>?_) (fun b u e=>?_) I.bare
 ·obtain⟨_,q1,_,q3,q4,q5⟩:=hf b hb;exact⟨q3,q1,q4,q5⟩
 ·rw[aF (Nat.ne_of_lt (Nat.lt_of_lt_of_le (lt_size e) hp))];exact n
 ·obtain⟨o,es,ep,ho,r⟩:=hm;exact⟨o,es,ep,k _ o (fun z=>(hf _ z).2.1 rfl) ho,r⟩
 ·by_cases hb:b=a
  ·subst hb;rw[aN]at e;cases e;exact new
  ·rw[aF hb]at e;refine(I.hok b u e).stay (fun c v hc q=>k c v ?_ q) (fun c q=>by rw[aF (bu q hn)];exact q) fun c xs _ q=>by rw[aF (bu q hn)];exact q
   rcases hc with z|z
   ·rw[z];exact nit b u e
   ·exact nit c _ z
def Sq(tp:Bool)(K:PySem.W.Frag)(H:Hp)(l:Addr)(xs:List V):Prop:=match tp with
 |true=>SqT K H l xs
 |false=>SqL K H l xs
def Aw(tp:Bool)(h:Heap)(it l:Addr)(i:Nat):Prop:=match tp with
 |true=>h.IsTupleIter it l i
 |false=>h.IsListIter it l i
def Ite(tp:Bool)(K:PySem.W.Frag)(st:Int)(l:Addr):It:=
 ⟨fun i H=>∃xs x,Sq tp K H l xs/\xs[i]?=some x,fun i H v H'=>∃p y,H p=none/\v=.ref p/\H'=upd H p (.tup [.int (st+i),y])/\∀xs,Sq tp K H l xs->xs[i]?=some y,fun i H=>∃xs,Sq tp K H l xs/\xs.length<=i⟩
def AA(I:L2.Inv X js Y H s)(hq:Sq tp X.K H l xs)(ha:Aw tp s.heap it l i):∃its:List Value,aP xs its/\iW s.heap it l its.toArray i/\l≠it/\∀e k old,IsEnum s.heap e it k old->e≠it/\l≠e:=by
 cases tp with
 |false=>
  obtain⟨its,rv,p,_⟩:=I.list hq;obtain⟨o,ho,hc,_⟩:=id p.isList;obtain⟨o2,ho2,hc2,_⟩:=id (show s.heap.IsListIter it l i from ha);refine⟨its,rv,.lst ha p.isList,fun z=>?_,fun e k old he=>⟨fun z=>?_,fun z=>?_⟩⟩
  ·rw[z,ho2]at ho;cases ho;rw[hc2]at hc;exact absurd hc (by decide)
  ·grind
  grind
 |true=>
  obtain⟨its,rv,p,_⟩:=I.tuple hq;have p':s.heap.IsTuple l its.toArray:=p;obtain⟨o,ho,hc,_⟩:=id p';obtain⟨o2,ho2,hc2,_⟩:=id (show s.heap.IsTupleIter it l i from ha);refine⟨its,rv,.tup ha p',fun z=>?_,fun e k old he=>⟨fun z=>?_,fun z=>?_⟩⟩
  ·rw[z,ho2]at ho;cases ho;rw[hc2]at hc;exact absurd hc (by decide)
  ·grind
  grind
def A5(I:L2.Inv X js Y H s)(h1:Sq tp X.K H l xs)(h2:Sq tp X.K H l ys):xs=ys:=by
 cases tp with
 |false=>exact I.list_inj h1 h2
 |true=>exact I.tuple_inj h1 h2
def FF(x:iW h it l its i)(hl:tp=true->∃o,h.get? l=some o/\o.cls=.type "tuple")(hl2:tp=false->∃o,h.get? l=some o/\o.cls=.type "list"):Aw tp h it l i:=by
 cases tp with
 |false=>
  obtain⟨o,ho,hc⟩:=hl2 rfl;rcases x with⟨a,b⟩ |⟨a,⟨o2,ho2,hc2,_⟩⟩
  ·exact a
  ·rw[ho]at ho2;cases ho2;rw[hc]at hc2;exact absurd hc2 (by decide)
 |true=>
  obtain⟨o,ho,hc⟩:=hl rfl;rcases x with⟨a,⟨o2,ho2,hc2,_⟩⟩ |⟨a,b⟩
  ·rw[ho]at ho2;cases ho2;rw[hc]at hc2;exact absurd hc2 (by decide)
  ·exact a
def sW{els:List Expr}{x1}(tp:Bool)(st:Int)(l e it:Addr) :
  qY P w K (.Tuple els x1 tpos) (Ite tp K st l) [e,it] e (fun i h=>(∃old,IsEnum h e it (st+i) old)/\Aw tp h it l i) where
 mem:=by simp
 obj:=fun i h st b hb=>by
  obtain⟨⟨old,he⟩,ha⟩:=st;simp only[mem_cons,not_mem_nil,or_false]at hb;rcases hb with rfl|rfl
  ·exact⟨_,he,fun v z=>by cases z⟩
  ·cases tp with
   |false=>obtain⟨o,e,c,d⟩:=id (show h.IsListIter b l i from ha);exact⟨o,e,fun v z=>by rw[d]at z;cases z⟩
   |true=>obtain⟨o,e,c,d⟩:=id (show h.IsTupleIter b l i from ha);exact⟨o,e,fun v z=>by rw[d]at z;cases z⟩
 keep:=fun i h h' st k=>by
  obtain⟨⟨old,he⟩,ha⟩:=st;refine⟨⟨old,k e (by simp) _ he⟩,?_⟩;cases tp with
  |false=>obtain⟨o,e,r⟩:=id (show h.IsListIter it l i from ha);exact⟨o,k it (by simp) o e,r⟩
  |true=>obtain⟨o,e,r⟩:=id (show h.IsTupleIter it l i from ha);exact⟨o,k it (by simp) o e,r⟩
 item:=by
  intro X hP hw hK hc i js s Y H E I hf stt hg;subst hP hw hK;obtain⟨⟨old,he⟩,ha⟩:=stt;obtain⟨xs,x,hq,hx⟩:=hg;obtain⟨its,rv,hi,hli,hen⟩:=AA I hq ha;obtain⟨hne,hle⟩:=hen e _ old he;obtain⟨u,hu,ru⟩:=rv.get hx;refine zf he hi hne hli hle (x:=u) (by simpa using hu) fun h1 eo in1 tu sz kp=>?_;refine⟨_,rfl,wpAny_letOwnedTupleGo_enum eo fun h2 e2 s2=>?_⟩
  replace s2:SameBut e h1 h2:=s2
  have lte:e<s.heap.objs.size:=lt_size he;have kp2:∀b o,b∉[e,it]->s.heap.get? b=some o->h2.get? b=some o:=fun b o hb q=>by simp only[mem_cons,not_mem_nil,or_false,not_or]at hb;exact s2.extBut b o hb.1 (kp b o hb.1 hb.2 q)
  have tu2:h2.get? s.heap.objs.size=some {cls:=.type "tuple",data:=.seq #[.int (st+i) s.toks,u]}:=s2.extBut _ _ (Nat.ne_of_gt lte) tu;refine⟨.ref s.heap.objs.size,upd H s.heap.objs.size (.tup [.int (st+i),x]),(mL (h':=h2) (t':=s.toks+1) (vs:=[.int (st+i),x]) I hf kp2 (Nat.le_refl _) ⟨by rw[sizeLine_eq];simp,[.int (st+i) s.toks,u],.cons ⟨_,rfl⟩ (.cons ru .nil),⟨_,tu2,rfl,_,rfl⟩⟩ :),rfl,⟨_,x,I.hok.fresh (Nat.le_refl _),rfl,rfl,fun ys hy=>by rw[A5 I hy hq];exact hx⟩,⟨⟨u,?_⟩,?_⟩,fun b hb=>?_⟩
  ·have:st+((i+1:Nat):Int)=st+i+1:=by omega
   rw[this];exact e2
  ·have in2:=in1.at (fun o q=>s2.extBut it o hne.symm q) fun o q=>s2.extBut l o hle q;refine FF in2 (fun z=>?_) fun z=>?_
   ·subst z;obtain⟨_,_,p,_⟩:=I.tuple hq;obtain⟨o,ho,hc,_⟩:=id (show s.heap.IsTuple l _ from p);exact⟨o,kp2 l o (by simp[hle,hli]) ho,hc⟩
   ·subst z;obtain⟨_,_,p,_⟩:=I.list hq;obtain⟨o,ho,hc,_⟩:=id p.isList;exact⟨o,kp2 l o (by simp[hle,hli]) ho,hc⟩
  ·have:b<s.heap.objs.size:=by
    simp only[mem_cons,not_mem_nil,or_false]at hb;rcases hb with rfl|rfl
    ·exact lte
    ·obtain⟨o,ho,_⟩:=hi.obj;exact lt_size ho
   rw[aF (Nat.ne_of_lt this)];exact(hf b hb).1
 done:=by intro X hP hw hK hc i js s Y H E I hf stt hg;subst hP hw hK;obtain⟨⟨old,he⟩,ha⟩:=stt;obtain⟨xs,hq,hx⟩:=hg;obtain⟨its,rv,hi,hli,hen⟩:=AA I hq ha;obtain⟨f0,f1,f2,f3,f4,f5⟩:=hf it (by simp);have hl:=rv.length;exact BD (I.ok.hd hc) he hi (by simp;omega) fun h' eb=>⟨rfl,I.turned (t':=s.toks) (fun b o hb e=>eb b o hb e) f0 f1 f3 f4 f5⟩
 self:=fun _ _ _ _ _ st h=>by obtain⟨⟨old,he⟩,_⟩:=st;exact wpAny_pyIter_enum he h
def on{M:Model}{A:Around}{E:Value->Shared->Prop}{s:Shared}{env:Env}{Ty:String}{rest:List Expr}{kws:List Keyword}{Q:Value->Shared->Prop}
  (h:wpAny M A (spliced (backTo pos (starEach (e::rest) env))) (fun vs s1=>wpAny M A (evalAll ((backToKw pos (keywordEach kws env)).map (·.2))) (fun ks s2=>wpAny M A (call (.type Ty) vs (((backToKw pos (keywordEach kws env)).filterMap (·.1)).zip ks)) Q E s2) E s1) E s)
  (hall:(backToKw pos (keywordEach kws env)).all (·.1.isSome)=true:=by rfl) (hkw:(backToKw pos (keywordEach kws env)).any (·.1.isNone)=false:=by rfl)
  (he:starEach (e::rest) env=(false,eval e env)::starEach rest env:=by rfl) (hpl:(backTo pos (starEach (e::rest) env)).any (·.1)=false:=by rfl) :
  wpAny M A (callWith pos (.type Ty) [] (backTo pos (starEach (e::rest) env)) (backToKw pos (keywordEach kws env))) Q E s:=by
 unfold callWith;refine wpAny_bind (wpAny_holding (wpAny_mono (evalArgs_kw2 (Q:=fun a s1=>wpAny M A (call (.type Ty) ([]++ a.pos) a.kw) Q E s1) hall h he) (fun a s1 h1=>wpAny_bind (wpAny_standAt ?_)) fun _ _ x=>x));simp only[hpl,hkw,Bool.or_false];exact wpAny_bind (wpAny_pure (wpAny_bind (wpAny_mono h1 (fun r s2 hr=>wpAny_bind (wpAny_holding (wpAny_point (wpAny_pure hr)))) fun _ _ x=>x)))
def Aq:bootBuiltins "enumerate"=some (.type "enumerate"):=by decide +kernel
abbrev enE(l:Expr)(p pos kp cp:Pos)(j:Nat):Expr:=.Call (.Name "enumerate" p) [l] [⟨some "start",.Constant (.int 1) j cp,kp⟩] pos
def rR{x1}(hg:Gl X "enumerate")(hm:X.mg "enumerate"=none)(hl:PE X l tl)(hs:starEach [l] X.env=[(false,eval l X.env)]:=by rfl) :
  PI X (.Tuple els x1 tpos) (enE l p pos kp cp j) (fun Y H R=>tl Y H fun x H1=>∃a tp xs,[x]=[V.ref a]/\Sq tp X.K H1 a xs/\R (Ite tp X.K 1 a) H1):=by
 intro js s Y H R I h;refine wpAny_Call_Name_kw (fE I hg hm Aq ?_ (by decide) (by decide));refine on ?_ rfl rfl hs (by rw[hs];rfl);refine thn (da (te:=tl) hl gd (by rw[hs];rfl) pos js s Y H (fun vs H1=>∃a tp xs,vs=[.ref a]/\Sq tp X.K H1 a xs/\R (Ite tp X.K 1 a) H1) I h) fun us s1 hz1=>?_;obtain⟨vs,H1,I1,r1,a,tp,xs,ev,hq,q⟩:=hz1;subst ev;obtain⟨u,rfl,rx⟩:=dR r1;cases rx;refine thn (rQ (nm:=some "start") (kpos:=kp) (vQ (i:=1) (j:=j) (pos:=cp)) vI pos js s1 Y H1 (fun zs H2=>zs=[.int 1]/\H2=H1) I1 ⟨rfl,rfl⟩) fun ws s2 hz1=>?_;obtain⟨zs,H2,I2,r2,ez,eh⟩:=hz1;subst ez;rw[eh]at I2;clear eh;obtain⟨u2,rfl,rx2⟩:=dR r2;obtain⟨t,rfl⟩:=rx2;have hI:∃n,yj n a s2/\∀h',h'.get? s2.heap.objs.size=some (itO n a)->Aw tp h' s2.heap.objs.size a 0:=by
  cases tp with
  |false=>obtain⟨its,rv,pl,_⟩:=I2.list hq;exact⟨"list_iterator",fun _ _ _ _ _ q=>wpAny_pyIter_list pl.isList q,fun h' e=>⟨_,e,rfl,rfl⟩⟩
  |true=>obtain⟨its,rv,pl,_⟩:=I2.tuple hq;exact⟨"tuple_iterator",fun _ _ _ _ _ q=>wpAny_pyIter_tuple (show s2.heap.IsTuple a its.toArray from pl) q,fun h' e=>⟨_,e,rfl,rfl⟩⟩
 obtain⟨n,hI,hA⟩:=hI;have hz:(s2.heap.push (itO n a)).objs.size=s2.heap.objs.size+1:=size_push ..
 have he:((s2.heap.push (itO n a)).push (enO s2.heap.objs.size 1)).get? (s2.heap.objs.size+1)=some (enO s2.heap.objs.size 1):=by have:=get?_push_size (s2.heap.push (itO n a)) (o:=enO s2.heap.objs.size 1) rfl;rw[hz]at this;exact this
 refine Da hI (wpAny_pyIter_enum (i:=1) (old:=.none) he ?_);refine⟨s2.heap.objs.size+1,[s2.heap.objs.size+1,s2.heap.objs.size],_,_,H1,rfl,I2.kept (t':=s2.toks) fun b o e=>get?_push_of_some _ (get?_push_of_some _ e),sW tp 1 a _ _,⟨⟨.none,by simpa using he⟩,hA _ (get?_push_of_some _ (get?_push_size _ rfl))⟩,fun b hb=>?_,q⟩;simp only[mem_cons,not_mem_nil,or_false]at hb;rcases hb with rfl|rfl
 ·exact I2.fpOk (le_succ _) (I2.hok.fresh (le_succ _))
 ·exact I2.fpOk (Nat.le_refl _) (I2.hok.fresh (Nat.le_refl _))
end
def enP(k:Int):List PV->List PV
 | []=>[]
 |x::xs=>.tup [.int k,x]::enP (k+1) xs
def ky:∀(k:Int) (xs:List PV) (i:Nat),(enP k xs)[i]?=(xs[i]?).map fun x=>.tup [.int (k+i),x]
 |_,[],i|k,x::xs,0=>by simp[enP]
 |k,x::xs,i+1=>by simp only[enP,getElem?_cons_succ,ky (k+1) xs i];congr 1;funext y;congr 3;omega
def kx:∀(k:Int) (xs:List PV),(enP k xs).length=xs.length
 |_,[]=>rfl
 |k,_::xs=>by simp[enP,kx (k+1) xs]
def ui(m:ME):MI:=fun env=>(m env).bind fun x=>match x with
 |.lst f xs=>if !f.isLnt&&cZ xs then .ok (enP 1 xs)else .stuck
 |.tup xs=>if cZ xs then .ok (enP 1 xs)else .stuck
 |_=>.stuck
def zM(m:ME):MI:=fun env=>(m env).bind fun x=>match aT x with
 |some xs=>.ok (enP 1 xs)
 |none=>.stuck
section
variable{X:Cx}{T:Tb}{W:Nat->St->Hp->Prop}{Z:Zn}{F F1 B L:Addr->Prop}{H H1:Hp}{Y:St}{env:En}{fp:Nat->List Addr}
def oQ(hp:H2 p=none)(r:Rel T F B L H2 x v f):Rel T F B L (upd H2 p (.tup [.int k,v])) (.tup [.int k,x]) (.ref p) f:=by unfold Rel;refine⟨p,_,rfl,SqT.of aN,?_⟩;have r2:Rel T F B L (upd H2 p (.tup [.int k,v])) x v f:=r.ext (Ext.upd hp) fun _ h=>h;unfold RelL;refine⟨.int k,[v],[],f,rfl,dP,?_,rfl⟩;unfold RelL;exact⟨v,[],f,[],rfl,r2,by unfold RelL;exact⟨rfl,rfl⟩,by simp⟩
def yK{x1}(hK:X.K=T.K)(hg:Gl X "enumerate")(hm:X.mg "enumerate"=none)(he:SE X T W e m)(hs:starEach [e] X.env=[(false,eval e X.env)]:=by rfl) :
  SI X T W (.Tuple els x1 tpos) (enE e p pos kp cp j) (ui m):=fun js s Y H R I h=>rR hg hm he hs js s Y H R I (by
 obtain⟨Z,F,env,fp,S,q⟩:=h;unfold ui at q;refine tE.bind S (fun c e=>by rw[e]at q;exact q) (fun e=>by rw[e]at q;exact q) fun x v H1 F1 f1 e1 g1 r1 n1 d1 w1=>?_;rw[e1]at q;simp only[Res.ok_bind]at q;have S1:=S.grow g1;rw[hK];have key:∀(tp:Bool) (a:Addr) (xs:List PV) (vs:List V),RelL T F1 Z.B NoL H1 xs vs []->(∀H2,(∀a o,H1 a=some o->¬Own fp a->H2 a=some o)->Sq tp T.K H2 a vs)->ItR T F1 Z.B (Own fp) H1 (Ite tp T.K 1 a) (enP 1 xs):=by intro tp a xs vs hr hq H2 hk;have hq2:=hq H2 hk;refine⟨fun i x ex=>?_,⟨vs,hq2,by rw[kx,hr.length];exact Nat.le_refl _⟩⟩;rw[ky]at ex;obtain⟨y,ey,rfl⟩:=map_eq_some_iff.mp ex;obtain⟨v,_,ev,_,_⟩:=hr.get ey;refine⟨⟨vs,v,hq2,ev⟩,fun w H3 hy=>?_⟩;obtain⟨p,y',hp,rfl,rfl,hall⟩:=hy;have:=hall vs hq2;rw[ev]at this;cases this;exact⟨Ext.upd hp,oQ hp (iQ S1.fow S1.bow S1.oow hk hr ey ev)⟩
 cases x with
 |lst f xs=>
  dsimp only at q;by_cases hc:(!f.isLnt&&cZ xs)=true
  ·rw[if_pos hc]at q;rw[and_eq_true]at hc;unfold Rel at r1;obtain⟨a,vs,fp',rfl,hl,hr,hf⟩:=r1;obtain⟨rfl,hr'⟩:=cY hc.2 hr;refine⟨a,false,vs,rfl,hl.sq,q _ H1 F1 g1 (key false a xs vs hr' fun H2 hk=>?_)⟩;have na:f≠.mod->∀o,H1 a=some o->H2 a=some o:=fun hn o ho=>by
    refine hk a o ho ?_;cases f with
    |own=>rintro⟨i,hi⟩;obtain⟨_,o',ho'⟩:=S.dis i a hi;obtain rfl:f1=[a]:=hf;rw[w1 a mem_cons_self]at ho';cases ho'
    |frz=>exact S1.fow a hl.1
    |bor=>exact S1.bow a hl.1
    |lnt=>exact absurd hc.1 (by decide)
    |mod=>exact absurd rfl hn
   show SqL T.K H2 a vs;by_cases hn:f=.mod
   ·subst hn;exact .inr hl
   ·exact .inl (Rd.tr (na hn) (hl.rd hn))
  ·rw[if_neg hc]at q;exact q.elim
 |tup xs=>
  dsimp only at q;by_cases hc:cZ xs=true
  ·rw[if_pos hc]at q;unfold Rel at r1;obtain⟨a,vs,rfl,hl,hr⟩:=r1;obtain⟨rfl,hr'⟩:=cY hc hr;refine⟨a,true,vs,rfl,hl,q _ H1 F1 g1 (key true a xs vs hr' fun H2 hk=>?_)⟩;exact SqT.tr (fun o ho hfx=>hk a o ho fun z=>by
    have:=S1.oow a o z ho;cases o with
    |lst _|ins _ _ _=>exact hfx
    |_=>exact this) hl
  ·rw[if_neg hc]at q;exact q.elim
 |_=>exact q.elim)
def vd{x1}(hK:X.K=T.K)(hg:Gl X "enumerate")(hm:X.mg "enumerate"=none)(he:SE X T W e m)(hs:starEach [e] X.env=[(false,eval e X.env)]:=by rfl) :
  SIc X T W (.Tuple els x1 tpos) (enE e p pos kp cp j) (zM m):=fun js s Y H R I h=>rR hg hm he hs js s Y H R I (by
 obtain⟨Z,F,env,fp,S,q⟩:=h;unfold zM at q;refine tE.bind S (fun c e=>by rw[e]at q;exact q) (fun e=>by rw[e]at q;exact q) fun x v H1 F1 f1 e1 g1 r1 n1 d1 w1=>?_;rw[e1]at q;simp only[Res.ok_bind]at q;cases es:aT x with
 |none=>rw[es]at q;exact q.elim
 |some xs=>
  rw[es]at q;obtain⟨a,vs,f',rfl,hs,hr,_⟩:=r1.seq es;rw[hK];have key:∀(tp:Bool),Sq tp T.K H1 a vs->(∀H2,Ext H1 H2->Sq tp T.K H2 a vs)->ItC T F1 Z.B (Own fp) H1 (Ite tp T.K 1 a) (enP 1 xs):=by intro tp _ hq H2 hx;have hq2:=hq H2 hx;refine⟨fun i x ex=>?_,⟨vs,hq2,by rw[kx,hr.length];exact Nat.le_refl _⟩⟩;rw[ky]at ex;obtain⟨y,ey,rfl⟩:=map_eq_some_iff.mp ex;obtain⟨v,f,ev,rv,_⟩:=hr.get ey;refine⟨⟨vs,v,hq2,ev⟩,fun w H3 hy=>?_⟩;obtain⟨p,y',hp,rfl,rfl,hall⟩:=hy;have:=hall vs hq2;rw[ev]at this;cases this;exact⟨Ext.upd hp,f,fun b hb=>rv.there b hb,oQ hp (rv.ext hx fun _ h=>h)⟩
  rcases hs with hs|hs
  ·refine⟨a,false,vs,rfl,hs,q _ H1 F1 g1 (key false hs fun H2 hx=>?_)⟩;rcases hs with z|z
   ·exact .inl (Rd.tr (fun o q=>hx a o q) z)
   ·exact .inr z
  ·exact⟨a,true,vs,rfl,hs,q _ H1 F1 g1 (key true hs fun H2 hx=>SqT.tr (fun o q _=>hx a o q) hs)⟩)
end
section
variable{X:Cx}{T:Tb}{W:Nat->St->Hp->Prop}{Z:Zn}{F F1 B L:Addr->Prop}{H H1:Hp}{Y:St}{env:En}{fp:Nat->List Addr}{D:Ends}
def RelL.erase:∀{xs:List PV}{ws:List V} (n:Nat),RelL T F B L H xs ws []->RelL T F B L H (xs.eraseIdx n) (ws.eraseIdx n) []
 | [],ws,n,h=>by unfold RelL at h;obtain⟨rfl,_⟩:=h;simpa using eX F B L H
 |x::xs,ws,n,h=>by
  unfold RelL at h;obtain⟨w,ws,f1,f2,rfl,h1,h2,e⟩:=h;obtain⟨rfl,rfl⟩:=List.append_eq_nil_iff.mp e.symm;cases n with
  |zero=>simpa using h2
  |succ n=>rw[List.eraseIdx_cons_succ,List.eraseIdx_cons_succ];unfold RelL;exact⟨w,_,[],[],rfl,h1,RelL.erase n h2,rfl⟩
end
open AutoSeq1 (wpAny_loadPart')
section
variable{prog:Program}{w:World}{A:Around}{E:Value->Shared->Prop}{s:Shared}
abbrev zTI(n:Addr):Obj:={cls:=.type "tuple",data:=.seq #[.ref n,.ref (n+1)]}
abbrev zTO:Obj:={cls:=.type "tuple",data:=.seq #[.none,.none]}
abbrev zO(n:Addr):Obj:={cls:=.type "zip",data:=.fields #[.none,.bool false,.bool false,.ref (n+2),.ref (n+3)]}
abbrev Ax(h:Heap)(l1 l2:Addr):Heap:=((((h.push (itO "list_iterator" l1)).push (itO "list_iterator" l2)).push (zTI h.objs.size)).push zTO).push (zO h.objs.size)
def Ej(hl:typeLookup (.type T) "__init__"=pure (some (.builtin "object.__init__")))(hm:Bind.madeBy (.type T)=pure (some nI))(hne:(some nI != some "object.__new__")=true) :
  Meets (Builtin.«object.__init__» ⟨[self,a,b],[]⟩) (fun _ R s=>s.TypeIs self T/\R (.ok (.ret .none)) s):=by
 refine Meets.of_wp fun pr w A R s0 hs=>?_;obtain⟨hT,hq⟩:=hs
 repeat (any_goals (first|assumption|wp_step|fail))
 exact⟨_,rfl,hq⟩
def GN(l1 l2:Addr)(xs ys:Array Value) :
  Meets (Builtin.«zip.__new__» ⟨[.type "zip",.ref l1,.ref l2],[]⟩) (fun _ R s=>s.heap.IsList l1 xs/\s.heap.IsList l2 ys/\R (.ok (.ret (.ref (s.heap.objs.size+4)))) {s with heap:=Ax s.heap l1 l2}):=
 .of_wp fun pr w A R s0 h=>by
  obtain⟨hp,g,d,tk,os⟩:=s0;obtain⟨h1,h2,h⟩:=h;have hsub:=sub_zip;have h2':(hp.push (itO "list_iterator" l1)).IsList l2 ys:=by obtain⟨o,e,r⟩:=h2;exact⟨o,get?_push_of_some _ e,r⟩
  have hz1:(hp.push (itO "list_iterator" l1)).objs.size=hp.objs.size+1:=size_push ..
  have hJ1:∀{Q:Value->Shared->Prop}{E:Value->Shared->Prop},Q (.ref hp.objs.size) ⟨hp.push (itO "list_iterator" l1),g,d,tk,os⟩->wpAny (model pr w) A.in1 (pyIter (.ref l1)) Q E ⟨hp,g,d,tk,os⟩:=fun {Q E} q=>wpAny_pyIter_list h1 q;have hJ2:∀{Q:Value->Shared->Prop}{E:Value->Shared->Prop},Q (.ref (hp.push (itO "list_iterator" l1)).objs.size) ⟨(hp.push (itO "list_iterator" l1)).push (itO "list_iterator" l2),g,d,tk,os⟩->wpAny (model pr w) A.in1 (pyIter (.ref l2)) Q E ⟨hp.push (itO "list_iterator" l1),g,d,tk,os⟩:=fun {Q E} q=>wpAny_pyIter_list h2' q
  wp_walk using hJ1,hJ2
  refine⟨_,rfl,?_⟩;simp only[size_push];exact h
def Ap(h1:s.heap.IsList l1 xs)(h2:s.heap.IsList l2 ys)(h:Q (.ref (s.heap.objs.size+4)) {s with heap:=Ax s.heap l1 l2}) :
  wpAny (model prog w) A (call (.type "zip") [.ref l1,.ref l2] []) Q E s:=by
 have hz:((((s.heap.push (itO "list_iterator" l1)).push (itO "list_iterator" l2)).push (zTI s.heap.objs.size)).push zTO).objs.size=s.heap.objs.size+4:=by simp only[size_push]
 refine mU (Q1:=fun ob s1=>s1.TypeIs ob "zip" /\ Q ob s1) F.called_zip (F.typeCall_zip_2 _ _) (F.newCall_zip_2 _ _) F.entry_zip_new F.entry_object_init (GN l1 l2 xs ys) ⟨h1,h2,?_⟩ fun ob s1 hq=>⟨hq.1,?_,_,Ej F.called_zip.init.lookup F.called_zip.made (by decide),hq.1,rfl,hq.2⟩
 ·have:=get?_push_size ((((s.heap.push (itO "list_iterator" l1)).push (itO "list_iterator" l2)).push (zTI s.heap.objs.size)).push zTO) (o:=zO s.heap.objs.size) rfl;rw[hz]at this;exact⟨⟨_,this,rfl⟩,h⟩
 ·exact F.args_object_init_3 _ _ _
end
section
variable{X:Cx}{T:Tb}{W:Nat->St->Hp->Prop}{Z:Zn}{F F1 B L:Addr->Prop}{H H1:Hp}{Y:St}{env:En}{js:List (Addr×Obj)}{s:Shared}
def ut{fp:List Addr}(I:L2.Inv X js Y H s)(hf:∀b∈fp,lO X js H b)(k:∀b o,b∉fp->s.heap.get? b=some o->h'.get? b=some o) :
  L2.Inv X js Y H {s with heap:=h',toks:=t'}:=by
 have nit:∀b u,H b=some u->b∉fp:=fun b u e z=>by rw[(hf b z).1]at e;cases e
 refine I.step (g':=s.gens) (d':=s.drawn) (ch:=fp) (fun b hb=>?_) (fun b o _ _ hc e _=>k b o hc e) (fun b o _ _ hc e _=>⟨o.slots,k b o hc e⟩) (fun _ _ _ _ n=>n) (fun b o hc e=>⟨o,k b o hc e⟩)
  (fun _ _ e=>e) (fun _ _ _ e=>e) (fun b ps e=>⟨#[],by rw[e];simp⟩) (fun m hm=>?_) (fun b u e=>?_) I.bare
 ·obtain⟨_,q1,_,q3,q4,q5⟩:=hf b hb;exact⟨q3,q1,q4,q5⟩
 ·obtain⟨o,es,ep,ho,r⟩:=hm;exact⟨o,es,ep,k _ o (fun z=>(hf _ z).2.1 rfl) ho,r⟩
 ·refine(I.hok b u e).stay (fun c v hc q=>k c v ?_ q) (fun _ q=>q) fun _ _ _ q=>q;rcases hc with z|z
  ·rw[z];exact nit b u e
  ·exact nit c _ z
def Itz(K:PySem.W.Frag)(l1 l2:Addr):It:=
  ⟨fun i H=>∃ xs ys x y,SqL K H l1 xs/\SqL K H l2 ys/\xs[i]?=some x/\ys[i]?=some y,
   fun i H v H'=>∃p x y,H p=none/\v=.ref p/\H'=upd H p (.tup [x,y])/\(∀xs,SqL K H l1 xs->xs[i]?=some x)/\∀ys,SqL K H l2 ys->ys[i]?=some y,
   fun i H=>∃xs ys,SqL K H l1 xs/\SqL K H l2 ys/\(xs.length<=i\/ys.length<=i)⟩
def jq{h h':Heap}{it l:Addr}{i:Nat}(a:h.IsListIter it l i)(k:∀o,h.get? it=some o->h'.get? it=some o):h'.IsListIter it l i:=by obtain⟨o,e,r⟩:=a;exact⟨o,k o e,r⟩
def uU{P:Program}{w:World}{K:PySem.W.Frag}{els:List Expr}{x1}(l1 l2 z ti to i1 i2:Addr)(D:ZipApart z ti to i1 i2 l1 l2) :
  qY P w K (.Tuple els x1 tpos) (Itz K l1 l2) [z,ti,to,i1,i2] z (fun i h=>IsZip h z ti to .none/\IsPair h ti (.ref i1) (.ref i2)/\(∃a b,IsPair h to a b)/\h.IsListIter i1 l1 i/\h.IsListIter i2 l2 i) where
 mem:=by simp
 obj:=fun i h st b hb=>by
  obtain⟨hz,ht,⟨a',b',ho⟩,h1,h2⟩:=st;simp only[mem_cons,not_mem_nil,or_false]at hb;rcases hb with rfl|rfl|rfl|rfl|rfl
  ·exact⟨_,hz,fun v z=>by cases z⟩
  ·exact⟨_,ht,fun v z=>by cases z⟩
  ·exact⟨_,ho,fun v z=>by cases z⟩
  ·obtain⟨o,e,c,d⟩:=id h1;exact⟨o,e,fun v z=>by rw[d]at z;cases z⟩
  ·obtain⟨o,e,c,d⟩:=id h2;exact⟨o,e,fun v z=>by rw[d]at z;cases z⟩
 keep:=fun i h h' st k=>by obtain⟨hz,ht,⟨a',b',ho⟩,h1,h2⟩:=st;exact⟨k z (by simp) _ hz,k ti (by simp) _ ht,⟨a',b',k to (by simp) _ ho⟩,jq h1 (k i1 (by simp)),jq h2 (k i2 (by simp))⟩
 item:=by
  intro X hP hw hK hc i js s Y H E I hf stt hg;subst hP hw hK;obtain⟨hz,ht,⟨a',b',ho⟩,h1,h2⟩:=stt;obtain⟨xs,ys,x,y,hq1,hq2,hx,hy⟩:=hg;obtain⟨its1,rv1,pl1,_⟩:=I.list hq1;obtain⟨its2,rv2,pl2,_⟩:=I.list hq2;obtain⟨u1,hu1,ru1⟩:=rv1.get hx;obtain⟨u2,hu2,ru2⟩:=rv2.get hy;refine wpAny_pyNext_zip_item D hz ht ho h1 h2 pl1.isList pl2.isList (x:=u1) (y:=u2) (by simpa using hu1) (by simpa using hu2) fun h' z' to' i1' i2' pr sz kp=>?_;refine⟨_,rfl,wpAny_letOwnedTupleGo_zip z' fun h3 z3 s3=>?_⟩
  replace s3:SameBut z h' h3:=s3
  have ltz:z<s.heap.objs.size:=lt_size hz;have kp2:∀b o,b∉[z,ti,to,i1,i2]->s.heap.get? b=some o->h3.get? b=some o:=fun b o hb q=>by simp only[mem_cons,not_mem_nil,or_false,not_or]at hb;exact s3.extBut b o hb.1 (kp b o hb.1 hb.2.2.1 hb.2.2.2.1 hb.2.2.2.2 q)
  have tu2:h3.get? s.heap.objs.size=some {cls:=.type "tuple",data:=.seq #[u1,u2]}:=s3.extBut _ _ (Nat.ne_of_gt ltz) pr;refine⟨.ref s.heap.objs.size,upd H s.heap.objs.size (.tup [x,y]),(mL (h':=h3) (t':=s.toks) (vs:=[x,y]) I hf kp2 (Nat.le_refl _) ⟨by rw[sizeLine_eq];simp,[u1,u2],.cons ru1 (.cons ru2 .nil),⟨_,tu2,rfl,_,rfl⟩⟩ :),rfl,⟨_,x,y,I.hok.fresh (Nat.le_refl _),rfl,rfl,fun zs hz=>by rw[I.list_inj hz hq1];exact hx,fun zs hz=>by rw[I.list_inj hz hq2];exact hy⟩,⟨z3,s3.extBut ti _ D.TIz (kp ti _ D.TIz D.TITO D.TIi1 D.TIi2 ht),⟨_,_,s3.extBut to _ D.TOz to'⟩,jq i1' fun o q=>s3.extBut i1 o D.i1z q,jq i2' fun o q=>s3.extBut i2 o D.i2z q⟩,fun b hb=>?_⟩;have:b<s.heap.objs.size:=by
   simp only[mem_cons,not_mem_nil,or_false]at hb;rcases hb with rfl|rfl|rfl|rfl|rfl
   ·exact ltz
   ·exact lt_size ht
   ·exact lt_size ho
   ·obtain⟨o,e,_⟩:=id h1;exact lt_size e
   ·obtain⟨o,e,_⟩:=id h2;exact lt_size e
  rw[aF (Nat.ne_of_lt this)];exact(hf b hb).1
 done:=by
  intro X hP hw hK hc i js s Y H E I hf stt hg;subst hP hw hK;obtain⟨hz,ht,⟨a',b',ho⟩,h1,h2⟩:=stt;obtain⟨xs,ys,hq1,hq2,hx⟩:=hg;obtain⟨its1,rv1,pl1,_⟩:=I.list hq1;obtain⟨its2,rv2,pl2,_⟩:=I.list hq2;have l1':=rv1.length;have l2':=rv2.length;refine wpAny_pyNext_zip_end (I.ok.hd hc) D hz ht ho h1 h2 pl1.isList pl2.isList (by simp;omega) fun h' kp=>⟨rfl,ut (t':=s.toks) I hf fun b o hb q=>?_⟩
  grind
 self:=fun _ _ _ _ _ st h=>wpAny_pyIter_zip st.1 h
def Dh:bootBuiltins "zip"=some (.type "zip"):=by decide +kernel
def BE{x1}(hg:Gl X "zip")(hm:X.mg "zip"=none)(ha:PA X [a,b] ta)(hs:starEach [a,b] X.env=[(false,eval a X.env),(false,eval b X.env)]:=by rfl)(hs2:starEach [b] X.env=[(false,eval b X.env)]:=by rfl) :
  PI X (.Tuple els x1 tpos) (.Call (.Name "zip" p) [a,b] [] pos) (fun Y H R=>ta Y H fun vs H1=>∃l1 l2 xs ys,vs=[V.ref l1,V.ref l2]/\SqL X.K H1 l1 xs/\SqL X.K H1 l2 ys/\R (Itz X.K l1 l2) H1):=by
 intro js s Y H R I h;refine PyProof.Rows.Call_ (fE I hg hm Dh (PyProof.Rows.callWith_type1 (thn (ha pos js s Y H _ I h) fun us s1 zz=>?_) (by rw[hs,hs2]) (by rw[hs2];rfl)));obtain⟨vs,H1,I1,r1,q1⟩:=zz;obtain⟨l1,l2,xs,ys,e,hq1,hq2,q⟩:=q1;subst e;cases r1 with
 |cons r rr=>
  cases rr with
  |cons r' rr=>
   cases rr;cases r;cases r';obtain⟨its1,rv1,pl1,_⟩:=I1.list hq1;obtain⟨its2,rv2,pl2,_⟩:=I1.list hq2;have hl1:l1<s1.heap.objs.size:=by obtain⟨o,e,_⟩:=id pl1.isList;exact lt_size e
   have hl2:l2<s1.heap.objs.size:=by obtain⟨o,e,_⟩:=id pl2.isList;exact lt_size e
   have z1:(s1.heap.push (itO "list_iterator" l1)).objs.size=s1.heap.objs.size+1:=size_push ..
   have z2:((s1.heap.push (itO "list_iterator" l1)).push (itO "list_iterator" l2)).objs.size=s1.heap.objs.size+2:=by simp only[size_push]
   have z3:(((s1.heap.push (itO "list_iterator" l1)).push (itO "list_iterator" l2)).push (zTI s1.heap.objs.size)).objs.size=s1.heap.objs.size+3:=by simp only[size_push]
   have z4:((((s1.heap.push (itO "list_iterator" l1)).push (itO "list_iterator" l2)).push (zTI s1.heap.objs.size)).push zTO).objs.size=s1.heap.objs.size+4:=by simp only[size_push]
   have e4:=get?_push_size ((((s1.heap.push (itO "list_iterator" l1)).push (itO "list_iterator" l2)).push (zTI s1.heap.objs.size)).push zTO) (o:=zO s1.heap.objs.size) rfl;have e3:=get?_push_size (((s1.heap.push (itO "list_iterator" l1)).push (itO "list_iterator" l2)).push (zTI s1.heap.objs.size)) (o:=zTO) rfl;have e2:=get?_push_size ((s1.heap.push (itO "list_iterator" l1)).push (itO "list_iterator" l2)) (o:=zTI s1.heap.objs.size) rfl;have e1:=get?_push_size (s1.heap.push (itO "list_iterator" l1)) (o:=itO "list_iterator" l2) rfl;have e0:=get?_push_size s1.heap (o:=itO "list_iterator" l1) rfl;rw[z4]at e4;rw[z3]at e3;rw[z2]at e2;rw[z1]at e1;refine Ap pl1.isList pl2.isList (wpAny_pyIter_zip (f0:=.none) e4 ?_);refine⟨s1.heap.objs.size+4,[s1.heap.objs.size+4,s1.heap.objs.size+2,s1.heap.objs.size+3,s1.heap.objs.size,s1.heap.objs.size+1],_,_,H1,rfl,I1.kept (t':=s1.toks) fun b o e=>get?_push_of_some _ (get?_push_of_some _ (get?_push_of_some _ (get?_push_of_some _ (get?_push_of_some _ e)))),uU l1 l2 _ _ _ _ _ (PyProof.Rows.zipApart_new hl1 hl2),⟨e4,get?_push_of_some _ (get?_push_of_some _ e2),⟨.none,.none,get?_push_of_some _ e3⟩,⟨_,get?_push_of_some _ (get?_push_of_some _ (get?_push_of_some _ (get?_push_of_some _ e0))),rfl,rfl⟩,⟨_,get?_push_of_some _ (get?_push_of_some _ (get?_push_of_some _ e1)),rfl,rfl⟩⟩,fun b hb=>?_,q⟩;simp only[mem_cons,not_mem_nil,or_false]at hb;have hb':s1.heap.objs.size<=b:=by rcases hb with rfl|rfl|rfl|rfl|rfl<;>omega
   exact I1.fpOk hb' (I1.hok.fresh hb')
end
def iY:List PV->List PV->List PV
 |x::xs,y::ys=>.tup [x,y]::iY xs ys
 |_,_=>[]
def ox:∀(xs ys:List PV) (i:Nat) {p:PV},(iY xs ys)[i]?=some p->∃x y,xs[i]?=some x/\ys[i]?=some y/\p=.tup [x,y]
 | [],_,i,_,h|_::_,[],i,_,h=>by simp[iY]at h
 |x::xs,y::ys,0,p,h=>by simp only[iY,getElem?_cons_zero]at h;exact⟨x,y,rfl,rfl,(Option.some.inj h).symm⟩
 |x::xs,y::ys,i+1,p,h=>by simp only[iY,getElem?_cons_succ]at h;exact ox xs ys i h
def ow:∀(xs ys:List PV),(iY xs ys).length=min xs.length ys.length
 | [],_|_::_,[]=>by simp[iY]
 |_::xs,_::ys=>by simp only[iY,length_cons,ow xs ys];omega
def r_(ms:MA):MI:=fun env=>(ms env).bind fun zs=>match zs with
 | [.lst _ xs,.lst _ ys]=>if cZ xs&&cZ ys then .ok (iY xs ys)else .stuck
 |_=>.stuck
section
variable{X:Cx}{T:Tb}{W:Nat->St->Hp->Prop}{Z:Zn}{F F1 B L:Addr->Prop}{H H1:Hp}{Y:St}{env:En}{fp:Nat->List Addr}
def tL(hp:H2 p=none)(r:Rel T F B L H2 x v [])(r':Rel T F B L H2 y u []):Rel T F B L (upd H2 p (.tup [v,u])) (.tup [x,y]) (.ref p) []:=by unfold Rel;refine⟨p,_,rfl,SqT.of aN,?_⟩;have r1:Rel T F B L (upd H2 p (.tup [v,u])) x v []:=r.ext (Ext.upd hp) fun _ h=>h;have r2:Rel T F B L (upd H2 p (.tup [v,u])) y u []:=r'.ext (Ext.upd hp) fun _ h=>h;unfold RelL;refine⟨v,[u],[],[],rfl,r1,?_,rfl⟩;unfold RelL;exact⟨u,[],[],[],rfl,r2,by unfold RelL;exact⟨rfl,rfl⟩,by simp⟩
def sA{xs:List PV}{vs:List V}{i:Nat}{x:PV}(h:RelL T F B L H xs vs [])(e:xs[i]?=some x):∃v,vs[i]?=some v/\Rel T F B L H x v []:=by obtain⟨v,f,ev,rv,sl⟩:=h.get e;have:f=[]:=List.eq_nil_of_sublist_nil sl;subst this;exact⟨v,ev,rv⟩
def yJ{els:List Expr}{x1}(hK:X.K=T.K)(hg:Gl X "zip")(hm:X.mg "zip"=none)(ha:SA X T W [a,b] ms)(hs:starEach [a,b] X.env=[(false,eval a X.env),(false,eval b X.env)]:=by rfl)(hs2:starEach [b] X.env=[(false,eval b X.env)]:=by rfl) :
  SIc X T W (.Tuple els x1 tpos) (.Call (.Name "zip" p) [a,b] [] pos) (r_ ms):=fun js s Y H R I h=>BE hg hm ha hs hs2 js s Y H R I (by
 obtain⟨Z,F,env,fp,S,q⟩:=h;unfold r_ at q;refine tA.bind S (fun c e=>by rw[e]at q;exact q) (fun e=>by rw[e]at q;exact q) fun zs vs H1 F1 f1 e1 g1 r1 n1 d1 w1=>?_;rw[e1]at q;simp only[Res.ok_bind]at q;split at q
 ·rename_i f xs g ys
  split at q
  ·rename_i hc
   rw[and_eq_true]at hc;unfold RelL at r1;obtain⟨v1,ws,f2,f3,rfl,ra,rb,_⟩:=r1;obtain⟨v2,rfl,rc⟩:=rb.one;unfold Rel at ra rc;obtain⟨a1,us,fp1,rfl,hl1,hr1,_⟩:=ra;obtain⟨a2,ws,fp2,rfl,hl2,hr2,_⟩:=rc;obtain⟨rfl,_⟩:=cY hc.1 hr1;obtain⟨rfl,_⟩:=cY hc.2 hr2;rw[hK];refine⟨a1,a2,us,ws,rfl,hl1.sq,hl2.sq,q _ H1 F1 g1 fun H2 hx=>?_⟩;have up:∀{a:Addr}{us:List V},SqL T.K H1 a us->SqL T.K H2 a us:=fun {a us} hs=>by
    rcases hs with z|z
    ·exact .inl (Rd.tr (fun o q=>hx a o q) z)
    ·exact .inr z
   have s1:=up hl1.sq;have s2:=up hl2.sq;have ln1:=hr1.length;have ln2:=hr2.length;refine⟨fun i x ex=>?_,⟨us,ws,s1,s2,by rw[ow];omega⟩⟩;obtain⟨x1,y1,ex1,ey1,rfl⟩:=ox xs ys i ex;obtain⟨v,ev,rv⟩:=sA hr1 ex1;obtain⟨u,eu,ru⟩:=sA hr2 ey1;refine⟨⟨us,ws,v,u,s1,s2,ev,eu⟩,fun w H3 hy=>?_⟩;obtain⟨p,v',u',hp,rfl,rfl,hall1,hall2⟩:=hy;have q1:=hall1 us s1;have q2:=hall2 ws s2;rw[ev]at q1;rw[eu]at q2;cases q1;cases q2;exact⟨Ext.upd hp,[],fun b hb=>(nomatch hb),tL hp (rv.ext hx fun _ h=>h) (ru.ext hx fun _ h=>h)⟩
  ·exact q.elim
 ·exact q.elim)
end
section
variable{prog:Program}{w:World}{A:Around}{R:Result->Shared->Prop}{ia:Addr}{fps wrs:List Addr}{len:Nat}{Pv:Nat->Value->Prop}{Sv:Nat->Heap->Prop}
abbrev yN(xs:Array Value)(c:Nat):Obj:={cls:=.type "list",dict:=none,data:=.seq xs c,slots:=#[]}
def jp:(toString "min"++toString ".loop":String)= "min.loop":=by decide
def qC(kw:List (Str×Value))(Wk:Walks prog w A.in1 ia fps wrs len Pv Sv)(lt:Nat->Nat->Bool)(hc:CmpOf prog w A.in1 .Lt Pv lt)(best:Addr)(nb:best∉fps) :
  ∀(left j:Nat) (sh:Shared) (u:Value) (cap:Nat),len-(j+1)=left->j+1<=len->Sv (j+1) sh.heap->Pv (argBest lt j) u->sh.heap.get? best=some (yN #[u,u] cap)->
   (∀v h' tk,Pv (argBest lt (len-1)) v->(∀b o,b∉wrs->b≠best->sh.heap.get? b=some o->h'.get? b=some o)->R (.ok (.ret v)) {sh with heap:=h',toks:=tk})->codeAny (model prog w) A (.builtin "min.loop" ⟨[.ref ia,.none,.ref best],kw⟩) R sh
 |0,j,sh,u,cap,e1,e2,st,pu,ob,fin=>by
  have nw:best∉wrs:=fun z=>nb (Wk.sub _ z);have ej:j+1=len:=by omega
  refine codeAny_builtin F.entry_min_loop ?_;rw[Around.under_plainId F.plain_min_loop _];refine(show wpAny _ A.in1 (seqItems? (.ref best) >>= _) _ _ sh from wpAny_bind (wpAny_seqItems ob rfl ?_));refine(show wpAny _ A.in1 (tryCatch (pyNext (.ref ia)) _ >>= _) _ _ sh from wpAny_bind (wpAny_tryCatch (Wk.done sh _ _ (ej▸st) fun h' tk kp=>?_)));refine(show wpAny _ A.in1 (updateSeq best (fun _=>#[]) >>= _) _ _ _ from wpAny_bind (wpAny_updateSeq (kp best _ nw ob) rfl (wpAny_bind (wpAny_letGo (wpAny_pure ?_)))));exact fin u _ tk (by rw[<- ej];exact pu) fun b o q1 q2 e=>(get?_update_other _ _ (Ne.symm q2)).trans (kp b o q1 e)
 |left+1,j,sh,u,cap,e1,e2,st,pu,ob,fin=>by
  have nw:best∉wrs:=fun z=>nb (Wk.sub _ z);have lj:j+1<len:=by omega
  refine codeAny_builtin F.entry_min_loop ?_;rw[Around.under_plainId F.plain_min_loop _];refine(show wpAny _ A.in1 (seqItems? (.ref best) >>= _) _ _ sh from wpAny_bind (wpAny_seqItems ob rfl ?_));refine(show wpAny _ A.in1 (tryCatch (pyNext (.ref ia)) _ >>= _) _ _ sh from wpAny_bind (wpAny_tryCatch (Wk.item (j+1) sh _ _ lj st fun v h' tk pv st' kp=>?_)));have ob':=kp best _ nw ob;refine(show wpAny _ A.in1 (tryCatch (holding [v,v] (richCompare .Lt v u >>= _)) _ >>= _) _ _ _ from wpAny_bind (wpAny_tryCatch (wpAny_holding (wpAny_bind (hc (j+1) (argBest lt j) v u _ _ _ pv pu (wpAny_bind (wpAny_holding (wpAny_truthy_bool (wpAny_bind (wpAny_letGo (wpAny_pure ?_)))))))))));by_cases yes:lt (j+1) (argBest lt j)=true
  ·rw[yes];simp only[if_true];refine wpAny_bind (wpAny_updateSeq ob' rfl (wpAny_bind (wpAny_letGo ?_)));rw[jp];refine wpAny_pure ⟨plainId_quiet F.plain_min_loop _,qC kw Wk lt hc best nb left (j+1) _ v _ (by omega) lj (Wk.frame _ _ _ st' fun b hb o e=>(get?_update_other _ _ (fun z:best=b=>nb (z▸hb))).trans e) (by simp only[argBest,yes,if_true];exact pv) (Heap.get?_update_self _ ob' rfl) fun v' h2 t2 pv' kp2=>?_⟩;exact fin v' h2 t2 pv' fun b o q1 q2 e=>kp2 b o q1 q2 ((get?_update_other _ _ (Ne.symm q2)).trans (kp b o q1 e))
  ·have no:lt (j+1) (argBest lt j)=false:=by simpa using yes
   rw[no];simp only[false_eq_true,if_false];refine wpAny_bind (wpAny_letGo ?_);rw[jp];refine wpAny_pure ⟨plainId_quiet F.plain_min_loop _,qC kw Wk lt hc best nb left (j+1) _ u cap (by omega) lj st' (by simp only[argBest,no,false_eq_true,if_false];exact pu) ob' fun v' h2 t2 pv' kp2=>?_⟩;exact fin v' h2 t2 pv' fun b o q1 q2 e=>kp2 b o q1 q2 (kp b o q1 e)
def zK(kw:List (Str×Value))(Wk:Walks prog w A.in1 ia fps wrs len Pv Sv)(lt:Nat->Nat->Bool)(hc:CmpOf prog w A.in1 .Lt Pv lt)(best:Addr)(nb:best∉fps)(pos:0<len)(st:Sv 0 sh.heap)(ob:sh.heap.get? best=some (yN #[] cap))
  (fin:∀v h' tk,Pv (argBest lt (len-1)) v->(∀b o,b∉wrs->b≠best->sh.heap.get? b=some o->h'.get? b=some o)->R (.ok (.ret v)) {sh with heap:=h',toks:=tk}):codeAny (model prog w) A (.builtin "min.loop" ⟨[.ref ia,.none,.ref best],kw⟩) R sh:=by
 have nw:best∉wrs:=fun z=>nb (Wk.sub _ z);refine codeAny_builtin F.entry_min_loop ?_;rw[Around.under_plainId F.plain_min_loop _];refine(show wpAny _ A.in1 (seqItems? (.ref best) >>= _) _ _ sh from wpAny_bind (wpAny_seqItems ob rfl ?_));refine(show wpAny _ A.in1 (tryCatch (pyNext (.ref ia)) _ >>= _) _ _ sh from wpAny_bind (wpAny_tryCatch (Wk.item 0 sh _ _ pos st fun v h' tk pv st' kp=>?_)));have ob':=kp best _ nw ob;refine(show wpAny _ A.in1 (updateSeq best (fun _=>#[v,v]) >>= _) _ _ _ from wpAny_bind (wpAny_updateSeq ob' rfl ?_));rw[jp];refine wpAny_pure ⟨plainId_quiet F.plain_min_loop _,qC kw Wk lt hc best nb _ 0 _ v _ rfl pos (Wk.frame _ _ _ st' fun b hb o e=>(get?_update_other _ _ (fun z:best=b=>nb (z▸hb))).trans e) pv (Heap.get?_update_self _ ob' rfl) fun v' h2 t2 pv' kp2=>?_⟩;exact fin v' h2 t2 pv' fun b o q1 q2 e=>kp2 b o q1 q2 ((get?_update_other _ _ (Ne.symm q2)).trans (kp b o q1 e))
def Ck(Wk:Walks prog w A.in1 ia fps wrs 0 Pv Sv)(best:Addr)(nb:best∉fps)(st:Sv 0 sh.heap)(ob:sh.heap.get? best=some (yN #[] cap))
  (fin:∀h' tk,(∀b o,b∉wrs->sh.heap.get? b=some o->h'.get? b=some o)->R (.ok (.ret d)) {sh with heap:=h',toks:=tk}):codeAny (model prog w) A (.builtin "min.loop" ⟨[.ref ia,.none,.ref best],[(dn,d)]⟩) R sh:=by
 refine codeAny_builtin F.entry_min_loop ?_;rw[Around.under_plainId F.plain_min_loop _];refine(show wpAny _ A.in1 (seqItems? (.ref best) >>= _) _ _ sh from wpAny_bind (wpAny_seqItems ob rfl ?_));refine(show wpAny _ A.in1 (tryCatch (pyNext (.ref ia)) _ >>= _) _ _ sh from wpAny_bind (wpAny_tryCatch (Wk.done sh _ _ st fun h' tk kp=>?_)));exact wpAny_bind (wpAny_rule (wpAny_pure (fin h' tk kp)))
end
section
variable{prog:Program}{w:World}{A:Around}{E:Value->Shared->Prop}{s:Shared}
def yg(y d:Value):argsOk "min" ⟨[y],[(Str.ofString "default",d)]⟩:=by
 unfold argsOk
 kernel_rfl
def pT
  (h:wpAny (model prog w) A.in1 (pyIter x) (fun it s2=>∃ ia fps wrs len Pv Sv lt,it=.ref ia/\Walks prog w A.in1 ia fps wrs len Pv Sv/\Sv 0 s2.heap/\(∀ b ∈ fps,b < s2.heap.objs.size)/\CmpOf prog w A.in1 .Lt Pv lt /\
   ∀v h' tk,(len=0/\v=d\/0<len/\Pv (argBest lt (len-1)) v)->(∀b o,b∉wrs->s2.heap.get? b=some o->h'.get? b=some o)->Q v {s2 with heap:=h',toks:=tk}) E s) :
  wpAny (model prog w) A (call (.builtin "min") [x] [(Str.ofString "default",d)]) Q E s:=by
 refine PyProof.Rows.kmk_tree F.kind_min F.plain_min F.entry_min (yg _ _) ?_;refine(show wpAny _ A.in1 (Builtin.Builtins.bindParams "min" ["key","default"] 0 ⟨[],[(Str.ofString "default",d)]⟩ >>= _) _ _ s from wpAny_bind (wpAny_of_eq (a:=[none,some d]) (by kernel_rfl) (wpAny_bind (wpAny_pure (wpAny_bind (wpAny_mono h (fun it s2 q=>?_) fun _ _ e=>e))))));obtain⟨ia,fps,wrs,len,Pv,Sv,lt,rfl,Wk,st,hf,hc,fin⟩:=q;refine wpAny_bind (wpAny_newObj_type ?_);rw[jp];have nb:s2.heap.objs.size∉fps:=fun z=>Nat.lt_irrefl _ (hf _ z);have st':=Wk.frame _ _ (s2.heap.push (yN #[] 0)) st fun b _ o e=>get?_push_of_some _ e;refine wpAny_pure ⟨plainId_quiet F.plain_min_loop _,?_⟩;by_cases pos:0<len
 ·exact zK _ Wk lt hc s2.heap.objs.size nb pos st' (get?_push_size _ rfl) fun v h' tk pv kp=>fin v h' tk (.inr ⟨pos,pv⟩) fun b o q e=>kp b o q (Nat.ne_of_lt (lt_size e)) (get?_push_of_some _ e)
 ·have z:len=0:=by omega
  subst z;exact Ck Wk s2.heap.objs.size nb st' (get?_push_size _ rfl) fun h' tk kp=>fin d h' tk (.inl ⟨rfl,rfl⟩) fun b o q e=>kp b o q (get?_push_of_some _ e)
end
section
variable{X:Cx}{T:Tb}{W:Nat->St->Hp->Prop}{Z:Zn}{F F1 B L:Addr->Prop}{H H1:Hp}{Y:St}{env:En}{fp:Nat->List Addr}{js:List (Addr×Obj)}{s:Shared}
def pS{M:Model}{A:Around}{E:Value->Shared->Prop}{s:Shared}{env:Env}{id:String}{rest:List Expr}{kws:List Keyword}{Q:Value->Shared->Prop}
  (h:wpAny M A (spliced (backTo pos (starEach (e::rest) env))) (fun vs s1=>wpAny M A (evalAll ((backToKw pos (keywordEach kws env)).map (·.2))) (fun ks s2=>wpAny M A (call (.builtin id) vs (((backToKw pos (keywordEach kws env)).filterMap (·.1)).zip ks)) Q E s2) E s1) E s)
  (hall:(backToKw pos (keywordEach kws env)).all (·.1.isSome)=true:=by rfl) (hkw:(backToKw pos (keywordEach kws env)).any (·.1.isNone)=false:=by rfl)
  (he:starEach (e::rest) env=(false,eval e env)::starEach rest env:=by rfl) (hpl:(backTo pos (starEach (e::rest) env)).any (·.1)=false:=by rfl) :
  wpAny M A (callWith pos (.builtin id) [] (backTo pos (starEach (e::rest) env)) (backToKw pos (keywordEach kws env))) Q E s:=by
 unfold callWith;refine wpAny_bind (wpAny_holding (wpAny_mono (evalArgs_kw2 (Q:=fun a s1=>wpAny M A (call (.builtin id) ([]++ a.pos) a.kw) Q E s1) hall h he) (fun a s1 h1=>wpAny_bind (wpAny_standAt ?_)) fun _ _ x=>x));simp only[hpl,hkw,Bool.or_false];exact wpAny_bind (wpAny_pure (wpAny_bind (wpAny_mono h1 (fun r s2 hr=>wpAny_bind (wpAny_holding (wpAny_point (wpAny_pure hr)))) fun _ _ x=>x)))
def EY(vs:List V)(P:V->Prop):Prop:=match vs with
 | [v]=>P v
 |_=>False
def zw(h:EY vs P):∃v,vs=[v]/\P v:=by
 match vs,h with
 | [v],h=>exact⟨v,rfl,h⟩
def wu(ns:List Int):V:=if ns.isEmpty then .non else .int (fv ns)
def vC(K:PySem.W.Frag):V->Hp->VK->Prop:=fun v H Q=>∃p ns,v=.ref p/\(SqL K H p (ns.map V.int)\/ SqT K H p (ns.map V.int))/\Q (wu ns) H
def uL(hc:X.calm=true)(I:L2.Inv X js Y H s)(hq:SqL X.K H p (ns.map V.int)\/ SqT X.K H p (ns.map V.int))(q:Q (wu ns) H):wpAny (model X.prog X.w) X.A (call (.builtin "min") [.ref p] [(Str.ofString "default",.none)]) (EP X js Y Q) X.xe s:=by
 have hh:=I.ok.hd hc;have key:∀{its:List Value},aP (ns.map V.int) its->∀{v:Value}{h':Heap}{tk:Nat},(its.toArray.size=0/\v=.none\/0<its.toArray.size/\its.toArray[argBest (fun i j=>decide (ns.getD i 0<ns.getD j 0)) (its.toArray.size-1)]?=some v)->(∀b o,s.heap.get? b=some o->h'.get? b=some o)->EP X js Y Q v {s with heap:=h',toks:=tk}:=by
  intro its r v h' tk hv k;have hl:its.toArray.size=ns.length:=by have:=r.length;simpa using this.symm
  rw[hl]at hv;rcases hv with⟨h0,rfl⟩ |⟨hn,hv⟩
  ·have e:ns=[]:=List.length_eq_zero_iff.mp h0;subst e;exact⟨.non,H,fg I k,rfl,q⟩
  ·obtain⟨t,rfl⟩:=dM r _ _ hv;rw[pU hn];have e:wu ns=.int (fv ns):=by
    unfold wu;rw[if_neg];intro z;have:ns=[]:=by simpa using z
    rw[this]at hn;exact absurd hn (by decide)
   rw[e]at q;exact⟨.int _,H,fg I k,⟨t,rfl⟩,q⟩
 rcases hq with hq|hq
 ·obtain⟨its,r,pl,hz⟩:=I.list hq;obtain⟨o,ho,hcl,n,hd⟩:=pl.isList;have hlt:=lt_size ho;refine pT (wpAny_pyIter_list pl.isList ?_);refine⟨_,_,_,_,_,_,_,rfl,Walks.list (A:=X.A.in1) hh _ p (Nat.ne_of_lt hlt) its.toArray,⟨⟨_,get?_push_size _ rfl,rfl,rfl⟩,pl.isList.push _⟩,fun b hb=>?_,CmpOf.ints_lt (fun i=>ns.getD i 0) (dM r),fun v h' tk hP hk=>key r hP (dJ hk)⟩;show b <(s.heap.push _).objs.size;rw[size_push];exact gN hlt rfl b hb
 ·obtain⟨its,r,pl,hz⟩:=I.tuple hq;have pt:s.heap.IsTuple p its.toArray:=pl;obtain⟨o,ho,hcl,n,hd⟩:=pl;have hlt:=lt_size ho;refine pT (wpAny_pyIter_tuple pt ?_);refine⟨_,_,_,_,_,_,_,rfl,Walks.tuple (A:=X.A.in1) hh _ p (Nat.ne_of_lt hlt) its.toArray,⟨⟨_,get?_push_size _ rfl,rfl,rfl⟩,pt.push _⟩,fun b hb=>?_,CmpOf.ints_lt (fun i=>ns.getD i 0) (dM r),fun v h' tk hP hk=>key r hP (dJ hk)⟩;show b <(s.heap.push _).objs.size;rw[size_push];exact gN hlt rfl b hb
abbrev mdE(e:Expr)(p pos kp cp:Pos)(j:Nat):Expr:=.Call (.Name "min" p) [e] [⟨some "default",.Constant .none j cp,kp⟩] pos
def zj(hc:X.calm=true)(hg:Gl X "min")(hm:X.mg "min"=none)(he:PE X e te)(hs:starEach [e] X.env=[(false,eval e X.env)]:=by rfl):PE X (mdE e p pos kp cp j) (tUn (vC X.K) te):=by intro js s Y H Q I h;refine wpAny_Call_Name_kw (fE I hg hm qV ?_ (by decide) (by decide));refine pS ?_ rfl rfl hs (by rw[hs];rfl);refine thn (da (te:=te) he gd (by rw[hs];rfl) pos js s Y H (fun vs H1=>EY vs fun v=>vC X.K v H1 Q) I h) fun us s1 hz1=>?_;obtain⟨vs,H1,I1,r1,q1⟩:=hz1;obtain⟨v,rfl,a,ns,rfl,hq,q⟩:=zw q1;obtain⟨u,rfl,rx⟩:=dR r1;cases rx;refine thn (rQ (nm:=some "default") (kpos:=kp) (vP (j:=j) (pos:=cp)) vI pos js s1 Y H1 (fun zs H2=>zs=[.non]/\H2=H1) I1 ⟨rfl,rfl⟩) fun ws s2 hz1=>?_;obtain⟨zs,H2,I2,r2,ez,eh⟩:=hz1;subst ez;rw[eh]at I2;clear eh;obtain⟨u2,rfl,rx2⟩:=dR r2;cases rx2;exact uL hc I2 hq q
def mz(x:PV):Res PV:=match aT x with
 | some xs=>(match bz xs with
  |some ns=>.ok (if ns.isEmpty then .non else .int (fv ns))
  |none=>.stuck)
 |none=>.stuck
def wq(hK:X.K=T.K):Gc T W mz (vC X.K):=by
 intro B F L Y H Q F' H' x v fx g rx nf nd new q;unfold mz at q;cases e:aT x with
 |none=>rw[e]at q;exact q.elim
 |some xs=>
  rw[e]at q;dsimp only at q;cases e2:bz xs with
  |none=>rw[e2]at q;exact q.elim
  |some ns=>
   rw[e2]at q;dsimp only at q;obtain⟨a,us,fx',rfl,hs,hr,_⟩:=rx.seq e;have hu:=cS e2 hr;subst hu;refine⟨a,ns,rfl,by rw[hK];exact hs,q.scal g ?_⟩;unfold wu;split
   ·unfold Rel;exact⟨rfl,rfl⟩
   ·exact dP
def yO(hK:X.K=T.K)(hc:X.calm=true)(hg:Gl X "min")(hm:X.mg "min"=none)(he:SE X T W e m)(hs:starEach [e] X.env=[(false,eval e X.env)]:=by rfl):SE X T W (mdE e p pos kp cp j) (mUn mz m):=
 PE.wk (zj hc hg hm he hs) fun _ _ _ h=>tE.mir1 (wq hK) h
end
open AutoSeq1 (wpAny_loadPart')
def qG(i j:Nat):MS:=fun env=>match env[i]?,env[j]? with
 |some (some v),some (some w)=>if i=j then .stuck else .ret (.tup [v,w])
 |_,_=>.stuck
section
variable{X:Cx}{T:Tb}{W:Nat->St->Hp->Prop}{Z:Zn}{F F1 B L:Addr->Prop}{H H1:Hp}{Y:St}{env:En}{fp:Nat->List Addr}{D:Ends}
def u9{x1}(hN:X.N[i]?=some x)(hv:Vis X.env.scope x)(hN2:X.N[j]?=some y)(hv2:Vis X.env.scope y)(hd:(x ==("__debug__":Str))=false:=by decide)(hcd:(x ==("__classdict__":Str))=false:=by decide)(hd2:(y ==("__debug__":Str))=false:=by decide)(hcd2:(y ==("__classdict__":Str))=false:=by decide) :
  SS X T W (.Return (some (.Tuple [.Name x px,.Name y py] x1 tpos)) pos) (qG i j):=
 PS.wk (qt (pos:=pos) (vN (pos:=tpos) (da (te:=u0 i) (dG (pos:=px) hN hv hd hcd) (da (te:=u0 j) (dG (pos:=py) hN2 hv2 hd2 hcd2) gd)))) fun D Y H hz1=>by
  obtain⟨Z,F,env,fp,S,q⟩:=hz1;unfold qG at q;split at q
  case h_2=>exact q.elim
  rename_i pv pw ei ej
  split at q
  case isTrue=>exact q.elim
  rename_i hij
  obtain⟨v,e1,r1⟩:=S.rel i pv ei;obtain⟨w,e2,r2⟩:=S.rel j pw ej;refine⟨v,e1,w,e2,small (by simp),fun p hp=>?_⟩;have g:Gr F H F (upd H p (.tup [v,w])):=Gr.same S.hp.ft (Ext.upd hp);have S2:=S.grow g;obtain⟨v',e1',r1'⟩:=S2.rel i pv ei;obtain⟨w',e2',r2'⟩:=S2.rel j pw ej;rw[e1]at e1';cases e1';rw[e2]at e2';cases e2';refine q F (upd H p (.tup [v,w])) (.ref p) (fp i++fp j) S2.hp ?_ (nodup_append.mpr ⟨S.nd i,S.nd j,fun a ha b hb z=>?_⟩) (fun a ha=>?_) (fun a ha=>?_)
  ·unfold Rel;refine⟨p,_,rfl,SqT.of aN,?_⟩;unfold RelL;refine⟨v,[w],fp i,fp j,rfl,r1',?_,rfl⟩;unfold RelL;exact⟨w,[],fp j,[],rfl,r2',by unfold RelL;exact⟨rfl,rfl⟩,by simp⟩
  ·subst z;exact S.dj i j hij a ha hb
  ·rcases mem_append.mp ha with h|h
   ·exact(S2.dis i a h).1
   ·exact(S2.dis j a h).1
  ·rcases mem_append.mp ha with h|h
   ·exact S.new i a h
   ·exact S.new j a h
end
section
variable{P:Program}{w:World}{mg:Str->Option Value}{base:Heap}{T:Tb}
def CD(F:Fun T.K x qual st f fd)(S:dO N ps (aH st))
  (body:∀ (cdv:Value) (A:Around) (outer:List Env) (s:Shared) (H:Hp) (E:XK),Ctx (c_ (CXP P w) P w T.K mg base N qual (aH st) f cdv A outer s H E) T (WD T E) k ->
   SSs (c_ (CXP P w) P w T.K mg base N qual (aH st) f cdv A outer s H E) T (WD T E) (bP st) m):cU P w T.K mg base (CXP P w) (k+1) f fd ps (spM T ps.length (br N.length m)):=
 FV F S fun cdv A outer s H E hr=>body cdv A outer s H E (n5 hr)
def zV(F:Fun T.K x qual st f fd)(S:dO N ps (aH st))
  (body:∀ (cdv:Value) (A:Around) (outer:List Env) (s:Shared) (H:Hp) (E:XK),Ctx (c_ (CXP P w) P w T.K mg base N qual (aH st) f cdv A outer s H E) T (WD T E) k ->
   SSs (c_ (CXP P w) P w T.K mg base N qual (aH st) f cdv A outer s H E) T (WD T E) (bP st) m):cU P w T.K mg base (CXP P w) (k+1) f fd ps (spI T ps.length (iC N.length m)):=
 CF F S fun cdv A outer s H E hr=>body cdv A outer s H E (n5 hr)
end
end PR
namespace PR
open PySem PySem.Spec L2
open AutoSeq1 (wpAny_loadPart')
section
variable{X:Cx}{T:Tb}{W:Nat->St->Hp->Prop}{Z:Zn}{F F1 B L:Addr->Prop}{H H1:Hp}{Y:St}{env:En}{fp:Nat->List Addr}
def mFz(m:ME):ME:=fun env=>(m env).bind fun v=>.ok (v.mapF Fl.freeze)
def EB(he:SE X T W e m):SE X T W e (mFz m):=PE.wk he fun Y H Q hz1=>by
 obtain⟨Z,F,env,fp,S,q⟩:=hz1;unfold mFz at q;refine⟨Z,F,env,fp,S,?_⟩;cases em:m env with
 |stuck|exc c=>rw[em]at q;exact q
 |ok pv=>rw[em]at q;simp only[Res.ok_bind]at q;intro v H' F' f g r nf nd new;refine q v H' (fun a=>F' a\/a∈f) [] ⟨g.ext,fun a h=>.inl (g.mono a h),fun a h=>h.elim (g.only a) fun z=>.inr (new a z),fun a h=>h.elim (g.dom a) fun z=>r.there a z⟩ (Rel.freeze (fun _ h=>.inl h) (fun a h=>.inr h) r) (fun _ h=>nomatch h) nodup_nil fun _ h=>nomatch h
end
section
variable{X:Cx}{T:Tb}{W:Nat->St->Hp->Prop}{Z:Zn}{F F1 B L:Addr->Prop}{H H1:Hp}{Y:St}{env:En}{fp:Nat->List Addr}{D:Ends}
def aA.blind(S:aA T Z F H Y env fp)(h0:c≠0)(hc:env[c]?=some none)(v:V):aA T Z F H (Y.set c (some v)) env fp:=
 ⟨S.hp,by rw [length_set,S.len],fun i pv e=>by
  have:i≠c:=by rintro rfl;rw[hc]at e;cases e
  rw[getElem?_set_ne (Ne.symm this)];exact S.rel i pv e,S.nd,S.dj,S.dis,S.new,S.ch,fun w hw=>by
  rw[getElem?_set_ne h0];exact S.pn w hw⟩
def aA.bOut(S:aA T Z F H Y env fp)(h:Z.B a):(∃o,H a=some o)/\∀j,a∉fp j:=by
 obtain⟨⟨o,h1⟩,h2⟩:=S.hp.bo.1 a h;refine⟨⟨o,S.hp.keep a o h1 h2⟩,fun j hj=>?_⟩;rcases S.new j a hj with z|z
 ·rw[h1]at z;cases z
 ·exact h2 z
end
open PySem.W (findIn fnOf keepIn nsIn codeIn isFn Frag)
structure FS where
 q:Str
 s:Stmt
 k:Nat
 N:List Str
 c:Option Nat
def bB(s:Stmt):Str:=match s with
 |.FunctionDef n _ _ _ _ _ _ _ _ _=>n
 |_=>""
structure Clo(H:Hp)(fr:List Str)(cl:List (Str×Addr))(cvs:List V):Prop where
 inj:∀x y c,cl.lookup x=some c->cl.lookup y=some c->x=y
 sub:∀x c,cl.lookup x=some c->x∈fr
 len:cvs.length=fr.length
 val:∀(i:Nat) x v,fr[i]?=some x->cvs[i]?=some v->∃c o u z,cl.lookup x=some c/\H c=some (.frz o u)/\o.data=.cell (some z)/\bv v z
def Clo.tr(C:Clo H fr cl cvs)(h:∀b o u,H b=some (.frz o u)->H' b=some (.frz o u)):Clo H' fr cl cvs:=
 ⟨C.inj,C.sub,C.len,fun i x v h1 h2=>let⟨c,o,u,z,q1,q2,q3⟩:=C.val i x v h1 h2;⟨c,o,u,z,q1,h _ _ _ q2,q3⟩⟩
def Clo.at(C:Clo H fr cl cvs)(h:cl.lookup x=some c):∃o u z,H c=some (.frz o u)/\o.data=.cell (some z):=by
 obtain⟨i,hi,e⟩:=getElem_of_mem (C.sub x c h);have hv:i<cvs.length:=by rw[C.len];exact hi
 obtain⟨c',o,u,z,q1,q2,q3,_⟩:=C.val i x cvs[i] (by rw[getElem?_eq_getElem hi,e]) (getElem?_eq_getElem hv);rw[h]at q1;cases q1;exact⟨o,u,z,q2,q3⟩
structure FI where
 name:Str
 qual:Str
 params:Arguments
 body:List Stmt
 scope:Scope
 fr:List Str
def FI.bx(i:FI)(H:Hp)(f:Addr)(cvs:List V):Prop:=∃cl doc pm ctv c' oc u u' vs t,H f=some (.frz (fnMade i.name i.qual i.params i.body i.scope cl doc pm c' ctv) u)/\
 H c'=some (.frz oc u')/\oc.data=.fields vs/\vs[1]?=some (.str i.qual t)/\Clo H i.fr cl cvs
def FI.bxs{i:FI}(h:∀b o u,H b=some (.frz o u)->H' b=some (.frz o u))(q:i.bx H f cvs):i.bx H' f cvs:=by obtain⟨cl,doc,pm,ctv,c',oc,u,u',vs,t,h1,h2,h3,h4,C⟩:=q;exact⟨cl,doc,pm,ctv,c',oc,u,u',vs,t,h _ _ _ h1,h _ _ _ h2,h3,h4,C.tr h⟩
structure NFd where
 i:Nat
 j:Nat
 q:Str
 k:Nat
 fr:List Str
 N:List Str
structure PT where
 F:List FS
 C:List Str
 X:List Str
 A:List Str
 M:List (Nat×Str×Nat)
 Mk:List (Nat×Nat)
 U:List (Nat×Nat)
 B:List Str
 I:List (Str×Int)
 KT:List (Option Nat×String×List Bool)
 HT:List (Nat×List Bool)
 D:List (List Str):=[]
 G:Option NFd:=none
def fs0:FS:=⟨"",.Pass ⟨0,0,0,0⟩,0,[],none⟩
def pk{α:Type}(d:α)(l:List α)(i:Nat):α:=l.getD i (l.headD d)
def f_{α:Type}{d:α}{p:α->Prop}{l:List α}(hl:l≠[])(h:∀x∈l,p x)(i:Nat):p (pk d l i):=by
 unfold pk;rw[getD_eq_getElem?_getD];cases e:l[i]? with
 |some C=>exact h C (List.mem_of_getElem? e)
 |none=>
  cases l with
  |nil=>exact absurd rfl hl
  |cons a l=>exact h a mem_cons_self
section
variable(p:PT)(K:Frag)
def gAt(x:Str):Addr:=match nsIn K mainGlobals x with
 |some (some (.ref a))=>a
 |_=>0
def mAt(c:Addr)(x:Str):Addr:=match findIn K (.ref c) x with
 |some (some (.ref a))=>a
 |_=>0
def dAt(f:Addr):FuncData:=match K.lookup f with
 |some ⟨_,_,.func d,_⟩=>d
 |_=>default
def PT.fs(i:Nat):FS:=pk fs0 p.F i
def PT.ps(i:Nat):List Str:=(p.fs i).N.take (p.fs i).k
def PT.ca(c:Nat):Addr:=gAt K (pk "" p.C c)
def PT.xa(c:Nat):Addr:=gAt K (pk "" p.X c)
def PT.fx(x:FS):Addr:=match x.c with
 |none=>gAt K (bB x.s)
 |some c=>mAt K (p.ca K c) (bB x.s)
def PT.fa(i:Nat):Addr:=p.fx K (p.fs i)
def lit(x:FS):Obj->Obj
 |⟨oc,od,.func d,sl⟩=>⟨oc,od,.func (fnOf (bB x.s) x.q (ef x.s) (bP x.s) (aH x.s) .none d.kwdefaults d.doc d.pyModule d.annotations d.code d.closureTuple),sl⟩
 |o=>o
def FG:Option Obj->Bool
 |some ⟨_,_,.func _,_⟩=>true
 |_=>false
def scB(x:FS):Bool:=decide ((aH x.s).kind=.function)&&!(aH x.s).isCoroutine&&!(aH x.s).isGenerator&&decide x.N.Nodup&&decide (x.k<=x.N.length) &&
 (x.N.take x.k).all (fun y=>decide ((aH x.s).names.lookup y=some .local \/(aH x.s).names.lookup y=some .cell))&&(aH x.s).names.all (fun y=>decide (y.2≠.free))
def PT.chF(x:FS):Bool:=FG (K.lookup (p.fx K x))&&codeIn K (dAt K (p.fx K x)).code x.q&&keepIn K (.ref (p.fx K x))&&(match x.c with|none=>decide (nsIn K mainGlobals (bB x.s)=some (some (.ref (p.fx K x))))|some _=>true)
def chC(A:List Str)(x:Str):Bool:=plainGet K (gAt K x) Str.empty&&hasDictIn K (gAt K x)&&plainOver K (gAt K x)&&decide (findIn K (.ref (gAt K x)) "__setattr__"=some (some (.builtin "object.__setattr__"))) &&
 decide (nsIn K mainGlobals x=some (some (.ref (gAt K x))))&&A.all (fun y=>decide (findIn K (.ref (gAt K x)) y=some none))
def PT.chM(x:Nat×Str×Nat):Bool:=decide (findIn K (.ref (p.ca K x.1)) x.2.1=some (some (.ref (p.fa K x.2.2))))&&isFn K (.ref (p.fa K x.2.2))&&keepIn K (.ref (p.fa K x.2.2))
def PT.chK(x:Nat×Nat):Bool:=makesIn K (p.ca K x.1)&&decide (findIn K (.ref (p.ca K x.1)) "__init__"=some (some (.ref (p.fa K x.2))))&&isFn K (.ref (p.fa K x.2))&&keepIn K (.ref (p.ca K x.1))
def AJ(f:Addr):Option PySem.W.CFound->Bool
 |some (.val (.ref a))=>decide (a=f)
 |_=>false
def PT.chU(x:Nat×Nat):Bool:=decide (specialIn K (.ref (p.ca K x.1)) "__getattribute__"=some (some (.builtin "type.__getattribute__")))&&readsIn K (p.ca K x.1) (.type "type")&&AJ (p.fa K x.2) (findCls K (.ref (p.ca K x.1)) (.type "type") "__init__")&&keepIn K (.ref (p.fa K x.2))
def tgV(y:Option Nat×String×List Bool):Value:=match y.1 with
 |some x=>.ref (p.xa K x)
 |none=>.type y.2.1
def chX(x:Str):Bool:=decide (nsIn K mainGlobals x=some (some (.ref (gAt K x))))&&uC K (gAt K x)
def chI(x:Str×Int):Bool:=match nsIn K mainGlobals x.1 with
 |some (some (.int i _))=>decide (i=x.2)
 |_=>false
def PT.chT(y:Option Nat×String×List Bool):Bool:=decide (p.X.map (fun x=>kitOne K (.ref (gAt K x)) (tgV p K y))=y.2.2.map some)
def PT.chH(y:Nat×List Bool):Bool:=decide (p.X.map (fun x=>exmOne K (.ref (gAt K x)) (.ref (p.xa K y.1)))=y.2.map some)
def PT.ch1:Bool:=p.F.all (p.chF K)
def PT.ch2:Bool:=p.C.all (chC K p.A)&&p.Mk.all (p.chK K)&&p.U.all (p.chU K)&&p.X.all (chX K)&&p.B.all (fun x=>decide (nsIn K mainGlobals x=some none))&&p.I.all (chI K)&&p.KT.all (p.chT K)&&p.HT.all (p.chH K)
def PT.ch3:Bool:=p.M.all (p.chM K)
def PT.ob:List (Option Obj):=p.F.map fun x=>K.lookup (p.fx K x)
def PT.ol:List (Option Obj):=p.F.map fun x=>(K.lookup (p.fx K x)).map (lit x)
end
structure Tx(p:PT)(K:Frag)(mg:Str->Option Value):Prop where
 fn:∀i,Fun K (bB (p.fs i).s) (p.fs i).q (p.fs i).s (p.fa K i) (dAt K (p.fa K i))
 sc:∀i,dO (p.fs i).N (p.ps i) (aH (p.fs i).s)
 bn:∀i,fq K (dAt K (p.fa K i)) (p.ps i) []
 gl:∀i,(p.fs i).c=none->mg (bB (p.fs i).s)=some (.ref (p.fa K i))
 cl:∀c,Cls K (p.ca K c)
 cg:∀c,mg (pk "" p.C c)=some (.ref (p.ca K c))
 cn:∀c,∀x∈p.A,eO K (p.ca K c) x
 me:∀x∈p.M,Av K (p.ca K x.1) x.2.1 (p.fa K x.2.2)
 mm:∀x∈p.Mk,Mk K (p.ca K x.1) (p.fa K x.2)
 su:∀x∈p.U,Sup K (p.ca K x.1) (p.fa K x.2)
 xg:∀c,mg (pk "" p.X c)=some (.ref (p.xa K c))
 xe:∀c,uC K (p.xa K c)=true
 bi:∀x∈p.B,mg x=none
 ci:∀x∈p.I,∃tk,mg x.1=some (.int x.2 tk)
 kt:∀y∈p.KT,∀c,kitOne K (.ref (p.xa K c)) (tgV p K y)=some (oY y.2.2 c)
 ht:∀y∈p.HT,∀c,exmOne K (.ref (p.xa K c)) (.ref (p.xa K y.1))=some (oY y.2 c)
def Bnd(x:FS):Prop:=∀(kV doc pm:Value) (an:Option Addr) (cdv ct:Value) (us:List Value),us.length=(x.N.take x.k).length->bindArgs (fnOf (bB x.s) x.q (ef x.s) (bP x.s) (aH x.s) .none kV doc pm an cdv ct) ⟨us,[]⟩=pure ((x.N.take x.k).zip us)
def yk:List FS->Prop
 | []=>True
 |x::l=>Bnd x/\yk l
def yk.get:∀{l:List FS},yk l->∀x∈l,Bnd x
 | [],_,_,h=>nomatch h
 |y::l,⟨h1,h2⟩,x,h=>by
  rcases mem_cons.mp h with rfl|h
  ·exact h1
  ·exact h2.get x h
section
variable{x:FS}
def lsS{us:List Value}(h:us.length=n+1):∃a r,us=a::r/\r.length=n:=by
 cases us with
 |nil=>cases h
 |cons a r=>exact⟨a,r,rfl,Nat.succ.inj h⟩
def bn1(h:∀(kV doc pm:Value) (an:Option Addr) (cdv ct u1:Value),bindArgs (fnOf (bB x.s) x.q (ef x.s) (bP x.s) (aH x.s) .none kV doc pm an cdv ct) ⟨[u1],[]⟩=pure ((x.N.take x.k).zip [u1]):=by intros;rfl)(hk:(x.N.take x.k).length=1:=by rfl):Bnd x:=fun kV doc pm an cdv ct us hl=>by rw[hk]at hl;obtain⟨_,_,rfl,l1⟩:=lsS hl;cases List.eq_nil_of_length_eq_zero l1;exact h ..
def bn2(h:∀(kV doc pm:Value) (an:Option Addr) (cdv ct u1 u2:Value),bindArgs (fnOf (bB x.s) x.q (ef x.s) (bP x.s) (aH x.s) .none kV doc pm an cdv ct) ⟨[u1,u2],[]⟩=pure ((x.N.take x.k).zip [u1,u2]):=by intros;rfl)(hk:(x.N.take x.k).length=2:=by rfl):Bnd x:=fun kV doc pm an cdv ct us hl=>by rw[hk]at hl;obtain⟨_,_,rfl,l1⟩:=lsS hl;obtain⟨_,_,rfl,l2⟩:=lsS l1;cases List.eq_nil_of_length_eq_zero l2;exact h ..
def bn3(h:∀(kV doc pm:Value) (an:Option Addr) (cdv ct u1 u2 u3:Value),bindArgs (fnOf (bB x.s) x.q (ef x.s) (bP x.s) (aH x.s) .none kV doc pm an cdv ct) ⟨[u1,u2,u3],[]⟩=pure ((x.N.take x.k).zip [u1,u2,u3]):=by intros;rfl)(hk:(x.N.take x.k).length=3:=by rfl):Bnd x:=fun kV doc pm an cdv ct us hl=>by rw[hk]at hl;obtain⟨_,_,rfl,l1⟩:=lsS hl;obtain⟨_,_,rfl,l2⟩:=lsS l1;obtain⟨_,_,rfl,l3⟩:=lsS l2;cases List.eq_nil_of_length_eq_zero l3;exact h ..
def bn4(h:∀(kV doc pm:Value) (an:Option Addr) (cdv ct u1 u2 u3 u4:Value),bindArgs (fnOf (bB x.s) x.q (ef x.s) (bP x.s) (aH x.s) .none kV doc pm an cdv ct) ⟨[u1,u2,u3,u4],[]⟩=pure ((x.N.take x.k).zip [u1,u2,u3,u4]):=by intros;rfl)(hk:(x.N.take x.k).length=4:=by rfl):Bnd x:=fun kV doc pm an cdv ct us hl=>by rw[hk]at hl;obtain⟨_,_,rfl,l1⟩:=lsS hl;obtain⟨_,_,rfl,l2⟩:=lsS l1;obtain⟨_,_,rfl,l3⟩:=lsS l2;obtain⟨_,_,rfl,l4⟩:=lsS l3;cases List.eq_nil_of_length_eq_zero l4;exact h ..
def bn5(h:∀(kV doc pm:Value) (an:Option Addr) (cdv ct u1 u2 u3 u4 u5:Value),bindArgs (fnOf (bB x.s) x.q (ef x.s) (bP x.s) (aH x.s) .none kV doc pm an cdv ct) ⟨[u1,u2,u3,u4,u5],[]⟩=pure ((x.N.take x.k).zip [u1,u2,u3,u4,u5]):=by intros;rfl)(hk:(x.N.take x.k).length=5:=by rfl):Bnd x:=fun kV doc pm an cdv ct us hl=>by rw[hk]at hl;obtain⟨_,_,rfl,l1⟩:=lsS hl;obtain⟨_,_,rfl,l2⟩:=lsS l1;obtain⟨_,_,rfl,l3⟩:=lsS l2;obtain⟨_,_,rfl,l4⟩:=lsS l3;obtain⟨_,_,rfl,l5⟩:=lsS l4;cases List.eq_nil_of_length_eq_zero l5;exact h ..
end
def uZ{l:List Str}{α:Type}{f:Addr->Option Bool}{bs:List Bool}(hl:l≠[])(h:l.map (fun x=>f (gAt K x))=bs.map some)(c:Nat):f (gAt K (pk "" l c))=some (oY bs c):=by
 have e:gAt K (pk "" l c)=zg (l.map (gAt K)) c:=by
  unfold pk zg;cases l with
  |nil=>exact absurd rfl hl
  |cons a l=>rw[getD_eq_getElem?_getD,getD_eq_getElem?_getD,getElem?_map];cases(a::l)[c]?<;>rfl
 rw[e];exact vK (g:=id) (by simpa using hl) (by rw[map_map];exact h) c
def Tx.of{p:PT}{K:Frag}{h:Heap}{mg:Str->Option Value}(X:K.In h)(N:h.Ns mainGlobals mg)(hb:yk p.F)(hs:p.F.all scB=true)(hF:p.F≠[])(hC:p.C≠[])(hX:p.X≠[])
  (e:p.ob K=p.ol K) (h1:p.ch1 K=true) (h2:p.ch2 K=true) (h3:p.ch3 K=true):Tx p K mg:=by
 simp only[PT.ch2,and_eq_true,all_eq_true,decide_eq_true_eq]at h2;obtain⟨⟨⟨⟨⟨⟨⟨c1,c2⟩,c3⟩,c4⟩,c5⟩,c6⟩,c7⟩,c8⟩:=h2;simp only[PT.ch1,PT.ch3,all_eq_true]at h1 h3 hs;have fnx:∀x∈p.F,Fun K (bB x.s) x.q x.s (p.fx K x) (dAt K (p.fx K x)):=fun x hx=>by
  have q:=h1 x hx;simp only[PT.chF,and_eq_true]at q;obtain⟨⟨⟨q1,q2⟩,q3⟩,_⟩:=q;have e1:K.lookup (p.fx K x)=(K.lookup (p.fx K x)).map (lit x):=List.map_inj_left.mp e x hx;cases eo:K.lookup (p.fx K x)with
  |none=>rw[eo]at q1;cases q1
  |some o=>
   rw[eo]at e1 q1;obtain⟨oc,od,dt,sl⟩:=o;cases dt with
   |func d=>
    have e2:(⟨oc,od,.func d,sl⟩:Obj)=lit x ⟨oc,od,.func d,sl⟩:=Option.some.inj e1;simp only[lit,Obj.mk.injEq,Data.func.injEq,true_and,and_true]at e2;have ed:dAt K (p.fx K x)=d:=by unfold dAt;rw[eo]
    rw[ed]at q2 ⊢;exact⟨⟨oc,od,d.kwdefaults,d.doc,d.pyModule,d.annotations,d.code,d.closureTuple,sl,e2,eo,q2⟩,q3⟩
   |_=>cases q1
 have scx:∀x∈p.F,dO x.N (x.N.take x.k) (aH x.s):=fun x hx=>by have q:=hs x hx;simp only[scB,and_eq_true,decide_eq_true_eq,all_eq_true,not_eq_true']at q;obtain⟨⟨⟨⟨⟨⟨q1,q2⟩,q3⟩,q4⟩,q5⟩,q6⟩,q7⟩:=q;exact⟨q1,q2,q3,q4,by rw[length_take,Nat.min_eq_left q5],q6,q7⟩
 have clx:∀x∈p.C,(Cls K (gAt K x)/\mg x=some (.ref (gAt K x)))/\∀y∈p.A,eO K (gAt K x) y:=fun x hx=>by have q:=c1 x hx;simp only[chC,and_eq_true,decide_eq_true_eq,all_eq_true]at q;obtain⟨⟨⟨⟨⟨q1,q2⟩,q3⟩,q4⟩,q5⟩,q6⟩:=q;exact⟨⟨⟨q1,q2,q3,q4⟩,mg_of X N q5⟩,q6⟩
 have xx:∀x∈p.X,mg x=some (.ref (gAt K x))/\uC K (gAt K x)=true:=fun x hx=>by have q:=c4 x hx;simp only[chX,and_eq_true,decide_eq_true_eq]at q;exact⟨mg_of X N q.1,q.2⟩
 refine ⟨f_ (p:=fun x=>Fun K (bB x.s) x.q x.s (p.fx K x) (dAt K (p.fx K x))) hF fnx,f_ (p:=fun x=>dO x.N (x.N.take x.k) (aH x.s)) hF scx,f_ (p:=fun x=>fq K (dAt K (p.fx K x)) (x.N.take x.k) []) hF fun x hx=>(fnx x hx).binds (hb.get x hx),
  f_ (p:=fun x=>x.c=none->mg (bB x.s)=some (.ref (p.fx K x))) hF fun x hx hc=>?_,f_ (p:=fun x=>Cls K (gAt K x)) hC fun x hx=>(clx x hx).1.1,f_ (p:=fun x=>mg x=some (.ref (gAt K x))) hC fun x hx=>(clx x hx).1.2,
  f_ (p:=fun x=>∀y∈p.A,eO K (gAt K x) y) hC fun x hx=>(clx x hx).2,fun x hx=>?_,fun x hx=>?_,fun x hx=>?_,f_ (p:=fun x=>mg x=some (.ref (gAt K x))) hX fun x hx=>(xx x hx).1,f_ (p:=fun x=>uC K (gAt K x)=true) hX fun x hx=>(xx x hx).2,
  fun x hx=>PySem.W.mg_none_of X N (c5 x hx),fun x hx=>?_,fun y hy c=>?_,fun y hy c=>?_⟩
 ·have q:=h1 x hx;simp only[PT.chF,and_eq_true]at q;have q:=q.2;rw[hc]at q;exact mg_of X N (of_decide_eq_true q)
 ·have q:=h3 x hx;simp only[PT.chM,and_eq_true,decide_eq_true_eq]at q;exact⟨q.1.1,q.1.2,q.2⟩
 ·have q:=c2 x hx;simp only[PT.chK,and_eq_true,decide_eq_true_eq]at q;exact⟨q.1.1.1,q.1.1.2,q.1.2,q.2⟩
 ·have q:=c3 x hx;simp only[PT.chU,and_eq_true,decide_eq_true_eq]at q;refine⟨q.1.1.1,q.1.1.2,?_,q.2⟩;have q:=q.1.2;unfold AJ at q;split at q
  ·rename_i a e
   rw[e,of_decide_eq_true q]
  ·cases q
 ·have q:=c6 x hx;unfold chI at q;split at q
  ·rename_i i tk e
   exact⟨tk,by rw[<- of_decide_eq_true q];exact mg_of X N e⟩
  ·cases q
 ·exact uZ (α:=Bool) (f:=fun a=>kitOne K (.ref a) (tgV p K y)) hX (of_decide_eq_true (c7 y hy)) c
 ·exact uZ (α:=Bool) (f:=fun a=>exmOne K (.ref a) (.ref (p.xa K y.1))) hX (of_decide_eq_true (c8 y hy)) c
def PT.attOk(p:PT):Prop:=p.A.Nodup/\p.A.all jJ=true
def PT.gs(p:PT):NFd:=p.G.getD ⟨0,0,"",0,[],[]⟩
def PT.gst(p:PT):Stmt:=(bP (p.fs p.gs.i).s).getD p.gs.j (.Pass ⟨0,0,0,0⟩)
def PT.fi(p:PT):FI:=⟨bB p.gst,p.gs.q,ef p.gst,bP p.gst,aH p.gst,p.gs.fr⟩
def PT.gpos(p:PT):Pos:=match p.gst with
 |.FunctionDef _ _ _ _ _ _ _ _ _ pos=>pos
 |_=>⟨0,0,0,0⟩
def PT.gt(p:PT)(K:Frag):Addr×Addr:=(tabIn K (bB (p.fs p.gs.i).s)).getD (0,0)
@[reducible] def PT.T(p:PT)(h:p.attOk)(K:Frag):Tb where
 K:=K
 nc:=p.C.length
 cls:=p.ca K
 att:=jA p.A
 inj:=uQ h.1 h.2
 xcl:=p.xa K
 dk:=fun k=>p.D.getD k []
 bx:=fun k H a vs=>if k=99 then p.fi.bx H a vs else ∃o,H a=some (.frz o (.dK (((p.D.getD k []).map Sum.inr).zip vs)))/\(p.D.getD k []).length=vs.length
 bxs:=fun k H H' a vs h q=>by
  split at q
  ·rw[if_pos ‹_›];exact FI.bxs h q
  ·rw[if_neg ‹_›];obtain⟨o,z,l⟩:=q;exact⟨o,h _ _ _ z,l⟩
 tb:=fun a=>if p.G.isSome=true/\a=(p.gt K).2 then some #[rawInt p.gpos.line,rawInt p.gpos.col,.str p.gs.q 0]else none
section
variable{p:PT}{K:Frag}{mg:Str->Option Value}
def Tx.cls(t:Tx p K mg)(n:Nat):∀c<n,Cls K (p.ca K c):=fun c _=>t.cl c
def Tx.b(t:Tx p K mg)(j:Nat)(h:p.B[j]?=some x:=by rfl):mg x=none:=t.bi x (List.mem_of_getElem? h)
def Tx.c(t:Tx p K mg)(j:Nat)(h:p.I[j]?=some (x,i):=by rfl):∃tk,mg x=some (.int i tk):=t.ci (x,i) (List.mem_of_getElem? h)
end
open PySem.W (keepIn Frag)
section
variable{P:Program}{w:World}{K:Frag}{mg:Str->Option Value}{base:Heap}{p:PT}{hA:p.attOk}
abbrev OkF(p:PT)(hA:p.attOk)(P:Program)(w:World)(K:Frag)(mg:Str->Option Value)(base:Heap)(k i:Nat)(m:List PV->Res PV):Prop:=cU P w K mg base (CXP P w) k (p.fa K i) (dAt K (p.fa K i)) (p.ps i) (spM (p.T hA K) (p.ps i).length m)
abbrev OkI(p:PT)(hA:p.attOk)(P:Program)(w:World)(K:Frag)(mg:Str->Option Value)(base:Heap)(k i:Nat)(m:List PV->Res PV):Prop:=cU P w K mg base (CXP P w) k (p.fa K i) (dAt K (p.fa K i)) (p.ps i) (spI (p.T hA K) (p.ps i).length m)
def okC(i:Nat)(t:Tx p K mg)(body:∀ (cdv:Value) (A:Around) (outer:List Env) (s:Shared) (H:Hp) (E:XK),Ctx (c_ (CXP P w) P w K mg base (p.fs i).N (p.fs i).q (aH (p.fs i).s) (p.fa K i) cdv A outer s H E) (p.T hA K) (WD (p.T hA K) E) k->(p.fs i).N.Nodup ->
  SSs (c_ (CXP P w) P w K mg base (p.fs i).N (p.fs i).q (aH (p.fs i).s) (p.fa K i) cdv A outer s H E) (p.T hA K) (WD (p.T hA K) E) (bP (p.fs i).s) m):OkF p hA P w K mg base (k+1) i (br (p.fs i).N.length m):=
 CD (T:=p.T hA K) (t.fn i) (t.sc i) fun a b c d e f g=>body a b c d e f g (t.sc i).nd
def okI(i:Nat)(t:Tx p K mg)(body:∀ (cdv:Value) (A:Around) (outer:List Env) (s:Shared) (H:Hp) (E:XK),Ctx (c_ (CXP P w) P w K mg base (p.fs i).N (p.fs i).q (aH (p.fs i).s) (p.fa K i) cdv A outer s H E) (p.T hA K) (WD (p.T hA K) E) k->(p.fs i).N.Nodup ->
  SSs (c_ (CXP P w) P w K mg base (p.fs i).N (p.fs i).q (aH (p.fs i).s) (p.fa K i) cdv A outer s H E) (p.T hA K) (WD (p.T hA K) E) (bP (p.fs i).s) m):OkI p hA P w K mg base (k+1) i (iC (p.fs i).N.length m):=
 zV (T:=p.T hA K) (t.fn i) (t.sc i) fun a b c d e f g=>body a b c d e f g (t.sc i).nd
def dm{X:Cx}{k k2 i c:Nat}{mn:Str}{m m':List PV->Res PV}{ps:List Str}(j:Nat)(t:Tx p X.K X.mg)(G:cU X.prog X.w X.K X.mg X.base (CXP X.prog X.w) k (p.fa X.K i) (dAt X.K (p.fa X.K i)) ps (spM (p.T hA X.K) ps.length m))(e:some m=some m')(hj:p.M[j]?=some (c,mn,i):=by rfl)(hp:p.ps i=ps:=by rfl)(hk:k<=k2:=by decide) :
  ∃f fd,Av X.K (p.ca X.K c) mn f/\fq X.K fd ps []/\cU X.prog X.w X.K X.mg X.base (CXP X.prog X.w) k2 f fd ps (spM (p.T hA X.K) ps.length m'):=by
 cases e;exact⟨_,_,t.me _ (List.mem_of_getElem? hj),hp▸t.bn i,G.mono hk⟩
end
def dno{n c:Nat}{q:Prop}(h:c<n)(hc:n<=c:=by exact Nat.le_add_left _ _):q:=absurd h (Nat.not_lt.mpr hc)
section
variable{X:Cx}{W:Nat->St->Hp->Prop}{p:PT}{hA:p.attOk}
def bT(t:Tx p X.K X.mg)
  (G:cU X.prog X.w X.K X.mg X.base (CXP X.prog X.w) k (p.fa X.K i) (dAt X.K (p.fa X.K i)) (p.ps i) (spM (p.T hA X.K) (p.ps i).length m)) (cx:Ctx X (p.T hA X.K) W kk) (ha:SA X (p.T hA X.K) W (e::es) ms)
  (hk:k<=kk:=by decide) (hx:bB (p.fs i).s=x:=by rfl) (hc:(p.fs i).c=none:=by rfl) (hg:Gl X x:=by rfl) (hn:gA ms n:=by repeat' first|exact eC|apply dA) (hps:n=(p.ps i).length:=by rfl)
  (hdb:(x ==("__debug__":Str))=false:=by decide) (he:starEach (e::es) X.env=(false,eval e X.env)::starEach es X.env:=by rfl) (hpl:(backTo pos (starEach es X.env)).any (·.1)=false:=by rfl) :
  SE X (p.T hA X.K) W (.Call (.Name x np) (e::es) [] pos) (au (aU m) ms):=
 vm G cx hk hg (by subst hx;exact t.gl i hc) (t.fn i).kp (t.bn i) hn hps ha hdb he hpl
def dF(t:Tx p X.K X.mg)
  (D:gB X (p.T hA X.K) k mn ps [] disp) (cx:Ctx X (p.T hA X.K) W kk) (ho:SE X (p.T hA X.K) W o mo) (ha:SA X (p.T hA X.K) W (e::es) ms)
  (hm:∀k,jA p.A k≠mn:=by exact ye (by decide +kernel) (by decide +kernel)) (hk:k<=kk:=by decide) (hn:gA ms n:=by repeat' first|exact eC|apply dA) (hps:n+1=ps.length:=by rfl)
  (hst:starEach (e::es) X.env=(false,eval e X.env)::starEach es X.env:=by rfl) (hpl:(backTo pos (starEach es X.env)).any (·.1)=false:=by rfl)
  (ht:eval (.Call (.Attribute o mn apos) (e::es) [] pos) X.env=(do
   let ov <- eval o X.env
   standAt apos.atName
   let(f,first) <- holding [ov] (getMethod ov mn pl)
   callWith pos f first (backTo pos (starEach (e::es) X.env)) (backToKw pos (keywordEach [] X.env))):=by rfl) :
  SE X (p.T hA X.K) W (.Call (.Attribute o mn apos) (e::es) [] pos) (cC disp mo ms):=
 A_ (pl:=pl) cx (t.cls _) hm D hk hn hps ho ha hst hpl ht
def kM(c:Nat)(t:Tx p X.K X.mg)
  (G:cU X.prog X.w X.K X.mg X.base (CXP X.prog X.w) k (p.fa X.K i) (dAt X.K (p.fa X.K i)) (p.ps i) (spI (p.T hA X.K) (p.ps i).length m)) (cx:Ctx X (p.T hA X.K) W kk) (ha:SA X (p.T hA X.K) W (e::es) ms)
  (hM:(c,i)∈ p.Mk:=by decide) (hcn:c<p.C.length:=by decide) (hk:k+1<=kk:=by decide) (hx:pk ("":Str) p.C c=x:=by rfl) (hg:Gl X x:=by rfl) (hn:gA ms n:=by repeat' first|exact eC|apply dA) (hps:n+1=(p.ps i).length:=by rfl)
  (hdb:(x ==("__debug__":Str))=false:=by decide) (he:starEach (e::es) X.env=(false,eval e X.env)::starEach es X.env:=by rfl) (hpl:(backTo pos (starEach es X.env)).any (·.1)=false:=by rfl) :
  SE X (p.T hA X.K) W (.Call (.Name x np) (e::es) [] pos) (iP c m ms):=
 A9 (t.mm _ hM) hcn G cx hk hg (by subst hx;exact t.cg c) (t.bn i) hn hps ha hdb he hpl
def bh(k:Nat)(t:Tx p X.K X.mg)(cx:Ctx X (p.T hA X.K) W kk)(he:SE X (p.T hA X.K) W e m)(hf:jA p.A k=f:=by rfl)(hm:f∈p.A:=by decide)(hb:attributeBase e f X.env (eval e X.env)=eval e X.env:=by rfl) :
  SE X (p.T hA X.K) W (.Attribute e f pos) (mUn (aq k) m):=yV cx.hK hf (t.cls _) (fun c _=>t.cn c f hm) he hb
def gR(ha:SA X T W es ms)(hn:gA ms n:=by repeat' first|exact eC|apply dA)(hs:n<=1000:=by decide):SE X T W (.List es pos) (eK ms):=Ba ha hn hs
def vp{x1}(ha:SA X T W es ms)(hn:gA ms n:=by repeat' first|exact eC|apply dA)(hs:n<=1000:=by decide):SE X T W (.Tuple es x1 pos) (nN ms):=A7 ha hn hs
def a5(cx:Ctx X T W kk)(ha:SE X T W a ma)(hb:SE X T W b mb)(hs:kA b:=by exact fun _ _=>rfl):SE X T W (.Subscript a b pos) (mOp az ma mb):=Bc cx.hK ha hb hs
def bE(hN:X.N.Nodup)(he:SE X T W e m)(hi:X.N[i]?=some x:=by rfl)(hx:Loc X.env.scope x:=by first|exact .inl rfl|exact .inr rfl)(hs:swapsWith e (some (.Name x pos')) pos.line X.env=pure false:=by rfl)
  (hf:X.fn x=true\/X.env.scope.names.lookup x=some .local:=by first|exact .inl rfl|exact .inr rfl|assumption):SS X T W (.Assign [.Name x pos'] e pos) (aV i m):=A3 hN hi hx he hs hf
def sgN(hN:X.N.Nodup)(hi:X.N[i]?=some x:=by rfl)(hx:Loc X.env.scope x:=by first|exact .inl rfl|exact .inr rfl)(hf:X.fn x=true\/X.env.scope.names.lookup x=some .local:=by first|exact .inl rfl|exact .inr rfl|assumption):SG X T (.Name x pos) (tgN i):=yL hN hi hx hf
def cE(h:k<=i:=by decide):gy (tgN i) k:=uV h
def vv(cx:Ctx X T W kk)(he:SE X T W e m)(hN:X.N[i]?=some x:=by rfl)(hv:Vis X.env.scope x:=by first|exact Or.inl rfl|exact Or.inr (Or.inl rfl)|exact Or.inr (Or.inr rfl))
  (hs:swapsWith (.Call (.Attribute (.Name x px) "append" apos) [e] [] cpos) none pos.line X.env=pure false:=by rfl) (hst:starEach [e] X.env=[(false,eval e X.env)]:=by rfl)
  (hfew:((backTo cpos (starEach [e] X.env)).all (fun x=>!x.1)&&(backToKw cpos (keywordEach [] X.env)).all (fun x=>x.1.isSome)&&decide ([e].length+([]:List Keyword).length+(if([]:List Keyword).isEmpty then 0 else 1)<30))=true:=by rfl)
  (hline:(apos.endLine==cpos.line)=true:=by rfl) (hd:(x ==("__debug__":Str))=false:=by decide) (hcd:(x ==("__classdict__":Str))=false:=by decide) :
  SS X T W (.Expr (.Call (.Attribute (.Name x px) "append" apos) [e] [] cpos) pos) (ee i m):=sZ cx.hK hN hv he hs hst hfew hline hd hcd
def sFld(k:Nat)(t:Tx p X.K X.mg)(cx:Ctx X (p.T hA X.K) W kk)(he:SE X (p.T hA X.K) W e m)(hf:jA p.A k=f:=by rfl)(hm:f∈p.A:=by decide)(hN:X.N[i]?=some x:=by rfl)
  (hv:Vis X.env.scope x:=by first|exact Or.inl rfl|exact Or.inr (Or.inl rfl)|exact Or.inr (Or.inr rfl))
  (hs:swapsWith e (some (.Attribute (.Name x px) f pos')) pos.line X.env=pure false:=by rfl) (hd:(x ==("__debug__":Str))=false:=by decide) (hcd:(x ==("__classdict__":Str))=false:=by decide) :
  SS X (p.T hA X.K) W (.Assign [.Attribute (.Name x px) f pos'] e pos) (fN i k m):=A4 cx.hK hf (t.cls _) (fun c _=>t.cn c f hm) hN hv he hs hd hcd
def ck(c:Nat)(t:Tx p X.K X.mg)(cx:Ctx X (p.T hA X.K) W k)(hB:X.K.In X.base)(hx:XM X (p.T hA X.K) W)(ha:SA X (p.T hA X.K) W (e::es) ms)
  (hm:pk ("":Str) p.X c=x:=by rfl) (hg:Gl X x:=by rfl) (hn:gA ms n:=by repeat' first|exact eC|apply dA) (hn2:n<=100:=by decide) (hd:(x ==("__debug__":Str))=false:=by decide)
  (he:starEach (e::es) X.env=(false,eval e X.env)::starEach es X.env:=by rfl) (hpl:(backTo cpos (starEach es X.env)).any (·.1)=false:=by rfl) :
  SS X (p.T hA X.K) W (.Raise (some (.Call (.Name x np) (e::es) [] cpos)) none pos) (bw c ms):=
 sY cx (by subst hm;exact t.xg c) hB (z5 (t.xe c)).2 hx hg hn hn2 ha hd he hpl
def oN(c:Nat)(t:Tx p X.K X.mg)
  (G:cU X.prog X.w X.K X.mg X.base (CXP X.prog X.w) k (p.fa X.K i) (dAt X.K (p.fa X.K i)) (p.ps i) (spI (p.T hA X.K) (p.ps i).length m)) (cx:Ctx X (p.T hA X.K) W kk) (ha:SA X (p.T hA X.K) W es ms)
  (hU:(c,i)∈ p.U:=by decide) (hk:k<=kk:=by decide) (hx:pk ("":Str) p.C c=x:=by rfl) (hg:Gl X x:=by rfl) (hN:X.N[0]?=some y:=by rfl) (hv:Vis X.env.scope y:=by first|exact Or.inl rfl|exact Or.inr (Or.inl rfl)|exact Or.inr (Or.inr rfl))
  (hn:gA ms n:=by repeat' first|exact eC|apply dA) (hps:n+1=(p.ps i).length:=by rfl)
  (hdb:(x ==("__debug__":Str))=false:=by decide) (hdy:(y ==("__debug__":Str))=false:=by decide) (hcy:(y ==("__classdict__":Str))=false:=by decide)
  (hst:starEach (.Name y px::es) X.env=(false,eval (.Name y px) X.env)::starEach es X.env:=by rfl) (hpl:(backTo pos (starEach es X.env)).any (·.1)=false:=by rfl)
  (ht:eval (.Call (.Attribute (.Name x q) "__init__" apos) (.Name y px::es) [] pos) X.env=(do
   let ov <- eval (.Name x q) X.env
   standAt apos.atName
   let(f,first) <- holding [ov] (getMethod ov "__init__" pl)
   callWith pos f first (backTo pos (starEach (.Name y px::es) X.env)) (backToKw pos (keywordEach [] X.env))):=by rfl)
  (hs:swapsWith (.Call (.Attribute (.Name x q) "__init__" apos) (.Name y px::es) [] pos) none pos'.line X.env=pure false:=by rfl) :
  SS X (p.T hA X.K) W (.Expr (.Call (.Attribute (.Name x q) "__init__" apos) (.Name y px::es) [] pos) pos') (gM m ms):=
 A2 (pl:=pl) cx (t.su _ hU) G hk hg (by subst hx;exact t.cg c) (t.bn i) hN hv hn hps ha hdb hdy hcy hst hpl ht hs
end
section
variable{X:Cx}{W:Nat->St->Hp->Prop}{T:Tb}
abbrev nmC(X:Cx)(caps:List Nat)(tn:List Str):List Str:=caps.map (fun i=>X.N.getD i "")++ tn
def cOf(h:lB X.env.scope scope X.N caps (nmC X caps tn) tn=true):d9 X scope caps (nmC X caps tn) tn:=Al h rfl rfl
def dW(tn:List Str)(cx:Ctx X T W kk)(hi:SIc X T W tg iter mi)(hk:gy g caps.length)
  (hb:∀C s H ex,(nmC X caps tn).Nodup->SG (cxC X scope C (nmC X caps tn) s H ex) T tg g/\STs (cxC X scope C (nmC X caps tn) s H ex) T WF ifs mc/\SE (cxC X scope C (nmC X caps tn) s H ex) T WF elt me)
  (h:lB X.env.scope scope X.N caps (nmC X caps tn) tn=true:=by kernel_rfl) (hs:∀x,foldedSetIterable iter X.env x=pure x:=by intro _;rfl):SE X T W (.ListComp elt [⟨tg,iter,ifs,0⟩] scope pos) (a6 caps tn.length mi g mc me):=
 yS (cOf h) cx.calm hi hk (fun C s H ex=>hb C s H ex (cOf h).nd) hs
def dU(tn:List Str)(cx:Ctx X T W kk)(hN:X.N.Nodup)(hi:SIc X T W tg iter mi)(hk:gy g caps.length)
  (hb:∀C s H ex,(nmC X caps tn).Nodup->SG (cxC X scope C (nmC X caps tn) s H ex) T tg g/\STs (cxC X scope C (nmC X caps tn) s H ex) T WF ifs mc/\SE (cxC X scope C (nmC X caps tn) s H ex) T WF elt me)
  (h:lB X.env.scope scope X.N caps (nmC X caps tn) tn=true:=by kernel_rfl) (hy:X.N[i]?=some y:=by rfl) (hx:Loc X.env.scope y:=by first|exact .inl rfl|exact .inr rfl)
  (hsw:swapsWith (.ListComp elt [⟨tg,iter,ifs,0⟩] scope pos) (some (.Name y py)) spos.line X.env=pure true:=by rfl)
  (hs:∀x,foldedSetIterable iter X.env x=pure x:=by intro _;rfl)
  (hf:X.fn y=true\/X.env.scope.names.lookup y=some .local:=by first|exact .inl rfl|exact .inr rfl|assumption) :
  SS X T W (.Assign [.Name y py] (.ListComp elt [⟨tg,iter,ifs,0⟩] scope pos) spos) (aV i (a6 caps tn.length mi g mc me)):=
 yB (cOf h) cx.calm hN hy hx hi hk (fun C s H ex=>hb C s H ex (cOf h).nd) hsw hs hf
end
end PR
namespace PR
open PySem PySem.Spec L2
open PySem.W (findIn fnOf keepIn nsIn codeIn isFn Frag)
structure PE where
 D:List (FS×Bool)
 G:List (Str×List (Str×Int))
 S:List (Str×Str)
 P:List (Str×List Str)
section
variable{X:Cx}{T:Tb}{W:Nat->St->Hp->Prop}{Z:Zn}{F F1 B L:Addr->Prop}{H H1:Hp}{Y:St}{env:En}{fp:Nat->List Addr}{D:Ends}
def rK:∀{xs:List PV}{ws:List V}{f:List Addr}{i:Nat}{x:PV},RelL T F B L H xs ws f->xs[i]?=some x->∃w fx,ws[i]?=some w/\Rel T F B L H x w fx/\∀b∈fx,b∈f
 | [],_,_,i,x,_,e=>by simp at e
 |a::xs,ws,f,i,x,h,e=>by
  unfold RelL at h;obtain⟨v,ws',f1,f2,rfl,h1,h2,rfl⟩:=h;cases i with
  |zero=>cases e;exact⟨v,f1,rfl,h1,fun b hb=>mem_append_left _ hb⟩
  |succ i=>obtain⟨w,fx,e1,r,s⟩:=rK h2 e;exact⟨w,fx,e1,r,fun b hb=>mem_append_right _ (s b hb)⟩
def aA.updO(S:aA T Z F H Y env fp)(hj:∀j,b∉fp j)(hF:¬F b)(hn:Z.H0 b=none\/Z.fp0 b)(hb:H b=some o)(hfx:¬fP o):aA T Z F (upd H b o') Y env fp:=by
 have nB:¬Z.B b:=fun h=>by
  obtain⟨⟨u,e⟩,n⟩:=S.hp.bo.1 b h;rcases hn with z|z
  ·rw[e]at z;cases z
  ·exact n z
 have ne:∀a u,H a=some u->(F a\/Z.B a\/NoL a\/fP u)->a≠b:=fun a u e h z=>by
  subst z;rcases h with h|h|h|h
  ·exact hF h
  ·exact nB h
  ·exact h
  ·rw[hb]at e;cases e;exact hfx h
 refine⟨⟨S.hp.bo,fun a u e n=>?_,S.hp.f0,S.hp.fn,fun a h=>?_⟩,S.len,fun i pv e=>?_,S.nd,S.dj,fun i a ha=>?_,S.new,fun i a ha=>?_,S.pn⟩
 ·have:a≠b:=fun z=>by
   subst z;rcases hn with z|z
   ·rw[e]at z;cases z
   ·exact n z
  rw[aF this];exact S.hp.keep a u e n
 ·obtain⟨u,e⟩:=S.hp.ft a h;exact⟨u,by rw[aF (show a≠b from fun z=>hF (by rw[<- z];exact h))];exact e⟩
 ·obtain⟨v,h1,h2⟩:=S.rel i pv e;refine⟨v,h1,Rel.tr (fun _ h=>h) (fun _ h=>h) (fun _ h=>h) (fun a u q h=>?_) (fun a ha u q=>?_) h2⟩
  ·rw[aF (ne a u q h)];exact q
  ·rw[aF (show a≠b from fun z=>hj i (by rw[<- z];exact ha))];exact q
 ·obtain⟨n,u,e⟩:=S.dis i a ha;exact⟨n,u,by rw[aF (show a≠b from fun z=>hj i (by rw[<- z];exact ha))];exact e⟩
 ·obtain⟨u,e,c⟩:=S.ch i a ha;exact⟨u,by rw[aF (show a≠b from fun z=>hj i (by rw[<- z];exact ha))];exact e,c⟩
end
open PySem.W (fnOf Frag)
def smp:PV->Bool
 |.int _|.bl _|.str _|.non=>true
 |.lst f xs=>decide (f≠.mod)&&(bz xs).isSome
 |_=>false
def eqD(x:PV)(y:PV):Bool:=PyData.eqv y.data x.data
def e_:PV->PV->Res PV:=fun o x=>match o with
 | .lst _ ys=>if shp x && ys.all shp && ys.all smp && decide (ys.length <= 10000000) then (match ys.findIdx? (eqD x) with
  |some j=>.ok (.int j)
  |none=>.stuck)else .stuck
 |_=>.stuck
section
variable{X:Cx}{T:Tb}{W:Nat->St->Hp->Prop}{Z:Zn}{F F1 B L:Addr->Prop}{H H1:Hp}{Y:St}{env:En}{fp:Nat->List Addr}{D:Ends}
def Rd.inj{u u':List V}(h:Rd H a (.lst u))(h':Rd H a (.lst u')):u=u':=by rcases h with h |⟨o,h⟩<;>rcases h' with h' |⟨o',h'⟩<;>rw[h]at h'<;>cases h'<;>rfl
def jV:∀{xs:List PV}{ns:List Int},bz xs=some ns->xs=ns.map .int
 | [],ns,h=>by cases h;rfl
 |.int i::xs,ns,h=>by
  unfold bz at h;cases e:bz xs with
  |none=>rw[e]at h;cases h
  |some ms=>rw[e]at h;cases h;rw[jV e];rfl
 |.non::xs,ns,h|.bl _::xs,ns,h|.str _::xs,ns,h|.lst _ _::xs,ns,h|.tup _::xs,ns,h|.obj _ _ _ _::xs,ns,h|.exc _::xs,ns,h|.box _ _::xs,ns,h=>by cases h
def vb{y y':PV}(s:smp y=true)(s':smp y'=true)(r:Rel T F B L H y u fy)(r':Rel T F B L H y' u fy'):y.data=y'.data:=by
  cases y with
  |lst f xs=>
    unfold Rel at r;obtain⟨a,vs,f',rfl,h1,h2,_⟩:=r;cases y' with
    |lst g zs=>unfold Rel at r';obtain⟨b,ws,g',e,k1,k2,_⟩:=r';cases e;simp only[smp,and_eq_true,decide_eq_true_eq]at s s';obtain⟨ns,en⟩:=isSome_iff_exists.mp s.2;obtain⟨ms,em⟩:=isSome_iff_exists.mp s'.2;have e1:=cS en h2;have e2:=cS em k2;have:=Rd.inj (h1.rd s.1) (k1.rd s'.1);rw[e1,e2]at this;have e3:ns=ms:=List.map_inj_right (fun _ _ h=>V.int.inj h) |>.mp this;rw[jV en,jV em,e3];simp[PV.data]
    |_=>first |(cases s';done) |(unfold Rel at r';cases r'.1;done)
  |_=>
    first
    |(cases s;done)
    | (unfold Rel at r
       obtain⟨rfl,_⟩:=r;cases y' with
       |lst f xs=>unfold Rel at r';obtain⟨a,vs,f',e,_⟩:=r';cases e
       |_=>first |(cases s';done) |(unfold Rel at r';obtain⟨e,_⟩:=r';cases e;rfl) |(unfold Rel at r';obtain⟨e,_⟩:=r';cases e;done))
def yf(hK:X.K=T.K)(I:L2.Inv X js Y H s)(hu:A.units+64<cLine)(rx:Rel T F B L H x v fx)(rv:bv v v')(hx:shp x=true){ys:List PV}{us:List V}{fy:List Addr}{its:List Value}(r:RelL T F B L H ys us fy)(rl:aP us its)(hs:ys.all shp=true)(hm:ys.all smp=true) :
  ∃e:Value->Bool,(∀w∈its,SeqAt.EqAt A s w v' (e w))/\its.length=ys.length/\∀(m:Nat) (y:PV) (w:Value),ys[m]?=some y->its[m]?=some w->e w=eqD x y:=by
 classical
 have hlen:its.length=ys.length:=by rw[<- rl.length,<- r.length]
 let e:Value->Bool:=fun w=>decide (∃y∈ys,∃u fy,F8 w=some u/\Rel T F B L H y u fy/\eqD x y=true)
 have pl:∀(m:Nat) (y:PV) (w:Value),ys[m]?=some y->its[m]?=some w->∃u fy,bv u w/\Rel T F B L H y u fy:=fun m y w ey ew=>by obtain⟨u,fx,e1,r1,_⟩:=rK r ey;obtain⟨w',e2,r2⟩:=rl.get e1;rw[ew]at e2;cases e2;exact⟨u,fx,r2,r1⟩
 have ev:∀(m:Nat) (y:PV) (w:Value),ys[m]?=some y->its[m]?=some w->e w=eqD x y:=fun m y w ey ew=>by
  obtain⟨u,fu,r1,r2⟩:=pl m y w ey ew;have ym:=List.mem_of_getElem? ey;show decide _=_;cases q:eqD x y with
  |true=>exact decide_eq_true ⟨y,ym,u,fu,r1.abs,r2,q⟩
  |false=>refine decide_eq_false fun hz1=>?_;obtain⟨y',hy',u',fu',a',r',q'⟩:=hz1;rw[r1.abs]at a';cases a';have:=vb (all_eq_true.mp hm y ym) (all_eq_true.mp hm y' hy') r2 r';unfold eqD at q q';rw[this]at q;rw[q]at q';cases q'
 refine⟨e,fun w hw=>?_,hlen,ev⟩;obtain⟨m,hmlt,ew⟩:=getElem_of_mem hw;have ew':its[m]?=some w:=by rw[getElem?_eq_getElem hmlt,ew]
 have ey:ys[m]?=some ys[m]:=getElem?_eq_getElem (by omega);obtain⟨u,fu,r1,r2⟩:=pl m _ w ey ew';rw[ev m _ w ey ew'];exact lA hK I hu r2 rx r1 rv (all_eq_true.mp hs _ (List.mem_of_getElem? ey)) hx
def AC(T:Tb)(g:PV->List PV->Option Int):V->List V->Hp->VK->Prop:=fun o vs H Q=>∃x ys a us v F B L fx fy j,o=.ref a/\vs=[v]/\SqL T.K H a us/\Rel T F B L H x v fx/\RelL T F B L H ys us fy/\shp x=true/\ys.all shp=true/\ys.all smp=true/\g x ys=some j/\Q (.int j) H
def gIx(x:PV)(ys:List PV):Option Int:=if ys.length<=10000000 then(ys.findIdx? (eqD x)).map fun j:Nat=>(j:Int)else none
def wg(hK:X.K=T.K)(hu:X.A.units+66<cLine):MtM X "list.index" (AC T gIx):=by
 intro js s Y H o vs v' us' Q I rx rv h;obtain⟨x,ys,a,us,v,F,B,L,fx,fy,j,rfl,rfl,hs,r1,r2,h1,h2,h3,hg,q⟩:=h;cases rx;obtain⟨u,rfl,ru⟩:=rv.one;obtain⟨its,r,pl,_⟩:=I.list (by rw[hK];exact hs);have hu1:X.A.in1.units+64<cLine:=by show X.A.units+1+64<cLine;omega
 obtain⟨e,e1,e2,e3⟩:=yf hK I hu1 r1 ru h1 r2 r h2 h3;unfold gIx at hg;split at hg
 case isFalse=>cases hg
 rename_i hlen
 obtain⟨k,ek,rfl⟩:=map_eq_some_iff.mp hg;obtain⟨kl,k1,k2⟩:=List.findIdx?_eq_some_iff_getElem.mp ek;obtain⟨ob,n,g,c,d,dt⟩:=pl;obtain⟨oc,od,odt,osl⟩:=ob;dsimp only at c d dt;subst c d dt;have ev:∀(m:Nat) (hm:m<its.toArray.size) (hy:m<ys.length),e its.toArray[m]=eqD x ys[m]:=fun m hm hy=>e3 m _ _ (getElem?_eq_getElem hy) (by rw[getElem?_eq_getElem (by simpa using hm)];simp);refine call_meets PySem.F.slot_list_index ⟨_,g,rfl⟩ PySem.F.entry_list_index (PySem.F.args_list_index_2 _ _) (SeqAt.list_indexAt a its.toArray n none osl u e k (by simp;omega) (by omega) ?_ fun m hm hlt=>?_) ⟨g,fun w hw=>e1 w (by simpa using hw),?_⟩
 ·rw[ev k (by simp;omega) kl];exact k1
 ·rw[ev m hm (by omega)];simpa using k2 m hlt
 ·exact⟨.int k,H,I.tok _,⟨_,rfl⟩,q⟩
def jk(g:PV->PV->Res PV)(mo mk:ME):ME:=fun env=>match mo env,mk env with
 |.ok (.lst f ys),.ok x=>g (.lst f ys) x
 |_,_=>.stuck
def yR{nm:Str}{id:String}{g:PV->PV->Res PV}{gg:PV->List PV->Option Int}{o k:Expr}{mo mk:ME}{apos cpos:Pos}(hK:X.K=T.K)(slot:Slot "list" nm id)(hty:typeOf (.builtin id)=pure (.type "method_descriptor"))(hmt:MtM X id (AC T gg))
  (hr:∀f ys x,g (.lst f ys) x=.stuck\/∃j,g (.lst f ys) x=.ok (.int j)/\shp x=true/\ys.all shp=true/\ys.all smp=true/\gg x ys=some j)
  (ho:SE X T W o mo) (hk:SE X T W k mk) (hbase:attributeBase o nm X.env (eval o X.env)=eval o X.env:=by rfl)
  (hst:starEach [k] X.env=[(false,eval k X.env)]:=by rfl)
  (hfew:((backTo cpos (starEach [k] X.env)).all (fun x=>!x.1)&&(backToKw cpos (keywordEach [] X.env)).all (fun x=>x.1.isSome)&&decide ([k].length+([]:List Keyword).length+(if([]:List Keyword).isEmpty then 0 else 1)<30))=true:=by rfl)
  (hline:(apos.endLine==cpos.line)=true:=by rfl):SE X T W (.Call (.Attribute o nm apos) [k] [] cpos) (jk g mo mk):=
 PE.wk (rT (cpos:=cpos) (apos:=apos) PySem.F.plainAttrs_list slot hty hmt ho (ac hk ag hst) hbase hfew hline hst) fun Y H Q h=>by
  obtain⟨Z,F,env,fp,S,q⟩:=h;unfold jk at q;split at q
  case h_2=>exact q.elim
  rename_i f ys x em ek
  refine⟨Z,F,env,fp,S,?_⟩;rw[em];intro v H1 F1 f1 g1 r1 n1 d1 w1;have r1':=r1;unfold Rel at r1';obtain⟨a,us,fp',rfl,hl,_,_⟩:=r1';refine⟨.inl ⟨rfl,us,by rw[hK];exact hl.sq⟩,Z,F1,env,fp,S.grow g1,?_⟩;unfold ae am;rw[ek];intro vs H2 F2 f2 g2 r2 n2 d2 w2;obtain⟨u,rfl,ru⟩:=r2.one;have r3:=r1.ext g2.ext g2.mono;unfold Rel at r3;obtain⟨b,us2,fp2,e,hl2,hr2,_⟩:=r3;cases e;rcases hr f ys x with z |⟨j,e,h1,h2,h3,h4⟩
  ·rw[z]at q;exact q.elim
  ·rw[e]at q;exact⟨x,ys,a,us2,u,F2,Z.B,Own fp,f2,fp2,j,rfl,rfl,hl2.sq,ru,hr2,h1,h2,h3,h4,q.scal (g1.trans g2) dP⟩
def t8(f:Fl)(ys:List PV)(x:PV):e_ (.lst f ys) x=.stuck\/∃j,e_ (.lst f ys) x=.ok (.int j)/\shp x=true/\ys.all shp=true/\ys.all smp=true/\gIx x ys=some j:=by
 unfold e_;dsimp only;split
 ·rename_i h
  simp only[and_eq_true,decide_eq_true_eq]at h;cases e:ys.findIdx? (eqD x)with
  |none=>exact .inl rfl
  |some j=>exact .inr ⟨j,rfl,h.1.1.1,h.1.1.2,h.1.2,by unfold gIx;rw[if_pos h.2,e];rfl⟩
 ·exact .inl rfl
def oK{o k:Expr}{mo mk:ME}{apos cpos:Pos}(cx:Ctx X T W kk)(hu:X.A.units+66<cLine)(ho:SE X T W o mo)(hk:SE X T W k mk)(hbase:attributeBase o "index" X.env (eval o X.env)=eval o X.env:=by rfl)
  (hst:starEach [k] X.env=[(false,eval k X.env)]:=by rfl)
  (hfew:((backTo cpos (starEach [k] X.env)).all (fun x=>!x.1)&&(backToKw cpos (keywordEach [] X.env)).all (fun x=>x.1.isSome)&&decide ([k].length+([]:List Keyword).length+(if([]:List Keyword).isEmpty then 0 else 1)<30))=true:=by rfl)
  (hline:(apos.endLine==cpos.line)=true:=by rfl):SE X T W (.Call (.Attribute o "index" apos) [k] [] cpos) (jk e_ mo mk):=
 yR cx.hK PySem.F.slot_list_index PySem.F.type_list_index (wg cx.hK hu) t8 ho hk hbase hst hfew hline
end
def dTr(T:Tb)(W:Nat->St->Hp->Prop):List Str->List ME->List (TE×TE)
 |k::ks,m::ms=>(tC (.str k),tE T W m)::dTr T W ks ms
 |_,_=>[]
def nS:List ME->MA
 | []=>am
 |m::ms=>ae m (nS ms)
abbrev dkv(ks:List Str)(vs:List V):List (Key×V):=(ks.map Sum.inr).zip vs
def putK_new{kvs:List (Key×V)}{k:Key}{v:V}(h:∀p∈kvs,p.1≠k):gS kvs k v=kvs++[(k,v)]:=by
 unfold gS
 grind
def k_:∀{more kvs:List (Key×V)},((kvs++more).map (·.1)).Nodup->g7 kvs more=kvs++more
 | [],kvs,_=>by simp[g7]
 |p::more,kvs,h=>by have e:gS kvs p.1 p.2=kvs++[p]:=putK_new (by grind);show g7 (gS kvs p.1 p.2) more=_;rw[e,k_ (by simpa using h)];simp
def pJ{ks:List Str}{vs:List V}(h:ks.length=vs.length):(dkv ks vs).map (·.1)=ks.map Sum.inr:=by rw[List.map_fst_zip (by simp[h])]
def uv{ks:List Str}(h:ks.Nodup):(ks.map (Sum.inr:Str->Key)).Nodup:=by rw[List.Nodup,List.pairwise_map];exact h.imp fun z e=>z (Sum.inr.inj e)
def sM{ks:List Str}{vs:List V}{k:Str}{v:V}(h:(ks++[k]).Nodup)(hl:ks.length=vs.length):gS (dkv ks vs) (.inr k) v=dkv (ks++[k]) (vs++[v]):=by
 rw[putK_new]
 ·unfold dkv;rw[map_append,List.zip_append (by simp[hl])];rfl
 ·intro p hp e;have hm:p.1∈ks.map (Sum.inr:Str->Key):=by rw[<- pJ hl];exact mem_map_of_mem hp
  grind
def n0{ks:List Str}{vs:List V}(hl:ks.length=vs.length):(dkv ks vs).length=ks.length:=by simp[dkv,hl]
def sL:∀{ks:List Str}{vs:List V}{i:Nat}{k:Str}{v:V},ks.findIdx? (·==k)=some i->vs[i]?=some v->kD (dkv ks vs) (Sum.inr k:Key)=some v
 | [],_,_,_,_,h,_|_::_,[],_,_,_,_,h=>by simp at h
 |q::ks,u::vs,i,k,v,h,e=>by
  rw[List.findIdx?_cons]at h;by_cases z:(q==k)=true
  ·rw[if_pos z]at h;cases h;simp at e;rw[<- e];exact kB (by rw[eq_of_beq z])
  ·rw[if_neg z]at h;obtain⟨j,hj,rfl⟩:=map_eq_some_iff.mp h;show kD ((Sum.inr q,u)::dkv ks vs) _=_;rw[kC (fun e=>z (by rw[Sum.inr.inj e];simp))];exact sL hj (by simpa using e)
end PR
namespace L2
open PySem PySem.Spec PyProof.Rows
def A1(td ty:TE):TE:=fun Y H Q=>td Y H fun x H1=>ty Y H1 fun y H2=>∃a v kvs k,x=.ref a/\Rd H2 a (.dK kvs)/\y=kV k/\kD kvs k=some v/\Q v H2
def nA(td ty tv:TE):TS:=fun D Y H=>tv Y H fun v H1=>td Y H1 fun x H2=>ty Y H2 fun y H3=>∃a kvs k,x=.ref a/\H3 a=some (.dK kvs)/\y=kV k/\kvs.length<sizeLine/\D.nx Y (upd H3 a (.dK (gS kvs k v)))
section
variable{X:Cx}{o i value:Expr}{pos pos':Pos}{td ty tv:TE}
def vS(ho:PE X o td)(hi:PE X i ty)(hs:DM i):PE X (.Subscript o i pos) (A1 td ty):=by
 intro js s Y H Q I h;refine yA PySem.F.slot_dict_getitem.lookup hs (thn (ho js s Y H _ I h) fun u s1 ⟨x,H1,I1,rx,q1⟩=>thn (hi js s1 Y H1 _ I1 q1) fun iv s2 zz=>?_);obtain⟨y,H2,I2,ry,a,v,kvs,k,ex,e,ey,l,q2⟩:=zz;subst ex ey;obtain rfl:u=Value.ref a:=rx;obtain⟨z,hd,vs,rel,dd⟩:=(e.ok I2.hok:bW _ _ _ _ a (.dK kvs))
 obtain⟨w',hw,rw'⟩:=ki.some_of (v:=v) (o:=valueAt vs k) (by rw[<- l];exact rel.val k);exact⟨dd.typeIs,wpAny_getItem_of (wD ry) dd.mapOf hw ⟨v,H2,I2.tok _,rw',q2⟩⟩
def oU(ho:PE X o td)(hi:PE X i ty)(hv:PE X value tv)(hs:swapsWith value (some (.Subscript o i pos')) pos.line X.env=pure false):PS X (.Assign [.Subscript o i pos'] value pos) (nA td ty tv):=by
 intro js s Y H D I h;refine wpAny_Assign_Subscript (thn (hv js s Y H _ I h) fun r s1 ⟨v,H1,I1,rv,q1⟩=>thn (ho js s1 Y H1 _ I1 q1) fun u s2 ⟨x,H2,I2,rx,q2⟩=>thn (hi js s2 Y H2 _ I2 q2) fun iv s3 zz=>?_) hs;obtain⟨y,H3,I3,ry,a,kvs,k,ex,e,ey,l,q3⟩:=zz;subst ex ey;obtain rfl:u=Value.ref a:=rx;obtain⟨z,hd,vs,rel,dd⟩:=(I3.hok a _ e:bW _ _ _ _ a (.dK kvs))
 have hl:(gS kvs k v).length<=sizeLine:=by have:=kc kvs k v;omega
 refine wpAny_setItem_pairs (hsz:=by rw[<- rel.length];exact z) (wD ry) dd fun h' dd' hs=>⟨Y,_,?_,q3⟩
 exact I3.write (x:=a) (e:=a) (by rw[e];exact True.intro) (.inl rfl) (fun b q hb z=>(hs.2 b hb).trans z) (let⟨q,_,_,hq,_⟩:=dd';⟨q,hq⟩) ⟨hl,hd,_,rel.put k rv,dd'⟩
end
end L2
namespace PR
open PySem PySem.Spec L2
section
variable{X:Cx}{T:Tb}{W:Nat->St->Hp->Prop}{Z:Zn}{F F1 B L:Addr->Prop}{H H1:Hp}{Y:St}{env:En}{fp:Nat->List Addr}{D:Ends}
def l7:∀{ks:List Str}{ms:List ME}{xs:List PV}{F:Addr->Prop}{H:Hp}{Q:List (V×V)->Hp->Prop},ks.length=ms.length->aA T Z F H Y env fp->nS ms env=.ok xs->hasL Fl.isOwn xs=false ->
  (∀vs H' F',Gr F H F' H'->RelL T F' Z.B (Own fp) H' xs vs []->Q ((dkv ks vs).map fun kv=>(kV kv.1,kv.2)) H')->m8 (dTr T W ks ms) Y H Q
 | [],[],xs,F,H,Q,_,S,e,_,h=>by cases e;exact h [] H F (Gr.refl S.hp.ft) (eX _ _ _ _)
 |k::ks,m::ms,xs,F,H,Q,hl,S,e,ho,h=>by
  unfold nS ae at e;cases e1:m env with
  |exc c|stuck=>rw[e1]at e;cases e
  |ok x=>
   rw[e1,Res.ok_bind]at e;cases e2:nS ms env with
   |exc c|stuck=>rw[e2]at e;cases e
   |ok ys=>rw[e2,Res.ok_bind]at e;cases e;simp only[hasL,or_eq_false_iff]at ho;refine tE.bind S (fun c z=>by rw[e1]at z;cases z) (fun z=>by rw[e1]at z;cases z) fun pv v H1 F1 f ez g r _ _ _=>?_;rw[e1]at ez;cases ez;obtain rfl:=Rel.noOwn ho.1 r;refine l7 (by simpa using hl) (S.grow g) e2 ho.2 fun vs H2 F2 g2 r2=>?_;exact h (v::vs) H2 F2 (g.trans g2) (by unfold RelL;exact⟨v,vs,[],[],rfl,r.ext g2.ext g2.mono,r2,rfl⟩)
def ke{p:Fl->Bool}:∀xs ys:List PV,hasL p (xs++ys)=(hasL p xs||hasL p ys)
 | [],_=>by simp[hasL]
 |x::xs,ys=>by simp[hasL,ke xs ys,Bool.or_assoc]
def pf:∀{ms:List ME}{xs:List PV},nS ms env=.ok xs->xs.length=ms.length
 | [],xs,e=>by cases e;rfl
 |m::ms,xs,e=>by
  unfold nS ae at e;cases e1:m env with
  |exc c|stuck=>rw[e1]at e;cases e
  |ok x=>
   rw[e1,Res.ok_bind]at e;cases e2:nS ms env with
   |exc c|stuck=>rw[e2]at e;cases e
   |ok ys=>rw[e2,Res.ok_bind]at e;cases e;simp[pf e2]
def RelL.skip(hF:¬F p)(hB:¬B p)(hL:¬L p)(hp:H p=some o)(hx:¬fP o)(h:RelL T F B L H xs vs []):RelL T F B L (upd H p o') xs vs []:=
 RelL.tr (fun _ h=>h) (fun _ h=>h) (fun _ h=>h) (fun a u e z=>by
  rw[aF]
  ·exact e
  grind) (fun _ z=>(nomatch z)) h
def sf(k x:Nat)(ms:List ME)(m6 m7:ME):MS:=fun env=>match nS ms env,m6 env,m7 env,env[x]? with
 |.ok xs,.ok a,.ok b,some none=>if hasL Fl.isOwn (xs++[a,b])||hasL Fl.isLnt (xs++[a,b])then .stuck else .ret (.box k (xs++[a,b]))
 |_,_,_,_=>.stuck
def Az(i:Nat):TS:=fun D Y H=>∃p kvs,Y[i]?=some (some (.ref p))/\H p=some (.dK kvs)/\∀o,D.rt (.ref p) (upd H p (.frz o (.dK kvs)))
def za(hN:X.N[i]?=some x)(hv:Vis X.env.scope x)(hd:(x ==("__debug__":Str))=false:=by decide)(hcd:(x ==("__classdict__":Str))=false:=by decide):PS X (.Return (some (.Name x pos')) pos) (Az i):=by intro js s Y H D I ⟨p,kvs,e1,e2,h⟩;refine wpAny_Return_some (thn (dG (pos:=pos') hN hv hd hcd js s Y H (fun v H'=>v=.ref p/\H'=H) I ⟨_,e1,rfl,rfl⟩) fun u s1 zz=>?_);obtain⟨v,H1,I1,r,ev,eh⟩:=zz;subst ev eh;obtain⟨o,ho⟩:=bW.there (I1.hok p _ e2);exact⟨_,Y,_,I1.write (x:=p) (e:=p) (o:=.frz o (.dK kvs)) (h':=s1.heap) (t':=s1.toks) (by rw[e2];exact True.intro) (.inl rfl) (fun _ _ _ q=>q) ⟨o,ho⟩ (show _/\_ from⟨ho,(I1.hok p _ e2:bW _ _ _ _ _ (.dK kvs))⟩),r,h o⟩
def yC{k x:Nat}{nx:Str}{ks:List Str}{ms:List ME}{m6 m7:ME}(hN:X.N.Nodup)(hx:X.N[x]?=some nx)(hl:Loc X.env.scope nx)(hv:Vis X.env.scope nx)(x0:x≠0)(hu:X.A.units+64<cLine)
  (hdk:T.dk k=ks++[k6,k7]) (hbx:∀H a vs o,H a=some (.frz o (.dK (dkv (T.dk k) vs)))->(T.dk k).length=vs.length->T.bx k H a vs) (hnd:(ks++[k6,k7]).Nodup) (hkm:ks.length=ms.length) (hk9:ks.length<=9)
  (hp:PPs X dpos keys vals (dTr T W ks ms)) (h6:SE X T W e6 m6) (h7:SE X T W e7 m7) (hall:keys.all (·.isSome)=true:=by rfl) (hlen:keys.length=vals.length:=by rfl) (h0:keys≠[]:=by exact List.cons_ne_nil _ _) (h15:keys.length<=15:=by decide)
  (hs:swapsWith (.Dict keys vals dpos) (some (.Name nx pa)) pos1.line X.env=pure false:=by rfl) (hs6:swapsWith e6 (some (.Subscript (.Name nx q1) (.Constant (.str k6) j6 q2) q3)) pos2.line X.env=pure false:=by rfl)
  (hs7:swapsWith e7 (some (.Subscript (.Name nx r1) (.Constant (.str k7) j7 r2) r3)) pos3.line X.env=pure false:=by rfl)
  (hf:X.fn nx=true\/X.env.scope.names.lookup nx=some .local:=by first|exact .inl rfl|exact .inr rfl|assumption) (hd:(nx ==("__debug__":Str))=false:=by decide) (hcd:(nx ==("__classdict__":Str))=false:=by decide) :
  SSs X T W [.Assign [.Name nx pa] (.Dict keys vals dpos) pos1,.Assign [.Subscript (.Name nx q1) (.Constant (.str k6) j6 q2) q3] e6 pos2,.Assign [.Subscript (.Name nx r1) (.Constant (.str k7) j7 r2) r3] e7 pos3,.Return (some (.Name nx p4)) pos4] (sf k x ms m6 m7):=
 PSs.wk (jf (vG (pos:=pos1) hN hx hl (zl hp hall hlen h0 h15) hs hf) (jf (oU (pos:=pos2) (dG (pos:=q1) hx hv hd hcd) (gb (x:=k6) (j:=j6) (pos:=q2)) h6 hs6)
  (jf (oU (pos:=pos3) (dG (pos:=r1) hx hv hd hcd) (gb (x:=k7) (j:=j7) (pos:=r2)) h7 hs7) (rN (za (pos:=pos4) (pos':=p4) hx hv hd hcd))))) fun D Y H hz1=>by
  obtain⟨Z,F,env,fp,S,q⟩:=hz1;unfold sf at q;split at q
  case h_2=>exact q.elim
  rename_i xs a b e5 e6' e7' ex
  split at q
  ·exact q.elim
  rename_i hno
  simp only[or_eq_true,not_or,Bool.not_eq_true]at hno;obtain⟨no,nl⟩:=hno;have no':hasL Fl.isOwn xs=false/\a.has Fl.isOwn=false/\b.has Fl.isOwn=false:=by rw[show hasL Fl.isOwn (xs++[a,b])=(hasL Fl.isOwn xs ||(a.has Fl.isOwn ||(b.has Fl.isOwn||false)))from ke xs [a,b]]at no;simpa[and_assoc]using no
  intro p hp0;have nF:¬F p:=fun z=>by obtain⟨o,e⟩:=S.hp.ft p z;rw[hp0]at e;cases e
  have nO:∀j,p∉fp j:=fun j z=>by obtain⟨_,o,e⟩:=S.dis j p z;rw[hp0]at e;cases e
  have nB:¬Z.B p:=fun z=>by obtain⟨⟨o,e⟩,n⟩:=S.hp.bo.1 p z;rw[S.hp.keep p o e n]at hp0;cases hp0
  have hn:Z.H0 p=none\/Z.fp0 p:=S.hp.newE (f:=[p]) (fun c hc=>by rw[mem_singleton.mp hc];exact hp0) p (by simp);have nL:¬Own fp p:=fun⟨j,hj⟩=>nO j hj;have grow:∀{F1 F2:Addr->Prop}{H1 H2:Hp}{o:HO},¬F1 p->H1 p=some o->Gr F1 H1 F2 H2->¬F2 p:=(by grind[b_,aA,bY,Gr])
  have S1:=S.grow (Gr.same S.hp.ft (Ext.upd (o:=.dK []) hp0));refine l7 hkm S1 e5 no'.1 fun vs H2 F2 g2 r2=>?_;have hlv:ks.length=vs.length:=by rw[<- r2.length,hkm];exact(pf e5).symm
  have e2:=g2.ext p _ aN;have nF2:=grow nF aN g2;have nd5:ks.Nodup:=(nodup_append.mp hnd).1;have nd6:(ks++[k6]).Nodup:=by
   have:ks++[k6,k7]=(ks++[k6])++ [k7]:=by simp
   rw[this]at hnd;exact(nodup_append.mp hnd).1
  refine⟨e2,dkv ks vs,rfl,by rw[n0 hlv];omega,?_⟩;rw[k_ (by rw[List.nil_append,pJ hlv];exact uv nd5),List.nil_append];have S3:=((S1.grow g2).updO (o':=.dK (dkv ks vs)) nO nF2 hn e2 (fun z=>z)).blind x0 ex (.ref p);have r3:=r2.skip (o':=.dK (dkv ks vs)) nF2 nB nL e2 (fun z=>z);have hxl:x<Y.length:=by rw[S.len];exact(List.getElem?_eq_some_iff.mp ex).1
  have hσ:(Y.set x (some (.ref p)))[x]?=some (some (V.ref p)):=getElem?_set_self hxl;show yv (nA (u0 x) (tC (V.str k6)) (tE T W m6)) (yv (nA (u0 x) (tC (V.str k7)) (tE T W m7)) (Az x)) D (Y.set x (some (V.ref p))) _;unfold yv nA;refine tE.bind S3 (fun c z=>by rw[e6']at z;cases z) (fun z=>by rw[e6']at z;cases z) fun pv v6 H4 F4 f4 ez g4 r4 _ _ _=>?_;rw[e6']at ez;cases ez;obtain rfl:=Rel.noOwn no'.2.1 r4;have e4:=g4.ext p _ aN;have nF4:=grow nF2 aN g4;refine⟨_,hσ,p,_,.inr k6,rfl,e4,rfl,by rw[n0 hlv,sizeLine_eq];omega,?_⟩;rw[sM nd6 hlv];have S5:=(S3.grow g4).updO (o':=.dK (dkv (ks++[k6]) (vs++[v6]))) nO nF4 hn e4 (fun z=>z);have r5:=(RelL.append (r3.ext g4.ext g4.mono) (by unfold RelL;exact⟨v6,[],[],[],rfl,r4,eX _ _ _ _,rfl⟩:RelL T F4 Z.B (Own fp) H4 [a] [v6] [])).skip (o':=.dK (dkv (ks++[k6]) (vs++[v6]))) nF4 nB nL e4 (fun z=>z);refine tE.bind S5 (fun c z=>by rw[e7']at z;cases z) (fun z=>by rw[e7']at z;cases z) fun pv v7 H6 F6 f6 ez g6 r6 _ _ _=>?_;rw[e7']at ez;cases ez;obtain rfl:=Rel.noOwn no'.2.2 r6;have e8:=g6.ext p _ aN;have nF6:=grow nF4 aN g6;have hlv6:(ks++[k6]).length=(vs++[v6]).length:=by simp[hlv]
  have nd7:((ks++[k6])++ [k7]).Nodup:=by simpa using hnd
  refine⟨_,hσ,p,_,.inr k7,rfl,e8,rfl,by rw[n0 hlv6,sizeLine_eq];simp;omega,?_⟩;rw[sM nd7 hlv6];refine⟨p,_,hσ,aN,fun o=>?_⟩;rw[yq];generalize hw:(vs++[v6])++ [v7]=ws;have S7:=(S5.grow g6).updO (o':=.frz o (.dK (dkv ((ks++[k6])++ [k7]) ws))) nO nF6 hn e8 (fun z=>z);have r7:=(RelL.append (r5.ext g6.ext g6.mono) (by unfold RelL;exact⟨v7,[],[],[],rfl,r6,eX _ _ _ _,rfl⟩:RelL T F6 Z.B (Own fp) H6 [b] [v7] [])).skip (o':=.frz o (.dK (dkv ((ks++[k6])++ [k7]) ws))) nF6 nB nL e8 (fun z=>z);refine q F6 _ (.ref p) [] S7.hp ?_ nodup_nil (fun _ z=>(nomatch z)) (fun _ z=>(nomatch z));unfold Rel;have eks:T.dk k=(ks++[k6])++ [k7]:=by rw[hdk];simp
  refine⟨p,ws,rfl,hbx _ _ _ o (by rw[eks];exact aN) (by rw[eks,<- hw];simp[hlv]),?_⟩;rw[hw,show(xs++[a])++ [b]=xs++[a,b] by simp]at r7;exact RelL.noL nl r7
def bJ(k i:Nat):PV->Res PV
 | .box j xs=>if j=k then (match xs[i]? with
  |some x=>if x.has Fl.isOwn then .stuck else .ok x
  |none=>.stuck)else .stuck
 |_=>.stuck
def bf(k i:Nat){key:Str}(hu:X.A.units+64<cLine)(hi:(T.dk k).findIdx? (·==key)=some i)(hbx:∀H a vs,T.bx k H a vs->∃o,H a=some (.frz o (.dK (dkv (T.dk k) vs)))/\(T.dk k).length=vs.length)(he:SE X T W e m)(hs:DM (.Constant (.str key) j p):=by intro _ _;rfl) :
  SE X T W (.Subscript e (.Constant (.str key) j p) pos) (mUn (bJ k i) m):=
 PE.wk (vS (pos:=pos) he (gb (x:=key) (j:=j) (pos:=p)) hs) fun Y H Q hz1=>by
  obtain⟨Z,F,env,fp,S,q⟩:=hz1;unfold mUn at q;refine tE.bind S (fun c e=>by rw[e]at q;exact q) (fun e=>by rw[e]at q;exact q) fun x v H1 F1 f1 e1 g1 r1 n1 d1 w1=>?_;rw[e1,Res.ok_bind]at q;cases x with
  |box j xs=>
   simp only[bJ]at q;split at q
   ·rename_i hj
    subst hj;split at q
    ·rename_i y ey
     split at q
     ·exact q.elim
     ·rename_i ho
      unfold Rel at r1;obtain⟨a,vs,rfl,hb,hr⟩:=r1;obtain⟨o,ha,hl⟩:=hbx _ _ _ hb;obtain⟨w,f,ew,rw',_⟩:=hr.get ey;obtain rfl:=Rel.noOwn (by simpa using ho) rw';exact⟨a,w,_,.inr key,rfl,.inr ⟨o,ha⟩,rfl,sL hi ew,q.scal g1 rw'⟩
    ·exact q.elim
   ·exact q.elim
  |_=>exact q.elim
end
def jm(i j:Nat)(k:ME):MS:=fun env=>match k env with
 | .ok (.int n)=>(match env[i]?,env[j]? with
  | some (some (.lst .own ys)),some (some (.lst .own xs))=>(match xs[n.toNat]? with
   |some x=>if i≠j/\0<=n/\cZ xs=true/\cZ ys=true/\xs.length<1000000/\ys.length<1000000 then .next ((env.set j (some (.lst .own (xs.eraseIdx n.toNat)))).set i (some (.lst .own (ys++[x]))))else .stuck
   |none=>.stuck)
  |_,_=>.stuck)
 |_=>.stuck
section
variable{X:Cx}{T:Tb}{W:Nat->St->Hp->Prop}{Z:Zn}{F F1 B L:Addr->Prop}{H H1:Hp}{Y:St}{env:En}{fp:Nat->List Addr}{D:Ends}
def s_{i j:Nat}(hK:X.K=T.K)(hN:X.N[i]?=some y)(hv:Vis X.env.scope y)(hM:X.N[j]?=some x)(hw:Vis X.env.scope x)(hk:SE X T W k mk)
  (hs:swapsWith (.Call (.Attribute (.Name y py) "append" ay) [.Call (.Attribute (.Name x px) "pop" ax) [k] [] cx] [] cy) none pos.line X.env=pure false:=by rfl) (hst:starEach [k] X.env=[(false,eval k X.env)]:=by rfl)
  (hst2:starEach [.Call (.Attribute (.Name x px) "pop" ax) [k] [] cx] X.env=[(false,eval (.Call (.Attribute (.Name x px) "pop" ax) [k] [] cx) X.env)]:=by rfl)
  (hfew:((backTo cx (starEach [k] X.env)).all (fun x=>!x.1)&&(backToKw cx (keywordEach [] X.env)).all (fun x=>x.1.isSome)&&decide ([k].length+([]:List Keyword).length+(if([]:List Keyword).isEmpty then 0 else 1)<30))=true:=by rfl)
  (hfew2:((backTo cy (starEach [.Call (.Attribute (.Name x px) "pop" ax) [k] [] cx] X.env)).all (fun x=>!x.1)&&(backToKw cy (keywordEach [] X.env)).all (fun x=>x.1.isSome)&&decide ([Expr.Call (.Attribute (.Name x px) "pop" ax) [k] [] cx].length+([]:List Keyword).length+(if([]:List Keyword).isEmpty then 0 else 1)<30))=true:=by rfl)
  (hline:(ax.endLine==cx.line)=true:=by rfl) (hline2:(ay.endLine==cy.line)=true:=by rfl) (hd:(x ==("__debug__":Str))=false:=by decide) (hcd:(x ==("__classdict__":Str))=false:=by decide) (hd2:(y ==("__debug__":Str))=false:=by decide) (hcd2:(y ==("__classdict__":Str))=false:=by decide) :
  SS X T W (.Expr (.Call (.Attribute (.Name y py) "append" ay) [.Call (.Attribute (.Name x px) "pop" ax) [k] [] cx] [] cy) pos) (jm i j mk):=
 PS.wk (km (pos:=pos) (rT (cpos:=cy) (apos:=ay) PySem.F.plainAttrs_list PySem.F.slot_list_append PySem.F.type_list_append jO (dG (pos:=py) hN hv hd2 hcd2)
  (da (rT (cpos:=cx) (apos:=ax) PySem.F.plainAttrs_list PySem.F.slot_list_pop PySem.F.type_list_pop wf (dG (pos:=px) hM hw hd hcd) (ac hk ag hst) rfl hfew hline hst) gd hst2) rfl hfew2 hline2 hst2) hs) fun D Y H hz1=>by
  obtain⟨Z,F,env,fp,S,q⟩:=hz1;unfold jm at q;split at q
  case h_2=>exact q.elim
  rename_i n ek
  split at q
  case h_2=>exact q.elim
  rename_i ys xs ei ej
  split at q
  case h_2=>exact q.elim
  rename_i z ez
  split at q
  case isFalse=>exact q.elim
  rename_i hc
  obtain⟨hij,h0,c1,c2,c3,c4⟩:=hc;obtain⟨a,ws,fpa,h1,hl,hr,hf⟩:=S.lst ei;obtain⟨b,us,fpb,h2,hlb,hrb,hfb⟩:=S.lst ej;refine⟨_,h1,.inl ⟨rfl,ws,by rw[hK];exact SqL.of hl⟩,_,h2,.inl ⟨rfl,us,by rw[hK];exact SqL.of hlb⟩,Z,F,env,fp,S,?_⟩;unfold ae am;rw[ek];intro vs H1 F1 f1 g r n1 d1 w1;obtain⟨u,rfl,ru⟩:=r.one;unfold Rel at ru;obtain⟨rfl,rfl⟩:=ru;have S1:=S.grow g;have hlb1:=g.ext b _ hlb;have hlnb:=hrb.length;obtain rfl:=(cY c1 hrb).1;have hn:n.toNat<xs.length:=(List.getElem?_eq_some_iff.mp ez).1;have hj:n.toNat<us.length:=by omega
  refine⟨b,us,n,n.toNat,us[n.toNat],rfl,rfl,hlb1,by omega,by omega,PySem.StrLaws.seqIndex_nonneg (by omega) (by omega),getElem?_eq_getElem hj,?_⟩;have hrb1:=hrb.ext g.ext g.mono;have S2:=S1.mutL (v:=.non) ej h2 hfb (RelL.erase n.toNat hrb1) nodup_nil (fun _ z=>(nomatch z)) hlb1;have ei2:(env.set j (some (.lst .own (xs.eraseIdx n.toNat))))[i]?=some (some (.lst .own ys)):=by rw[getElem?_set_ne (Ne.symm hij)];exact ei
  obtain⟨a',ws',fpa',h1',hl2,hr2,hf2⟩:=S2.lst ei2;rw[h1]at h1';cases h1';obtain⟨w,f,ew,rw',sb⟩:=hrb1.get ez;obtain rfl:=sublist_nil.mp sb;rw[getElem?_eq_getElem hj]at ew;cases ew;have nba:b≠a:=fun z=>S.dj i j hij a (by rw[hf];exact mem_cons_self) (by rw[hfb,z];exact mem_cons_self);have rz:Rel T F1 Z.B NoL (upd H1 b (.lst (us.eraseIdx n.toNat))) z us[n.toNat] []:=by
   have hb:b∈fp j:=by rw[hfb];exact mem_cons_self
   refine Rel.tr (fun _ h=>h) (fun _ h=>h) (fun _ h=>h) (fun c o e q=>?_) (fun _ z=>(nomatch z)) rw';rw[aF]
   ·exact e
   ·rintro rfl;rw[hlb1]at e;cases e;rcases q with q|q|q|q
    ·exact(S1.dis j c hb).1 q
    ·exact(S1.bOut q).2 j hb
    ·exact q
    ·exact q
  have hln2:=hr2.length;refine⟨a,ws',us[n.toNat],rfl,rfl,hl2,by rw[<- hln2,sizeLine_eq];omega,?_⟩;obtain rfl:=(cY c2 hr2).1;exact q F1 _ Y _ (S2.mutL (v:=.non) ei2 h1 hf2 (RelL.append hr2 (by unfold RelL;exact⟨_,[],[],[],rfl,rz,eX _ _ _ _,rfl⟩)) nodup_nil (fun _ z=>(nomatch z)) hl2)
end
def cxF(P:Program)(w:World)(K:PySem.W.Frag)(mg:Str->Option Value)(base:Heap)(N:List Str)(qual:Str)(scope:Scope)(f:Addr)(cd:Value)(cl:List (Str×Addr))(A:Around)(outer:List Env)(s:Shared)(H:Hp)(E:XK):Cx where
 prog:=P
 w:=w
 K:=K
 mg:=mg
 base:=base
 A:=A.deeper (envX qual scope s.heap.objs.size f cd cl)
 N:=N
 s₀:=s
 H₀:=H
 env:=envX qual scope s.heap.objs.size f cd cl
 outer:=outer
 stack:=envX qual scope s.heap.objs.size f cd cl::outer
 ex:=[]
 calm:=true
 fn:=fun _=>false
 pn:=[]
 xe:=fun e s'=>wpAny (model P w) (A.deeper (envX qual scope s.heap.objs.size f cd cl)) (leaving (envX qual scope s.heap.objs.size f cd cl) e) (fun _ s''=>CXP P w outer H s E e s'') (fun e' s''=>CXP P w outer H s E e' s'') s'
structure pZ(N ps fr:List Str)(sc:Scope):Prop where
 kind:sc.kind=.function
 co:sc.isCoroutine=false
 gen:sc.isGenerator=false
 nd:N.Nodup
 pre:N.take (ps++fr).length=ps++fr
 par:∀x∈ps,sc.names.lookup x=some .local
 fre:∀x∈fr,sc.names.lookup x=some .free
 only:∀y∈sc.names,y.2=.free->y.1∈fr
 nocell:∀y∈sc.names,y.2≠.cell
section
variable{P:Program}{w:World}{K:PySem.W.Frag}{mg:Str->Option Value}{base:Heap}{N ps fr:List Str}{qual:Str}{scope:Scope}{f:Addr}{cd:Value}{cl:List (Str×Addr)}{A:Around}{outer:List Env}{s:Shared}{H:Hp}{E:XK}
def lh:∀{ps:List Str}{us:List Value}{i:Nat}{y:Str}{u:Value},ps.Nodup->ps.length<=us.length->ps[i]?=some y->us[i]?=some u->(ps.zip us).reverse.lookup y=some u:=by
 intro ps us i y u nd hl h1 h2;have key:∀(l:List (Str×Value)),(l.map (·.1)).Nodup->(y,u)∈ l->l.lookup y=some u:=by
  intro l
  induction l with
  |nil=>intro _ h;cases h
  |cons p l ih=>
   intro n h;obtain⟨a,b⟩:=p;rw[map_cons,nodup_cons]at n;rw[lookup_cons];by_cases e:y=a
   ·subst e;rw[beq_self_eq_true];rcases mem_cons.mp h with h|h
    ·cases h;rfl
    ·exact absurd (mem_map_of_mem (f:=(·.1)) h) n.1
   ·rw[beq_eq_false_iff_ne.mpr e];rcases mem_cons.mp h with h|h
    ·cases h;exact absurd rfl e
    ·exact ih n.2 h
 refine key _ ?_ (List.mem_reverse.mpr ?_)
 ·rw[List.map_reverse];refine(List.reverse_perm _).nodup_iff.mpr ?_;rw[List.map_fst_zip hl];exact nd
 ·have:(ps.zip us)[i]?=some (y,u):=by rw[List.getElem?_zip_eq_some];exact⟨h1,h2⟩
  exact List.mem_of_getElem? this
def qJ(S:pZ N ps fr scope)(hd:A.handled=none)(e0:ou P w K mg base A outer s H)(C:Clo H fr cl cvs)(hl:vs.length=ps.length)(r:aP vs us)
  (hns:h'.Ns s.heap.objs.size fun x=>(ps.zip us).reverse.lookup x) (hk:∀b o,s.heap.get? b=some o->h'.get? b=some o) :
  Inv (cxF P w K mg base N qual scope f cd cl A outer s H E) [] (start N (vs++cvs)) H {s with heap:=h',toks:=t}:=by
 have hpl:(ps++fr).length<=N.length:=by have:=congrArg List.length S.pre;rw[length_take]at this;omega
 have noA:∀b:Addr,b ∉(cxF P w K mg base N qual scope f cd cl A outer s H E).ex:=fun b z=>absurd (show b ∈([]:List Addr)from z) (by simp);have ndN:=S.nd;rw[<- List.take_append_drop (ps++fr).length N,S.pre]at ndN;have ndP:ps.Nodup:=(nodup_append.mp (nodup_append.mp ndN).1).1;refine ⟨⟨e0.mod,S.kind,rfl,rfl,Nat.le_refl _,C.inj,fun y hy=>?_,fun y c h=>(nomatch h),fun _=>hd,Around.frames_deeper e0.frames,.inr ⟨rfl,rfl⟩,fun b z=>absurd z (noA b),e0.bs,e0.bsz,fun b _ _=>noA b,fun b z=>absurd z (noA b),e0.funs,e0.frf⟩,
  rfl,e0.bare,Un.kept hk,⟨_,hns,fun i y v h1 h2 h3=>?_⟩,fun y c h=>?_,e0.hok.fresh (Nat.le_refl _),fun y c h=>?_,fun p hp=>absurd (show p ∈([]:List (Addr×Obj))from hp) (by simp),e0.hok.kept hk,?_⟩
 ·have hy:scope.names.lookup y=some .cell\/scope.names.lookup y=some .free:=hy;rcases hy with hy|hy
  ·exact absurd rfl (S.nocell _ (PySem.mem_of_lookup hy))
  ·obtain⟨i,hi,e⟩:=getElem_of_mem (S.only _ (PySem.mem_of_lookup hy) rfl);have hv:i<cvs.length:=by rw[C.len];exact hi
   obtain⟨c',_,_,_,q1,_⟩:=C.val i y cvs[i] (by rw[getElem?_eq_getElem hi,e]) (getElem?_eq_getElem hv);exact⟨c',q1⟩
 ·have hi:i <(vs++cvs).length:=by
   unfold L2.start at h2;by_cases hi:i <(vs++cvs).length
   ·exact hi
   ·rw[getElem?_append_right (by simpa using hi)]at h2;rw[getElem?_replicate]at h2;split at h2<;>cases h2
  have ha:(vs++cvs)[i]?=some v:=by
   unfold L2.start at h2;rw[getElem?_append_left (by simpa using hi),getElem?_map]at h2;cases e:(vs++cvs)[i]? with
   |none=>rw[e]at h2;cases h2
   |some a=>rw[e]at h2;cases h2;rfl
  have hpf:(ps++fr)[i]?=some y:=by rw[<- S.pre,List.getElem?_take_of_lt (by rw[length_append]at hi ⊢;rw[<- hl,<- C.len];exact hi)];exact h1
  by_cases hip:i<vs.length
  ·rw[getElem?_append_left hip]at ha;rw[getElem?_append_left (by rw[<- hl];exact hip)]at hpf;obtain⟨u,hu,rv⟩:=r.get ha;exact⟨u,rv,.inl ⟨S.par y (List.mem_of_getElem? hpf),lh ndP (by rw[<- r.length,hl];exact Nat.le_refl _) hpf hu⟩⟩
  ·rw[getElem?_append_right (by omega)]at ha;rw[getElem?_append_right (by omega),<- hl]at hpf;obtain⟨c,o,u,z,q1,q2,q3,q4⟩:=C.val _ y v hpf ha;exact⟨z,q4,.inr ⟨.inr (S.fre y (List.mem_of_getElem? hpf)),c,q1,o,hk c o (e0.hok c _ q2).1,q3⟩⟩
 ·obtain⟨o,u,z,q1,q2⟩:=C.at h;exact⟨_,o,hk c o (e0.hok c _ q1).1,q2⟩
 ·obtain⟨o,u,z,q1,q2⟩:=C.at h;exact .inr ⟨rfl,o,u,q1⟩
 ·unfold L2.start;show _=N.length;rw[length_append,length_map,List.length_replicate];have:(vs++cvs).length=(ps++fr).length:=by rw[length_append,length_append,hl,C.len]
  omega
def GO:XF (cxF P w K mg base N qual scope f cd cl A outer s H E) T (WD T E):=by intro js Y H1 s1 c H2 e s2 I fl hW;obtain⟨x,a0,Bh,rfl,fly,tr,ol⟩:=fl.fly;refine wpAny_leaves_onW (L:=s.heap.objs.size) I.ok.frames rfl fly fun h' fly' up=>?_;obtain⟨h2,g2,d2,t2,os2⟩:=s2;exact⟨_,H2,iz I rfl rfl rfl fl.os fl.bare fl.un fl.hok tr ol fly' up,hW⟩
def F5{T:Tb}(hr:dw k (A.deeper (envX qual scope s.heap.objs.size f cd cl))):Ctx (cxF P w T.K mg base N qual scope f cd cl A outer s H E) T (WD T E) k:=⟨rfl,rfl,hr,GO,PassesOwn.leaving⟩
def FnF(P:Program)(w:World)(K:PySem.W.Frag)(mg:Str->Option Value)(base:Heap)(k:Nat)(name qual:Str)(params:Arguments)(body:List Stmt)(scope:Scope)(ps fr:List Str)(sp:Sp):Prop:=
 ∀(A:Around) (outer:List Env) (s:Shared) (H:Hp) (f:Addr) (o:Obj) (cl:List (Str×Addr)) (doc pm ctv cdv:Value) (cvs vs:List V) (us:List Value) (args:Args) (Q:VK) (E:XK),
  dw k A->ou P w K mg base A outer s H->s.heap.get? f=some o->o.data=.func (fnX name qual params body scope cl .none .none doc pm none cdv ctv)->s.heap.CodeRec cdv qual->Clo H fr cl cvs ->
  BindsTo s (fnX name qual params body scope cl .none .none doc pm none cdv ctv) args (ps.zip us)->aP vs us->vs.length=ps.length->sp (vs++cvs) H Q E ->
  codeAny (model P w) A (.call (.ref f) args) (CR (CXP P w) outer P w H s Q E) s
def Hl{T:Tb}(S:pZ N ps fr scope)
  (body:∀ (f:Addr) (cdv:Value) (cl:List (Str × Addr)) (A:Around) (outer:List Env) (s:Shared) (H:Hp) (E:XK),Ctx (cxF P w T.K mg base N qual scope f cdv cl A outer s H E) T (WD T E) k ->
   SSs (cxF P w T.K mg base N qual scope f cdv cl A outer s H E) T (WD T E) bd m) :
  FnF P w T.K mg base (k+1) name qual params bd scope ps fr (spM T (ps.length+fr.length) (br N.length m)):=by
 intro A outer s H f o cl doc pm ctv cdv cvs vs us args Q E hr e0 ho hd hcd C hb r hl hsp;have lim:s.heap.NoLimit:=e0.mod.nolimit.keeps fun b o e=>(e0.bs b o e).1;refine codeAny_call_function hr.depth ho hd S.co S.gen rfl hcd (hb _ _ _ _ ?_);refine wpAny_newFunctionEnv S.nocell (fun x hx=>S.par x.1 (of_mem_zip hx).1) (fun h' hns hsb=>?_) S.kind;have hk:∀b o,s.heap.get? b=some o->h'.get? b=some o:=fun b o e=>(hsb.2 b (Nat.ne_of_lt (lt_size e))).trans (get?_push_of_some _ e);refine⟨lim.keeps hk,codeAny_func ?_⟩;obtain⟨_,pvs,F,B,fl,R,q⟩:=hsp;obtain⟨fp,S0⟩:=iA N R none (fun _ h=>nomatch h);have I:=qJ (t:=s.toks+(ps.zip us).length) (f:=f) (cd:=cdv) (qual:=qual) (E:=E) S hr.hd e0 C hl r hns hk;have ht:=body f cdv cl A outer s H E (F5 (hr.deeper _)) [] _ _ H { nx:=fun _ H'=>Q .non H',rt:=Q } I ⟨_,F,_,fp,S0,by
  unfold br at q;cases e:m (pvs.map some++replicate (N.length-pvs.length) none)with
  |next e'=>rw[e]at q;exact fun F' H' σ' fp' S'=>q F' H' .non [] S'.hp Br nodup_nil (fun _ z=>(nomatch z)) (fun _ z=>(nomatch z))
  |ret v=>rw[e]at q;exact q
  |brk e'|cont e'=>rw[e]at q;exact q.elim
  |exc c e'=>rw[e]at q;exact fun F' H' σ' fp' S'=>q H' S'.hp.keep
  |stuck=>rw[e]at q;exact q.elim⟩
 refine wpAny_mono ht (fun fl s' hs=>?_) fun e s' hs=>hs;have fin:∀{σ':St}{H':Hp}{v:V}{u:Value},Inv (cxF P w T.K mg base N qual scope f cdv cl A outer s H E) [] σ' H' s'->bv v u->Q v H'->CE outer P w H s Q u s':=
  fun {σ' H' v u} J rv q=>⟨v,H',J.os,J.bare,J.base,J.hok,rv,q⟩
 cases fl with
 |ret u=>obtain⟨v,σ',H',J,rv,q⟩:=hs;exact fin J rv q
 |next=>obtain⟨σ',H',J,q⟩:=hs;exact fin (v:=V.non) (u:=Value.none) J rfl q
 |brk=>obtain⟨_,_,_,q⟩:=hs;exact False.elim q
 |cont=>obtain⟨_,_,_,q⟩:=hs;exact False.elim q
end
section
variable{X:Cx}{T:Tb}{W:Nat->St->Hp->Prop}{Z:Zn}{F F1:Addr->Prop}{H H1:Hp}{Y:St}{env:En}{fp:Nat->List Addr}
def ED(hc:∀E,spM T n m (vs++dvs) H1 Q E->codeAny (model X.prog X.w) X.A (.call (.ref f) ⟨us,kw⟩) (CR (CXP X.prog X.w) X.stack X.prog X.w H1 s1 Q E) s1)(hdp:RelL T F1 Z.B (Own fp) H1 dps dvs [])(hx:XF X T W)
  (S:aA T Z F H Y env fp) (g:Gr F H F1 H1) (r:RelL T F1 Z.B (Own fp) H1 xs vs fx) (nf:∀a∈fx,¬F1 a) (nd:fx.Nodup) (new:∀a∈fx,H a=none) (q:GE T W Z.B F (Own fp) Y H Q (aU m (xs++dps)))
  (I1:L2.Inv X js Y H1 s1) (hlen:vs.length+dvs.length=n):wpAny (model X.prog X.w) X.A (call (.ref f) us kw) (EP X js Y Q) X.xe s1:=by
 have rr:RelL T F1 Z.B (Own fp) H1 (xs++dps) (vs++dvs) fx:=by
  have:=RelL.append r hdp
  rwa [append_nil]at this
 have hBo:∀a,Z.B a->(∃o,H1 a=some o)/\a∉fx:=fun a h=>by obtain⟨⟨o,h1⟩,h2⟩:=S.hp.bo.1 a h;have h3:=S.hp.keep a o h1 h2;exact⟨⟨o,g.ext a o h3⟩,fun z=>by rw[new a z]at h3;cases h3⟩
 have hOw:∀a,Own fp a->(∃o,H1 a=some o)/\a∉fx:=fun a hz1=>by obtain⟨i,hi⟩:=hz1;obtain⟨_,o,ho⟩:=S.dis i a hi;exact⟨⟨o,g.ext a o ho⟩,fun z=>by rw[new a z]at ho;cases ho⟩
 have R:rj T F1 (fun a=>(∃o,H1 a=some o)/\a∉fx) H1 (mapL Fl.toBor (xs++dps)) (vs++dvs) fx:=⟨RelL.toBor hBo hOw rr,nd,nf,⟨fun a h=>h,S.tbo g.ext fun a z=>.inl (new a z)⟩,g.dom⟩
 refine wpAny_call (codeAny_mono (hc (fun cls _ H'=>∃c,cls=.ref (T.xcl c)/\W c Y H') ⟨by rw[length_append];exact hlen,_,F1,_,fx,R,?_⟩) fun rs s' hq=>?_)
 ·unfold aU at q;cases e:m (mapL Fl.toBor (xs++dps))with
  |ok v=>
   rw[e]at q;dsimp only at q;intro F2 H2 u f2 hp2 r3 nd2 nf2 new2;by_cases hbr:v.has Fl.isBor=true
   ·rw[if_pos hbr]at q;exact q.elim
   ·rw[if_neg hbr]at q;have hbr':v.has Fl.isBor=false:=by simpa using hbr
    refine q u H2 F2 f2 ⟨fun a o h=>hp2.keep a o (g.ext a o h) fun z=>(by rw[new a z]at h;cases h),fun a h=>hp2.f0 a (g.mono a h),fun a h=>?_,hp2.ft⟩ ?_ nf2 nd2 fun a ha=>?_
    ·rcases hp2.fn a h with z|z|z
     ·exact g.only a z
     ·exact .inr (g.ext.free z)
     ·exact .inr (new a z)
    ·exact Rel.tr (fun _ h=>h) (fun _ h=>h) (fun _ h=>h.elim) (fun _ _ h _=>h) (fun _ _ _ h=>h) (Rel.noB (B':=Z.B) hbr' r3)
    ·rcases new2 a ha with z|z
     ·exact g.ext.free z
     ·exact new a z
  |exc c=>rw[e]at q;exact fun H' h=>⟨c,rfl,q H' fun a o z=>h a o (g.ext a o z) fun z'=>by rw[new a z']at z;cases z⟩
  |stuck=>rw[e]at q;exact q.elim
 ·cases rs with
  |error e=>obtain⟨cls,H',fl,c,rfl,hw⟩:=hq;exact hx js Y H1 s1 c H' e s' I1 fl hw
  |ok fl=>
   cases fl with
   |ret u=>exact I1.after hq
   |next|brk|cont=>exact False.elim hq
def hR(i kb:Nat)(m:List PV->Res PV)(ms:MA):ME:=fun env=>match (env[i]?).join with
 |some (.box k cps)=>if k=kb/\cZ cps=true then(ms env).bind fun xs=>aU m (xs++cps)else .stuck
 |_=>.stuck
def vn{fi:FI}(G:FnF X.prog X.w X.K X.mg X.base k fi.name fi.qual fi.params fi.body fi.scope ps fi.fr (spM T (ps.length+fi.fr.length) m))(hr:dw k X.A)(hbx:∀H f cvs,T.bx kb H f cvs->fi.bx H f cvs)
  (hb:∀(cl:List (Str×Addr)) (doc pm ctv cdv:Value) (us:List Value),us.length=ps.length->bindArgs (fnX fi.name fi.qual fi.params fi.body fi.scope cl .none .none doc pm none cdv ctv) ⟨us,[]⟩=pure (ps.zip us))
  (hx:XF X T W) (hN:X.N[i]?=some x) (hv:Vis X.env.scope x) (hn:∀env xs,ms env=.ok xs->xs.length=ps.length) (ha:SA X T W (e::es) ms)
  (hd:(x ==("__debug__":Str))=false:=by decide) (hcd:(x ==("__classdict__":Str))=false:=by decide)
  (he:starEach (e::es) X.env=(false,eval e X.env)::starEach es X.env:=by rfl) (hpl:(backTo pos (starEach es X.env)).any (·.1)=false:=by rfl) :
  SE X T W (.Call (.Name x p) (e::es) [] pos) (hR i kb m ms):=by
 intro js s Y H Q I h;obtain⟨Z,F,env,fp,S,q⟩:=h;unfold hR at q;split at q
 ·rename_i kk cps hi
  split at q
  ·rename_i hc
   obtain⟨rfl,hno⟩:=hc;have hi':env[i]?=some (some (.box kk cps)):=by
    cases e0:env[i]? with
    |none=>rw[e0]at hi;cases hi
    |some z=>rw[e0]at hi;simp only[join_some]at hi;rw[hi]
   obtain⟨v0,hs0,rv0⟩:=S.rel i _ hi';unfold Rel at rv0;obtain⟨f,cvs,rfl,hbf,rc⟩:=rv0;obtain⟨hf0,rc⟩:=cY hno rc;rw[hf0]at rc;refine wpAny_Call_Name_kw (thn (dG (pos:=p) hN hv hd hcd js s Y H (fun v H1=>v=.ref f/\H1=H) I ⟨_,hs0,rfl,rfl⟩) fun u s0 zz=>?_);obtain⟨v,H0,I0,rv,e1,e2⟩:=zz;subst e1 e2;obtain rfl:u=.ref f:=rv;have fnAt:∀(H1:Hp) (s1:Shared),Ext H0 H1->L2.Inv X js Y H1 s1->FnAt f s1.heap:=fun H1 s1 ex I1=>by obtain⟨_,_,_,_,_,_,_,_,_,_,h1,_⟩:=hbx _ _ _ hbf;obtain⟨g1,_⟩:=I1.hok f _ (ex _ _ h1);exact⟨_,_,_,_,g1⟩
   refine PySem.W.callWith_F (first:=[]) (fnAt H0 s0 Ext.refl I0) (thn (ha pos js s0 Y H0 (fun vs H1=>∀ us s1,L2.Inv X js Y H1 s1->aP vs us->FnAt f s1.heap/\wpAny (model X.prog X.w) X.A (call (.ref f) us) (EP X js Y Q) X.xe s1) I0
    (tA.bind S (fun c e=>by rw[e]at q;exact q) (fun e=>by rw[e]at q;exact q) fun xs vs H1 F1 f1 e1 g1 r1 n1 d1 w1 us s1 I1 rv=>?_)) fun us s1 ⟨vs,H1,I1,r,q1⟩=>q1 us s1 I1 r) he hpl
   rw[e1]at q;refine⟨fnAt H1 s1 g1.ext I1,?_⟩;have lv:vs.length=ps.length:=by rw[<- r1.length];exact hn env xs e1
   refine ED (n:=ps.length+fi.fr.length) (fun E hsp=>?_) ((rc.ext g1.ext g1.mono).tr (fun _ h=>h) (fun _ h=>h) (fun _ h=>h.elim) (fun _ _ h _=>h) (fun _ _ _ h=>h)) hx S g1 r1 n1 d1 w1 q I1 ?_
   ·obtain⟨cl,doc,pm,ctv,c',oc,u,u',ws,t,h1,h2,h3,h4,C⟩:=FI.bxs (fun b o u z=>g1.ext b _ z) (hbx _ _ _ hbf);obtain⟨o1,_⟩:=I1.hok f _ h1;obtain⟨o2,_⟩:=I1.hok c' _ h2;exact G X.A X.stack s1 H1 f _ cl doc pm ctv (.ref c') cvs vs us ⟨us,[]⟩ Q E hr I1.env0 o1 rfl ⟨c',oc,ws,t,rfl,o2,h3,h4⟩ C (.of_eq (hb cl doc pm ctv (.ref c') us (by rw[<- rv.length,lv]))) rv lv hsp
   ·obtain⟨_,_,_,_,_,_,_,_,_,_,_,_,_,_,C⟩:=hbx _ _ _ hbf;rw[lv,C.len]
  ·exact q.elim
 ·exact q.elim
end
end PR
namespace L2
open PySem PySem.Spec
def uT:HO:=.ext fun _=>True
def rY{P:Program}{w:World}{H:Hp}{h:Heap}{a:Addr}{o:Obj}(e:h.get? a=some o):bW P w H h a (.frz o uT):=⟨e,True.intro,⟨o,e⟩,fun _ _ _ _=>True.intro⟩
section
variable{X:Cx}{js:List (Addr×Obj)}{Y:List (Option V)}{H:Hp}{s:Shared}
def Inv.frzC{x:Str}{c:Addr}(I:Inv X js Y H s)(hc:X.env.cells.lookup x=some c)(hf:X.fn x=false)(ha:X.s₀.heap.objs.size<=c) :
  ∃H' o u,(∀b z,H b=some z->H' b=some z)/\H' c=some (.frz o u)/\s.heap.get? c=some o/\Inv X js Y H' s:=by
 rcases I.freeC x c hc with hn |⟨_,o,u,hn⟩
 ·obtain⟨v,o,ho,hd⟩:=I.cell x c hc;have ext:∀b z,H b=some z->upd H c (.frz o uT) b=some z:=fun b z e=>by rw[aF (bu e hn)];exact e
  have old:∀b ob,X.s₀.heap.get? b=some ob->b≠c:=fun b ob e=>Nat.ne_of_lt (Nat.lt_of_lt_of_le (lt_size e) ha);refine⟨upd H c (.frz o uT),o,uT,ext,aN,ho,⟨I.ok,I.os,I.bare,⟨I.base.keep,I.base.slot,fun b ob e n hx=>?_,I.base.there,fun b xs e=>ext _ _ (I.base.tups b xs e),fun b ob u e=>ext _ _ (I.base.frzs b ob u e),fun b ps e=>?_⟩,I.loc,I.cell,?_,fun y d hy=>?_,fun p hp=>?_,fun b z e=>?_,I.len⟩⟩
  ·rw[aF (old b ob e)];exact I.base.free b ob e n hx
  ·obtain⟨m,e'⟩:=I.base.tbls b ps e;exact⟨m,ext _ _ e'⟩
  ·rw[aF (Ne.symm (I.cne x c hc))];exact I.free
  ·by_cases q:d=c
   ·subst q;obtain rfl:=I.ok.inj x y d hc hy;exact .inr ⟨hf,o,uT,aN⟩
   ·rw[aF q];exact I.freeC y d hy
  ·obtain⟨e,n,np,nf,nd⟩:=I.pin p hp;refine⟨e,?_,np,nf,nd⟩;rw[aF fun q=>?_];exact n;rw[q,ho]at e;cases e;exact nd v hd
  ·by_cases q:b=c
   ·subst q;rw[aN]at e;cases e;exact rY ho
   ·rw[aF q]at e;exact(I.hok b z e).stay (fun _ _ _ h=>h) (fun d h=>ext _ _ h) fun d u _ h=>ext _ _ h
 ·exact⟨H,o,u,fun _ _ e=>e,hn,(I.hok c _ hn).1,I⟩
end
end L2
namespace L2
open PySem PySem.Spec
section
variable{X:Cx}{js:List (Addr×Obj)}{Y:List (Option V)}{H:Hp}{s:Shared}{M:Model}{A:Around}{E:Value->Shared->Prop}{Q:Value->Shared->Prop}{name qual:Str}{params:Arguments}{body:List Stmt}{scope:Scope}{c0 Pt:Addr}{pos:Pos}{fl:Nat}{clos:List (Str×Addr)}
def yo(I:Inv X js Y H s)(hP:H Pt=some (.tbl #[rawInt pos.line,rawInt pos.col,.str qual 0]))(C:CodeHd X.base c0 Pt)(hcode:X.env.code=.ref c0)(hbt:X.base.BuiltinsAt X.mg Pt)(hcl:closureFor scope X.env=pure clos)
  (h:∀ f c' oc u vs t ctv doc H' s',(∀ b z,H b=some z->H' b=some z)->H' f=some (.frz (fnMade name qual params body scope clos doc ((X.mg "__name__").getD .none) c' ctv) uT)->H' c'=some (.frz oc u) ->
   oc.data=.fields vs->vs[1]?=some (.str qual t)->Inv X js Y H' s'->Q (.ref f) s') :
  wpAny M A (makeFunction name qual params (.stmts body) scope X.env [] [] [] pos fl) Q E s:=by
 obtain⟨qs,hq,tab⟩:=I.hok Pt _ hP;have hg:s.heap.Ns mainGlobals X.mg:=I.mod.glob.keeps I.bk;have C':=C.keeps I.bk;have hgP:mainGlobals≠Pt:=fun z=>by obtain⟨o,es,ep,e,hd,_⟩:=hg;rw[z,hq]at e;cases e;cases hd
 obtain⟨bm,ob,b1,b2,b3,b4,b5,b6⟩:=hbt;have bt:s.heap.BuiltinsAt X.mg Pt:=⟨bm,ob,b1,b2,b3,b4,I.bk _ _ b5,b6⟩
 have nP:∀b,H b=none->b≠Pt:=fun b n z=>by rw[z,hP]at n;cases n
 rcases tab with rfl |⟨l,c,q,t0,c',oc,u,vs,t,e1,rfl,e3,e4,e5⟩
 ·refine PySem.W.makeFunction_K (mg:=X.mg) hcl I.ok.glob hg hcode C' hq True.intro rfl hgP bt fun c' ctv doc h' tk hx hge hlt hrec htb=>?_;obtain⟨c2,oc,vs,t,e2,hoc,hd,hv⟩:=hrec;cases e2;have hn:=I.hok.fresh hge;have ext:∀b z,H b=some z->upd H c' (.frz oc uT) b=some z:=fun b z e=>by rw[aF (bu e hn)];exact e
  have kp:∀b o,s.heap.get? b=some o->H b=none->h'.get? b=some o:=fun b o e n=>hx b o (nP b n) e;have I1:Inv X js Y (upd H c' (.frz oc uT)) {s with heap:=h',toks:=tk}:=I.un
   ⟨fun b o e n _ _=>kp b o e n,fun b o e n _ _=>⟨o.slots,kp b o e n⟩,fun b o e n _=>by rw [aF (Nat.ne_of_lt (Nat.lt_of_lt_of_le (lt_size e) hge))];exact n,
    fun b o e _=>by
     by_cases z:b=Pt
     ·subst z;exact⟨_,htb⟩
     ·exact⟨o,hx b o z e⟩,fun b xs e=>ext _ _ e,fun b o u e=>ext _ _ e,fun b ps e=>⟨#[],by rw[ext _ _ e];simp⟩⟩
   fun b z e=>by
    by_cases hb:b=c'
    ·subst hb;rw[aN]at e;cases e;exact rY hoc
    ·rw[aF hb]at e;by_cases hp:b=Pt
     ·subst hp;rw[hP]at e;cases e;exact⟨_,htb,.inr ⟨_,_,_,_,c',oc,uT,vs,t,rfl,rfl,aN,hd,hv⟩⟩
     ·refine(I.hok b z e).stay (fun d o hd r=>hx d o ?_ r) (fun d r=>ext _ _ r) fun d u _ r=>ext _ _ r;rcases hd with rfl|hd
      ·exact hp
      ·rintro rfl;rw[hP]at hd;cases hd
  have hf:=I1.hok.fresh (Nat.le_refl _);have I2:=I1.laid (t':=tk) (fun b u e=>get?_push_of_some (fnMade name qual params body scope clos doc ((X.mg "__name__").getD .none) c' ctv) e) (Nat.le_refl _) (rY (get?_push_size _ rfl));refine h _ c' oc uT vs t ctv doc _ _ (fun b z e=>?_) aN ?_ hd hv I2
  ·have:=ext b z e;rw[aF (bu this hf)];exact this
  ·rw[aF (Nat.ne_of_lt hlt),aN]
 ·have e1:rawInt pos.line=l/\rawInt pos.col=c/\Value.str qual 0=.str q t0:=by simpa using e1
  obtain⟨rfl,rfl,e1⟩:=e1;cases e1;refine PySem.W.makeFunction_hit (mg:=X.mg) (cv:=.ref c') hcl I.ok.glob hg hcode C' hq True.intro (by simp[codeAmong,rawInt]) bt fun ctv doc h' tk hk hsz=>?_;have I1:Inv X js Y H {s with heap:=h',toks:=tk}:=I.kept hk;have hf:=I1.hok.fresh (Nat.le_refl _);have I2:=I1.laid (t':=tk) (fun b u e=>get?_push_of_some (fnMade name qual params body scope clos doc ((X.mg "__name__").getD .none) c' ctv) e) (Nat.le_refl _) (rY (get?_push_size _ rfl));have ext:∀b z,H b=some z->upd H h'.objs.size (.frz (fnMade name qual params body scope clos doc ((X.mg "__name__").getD .none) c' ctv) uT) b=some z:=fun b z e=>by rw[aF (bu e hf)];exact e
  exact h _ c' oc u vs t ctv doc _ _ ext aN (ext _ _ e3) e4 e5 I2
end
end L2
namespace L2
open PySem PySem.Spec
section
variable{X:Cx}{js:List (Addr×Obj)}{Y:List (Option V)}{s:Shared}
def Inv.frzL:∀(l:List (Str×Addr)),(∀p∈l,X.env.cells.lookup p.1=some p.2/\X.fn p.1=false/\X.s₀.heap.objs.size<=p.2)->∀{H:Hp},Inv X js Y H s ->
  ∃H',(∀b z,H b=some z->H' b=some z)/\(∀p∈l,∃o u,H' p.2=some (.frz o u)/\s.heap.get? p.2=some o)/\Inv X js Y H' s
 | [],_,H,I=>⟨H,fun _ _ e=>e,fun _ z=>(nomatch z),I⟩
 |p::l,h,H,I=>by
  obtain⟨h1,h2,h3⟩:=h p (.head _);obtain⟨H1,o,u,e1,q1,g1,I1⟩:=I.frzC h1 h2 h3;obtain⟨H2,e2,q2,I2⟩:=Inv.frzL l (fun q hq=>h q (.tail _ hq)) I1;refine⟨H2,fun b z e=>e2 b z (e1 b z e),fun q hq=>?_,I2⟩;rcases mem_cons.mp hq with rfl|hq
  ·exact⟨o,u,e2 _ _ q1,g1⟩
  ·exact q2 q hq
end
end L2
namespace PR
open PySem PySem.Spec L2
structure AT(X:Cx)(fr:List Str)(caps:List Nat)(clos:List (Str×Addr)):Prop where
 len:caps.length=fr.length
 nm:∀(k:Nat) x,fr[k]?=some x->∃j,caps[k]?=some j/\X.N[j]?=some x/\X.env.kindOf x=some .cell/\∃c,(x,c)∈ clos/\clos.lookup x=some c
 cl:∀x c,clos.lookup x=some c->x∈fr
 mem:∀p∈clos,X.env.cells.lookup p.1=some p.2/\X.fn p.1=false/\X.s₀.heap.objs.size<=p.2
def xw:List Nat->En->Option (List PV)
 | [],_=>some []
 |j::r,env=>match (env[j]?).join,xw r env with
  |some x,some xs=>some (x::xs)
  |_,_=>none
def pb(i kb:Nat)(caps:List Nat):MS:=fun env=>match xw caps env with
 |some cps=>if cZ cps&&aS i env then .next (env.set i (some (.box kb cps)))else .stuck
 |none=>.stuck
section
variable{X:Cx}{T:Tb}{W:Nat->St->Hp->Prop}{Z:Zn}{F:Addr->Prop}{H:Hp}{Y:St}{env:En}{fp:Nat->List Addr}
def pO(S:aA T Z F H Y env fp):∀{caps:List Nat}{cps:List PV},xw caps env=some cps->cZ cps=true ->
  ∃cvs,RelL T F Z.B NoL H cps cvs []/\cvs.length=caps.length/\∀(k j:Nat),caps[k]?=some j->∃v,cvs[k]?=some v/\Y[j]?=some (some v)
 | [],cps,h,_=>by cases h;exact⟨[],by unfold RelL;exact⟨rfl,rfl⟩,rfl,fun k j e=>by simp at e⟩
 |j::r,cps,h,hn=>by
  unfold xw at h;split at h
  ·rename_i x xs hx hxs
   cases h;have hn':cZ [x]=true/\cZ xs=true:=by simp only[cZ,hasL,Bool.or_false,Bool.not_or,and_eq_true,not_eq_true']at hn ⊢;obtain⟨⟨a,b⟩,c,d⟩:=hn;exact⟨⟨a,c⟩,b,d⟩
   obtain⟨cvs,r1,l1,v1⟩:=pO S hxs hn'.2;have hj:env[j]?=some (some x):=by
    cases e0:env[j]? with
    |none=>rw[e0]at hx;cases hx
    |some z=>rw[e0]at hx;simp only[join_some]at hx;rw[hx]
   obtain⟨v,sv,rv⟩:=S.rel j x hj;have rl:RelL T F Z.B NoL H [x] [v] (fp j++[]):=by unfold RelL;exact⟨v,[],fp j,[],rfl,rv,by unfold RelL;exact⟨rfl,rfl⟩,rfl⟩
   obtain⟨e,_⟩:=cY hn'.1 rl;rw[append_nil]at e;rw[e]at rv;refine⟨v::cvs,by unfold RelL;exact⟨v,cvs,[],[],rfl,rv,r1,rfl⟩,by simp[l1],fun k i e=>?_⟩;cases k with
   |zero=>simp at e;subst e;exact⟨v,rfl,sv⟩
   |succ k=>simp at e;simpa using v1 k i e
  ·cases h
def yD{fi:FI}(hN:X.N.Nodup)(hi:X.N[i]?=some fi.name)(hl:Loc X.env.scope fi.name)(hbx:∀H f cvs,fi.bx H f cvs->T.bx kb H f cvs)
  (hT:T.tb Pt=some #[rawInt pos.line,rawInt pos.col,.str fi.qual 0]) (C:CodeHd X.base c0 Pt) (hcode:X.env.code=.ref c0) (hbt:X.base.BuiltinsAt X.mg Pt) (hcl:closureFor fi.scope X.env=pure clos) (hc:AT X fi.fr caps clos)
  (hq:qualnameIn X.env fi.name fi.name=fi.qual) (hd0:fi.params.defaults=[]) (hk0:fi.params.kw_defaults=[]) (ha:annTrees fi.params none X.env=[]) (hf:X.fn fi.name=true\/X.env.scope.names.lookup fi.name=some .local) :
  SS X T W (.FunctionDef fi.name fi.params fi.body [] none [] fi.scope none fi.name pos) (pb i kb caps):=by
 intro js s Y H D I ⟨Z,F,env,fp,S,q⟩;unfold pb at q;split at q
 ·rename_i cps hc1
  split at q
  ·rename_i hg
   rw[and_eq_true]at hg;obtain⟨cvs,rc,lc,vc⟩:=pO S hc1 hg.1;obtain⟨H1,x1,k1,I1⟩:=I.frzL clos hc.mem;refine PySem.W.nestDef_K hd0 hk0 ha ?_;rw[hq];refine yo I1 (x1 _ _ (S.hp.tb hT)) C hcode hbt hcl fun f c' oc u vs t ctv doc H2 s2 x2 hf2 hc2 hd2 hv2 I2=>?_;have ext:Ext H H2:=fun b z e=>x2 b z (x1 b z e);have clo:Clo H2 fi.fr clos cvs:=by
    refine⟨fun x y c a b=>I.ok.inj x y c (hc.mem _ (PySem.mem_of_lookup a)).1 (hc.mem _ (PySem.mem_of_lookup b)).1,hc.cl,lc.trans hc.len,fun k x v e1 e2=>?_⟩;obtain⟨j,hj,hNj,hk,c,hm,hlk⟩:=hc.nm k x e1;obtain⟨v',ev,sv⟩:=vc k j hj;rw[e2]at ev;cases ev;obtain⟨m,hn,hloc⟩:=I1.loc;obtain⟨z,rz,lk⟩:=hloc j x v hNj sv (.inr (.inl hk));rcases lk with⟨kl,_⟩ |⟨_,c2,h2,o2,g2,d2⟩
    ·rw[hk]at kl;cases kl
    ·have:=(hc.mem _ hm).1;rw[h2]at this;cases this;obtain⟨o,u,q1,q2⟩:=k1 _ hm;rw[g2]at q2;cases q2;exact⟨_,o2,u,z,hlk,x2 _ _ q1,d2,rz⟩
   refine kH I2 hN hi hl (v:=.ref f) rfl (fun s3 I3=>⟨_,H2,I3,q F H2 _ _ (S.putN (Gr.same S.hp.ft ext) hg.2 (L:=NoL) (f:=[]) ?_ ?_ (fun _ z=>(nomatch z)) nodup_nil (fun _ z=>(nomatch z)))⟩) hf
   ·unfold Rel;exact⟨f,cvs,rfl,hbx _ _ _ ⟨clos,doc,_,ctv,c',oc,uT,u,vs,t,hf2,hc2,hd2,hv2,clo⟩,rc.ext ext (fun _ h=>h)⟩
   ·have:=hg.1;simp only[cZ,and_eq_true,not_eq_true']at this;simp[PV.noLnt,PV.has,this.2]
  ·exact q.elim
 ·exact q.elim
end
section
variable{P:Program}{w:World}{K:PySem.W.Frag}{mg:Str->Option Value}{base:Heap}{N:List Str}{qual:Str}{scope:Scope}{f:Addr}{cd:Value}{A:Around}{outer:List Env}{s:Shared}{H:Hp}{E:XK}
def AU:XF ((c_ (CXP P w) P w K mg base N qual scope f cd A outer s H E).low g) T (WD T E):=by intro js Y H1 s1 c H2 e s2 I fl hW;obtain⟨x,a0,Bh,rfl,fly,tr,ol⟩:=fl.fly;refine wpAny_leaves_onW (L:=s.heap.objs.size) I.ok.frames rfl fly fun h' fly' up=>?_;obtain⟨h2,g2,d2,t2,os2⟩:=s2;exact⟨_,H2,iz I rfl rfl rfl fl.os fl.bare fl.un fl.hok tr ol fly' up,hW⟩
def Ak{T:Tb}(hr:dw k (A.deeper (PyProof.Rows.envOfC qual scope s.heap.objs.size f cd))):Ctx ((c_ (CXP P w) P w T.K mg base N qual scope f cd A outer s H E).low g) T (WD T E) k:=⟨rfl,rfl,hr,AU,PassesOwn.leaving⟩
abbrev HLs(g:Str->Bool)(X:Cx)(T:Tb)(W:Nat->St->Hp->Prop)(sts:List Stmt)(m:MS):Prop:=Ga g X sts (tS T W m)
def Cw{X:Cx}(hf:∀x,X.fn x=true)(h:SSs (X.low g) T W sts m):HLs g X T W sts m:=fun js s Y H D I q=>h js s Y H D (I.low hf g) q
def kr{X:Cx}{rest:List Stmt}(hf:∀x,X.fn x=true)(h1:SS X T W st a)(h2:HLs g X T W rest b):HLs g X T W (st::rest) (aw a b):=by
 intro js s Y H D I ⟨Z,F,env,fp,S,q⟩;refine wpAny_execs_cons (thn (h1 js s Y H {D with nx:=tS T W b D} I ⟨Z,F,env,fp,S,?_⟩) fun f s1 q=>?_)
 ·unfold aw at q;cases e:a env with
  |next e'=>rw[e]at q;exact fun F' H' σ' fp' S'=>⟨Z,F',e',fp',S',q⟩
  |ret v|brk e'|cont e'|exc c e'|stuck=>rw[e]at q;exact q
 ·cases f with
  |next=>obtain⟨σ',H',I',q⟩:=q;exact h2 js s1 σ' H' D I' q
  |ret v=>obtain⟨v,σ',H',I',q⟩:=q;exact⟨v,σ',H',I'.low hf g,q⟩
  |brk=>obtain⟨σ',H',I',q⟩:=q;exact⟨σ',H',I'.low hf g,q⟩
  |cont=>obtain⟨σ',H',I',q⟩:=q;exact⟨σ',H',I'.low hf g,q⟩
def CC{T:Tb}(g:Str->Bool)(F:Fun T.K x qual st f fd)(S:dO N ps (aH st))
  (body:∀ (A:Around) (outer:List Env) (s:Shared) (H:Hp) (E:XK),Ctx (c_ (CXP P w) P w T.K mg base N qual (aH st) f fd.code A outer s H E) T (WD T E) k->Ctx ((c_ (CXP P w) P w T.K mg base N qual (aH st) f fd.code A outer s H E).low g) T (WD T E) k ->
   HLs g (c_ (CXP P w) P w T.K mg base N qual (aH st) f fd.code A outer s H E) T (WD T E) (bP st) m):cU P w T.K mg base (CXP P w) (k+1) f fd ps (spM T ps.length (br N.length m)):=by
 obtain⟨oc,od,kV,doc,pm,an,cdv,ct,osl,rfl,lk,hcd⟩:=F.ex;refine wQ g lk hcd S (fun vs H Q E h=>h.1) fun A outer s H vs Q E hr hsp=>⟨_,body A outer s H E (n5 hr) (Ak hr),?_⟩
 obtain⟨_,pvs,F,B,fl,R,q⟩:=hsp;obtain⟨fp,S0⟩:=iA N R none (fun _ h=>nomatch h);refine⟨_,F,_,fp,S0,?_⟩;unfold br at q;cases e:m (pvs.map some++replicate (N.length-pvs.length) none)with
 |next e'=>rw[e]at q;exact fun F' H' σ' fp' S'=>q F' H' .non [] S'.hp Br nodup_nil (fun _ z=>(nomatch z)) (fun _ z=>(nomatch z))
 |ret v=>rw[e]at q;exact q
 |brk e'|cont e'=>rw[e]at q;exact q.elim
 |exc c e'=>rw[e]at q;exact fun F' H' σ' fp' S'=>q H' S'.hp.keep
 |stuck=>rw[e]at q;exact q.elim
end
open PySem.W (keepIn Frag)
structure TG(p:PT)(K:Frag)(mg:Str->Option Value)(base:Heap):Prop where
 cd:CodeHd base (p.gt K).1 (p.gt K).2
 bt:base.BuiltinsAt mg (p.gt K).2
 co:(dAt K (p.fa K p.gs.i)).code=.ref (p.gt K).1
 so:p.G.isSome=true
def PT.bx99{p:PT}{hA:p.attOk}{K:Frag}{H:Hp}{f:Addr}{cvs:List V}:(p.T hA K).bx 99 H f cvs=p.fi.bx H f cvs:=by dsimp only[PT.T];rw[if_pos rfl]
def lG{x:Str}{c:Addr}:∀(names:List (Str×NameKind)) (n:Nat) (acc:List (Str×Addr)),(cellsFrom n names acc).lookup x=some c->n<=c\/acc.lookup x=some c
 | [],n,acc,h=>.inr h
 |(y,k)::r,n,acc,h=>by
  unfold cellsFrom at h;split at h
  ·rcases lG r (n+1) _ h with q|q
   ·exact .inl (Nat.le_of_succ_le q)
   ·rw[lookup_cons]at q;split at q
    ·cases q;exact .inl (Nat.le_refl _)
    ·exact .inr q
  ·exact lG r n acc h
def qU(N:List Str)(names:List (Str×NameKind)):List Str->List Nat->Bool
 | [],[]=>true
 |x::fr,j::caps=>decide (N[j]?=some x)&&decide (names.lookup x=some .cell)&&qU N names fr caps
 |_,_=>false
def pP{N:List Str}{names:List (Str×NameKind)}:∀{fr:List Str}{caps:List Nat},qU N names fr caps=true->caps.length=fr.length
 | [],[],_=>rfl
 |x::fr,j::caps,h=>by simp only[qU,and_eq_true]at h;simp[pP h.2]
 | [],_::_,h|_::_,[],h=>nomatch h
def n_{N:List Str}{names:List (Str×NameKind)}:∀{fr:List Str}{caps:List Nat},qU N names fr caps=true->∀(k:Nat) x,fr[k]?=some x->∃j,caps[k]?=some j/\N[j]?=some x/\names.lookup x=some .cell
 | [],[],_,k,x,e=>by simp at e
 |y::fr,j::caps,h,k,x,e=>by
  simp only[qU,and_eq_true,decide_eq_true_eq]at h;cases k with
  |zero=>simp at e;subst e;exact⟨j,rfl,h.1.1,h.1.2⟩
  |succ k=>simp at e;simpa using n_ h.2 k x e
 | [],_::_,h,_,_,_|_::_,[],h,_,_,_=>nomatch h
def xy(X:Cx)(fr:List Str):List (Str×Addr):=(fr.map fun x=>(x,(X.env.cells.lookup x).getD 0)).reverse
def ph{x:Str}{f:Str->Addr}:∀{l:List (Str×Addr)},(∀p∈l,p.2=f p.1)->(∃c,(x,c)∈ l)->l.lookup x=some (f x)
 | [],_,h=>by obtain⟨_,h⟩:=h;cases h
 |(y,c)::l,h,⟨d,m⟩=>by
  rw[lookup_cons];by_cases e:x=y
  ·subst e;rw[beq_self_eq_true];exact congrArg some (h _ (.head _))
  ·rw[beq_eq_false_iff_ne.mpr e];rcases mem_cons.mp m with m|m
   ·cases m;exact absurd rfl e
   ·exact ph (fun p hp=>h p (.tail _ hp)) ⟨d,m⟩
section
variable{X:Cx}{W:Nat->St->Hp->Prop}{p:PT}{hA:p.attOk}
def C_(hce:X.env.cells=cellsFrom (X.s₀.heap.objs.size+1) X.env.scope.names [])(hfn:∀x,X.fn x=false)(h:qU X.N X.env.scope.names fr caps=true):AT X fr caps (xy X fr):=by
 have mem:∀q,q∈xy X fr↔∃x∈fr,(x,(X.env.cells.lookup x).getD 0)=q:=fun q=>by simp[xy]
 have cell:∀x∈fr,X.env.scope.names.lookup x=some .cell:=fun x hx=>by obtain⟨k,hk,e⟩:=getElem_of_mem hx;obtain⟨_,_,_,q⟩:=n_ h k x (by rw[getElem?_eq_getElem hk,e]);exact q
 refine⟨pP h,fun k x e=>?_,fun x c e=>?_,fun q hq=>?_⟩
 ·obtain⟨j,h1,h2,h3⟩:=n_ h k x e;have hm:(x,(X.env.cells.lookup x).getD 0)∈ xy X fr:=(mem _).mpr ⟨x,List.mem_of_getElem? e,rfl⟩;refine⟨j,h1,h2,h3,_,hm,ph (f:=fun x=>(X.env.cells.lookup x).getD 0) (fun q hq=>?_) ⟨_,hm⟩⟩;obtain⟨y,_,rfl⟩:=(mem q).mp hq;rfl
 ·obtain⟨y,hy,e2⟩:=(mem _).mp (PySem.mem_of_lookup e);cases e2;exact hy
 ·obtain⟨y,hy,rfl⟩:=(mem q).mp hq;obtain⟨c,hc⟩:=lH (n:=X.s₀.heap.objs.size+1) (cell y hy);have hc':X.env.cells.lookup y=some c:=by rw[hce];exact hc
  refine⟨by rw[hc'];rfl,hfn y,?_⟩;show _ <=(X.env.cells.lookup y).getD 0;rw[hc'];rcases lG _ _ _ hc with q|q
  ·exact Nat.le_of_succ_le q
  ·cases q
def EC(i:Nat)(caps:List Nat)(g:TG p X.K X.mg X.base)(nd:X.N.Nodup)(hi:X.N[i]?=some p.fi.name:=by rfl)(hce:X.env.cells=cellsFrom (X.s₀.heap.objs.size+1) X.env.scope.names []:=by rfl)(hfn:∀x,X.fn x=false:=by intro _;rfl)
  (hst:p.gst=.FunctionDef p.fi.name p.fi.params p.fi.body [] none [] p.fi.scope none p.fi.name p.gpos:=by rfl) (hcode:X.env.code=(dAt X.K (p.fa X.K p.gs.i)).code:=by rfl) (hcl:closureFor p.fi.scope X.env=pure (xy X p.fi.fr):=by rfl)
  (hc:qU X.N X.env.scope.names p.fi.fr caps=true:=by kernel_rfl) (hq:qualnameIn X.env p.fi.name p.fi.name=p.fi.qual:=by rfl) (hd0:p.fi.params.defaults=[]:=by rfl) (hk0:p.fi.params.kw_defaults=[]:=by rfl)
  (ha:annTrees p.fi.params none X.env=[]:=by rfl) (hf:X.env.scope.names.lookup p.fi.name=some .local:=by rfl) :
  SS X (p.T hA X.K) W p.gst (pb i 99 caps):=by
 rw[hst];exact yD (fi:=p.fi) (T:=p.T hA X.K) nd hi (.inl hf) (fun H f cvs h=>PT.bx99▸h) (if_pos ⟨g.so,rfl⟩) g.cd (hcode.trans g.co) g.bt hcl (C_ hce hfn hc) hq hd0 hk0 ha (.inr hf)
end
section
variable{P:Program}{w:World}{K:Frag}{mg:Str->Option Value}{base:Heap}{p:PT}{hA:p.attOk}
def G7(i:Nat)(t:Tx p K mg)(body:∀ (A:Around) (outer:List Env) (s:Shared) (H:Hp) (E:XK),Ctx (c_ (CXP P w) P w K mg base (p.fs i).N (p.fs i).q (aH (p.fs i).s) (p.fa K i) (dAt K (p.fa K i)).code A outer s H E) (p.T hA K) (WD (p.T hA K) E) k->Ctx ((c_ (CXP P w) P w K mg base (p.fs i).N (p.fs i).q (aH (p.fs i).s) (p.fa K i) (dAt K (p.fa K i)).code A outer s H E).low fun _=>false) (p.T hA K) (WD (p.T hA K) E) k->(p.fs i).N.Nodup ->
  HLs (fun _=>false) (c_ (CXP P w) P w K mg base (p.fs i).N (p.fs i).q (aH (p.fs i).s) (p.fa K i) (dAt K (p.fa K i)).code A outer s H E) (p.T hA K) (WD (p.T hA K) E) (bP (p.fs i).s) m):OkF p hA P w K mg base (k+1) i (br (p.fs i).N.length m):=
 CC (T:=p.T hA K) (fun _=>false) (t.fn i) (t.sc i) fun a b c d e f g=>body a b c d e f g (t.sc i).nd
def PT.gp(p:PT):List Str:=p.gs.N.take p.gs.k
def PT.scF(p:PT):Bool:=decide (p.fi.scope.kind=.function)&&!p.fi.scope.isCoroutine&&!p.fi.scope.isGenerator&&decide p.gs.N.Nodup&&decide (p.gs.N.take (p.gp++p.gs.fr).length=p.gp++p.gs.fr) &&
 p.gp.all (fun y=>decide (p.fi.scope.names.lookup y=some .local))&&p.gs.fr.all (fun y=>decide (p.fi.scope.names.lookup y=some .free))&&p.fi.scope.names.all (fun y=>decide (y.2≠.cell/\(y.2=.free->y.1∈p.gs.fr)))
abbrev OkN(p:PT)(hA:p.attOk)(P:Program)(w:World)(K:Frag)(mg:Str->Option Value)(base:Heap)(k:Nat)(m:List PV->Res PV):Prop:=FnF P w K mg base k p.fi.name p.fi.qual p.fi.params p.fi.body p.fi.scope p.gp p.fi.fr (spM (p.T hA K) (p.gp.length+p.fi.fr.length) m)
def okN(hs:p.scF=true)(body:∀ (f:Addr) (cdv:Value) (cl:List (Str × Addr)) (A:Around) (outer:List Env) (s:Shared) (H:Hp) (E:XK),Ctx (cxF P w K mg base p.gs.N p.fi.qual p.fi.scope f cdv cl A outer s H E) (p.T hA K) (WD (p.T hA K) E) k->p.gs.N.Nodup ->
  SSs (cxF P w K mg base p.gs.N p.fi.qual p.fi.scope f cdv cl A outer s H E) (p.T hA K) (WD (p.T hA K) E) p.fi.body m):OkN p hA P w K mg base (k+1) (br p.gs.N.length m):=by
 simp only[PT.scF,and_eq_true,decide_eq_true_eq,all_eq_true,not_eq_true']at hs;obtain⟨⟨⟨⟨⟨⟨⟨q1,q2⟩,q3⟩,q4⟩,q5⟩,q6⟩,q7⟩,q8⟩:=hs;exact Hl (T:=p.T hA K) ⟨q1,q2,q3,q4,q5,q6,q7,fun y hy=>(q8 y hy).2,fun y hy=>(q8 y hy).1⟩ fun a b c d e f g h i=>body a b c d e f g h i q4
def Ge(p:PT):Prop:=∀(cl:List (Str×Addr)) (doc pm ctv cdv:Value) (us:List Value),us.length=p.gp.length->bindArgs (fnX p.fi.name p.fi.qual p.fi.params p.fi.body p.fi.scope cl .none .none doc pm none cdv ctv) ⟨us,[]⟩=pure (p.gp.zip us)
end
section
variable{X:Cx}{W:Nat->St->Hp->Prop}{p:PT}{hA:p.attOk}
def vt(G:OkN p hA X.prog X.w X.K X.mg X.base k m)(hb:Ge p)(cx:Ctx X (p.T hA X.K) W kk)(ha:SA X (p.T hA X.K) W (e::es) ms)(hk:k<=kk:=by decide)(hN:X.N[i]?=some x:=by rfl)
  (hv:Vis X.env.scope x:=by first|exact Or.inl rfl|exact Or.inr (Or.inl rfl)|exact Or.inr (Or.inr rfl)) (hn:gA ms n:=by repeat' first|exact eC|apply dA) (hps:n=p.gp.length:=by rfl)
  (hd:(x ==("__debug__":Str))=false:=by decide) (hcd:(x ==("__classdict__":Str))=false:=by decide) (he:starEach (e::es) X.env=(false,eval e X.env)::starEach es X.env:=by rfl) (hpl:(backTo pos (starEach es X.env)).any (·.1)=false:=by rfl) :
  SE X (p.T hA X.K) W (.Call (.Name x np) (e::es) [] pos) (hR i 99 m ms):=
 vn (fi:=p.fi) (T:=p.T hA X.K) G (cx.room.mono hk) (fun H f cvs h=>PT.bx99 (hA:=hA) (K:=X.K)▸ h) hb cx.xf hN hv (fun env xs h=>(hn env xs h).trans hps) ha hd hcd he hpl
end
end PR
namespace PR
open PySem PySem.Spec PyProof.Rows L2
open PySem.W (Frag)
def uo{P:Program}{w:World}{K:Frag}{mg mb:Str->Option Value}{CX:CXT}{k:Nat}{fa a c0 Pt:Addr}{ps:Array Value}{fd:FuncData}{x:Str}{sp:Sp}{s₁:Shared}{vs:List Value}{ns:List Int}
  (KX:K.In s₁.heap) (hns:s₁.heap.Ns mainGlobals mg) (hb:s₁.heap.Ns builtinsNs mb) (hbb:∀x:Str,x≠"__name__" -> mb x=bootBuiltins x) (hlim:s₁.heap.NoLimit) (hg:s₁.gens=#[])
  (ha:s₁.heap.get? a=some {cls:=.type "list",data:=.seq vs.toArray}) (hi:IntsAre vs ns) (hl:ns.length<=sizeLine) (hr:dw k callerA)
  (hC:CodeHd s₁.heap c0 Pt) (hP:s₁.heap.get? Pt=some (PySem.W.tabObj #[])) (hPk:K.lookup Pt=none) (hB:s₁.heap.BuiltinsAt mg Pt)
  (F:∀base:Heap,K.In base->base.Ns mainGlobals mg->CodeHd base c0 Pt->base.BuiltinsAt mg Pt->cU P w K mg base CX k fa fd [x] sp) (hbind:∀(s:Shared) (u:Value),BindsTo s fd ⟨[u],[]⟩ [(x,u)])
  (hsp:∀H:Hp,H Pt=some (.tbl ps)->SqL K H a (ns.map V.int)->sp [.ref a] H (fun v _=>v=.bl true) fun _ _ _=>False)
  (hCX:∀H e s',CX [] H s₁ (fun _ _ _=>False) e s'->False) :
  codeAny (model P w) callerA (.call (.ref fa) ⟨[.ref a],[]⟩) (fun r s'=>r=.ok (.ret (.bool true))/\OldK s₁.heap s'.heap/\s'.os=s₁.os/\AllBare s'.gens) s₁:=by
 have rv:=l6 hi;have lenV:=hi.length;have nPa:Pt≠a:=fun z=>by rw[z,ha]at hP;cases hP
 have core:∀H:Hp,H Pt=some (.tbl ps)->(∀b,b≠Pt->H b=none\/∃o xs,H b=some (.frz o (.lst xs)))->SqL K H a (ns.map V.int)->HOk P w H s₁.heap->(∀b,b≠Pt->H b≠none->b=a)->(H a≠none->K.lookup a=none)->
   codeAny (model P w) callerA (.call (.ref fa) ⟨[.ref a],[]⟩) (fun r s'=>r=.ok (.ret (.bool true))/\OldK s₁.heap s'.heap/\s'.os=s₁.os/\AllBare s'.gens) s₁:=by
  intro H hT hO hS hok hA hK;have base_of:∀{b:Addr}{o:Obj},s₁.heap.get? b=some o->H b=none->(lw s₁.heap H).get? b=some o:=fun e n=>wK e n;have out:∀{b:Addr}{o:Obj},s₁.heap.get? b=some o->b≠Pt->o.cls≠.type "list" -> H b=none:=fun {b o} e n d=>by
   cases q:H b with
   |none=>rfl
   |some u=>have e':b=a:=hA b n (by rw[q];simp);subst e';rw[ha]at e;cases e;exact absurd rfl d
  have noA:∀{b:Addr}{o:Obj}{es:Array DictEntry}{ep:Nat},s₁.heap.get? b=some o->o.data=.dict es ep->H b=none:=fun {b o es ep} e d=>by
   cases q:H b with
   |none=>rfl
   |some u=>
    by_cases z:b=Pt
    ·subst z;rw[hP]at e;cases e;cases d
    ·have e':b=a:=hA b z (by rw[q];simp);subst e';rw[ha]at e;cases e;cases d
  have nsK:∀{b:Addr}{m:Str->Option Value},s₁.heap.Ns b m->(lw s₁.heap H).Ns b m:=fun {b m} ⟨o,es,ep,e,d,r⟩=>⟨o,es,ep,base_of e (noA e d),d,r⟩
  have hKb:K.In (lw s₁.heap H):=fun b o e=>base_of (KX b o e) (by
   cases q:H b with
   |none=>rfl
   |some u=>
    by_cases z:b=Pt
    ·subst z;rw[hPk]at e;cases e
    ·have e':b=a:=hA b z (by rw[q];simp);subst e';rw[hK (by rw[q];simp)]at e;cases e)
  have hCb:CodeHd (lw s₁.heap H) c0 Pt:=by obtain⟨o,us,file,tf,flags,tg,inF,text,tt,e1,r1,r2,r3,r4,r5,r6,r7,r8,hne⟩:=hC;exact⟨o,us,file,tf,flags,tg,inF,text,tt,base_of e1 (out e1 hne (by rw[r1];simp)),r1,r2,r3,r4,r5,r6,r7,r8,hne⟩
  have hBb:(lw s₁.heap H).BuiltinsAt mg Pt:=by obtain⟨bm,o,b1,b2,b3,b4,b5,b6,r⟩:=hB;exact⟨bm,o,b1,b2,b3,b4,base_of b5 (out b5 b4 (by rw[b6];simp)),b6,r⟩
  have hM:Mod K mg (lw s₁.heap H):=⟨hKb,nsK hns,⟨mb,nsK hb,hbb⟩,let⟨mc,h1,h2⟩:=hlim;⟨mc,nsK h1,h2⟩⟩
  have e0:ou P w K mg (lw s₁.heap H) callerA [] s₁ H:=⟨rfl,hM,fun b o e=>zx e,Nat.le_of_eq (uw _ _),trivial,fun b hb=>absurd (show b ∈([]:List Addr)from hb) (by simp),hok,.of_eq hg⟩
  refine codeAny_mono ((F _ hKb (nsK hns) hCb hBb).run callerA [] s₁ H ⟨[.ref a],[]⟩ [.ref a] [.ref a] _ _ hr e0 (hbind s₁ (.ref a)) (.cons rfl .nil) (hsp H hT hS)) fun r s' h=>?_;cases r with
  |error e=>exact(hCX H e s' h).elim
  |ok fl=>
   cases fl with
   |next|brk|cont=>exact False.elim h
   |ret u=>
    obtain⟨v,H',os,bare,un,hok',r',q⟩:=h;have q':v=.bl true:=q;subst q';obtain rfl:u=Value.bool true:=r';have keep:∀b o,b≠Pt->s₁.heap.get? b=some o->s'.heap.get? b=some o:=fun b o n e=>by
     cases q:H b with
     |none=>exact un.keep b o e q (by intro z;exact absurd (show b ∈([]:List Addr)from z) (by simp)) (by simp)
     |some u=>
      rcases hO b n with z |⟨ob,xs,z⟩
      ·rw[q]at z;cases z
      ·have z2:=un.frzs b ob _ z;obtain⟨e1,_⟩:=hok b _ z;obtain⟨e2,_⟩:=hok' b _ z2;rw[e]at e1;cases e1;exact e2
    obtain⟨more,hT'⟩:=un.tbls Pt ps hT;obtain⟨qs,hq,_⟩:=hok' Pt _ hT';refine⟨rfl,⟨fun b o e=>?_,fun b o e=>?_⟩,os,bare⟩
    ·by_cases z:b=Pt
     ·subst z;rw[hP]at e;cases e;exact .inr (.inl ⟨(hC.tab hP).isCodeTable,rfl,#[],qs,rfl,by rw[Array.empty_append];exact hq⟩)
     ·exact .inl (keep b o z e)
    ·by_cases z:b=Pt
     ·subst z;exact⟨_,hq⟩
     ·exact⟨o,keep b o z e⟩
 have tOk:∀H:Hp,bW P w H s₁.heap Pt (.tbl ps):=fun H=>⟨#[],hP,.inl rfl⟩
 cases hk:K.lookup a with
 |some o=>
  have e:=KX a o hk;rw[ha]at e;cases e;refine core (fun b=>if b=Pt then some (.tbl ps)else none) (if_pos rfl) (fun b n=>.inl (if_neg n)) (.inr ⟨_,vs.toArray,_,hk,rfl,rfl,rfl,by rw[size_toArray,lenV];exact hl,by simpa using rv⟩) (fun b u z=>?_) (fun b n z=>absurd (if_neg n) z) fun z=>absurd (if_neg (Ne.symm nPa)) z;by_cases hb:b=Pt
  ·have z':=(if_pos hb).symm.trans z;cases z';subst hb;exact tOk _
  ·have z':=(if_neg hb).symm.trans z;cases z'
 |none=>
  refine core (fun b=>if b=Pt then some (.tbl ps)else if b=a then some (.frz {cls:=.type "list",data:=.seq vs.toArray} (.lst (ns.map V.int)))else none) (if_pos rfl) (fun b n=>?_) (.inl (.inr ⟨{cls:=.type "list",data:=.seq vs.toArray},(if_neg (Ne.symm nPa)).trans (if_pos rfl)⟩)) (fun b u z=>?_) (fun b n z=>?_) fun _=>hk
  ·by_cases hb:b=a
   ·exact .inr ⟨_,_,(if_neg n).trans (if_pos hb)⟩
   ·exact .inl ((if_neg n).trans (if_neg hb))
  ·by_cases hp:b=Pt
   ·have z':=(if_pos hp).symm.trans z;cases z';subst hp;exact tOk _
   ·by_cases hb:b=a
    ·have z':=((if_neg hp).trans (if_pos hb)).symm.trans z;cases z';subst hb;exact⟨ha,by rw[length_map];exact hl,vs,_,rv,ha⟩
    ·have z':=((if_neg hp).trans (if_neg hb)).symm.trans z;cases z'
  ·by_cases hb:b=a
   ·exact hb
   ·exact absurd ((if_neg n).trans (if_neg hb)) z
def PT.chG(p:PT)(K:Frag):Bool:=(tabIn K (bB (p.fs p.gs.i).s)).isSome&&(K.lookup (p.gt K).2).isNone&&decide ((dAt K (p.fa K p.gs.i)).code=.ref (p.gt K).1)&&p.G.isSome
def um{l:PySem.W.OpenLaw}{k:Nat}{x:Str}{q:Program}{loose:List Str}{XP:(Str->Option Value)->Heap->Prop}{YP:World->Heap->Prop}{d:DefRec}{K:Params->Frag}(p:PT)(hA:p.attOk)(hn:l.most=some 63)(hdf:d.params.defaults=[])(hr:dw k callerA)
  (hY:∀(w:World) (h:Heap),YP w h->(K w.params).In h) (hrec:((recsOf q).find? fun e=>e.name==bB (p.fs p.gs.i).s).isSome=true) (hG:∀w:World,p.chG (K w.params)=true)
  (F:∀ (w:World) (mg:Str->Option Value) (fa:Addr) (h:Heap),(K w.params).In h->h.Ns mainGlobals mg->mg d.name=some (.ref fa) ->
   ∃fd:FuncData,(∀(s:Shared) (u:Value),BindsTo s fd ⟨[u],[]⟩ [(x,u)])/\∀base:Heap,(K w.params).In base->TG p (K w.params) mg base->cU l.prog w (K w.params) mg base (CXP l.prog w) k fa fd [x] (va (K w.params) (p.T hA (K w.params)).tb)) :
  PySem.W.WalkO q loose XP YP l.row.toRowW d [] (fun f vs=>PySem.call f vs):=by
 refine Att.attach_call hn hdf fun w s₀ s₁ mg mb fa o pm cd doc a vs ns G HF ho hd hcd hmg hobj hints hlen hg=>?_;have KX:=hY w _ HF;obtain⟨fd,hb,hF⟩:=F w mg fa _ KX G.T.g hmg;have h:=hG w;simp only[PT.chG,and_eq_true,decide_eq_true_eq]at h;obtain⟨⟨⟨h1,h2⟩,h3⟩,h4⟩:=h;have ht:tabIn (K w.params) (bB (p.fs p.gs.i).s)=some ((p.gt (K w.params)).1,(p.gt (K w.params)).2):=by
  unfold PT.gt;cases e:tabIn (K w.params) (bB (p.fs p.gs.i).s)with
  |none=>rw[e]at h1;cases h1
  |some z=>rfl
 obtain⟨d',hd'⟩:=isSome_iff_exists.mp hrec;obtain⟨hC,hP⟩:=PySem.W.tab_of G.T KX hd' ht;have hB:s₁.heap.BuiltinsAt mg (p.gt (K w.params)).2:=by
  obtain⟨bm,ob,b1,b2,b3,b4,b5,b6⟩:=G.T.bmain;refine⟨bm,ob,b1,b2,fun z=>?_,fun z=>?_,b3,b4,b5,b6⟩
  ·obtain⟨o,es,ep,e,hd,_⟩:=G.T.g;rw[<- z,b3]at e;cases e;rw[hd]at b6;cases b6
  ·rw[z,hP]at b3;cases b3;cases b4
 exact uo (c0:=(p.gt (K w.params)).1) (Pt:=(p.gt (K w.params)).2) (ps:=#[rawInt p.gpos.line,rawInt p.gpos.col,.str p.gs.q 0]) KX G.T.g G.T.b G.T.builtins G.T.nolimit hg hobj hints (Nat.le_trans hlen (by decide)) hr hC hP (by simpa using h2) hB
  (fun base b1 _ b3 b4=>hF base b1 ⟨b3,b4,h3,h4⟩) hb (fun H hT hS=>⟨fun b ps e=>(by
   change (if p.G.isSome=true/\b=(p.gt (K w.params)).2 then _ else none)=some ps at e;split at e
   ·rename_i z;rw[z.2];cases e;exact hT
   ·cases e),a,ns,rfl,hS,hlen,fun _ _ z=>z⟩) fun H e s' ⟨_,_,_,z⟩=>z
end PR
namespace PR
open PySem PySem.Spec L2
open PySem.W (Frag findIn)
section
variable{env e e':En}{v:PV}{i:Nat}{r:Out}
@[simp] def pI:mC v env=.ok v:=rfl
@[simp] def cr:am env=.ok []:=rfl
@[simp] def bO:ae a m env=(a env).bind fun x=>(m env).bind fun xs=>.ok (x::xs):=rfl
@[simp] def AN:mUn f a env=(a env).bind f:=rfl
@[simp] def eR:mOp f a b env=(a env).bind fun x=>(b env).bind fun y=>f x y:=rfl
@[simp] def de:au f m env=(m env).bind f:=rfl
@[simp] def ib:eK m env=(m env).bind fun xs=>.ok (.lst .own xs):=rfl
@[simp] def xb:nN m env=(m env).bind fun xs=>.ok (.tup xs):=rfl
@[simp] def z9:mG a env=(a env).bind fun b=>.ok (!b):=rfl
@[simp] def xc:eH a env=(a env).bind nE:=rfl
@[simp] def Hm:yx a c env=(a env).bind (o4 c):=rfl
@[simp] def uD:nR env=.ok none:=rfl
@[simp] def z6:bX env=.ok true:=rfl
def BL:Option (Option PV)->Res PV
 |some (some v)=>.ok (v.mapF Fl.lend)
 |_=>.stuck
@[simp] def dz(v:PV):BL (some (some v))=.ok (v.mapF Fl.lend):=rfl
@[simp] def cD:aa i env=BL env[i]?:=by
 unfold aa;cases env[i]? with
 |none=>rfl
 |some w=>cases w<;>rfl
def pBl:PV->Res Bool
 |.bl b=>.ok b
 |_=>.stuck
@[simp] def G5(b:Bool):pBl (.bl b)=.ok b:=rfl
@[simp] def jv:aC a env=(a env).bind pBl:=by rfl
def EU(r:Res PV):PV->Res PV
 |.bl b=>if b then r else .ok (.bl false)
 |_=>.stuck
@[simp] def Gj(r:Res PV)(b:Bool):EU r (.bl b)=if b then r else .ok (.bl false):=rfl
@[simp] def GM:pd a b env=(a env).bind (EU (b env)):=by
 unfold pd;congr 1;funext x;cases x with
 |bl b=>cases b<;>rfl
 |_=>rfl
def pOr(r:Res PV):PV->Res PV
 |.bl b=>if b then .ok (.bl true)else r
 |_=>.stuck
@[simp] def G4(r:Res PV)(b:Bool):pOr r (.bl b)=if b then .ok (.bl true)else r:=rfl
@[simp] def C2:wx a b env=(a env).bind (pOr (b env)):=by
 unfold wx;congr 1;funext x;cases x with
 |bl b=>cases b<;>rfl
 |_=>rfl
@[simp] def FK(g:Int->Int->PV)(i j:Int):j5 g (.int i) (.int j)=.ok (g i j):=rfl
def AE:PV->Res (Option Int)
 |.int i=>.ok (some i)
 |_=>.stuck
@[simp] def DX(i:Int):AE (.int i)=.ok (some i):=rfl
@[simp] def z8:sd a env=(a env).bind AE:=by rfl
def ET(l h:Option Int):PV->Res PV
 |.lst _ xs=>.ok (.lst .own (uJ xs l h))
 |_=>.stuck
@[simp] def ES(l h:Option Int)(f:Fl)(xs:List PV):ET l h (.lst f xs)=.ok (.lst .own (uJ xs l h)):=rfl
@[simp] def xh:nQ o lo hi env=(o env).bind fun x=>(lo env).bind fun l=>(hi env).bind fun h=>ET l h x:=by rfl
def aL(v:PV):Res PV:=if v.has Fl.isBor then .stuck else .ok v
@[simp] def xA:aU f xs=(f (mapL Fl.toBor xs)).bind aL:=by unfold aU;cases f (mapL Fl.toBor xs)<;>rfl
def jM(disp:Nat->Option (List PV->Res PV))(r:Res (List PV)):PV->Res PV
 |.obj fl c ks vs=>match disp c with
  |some m=>r.bind fun xs=>aU m (.obj fl c ks vs::xs)
  |none=>.stuck
 |_=>.stuck
@[simp] def ER(disp:Nat->Option (List PV->Res PV))(r:Res (List PV))(fl:Fl)(c:Nat)(ks:List Nat)(vs:List PV):jM disp r (.obj fl c ks vs)=match disp c with
  |some m=>r.bind fun xs=>aU m (.obj fl c ks vs::xs)
  |none=>.stuck:=rfl
@[simp] def qR:cC disp o ms env=(o env).bind (jM disp (ms env)):=by unfold cC;congr 1;funext x;cases x<;>rfl
@[simp] def GL:gE m env=(m env).bind fun x=>match x with
 |.lst f xs=>if !f.isLnt&&cZ xs then .ok xs else .stuck
 |.tup xs=>if cZ xs then .ok xs else .stuck
 |_=>.stuck:=rfl
def vT(x:PV):Res (List PV):=match aT x with
 |some xs=>.ok xs
 |none=>.stuck
@[simp] def DZ(f:Fl)(xs:List PV):vT (.lst f xs)=.ok xs:=rfl
@[simp] def DY(xs:List PV):vT (.tup xs)=.ok xs:=rfl
@[simp] def z7:cb m env=(m env).bind vT:=rfl
@[simp] def nW:jo a b env=(a env).bind fun x=>if x then b env else .ok false:=rfl
@[simp] def C1:g8 a b env=(a env).bind fun x=>if x then .ok true else b env:=rfl
@[simp] def Ho:wy c a b env=(c env).bind fun x=>if x then a env else b env:=rfl
@[simp] def qQ:iP c f m env=(m env).bind fun xs=>aU f (.obj .own c [] []::xs):=rfl
def af(h1:a env=.next e)(h2:b e=r):aw a b env=r:=by unfold aw;rw[h1];exact h2
def cw(h1:a env=.ret v):aw a b env=.ret v:=by unfold aw;rw[h1]
def fG(h:c env=.ok true)(h2:a env=r):mBr c a b env=r:=by unfold mBr;rw[h];exact h2
def bR(h:c env=.ok false)(h2:b env=r):mBr c a b env=r:=by unfold mBr;rw[h];exact h2
def AO(h:c env=.ok x):mBr c a b env=if x then a env else b env:=by unfold mBr;rw[h];cases x<;>rfl
def aB(h:m env=.ok v)(hl:v.noLnt=true)(ho:aS i env=true):aV i m env=.next (env.set i (some v)):=by unfold aV;rw[h];simp[hl,ho]
def bj(h:m env=.ok v)(hl:v.noLnt=true):bL m env=.ret v:=by unfold bL;rw[h];simp[hl]
def fA(h:env[i]?=some (some v)):eQ i env=.ret v:=by unfold eQ;rw[h]
def gx(h:m env=.ok v):g_ m env=.next env:=by unfold g_;rw[h]
def aG:aZ env=.next env:=rfl
def bF(h:m env=.ok v)(ho:env[i]?=some (some (.obj .own c ks vs)))(hl:v.noLnt=true)(hk:ks.contains k=false)(hn:ks.length<900) :
  fN i k m env=.next (env.set i (some (.obj .own c (ks++[k]) (vs++[v])))):=by
 unfold fN;rw[h,ho];simp only[hl,hk];simp[hn]
def fW(h:m env=.ok v)(ho:env[i]?=some (some (.lst .own xs)))(hl:v.noLnt=true)(hn:xs.length<10000000):ee i m env=.next (env.set i (some (.lst .own (xs++[v])))):=by unfold ee;rw[h,ho];simp[hl,hn]
def eV(h:m env=.ok v)(ho:env[i]?=some (some (.lst .own xs)))(hk:mk env=.ok (.int j))(hj:ixN xs.length j=some n)(hl:v.noLnt=true) :
  eJ i mk m env=.next (env.set i (some (.lst .own (xs.set n v)))):=by
 unfold eJ;rw[h,ho,hk];simp[hj,hl]
def du(h:env[i]?=some (some v)):fD i env=.next (env.set i (some (v.mapF Fl.freeze))):=by unfold fD;rw[h]
def aD(h:m (args.map some++replicate (n-args.length) none)=.ret v):br n m args=.ok v:=by unfold br;rw[h]
def mt(h:m (args.map some++replicate (n-args.length) none)=.next e):br n m args=.ok .non:=by unfold br;rw[h]
def cz(h:m (args.map some++replicate (n-args.length) none)=.next e)(ho:e[0]?=some (some v)):iC n m args=.ok v:=by unfold iC;rw[h];simp[ho]
def ju(P:Nat->En->Prop)(h:it env=.ok xs)(h0:P 0 env)
  (step:∀(k:Nat) (x:PV) (e:En),xs[k]?=some x->P k e->∃e1 e2,g x e=some e1/\(body e1=.next e2\/body e1=.cont e2)/\P (k+1) e2):∃e2,c9 it g body env=.next e2/\P xs.length e2:=by
 unfold c9;rw[h];dsimp only;have key:∀ (ys pre:List PV) (e:En),pre ++ ys=xs->P pre.length e->∃ e2,lS (fun x e=>match g x e with
  |some e'=>body e'
  |none=>.stuck) ys e=.next e2/\P xs.length e2:=by
  intro ys
  induction ys with
  |nil=>intro pre e hp hP;simp at hp;subst hp;exact⟨e,rfl,hP⟩
  |cons y ys ih=>
   intro pre e hp hP;obtain⟨e1,e2,h1,h2,h3⟩:=step pre.length y e (by rw[<- hp];simp) hP;obtain⟨e3,h4,h5⟩:=ih (pre++[y]) e2 (by rw[<- hp];simp) (by simpa using h3);refine⟨e3,?_,h5⟩;unfold lS;simp only[h1];rcases h2 with h2|h2<;>rw[h2]<;>exact h4
 exact key xs [] env rfl h0
def ku(P:Nat->En->Prop)(R:Out->Prop)(h:it env=.ok xs)(h0:P 0 env)
  (step:∀(k:Nat) (x:PV) (e:En),xs[k]?=some x->P k e->∃e1,g x e=some e1/\((∃e2,(body e1=.next e2\/body e1=.cont e2)/\P (k+1) e2)\/(∃e2,body e1=.brk e2/\R (.next e2))\/(∃v,body e1=.ret v/\R (.ret v))\/ ∃c e2,body e1=.exc c e2/\R (.exc c e2)))
  (fin:∀e,P xs.length e->R (.next e)):R (c9 it g body env):=by
 unfold c9;rw[h];dsimp only;have key:∀ (ys pre:List PV) (e:En),pre ++ ys=xs->P pre.length e->R (lS (fun x e=>match g x e with
  |some e'=>body e'
  |none=>.stuck) ys e):=by
  intro ys
  induction ys with
  |nil=>intro pre e hp hP;simp at hp;subst hp;exact fin e hP
  |cons y ys ih=>
   intro pre e hp hP;obtain⟨e1,h1,h2⟩:=step pre.length y e (by rw[<- hp];simp) hP;unfold lS;simp only[h1];rcases h2 with⟨e2,h2,h3⟩ |⟨e2,h2,h3⟩ |⟨v,h2,h3⟩ |⟨c,e2,h2,h3⟩
   ·have:=ih (pre++[y]) e2 (by rw[<- hp];simp) (by simpa using h3);rcases h2 with h2|h2<;>rw[h2]<;>exact this
   ·rw[h2];exact h3
   ·rw[h2];exact h3
   ·rw[h2];exact h3
 exact key xs [] env rfl h0
def aR(h:mi env=.ok xs)(hl:xs.length<=10000000)(hc:dB g mc me (bH caps k env) xs=.ok ys):a6 caps k mi g mc me env=.ok (.lst .own ys):=by unfold a6;rw[h];simp only[Res.ok_bind,hl,if_true,hc]
def b8{α:Type}{a:α->PV}{f:α->PV}:∀(xs:List α),(∀x∈xs,∃e1,g (a x).borrow env=some e1/\me e1=.ok (f x)/\(f x).has Fl.isBor=false/\(f x).has Fl.isLnt=false)->
  dB g bX me env (xs.map a)=.ok (xs.map f)
 | [],_=>rfl
 |x::xs,h=>by obtain⟨e1,h1,h2,h3,h4⟩:=h x mem_cons_self;rw[map_cons,dB,h1];simp only[z6,Res.ok_bind,if_true,h2,h3,h4,Bool.or_self,false_eq_true,if_false,b8 xs fun y hy=>h y (mem_cons_of_mem _ hy)];rfl
def bQ{α:Type}{a:α->PV}{f:α->PV}{p:α->Bool}:∀(xs:List α),(∀x∈xs,∃e1,g (a x).borrow env=some e1/\mc e1=.ok (p x)/\(p x=true->me e1=.ok (f x)/\(f x).has Fl.isBor=false/\(f x).has Fl.isLnt=false))->
  dB g mc me env (xs.map a)=.ok ((xs.filter p).map f)
 | [],_=>rfl
 |x::xs,h=>by
  obtain⟨e1,h1,h2,h3⟩:=h x mem_cons_self;have ih:=bQ (g:=g) (mc:=mc) (me:=me) (a:=a) (f:=f) (p:=p) xs fun y hy=>h y (mem_cons_of_mem _ hy);rw[map_cons,dB,h1];cases hp:p x with
  |true=>obtain⟨h4,h5,h6⟩:=h3 hp;simp only[h2,hp,Res.ok_bind,if_true,h4,h5,h6,Bool.or_self,false_eq_true,if_false,ih];rw[List.filter_cons_of_pos hp];rfl
  |false=>simp only[h2,hp,Res.ok_bind,false_eq_true,if_false,ih];rw[List.filter_cons_of_neg (by simp[hp])]
end
def iL(ns:List Int):List PV:=ns.map .int
def wH(ns:List Int):ns.map PV.int=iL ns:=rfl
section
variable(ns ms:List Int)(g:Fl->Fl)(p:Fl->Bool)
@[simp] def FH:iL []=[]:=rfl
@[simp] def fQ(n:Int):iL (n::ns)=.int n::iL ns:=rfl
@[simp] def bp:(iL ns).length=ns.length:=by simp[iL]
@[simp] def FJ:iL ns++iL ms=iL (ns++ms):=by simp[iL]
@[simp] def Ec(k:Nat):(iL ns).drop k=iL (ns.drop k):=by simp[iL]
@[simp] def Eb(k:Nat):(iL ns).take k=iL (ns.take k):=by simp[iL]
@[simp] def wG(k:Nat):(iL ns)[k]?=(ns[k]?).map .int:=by simp[iL]
@[simp] def fh(k:Nat)(n:Int):(iL ns).set k (.int n)=iL (ns.set k n):=by simp[iL,List.map_set]
@[simp] def ug:mapL g (iL ns)=iL ns:=by
 induction ns with
 |nil=>rfl
 |cons n ns ih=>simp[mapL,PV.mapF,ih]
@[simp] def Ed:hasL p (iL ns)=false:=by
 induction ns with
 |nil=>rfl
 |cons n ns ih=>simp[hasL,PV.has,ih]
@[simp] def Eg:PyData.canLayAll0 (dataL (iL ns))=true:=by
 induction ns with
 |nil=>rfl
 |cons n ns ih=>simp only[fQ,dataL,PV.data,PyData.canLayAll0,ih];rfl
@[simp] def Ef:PyData.depthAll (dataL (iL ns))=0:=by
 induction ns with
 |nil=>rfl
 |cons n ns ih=>simp only[fQ,dataL,PV.data,PyData.depthAll,ih];rfl
@[simp] def i8(i:Int):shp (.int i)=true:=rfl
@[simp] def G0(b:Bool):shp (.bl b)=true:=rfl
@[simp] def Gf:shp .non=true:=rfl
@[simp] def oI(f:Fl):shp (.lst f (iL ns))=true:=by simp[shp,SeqAt.shaped,PV.data,PyData.canLay0,PyData.depth]
@[simp] def mf:(iL ns).all shp=true:=by
 induction ns with
 |nil=>rfl
 |cons n ns ih=>simp only[fQ,all_cons,i8,ih];rfl
@[simp] def Hq(i j:Int):pEq (.int i) (.int j)=.ok (.bl (decide (i=j))):=by unfold pEq;simp only[i8,Bool.and_self,if_true,PV.data,PyData.eqv];congr 2
@[simp] def Hc(i j:Int):pNe (.int i) (.int j)=.ok (.bl (!decide (i=j))):=by unfold pNe;simp only[i8,Bool.and_self,if_true,PV.data,PyData.eqv];congr 2
@[simp] def HE(i j:Bool):pEq (.bl i) (.bl j)=.ok (.bl (decide (i=j))):=by cases i<;>cases j<;>rfl
@[simp] def HA(i j:Bool):pNe (.bl i) (.bl j)=.ok (.bl (!decide (i=j))):=by cases i<;>cases j<;>rfl
def mQ:PyData.eqvAll (dataL (iL ns)) (dataL (iL ms))=decide (ns=ms):=by
 induction ns generalizing ms with
 |nil=>cases ms<;>simp[dataL,PyData.eqvAll]
 |cons n ns ih=>
  cases ms with
  |nil=>simp[dataL,PyData.eqvAll]
  |cons m ms=>simp only[fQ,dataL,PV.data,PyData.eqvAll,PyData.eqv,ih];by_cases h:n=m<;>simp[h]
@[simp] def sJ(f f':Fl):pEq (.lst f (iL ns)) (.lst f' (iL ms))=.ok (.bl (decide (ns=ms))):=by unfold pEq;simp only[oI,Bool.and_self,if_true,PV.data,PyData.eqv,mQ]
@[simp] def Gk(f f':Fl):pNe (.lst f (iL ns)) (.lst f' (iL ms))=.ok (.bl (!decide (ns=ms))):=by unfold pNe;simp only[oI,Bool.and_self,if_true,PV.data,PyData.eqv,mQ]
@[simp] def lt_int(i j:Int):pLt (.int i) (.int j)=.ok (.bl (decide (i<j))):=rfl
@[simp] def gt_int(i j:Int):pGt (.int i) (.int j)=.ok (.bl (decide (j<i))):=rfl
@[simp] def ge_int(i j:Int):pGe (.int i) (.int j)=.ok (.bl (decide (j<=i))):=rfl
@[simp] def EK(i j:Int):aY (.int i) (.int j)=.ok (.int (i+j)):=rfl
@[simp] def sub_int(i j:Int):fB (.int i) (.int j)=.ok (.int (i-j)):=rfl
@[simp] def neg_int(i:Int):o3 (.int i)=.ok (.int (-i)):=rfl
def bV(h:0<j):dI (.int i) (.int j)=.ok (.int (i%j)):=by simp[dI,eZ,h]
def iS(h:0<j)(h2:j<1073741824):fM (.int i) (.int j)=.ok (.int (i / j)):=by simp[fM,eZ,h,h2]
def jN(h:(-(2 ^ 64)<i/\i<2 ^ 64)\/(-(2 ^ 64)<j/\j<2 ^ 64)):gK (.int i) (.int j)=.ok (.int (i*j)):=by unfold gK eZ;dsimp only;rw[if_pos (by simpa using h)]
@[simp] def Gq(f:Fl)(xs:List PV):bZ (.lst f xs)=.ok (.int xs.length):=rfl
@[simp] def Gp(xs:List PV):bZ (.tup xs)=.ok (.int xs.length):=rfl
@[simp] def Fz(f:Fl)(xs:List PV):cQ (.lst f xs)=.ok (.lst .own xs):=rfl
@[simp] def G6(f:PV->Res PV)(x:PV):p1 f [x]=f x:=by simp only[p1]
@[simp] def Gw(c:String)(i:Int):o4 c (.int i)=.ok (.bl (lR "int" c)):=rfl
@[simp] def Hg(c:String)(i:Bool):o4 c (.bl i)=.ok (.bl (lR "bool" c)):=rfl
@[simp] def Gu(c:String):o4 c .non=.ok (.bl (lR "NoneType" c)):=rfl
@[simp] def Gv(c:String)(f:Fl)(xs:List PV):o4 c (.lst f xs)=.ok (.bl (lR "list" c)):=rfl
@[simp] def Gs(c:String)(xs:List PV):o4 c (.tup xs)=.ok (.bl (lR "tuple" c)):=rfl
@[simp] def El(b:Bool):nE (.bl b)=.ok b:=rfl
@[simp] def DS(i:Int):nE (.int i)=.ok (i != 0):=rfl
@[simp] def Fw(i:Int):(PV.int i).mapF g=.int i:=by simp[PV.mapF]
@[simp] def Go(b:Bool):(PV.bl b).mapF g=.bl b:=by simp[PV.mapF]
@[simp] def Fu:PV.non.mapF g=.non:=by simp[PV.mapF]
@[simp] def Fs(x:Str):(PV.str x).mapF g=.str x:=by simp[PV.mapF]
@[simp] def Fx(x:Nat):(PV.exc x).mapF g=.exc x:=by simp[PV.mapF]
@[simp] def Fv(f:Fl)(xs:List PV):(PV.lst f xs).mapF g=.lst (g f) (mapL g xs):=by simp[PV.mapF]
@[simp] def Fr(xs:List PV):(PV.tup xs).mapF g=.tup (mapL g xs):=by simp[PV.mapF]
@[simp] def Ft(f:Fl)(c:Nat)(ks:List Nat)(xs:List PV):(PV.obj f c ks xs).mapF g=.obj (g f) c ks (mapL g xs):=by simp[PV.mapF]
@[simp] def Fq:mapL g []=[]:=by simp[mapL]
@[simp] def uh(x:PV)(xs:List PV):mapL g (x::xs)=x.mapF g::mapL g xs:=by simp[mapL]
@[simp] def GJ(i:Int):(PV.int i).has p=false:=by simp[PV.has]
@[simp] def Hh(b:Bool):(PV.bl b).has p=false:=by simp[PV.has]
@[simp] def GD:PV.non.has p=false:=by simp[PV.has]
@[simp] def GB(x:Str):(PV.str x).has p=false:=by simp[PV.has]
@[simp] def GK(x:Nat):(PV.exc x).has p=false:=by simp[PV.has]
@[simp] def GH(f:Fl)(xs:List PV):(PV.lst f xs).has p=(p f||hasL p xs):=by simp[PV.has]
@[simp] def Gz(xs:List PV):(PV.tup xs).has p=hasL p xs:=by simp[PV.has]
@[simp] def GC(f:Fl)(c:Nat)(ks:List Nat)(xs:List PV):(PV.obj f c ks xs).has p=(p f||hasL p xs):=by simp[PV.has]
@[simp] def FR:hasL p []=false:=by simp[hasL]
@[simp] def Ee(x:PV)(xs:List PV):hasL p (x::xs)=(x.has p||hasL p xs):=by simp[hasL]
@[simp] def Fo(x:PV):x.noLnt=!x.has Fl.isLnt:=rfl
@[simp] def Eh(x:PV):x.borrow=x.mapF Fl.borrow:=rfl
@[simp] def FB:Fl.own.lend=.lnt:=rfl
@[simp] def FD:Fl.frz.lend=.frz:=rfl
@[simp] def FE:Fl.bor.lend=.bor:=rfl
@[simp] def FC:Fl.lnt.lend=.lnt:=rfl
@[simp] def DT:Fl.own.toBor=.own:=rfl
@[simp] def DV:Fl.frz.toBor=.frz:=rfl
@[simp] def DW:Fl.bor.toBor=.bor:=rfl
@[simp] def DU:Fl.lnt.toBor=.bor:=rfl
@[simp] def AQ:Fl.own.borrow=.bor:=rfl
@[simp] def Dc:Fl.frz.borrow=.frz:=rfl
@[simp] def De:Fl.bor.borrow=.bor:=rfl
@[simp] def Db:Fl.lnt.borrow=.bor:=rfl
@[simp] def D0:Fl.own.isOwn=true:=rfl
@[simp] def D2:Fl.frz.isOwn=false:=rfl
@[simp] def D3:Fl.bor.isOwn=false:=rfl
@[simp] def D1:Fl.lnt.isOwn=false:=rfl
@[simp] def D4:Fl.own.isLnt=false:=rfl
@[simp] def D6:Fl.frz.isLnt=false:=rfl
@[simp] def D7:Fl.bor.isLnt=false:=rfl
@[simp] def D5:Fl.lnt.isLnt=true:=rfl
@[simp] def D8:Fl.own.isBor=false:=rfl
@[simp] def D_:Fl.frz.isBor=false:=rfl
@[simp] def Ea:Fl.bor.isBor=true:=rfl
@[simp] def D9:Fl.lnt.isBor=false:=rfl
@[simp] def Cy:Fl.own.freeze=.frz:=rfl
@[simp] def CA:Fl.frz.freeze=.frz:=rfl
@[simp] def CB:Fl.bor.freeze=.bor:=rfl
@[simp] def Cz:Fl.lnt.freeze=.lnt:=rfl
def hV(h0:0<=i)(h:ns[i.toNat]?=some n):az (.lst f (iL ns)) (.int i)=.ok (.int n):=by have hl:i.toNat<ns.length:=(List.getElem?_eq_some_iff.mp h).1;unfold az;simp only[aT,atI,ixN,bp,h0,if_true];rw[if_pos (by omega)];simp[h]
end
section
variable{env:En}{r:Out}
def jZ(o:Out)(Q:En->Prop):Prop:=∃e,(o=.next e\/o=.cont e)/\Q e
def cT(h1:a env=.next e)(h2:jZ (b e) Q):jZ (aw a b env) Q:=by obtain⟨e2,h3,h4⟩:=h2;refine⟨e2,?_,h4⟩;unfold aw;rw[h1];exact h3
def b0(h1:o=.next e)(h2:Q e):jZ o Q:=⟨e,.inl h1,h2⟩
def fS(P:Nat->En->Prop)(h:it env=.ok xs)(h0:P 0 env)
  (step:∀(k:Nat) (x:PV) (e:En),xs[k]?=some x->P k e->∃e1,g x e=some e1/\jZ (body e1) (P (k+1))) (fin:∀e,P xs.length e->Q e):jZ (c9 it g body env) Q:=by
 obtain⟨e2,h1,h2⟩:=ju P h h0 fun k x e h1 h2=>by obtain⟨e1,h3,e2,h4,h5⟩:=step k x e h1 h2;exact⟨e1,e2,h3,h4,h5⟩
 exact⟨e2,.inl h1,fin e2 h2⟩
def nt{it:MI}{g:TgM}{body rest:MS}{xs:List PV}(P:Nat->En->Prop)(h:it env=.ok xs)(h0:P 0 env)
  (step:∀(k:Nat) (x:PV) (e:En),xs[k]?=some x->P k e->∃e1,g x e=some e1/\jZ (body e1) (P (k+1))) (fin:∀e,P xs.length e->rest e=r):aw (c9 it g body) rest env=r:=by
 obtain⟨e2,h1,h2⟩:=ju P h h0 fun k x e h1 h2=>by obtain⟨e1,h3,e2,h4,h5⟩:=step k x e h1 h2;exact⟨e1,e2,h3,h4,h5⟩
 exact af h1 (fin e2 h2)
def qM(h:-1000000<=i/\i<=1000000):inR i=true:=by
 have e:(2:Int) ^ 62=4611686018427387904:=by decide
 unfold inR;rw[decide_eq_true_eq,e];omega
def yZ(hi:inR n=true)(h:ms env=.ok [.int n]):bU ms env=.ok (cq 0 n.toNat):=by unfold bU;rw[h,Res.ok_bind];dsimp only;rw[if_pos hi]
def vx{n:Nat}(hi:inR (n:Int)=true)(h:ms env=.ok [.int n]):bU ms env=.ok (cq 0 n):=by have:=yZ hi h;rw[toNat_natCast]at this;exact this
def Cj{n:Nat}(hn:n<=1000000):-1000000 <=(n:Int)/\(n:Int)<= 1000000:=by omega
def bI{n:Nat}(h:ms env=.ok [.int n])(hn:n<=1000000):bU ms env=.ok (cq 0 n):=vx (qM (Cj hn)) h
def yY(hh:(inR lo&&inR hi)=true)(h:ms env=.ok [.int lo,.int hi]):ji ms env=.ok (cq lo (hi-lo).toNat):=by unfold ji;rw[h,Res.ok_bind];dsimp only;rw[if_pos hh]
def rJ(h:ms env=.ok [.int lo,.int hi])(hl:-1000000<=lo/\lo<=1000000)(hh:-1000000<=hi/\hi<=1000000):ji ms env=.ok (cq lo (hi-lo).toNat):=
 yY (by rw[qM hl,qM hh];rfl) h
def a_(lo:Int)(n:Nat):(cq lo n).length=n:=by simp[cq]
def eA(h:(cq lo n)[k]?=some x):k<n/\x=.int (lo+k):=by
 have hk:k<n:=by
  have:=(List.getElem?_eq_some_iff.mp h).1
  rwa [a_]at this
 refine⟨hk,?_⟩;simp[cq,hk]at h;exact h.symm
def qN{ns:List Int}{k:Nat}{x:PV}(h:(iL ns)[k]?=some x):∃n,ns[k]?=some n/\x=.int n:=by simp at h;obtain⟨n,h1,h2⟩:=h;exact⟨n,h1,h2.symm⟩
def cN(h:aS i e=true):tgN i v e=some (e.set i (some v)):=by simp[tgN,h]
end
def eY(hf:f≠.mod)(hg:g≠.mod)(h:xs.length+ys.length<=10000000):aY (.lst f xs) (.lst g ys)=.ok (.lst .own (xs++ys)):=by
 unfold aY
 grind
def fz(h:k<n):ixN n (k:Int)=some k:=by unfold ixN;rw[if_pos (by omega),if_pos (by omega),toNat_natCast]
@[simp] def fR(ns:List Int):bz (iL ns)=some ns:=by
 induction ns with
 |nil=>rfl
 |cons n ns ih=>simp[bz,ih]
def mI(h:ns.length<=1000):iw (.lst f (iL ns))=.ok (.int (mR ns)):=by unfold iw;simp only[fR];rw[if_pos (by simpa using h)]
def sN:∀(l acc:List Int),(acc++l).Nodup->l.foldl step_dedup acc=acc++l
 | [],acc,_=>by simp
 |x::l,acc,h=>by
  have h':((acc++[x])++ l).Nodup:=by simpa using h
  rw[List.foldl_cons];have hx:x∉acc:=fun hm=>by rw[nodup_append]at h;exact h.2.2 x hm x mem_cons_self rfl
  have:step_dedup acc x=acc++[x]:=by unfold step_dedup;rw[if_neg];simpa using hx
  rw[this,sN l _ h'];simp
def Ag(ns:List Int):(range ns.length).map (fun i=>ns.getD i 0)=ns:=by
 apply List.ext_getElem?;intro i;by_cases h:i<ns.length
 ·simp[h]
 ·simp[h]
def pK(h:ns.Nodup):mR ns=ns.length:=by unfold mR firstMet;rw[Ag,sN ns [] (by simpa using h)];rfl
def sr(i:Int)(ns:List Int):inL (.int i) (iL ns)=ns.contains i:=by
 induction ns with
 |nil=>rfl
 |cons n ns ih=>have e:inL (.int i) (iL (n::ns))=(PyData.eqv (PV.int n).data (PV.int i).data||inL (.int i) (iL ns)):=rfl;rw[e,ih,List.contains_cons];congr 1;simp only[PV.data,PyData.eqv];exact Bool.beq_comm
@[simp] def HC(i:Int)(ns:List Int)(f:Fl):pIn (.int i) (.lst f (iL ns))=.ok (.bl (ns.contains i)):=by unfold pIn;simp only[aT,i8,mf,Bool.and_self,if_true,sr]
@[simp] def Fn(i:Int)(ns:List Int)(f:Fl):jL (.int i) (.lst f (iL ns))=.ok (.bl (!ns.contains i)):=by unfold jL;simp only[aT,i8,mf,Bool.and_self,if_true,sr]
def Ends(o:Out):Prop:=∃e,o=.next e
section
variable{env e:En}
def fL(h:Ends (m (args.map some++replicate (n-args.length) none))):br n m args=.ok .non:=by obtain⟨e,h⟩:=h;exact mt h
def ig(h1:a env=.next e)(h2:Ends (b e)):Ends (aw a b env):=by obtain⟨e2,h2⟩:=h2;exact⟨e2,af h1 h2⟩
def uE(h:o=.next e):Ends o:=⟨e,h⟩
def xj{it:MI}{g:TgM}{body rest:MS}{xs:List PV}(P:Nat->En->Prop)(h:it env=.ok xs)(h0:P 0 env)
  (step:∀(k:Nat) (x:PV) (e:En),xs[k]?=some x->P k e->∃e1,g x e=some e1/\jZ (body e1) (P (k+1))) (fin:∀e,P xs.length e->Ends (rest e)):Ends (aw (c9 it g body) rest env):=by
 obtain⟨e2,h1,h2⟩:=ju P h h0 fun k x e h1 h2=>by obtain⟨e1,h3,e2,h4,h5⟩:=step k x e h1 h2;exact⟨e1,e2,h3,h4,h5⟩
 exact ig h1 (fin e2 h2)
end
def fK(h:m env=.ok (.lst f xs))(hf:f.isLnt=false)(h1:hasL Fl.isOwn xs=false)(h2:hasL Fl.isLnt xs=false):gE m env=.ok xs:=by unfold gE;rw[h];simp[hf,cZ,h1,h2]
end PR
namespace PR
section
variable{n r s k o:Nat}{adj:Nat->Nat->Prop}{far:List Int}
def gt(far:List Int)(i:Nat):Int:=far.getD i 0
def gv(x:Int)(h:o<far.length)(i:Nat):gt (far.set o x) i=if i=o then x else gt far i:=by
 simp only[gt,getD_eq_getElem?_getD,List.getElem?_set];by_cases e:o=i
 ·subst e;simp[h]
 ·rw[if_neg e,if_neg (Ne.symm e)]
structure Far(n r:Nat)(adj:Nat->Nat->Prop)(s k:Nat)(d:Nat->Prop)(far:List Int):Prop where
 len:far.length=n
 rt:gt far r=0
 rng:∀i<n,0<=gt far i/\(gt far i<=s+1\/gt far i=n)
 top:∀i<n,gt far i<=n
 up:∀i<n,∀j<n,gt far i<s->adj i j->gt far j<=gt far i+1
 upk:∀i<k,∀j<n,gt far i=s->adj i j->gt far j<=s+1
 upd:∀j<n,d j->gt far j<=s+1
 dn:∀i<n,i≠r->gt far i<n->1<=gt far i/\∃j<n,adj i j/\gt far j=gt far i-1
def Far.start(hr:r<n)(h:∀i<n,gt far i=if i=r then 0 else(n:Int))(hl:far.length=n):Far n r adj 0 0 (fun _=>False) far where
 len:=hl
 rt:=by rw[h r hr,if_pos rfl]
 rng:=fun i hi=>by rw[h i hi];split<;>omega
 top:=fun i hi=>by rw[h i hi];split<;>omega
 up:=fun i hi j _ hv _=>by have:=h i hi;split at this<;>omega
 upk:=fun i hi=>absurd hi (Nat.not_lt_zero _)
 upd:=fun _ _ z=>z.elim
 dn:=fun i hi hn hv=>by rw[h i hi,if_neg hn]at hv;omega
def Far.skip(F:Far n r adj s k (fun _=>False) far)(hk:gt far k≠s):Far n r adj s (k+1) (fun _=>False) far where
 len:=F.len
 rt:=F.rt
 rng:=F.rng
 top:=F.top
 up:=F.up
 upk:=fun i hi j hj e a=>by
  rcases Nat.lt_or_ge i k with h|h
  ·exact F.upk i h j hj e a
  ·have:i=k:=by omega
   subst this;exact absurd e hk
 upd:=F.upd
 dn:=F.dn
def Far.close(F:Far n r adj s k d far)(hd:∀j,j<n->adj k j->d j):Far n r adj s (k+1) (fun _=>False) far where
 len:=F.len
 rt:=F.rt
 rng:=F.rng
 top:=F.top
 up:=F.up
 upk:=fun i hi j hj e a=>by
  rcases Nat.lt_or_ge i k with h|h
  ·exact F.upk i h j hj e a
  ·have:i=k:=by omega
   subst this;exact F.upd j hj (hd j hj a)
 upd:=fun _ _ z=>z.elim
 dn:=F.dn
def Far.none(F:Far n r adj s k (fun _=>False) far)(hd:∀j,¬d j):Far n r adj s k d far where
 len:=F.len
 rt:=F.rt
 rng:=F.rng
 top:=F.top
 up:=F.up
 upk:=F.upk
 upd:=fun j _ z=>absurd z (hd j)
 dn:=F.dn
def Far.relax(F:Far n r adj s k d far)(hk:k<n)(ek:gt far k=s)(ho:o<n)(a:adj o k)(hs:s<n) :
  Far n r adj s k (fun j=>d j\/j=o) (far.set o (min (gt far o) (s+1)))/\gt (far.set o (min (gt far o) (s+1))) k=s:=by
 have hol:o<far.length:=by rw[F.len];exact ho
 have g:=gv (min (gt far o) ((s:Int)+1)) hol;by_cases hw:gt far o<=s+1
 ·have e:∀i,gt (far.set o (min (gt far o) ((s:Int)+1))) i=gt far i:=fun i=>by
   rw[g i];split
   ·rename_i z;subst z;omega
   ·rfl
  refine⟨⟨by rw[length_set];exact F.len,by rw[e];exact F.rt,fun i hi=>by rw[e];exact F.rng i hi,fun i hi=>by rw[e];exact F.top i hi,fun i hi j hj=>by rw[e,e];exact F.up i hi j hj,fun i hi j hj=>by rw[e,e];exact F.upk i hi j hj,fun j hj z=>?_,fun i hi hn=>?_⟩,by rw[e];exact ek⟩
  ·rw[e];rcases z with z|z
   ·exact F.upd j hj z
   ·subst z;exact hw
  ·rw[e];intro hv;obtain⟨h1,j,hj,aj,ej⟩:=F.dn i hi hn hv;exact⟨h1,j,hj,aj,by rw[e];exact ej⟩
 ·have hn:gt far o=n:=by have:=(F.rng o ho).2;omega
  have hm:min (gt far o) ((s:Int)+1)=s+1:=by omega
  rw[hm]at g ⊢;have hlt:(s:Int)+1<n:=by omega
  have ko:k≠o:=fun z=>by subst z;omega
  have ro:r≠o:=fun z=>by subst z;have:=F.rt;omega
  have le:∀i,gt (far.set o ((s:Int)+1)) i<=gt far i:=fun i=>by
   rw[g i];split
   ·rename_i z;subst z;omega
   ·exact Int.le_refl _
  have ne:∀i,i≠o->gt (far.set o ((s:Int)+1)) i=gt far i:=fun i z=>by rw[g i,if_neg z]
  have eo:gt (far.set o ((s:Int)+1)) o=s+1:=by rw[g o,if_pos rfl]
  refine⟨⟨by rw[length_set];exact F.len,by rw[ne r ro];exact F.rt,fun i hi=>?_,fun i hi=>Int.le_trans (le i) (F.top i hi),fun i hi j hj hv aj=>?_,fun i hi j hj hv aj=>?_,fun j hj z=>?_,fun i hi hn' hv=>?_⟩,by rw[ne k ko];exact ek⟩
  ·by_cases z:i=o
   ·subst z;rw[eo];omega
   ·rw[ne i z];exact F.rng i hi
  ·have z:i≠o:=fun z=>by subst z;rw[eo]at hv;omega
   rw[ne i z]at hv ⊢;exact Int.le_trans (le j) (F.up i hi j hj hv aj)
  ·have z:i≠o:=fun z=>by subst z;rw[eo]at hv;omega
   rw[ne i z]at hv;exact Int.le_trans (le j) (F.upk i hi j hj hv aj)
  ·rcases z with z|z
   ·exact Int.le_trans (le j) (F.upd j hj z)
   ·subst z;rw[eo];exact Int.le_refl _
  ·by_cases z:i=o
   ·subst z;rw[eo];exact⟨by omega,k,hk,a,by rw[ne k ko];omega⟩
   ·rw[ne i z]at hv ⊢;obtain⟨h1,j,hj,aj,ej⟩:=F.dn i hi hn' hv;refine⟨h1,j,hj,aj,?_⟩;rw[ne j fun q=>by subst q;omega];exact ej
def Far.next(F:Far n r adj s n (fun _=>False) far):Far n r adj (s+1) 0 (fun _=>False) far where
 len:=F.len
 rt:=F.rt
 rng:=fun i hi=>by have:=F.rng i hi;omega
 top:=F.top
 up:=fun i hi j hj hv a=>by
  by_cases h:gt far i<s
  ·exact F.up i hi j hj h a
  ·have e:gt far i=s:=by omega
   have:=F.upk i hi j hj e a;omega
 upk:=fun i hi=>absurd hi (Nat.not_lt_zero _)
 upd:=fun _ _ z=>z.elim
 dn:=F.dn
structure lZ(n r:Nat)(adj:Nat->Nat->Prop)(far:List Int):Prop where
 len:far.length=n
 rt:gt far r=0
 rng:∀i<n,0<=gt far i/\gt far i<=n
 up:∀i<n,∀j<n,adj i j->gt far j<=gt far i+1
 dn:∀i<n,i≠r->gt far i<n->1<=gt far i/\∃j<n,adj i j/\gt far j=gt far i-1
def Far.dist(F:Far n r adj n 0 (fun _=>False) far):lZ n r adj far where
 len:=F.len
 rt:=F.rt
 rng:=fun i hi=>⟨(F.rng i hi).1,F.top i hi⟩
 up:=fun i hi j hj a=>by
  by_cases h:gt far i<n
  ·exact F.up i hi j hj h a
  ·have:=F.top j hj;omega
 dn:=F.dn
def rZ:∀{l l':List Int},l.Nodup->(∀x∈l,x∈l')->l.length<=l'.length
 | [],_,_,_=>zero_le _
 |x::l,l',nd,sub=>by obtain⟨h1,h2⟩:=nodup_cons.mp nd;have hx:=sub x mem_cons_self;have:=rZ (l':=l'.erase x) h2 (by grind);rw[List.length_erase_of_mem hx]at this;have:=List.length_pos_of_mem hx;rw[length_cons];omega
def lZ.below(D:lZ n r adj far)(hr:r<n):∀(m:Nat),(∃i<n,gt far i=m)->m<n->∀v,v<=m->∃i<n,gt far i=v
 |0,h,_,v,hv=>by
  have:v=0:=by omega
  subst this;exact h
 |m+1,⟨i,hi,e⟩,hm,v,hv=>by
  rcases Nat.lt_or_ge v (m+1)with h|h
  ·have hir:i≠r:=fun z=>by subst z;have:=D.rt;omega
   obtain⟨_,j,hj,_,ej⟩:=D.dn i hi hir (by omega);exact D.below hr m ⟨j,hj,by omega⟩ (by omega) v (by omega)
  ·have:v=m+1:=by omega
   subst this;exact⟨i,hi,e⟩
def cK(h:i<far.length):gt far i∈far:=by simp[gt,h]
def lZ.all(D:lZ n r adj far)(hr:r<n)(conn:∀S:Nat->Prop,S r->(∀i<n,∀j<n,adj i j->S i->S j)->∀i<n,S i):∀i<n,gt far i<n:=by
 refine conn (fun i=>gt far i<n) (by show gt far r<n;rw[D.rt];omega) fun i hi j hj a hv=>?_;show gt far j<n;rcases Int.lt_or_le (gt far j) n with h|h
 ·exact h
 exfalso;have h1:=D.up i hi j hj a;have h2:=(D.rng j hj).2;have e:gt far i=((n-1:Nat):Int):=by omega
 have all:∀v:Nat,v<n+1->(v:Int)∈ far:=fun v hv=>by
  rcases Nat.lt_or_ge v n with h|h
  ·obtain⟨x,hx,ex⟩:=D.below hr (n-1) ⟨i,hi,e⟩ (by omega) v (by omega);rw[<- ex];exact cK (by rw[D.len];exact hx)
  ·have:(v:Int)=gt far j:=by omega
   rw[this];exact cK (by rw[D.len];exact hj)
 have:=rZ (l:=(range (n+1)).map fun k:Nat=>(k:Int)) (l':=far) (Pairwise.map _ (fun a b h z=>h (by omega)) nodup_range) (by grind);rw[length_map,List.length_range,D.len]at this;omega
end
end PR
namespace PR
open PySem PySem.Spec L2
def prL(ps:List (Int×Int)):List PV:=ps.map prV
section
variable{ps qs:List (Int×Int)}{x:Int×Int}{f:Fl}{g:Fl->Fl}{p:Fl->Bool}
@[simp] def Gi:prL []=[]:=rfl
@[simp] def vH:prL (x::ps)=prV x::prL ps:=rfl
@[simp] def iu:(prL ps).length=ps.length:=by simp[prL]
@[simp] def zb:prL ps++prL qs=prL (ps++qs):=by simp[prL]
@[simp] def rO(k:Nat):(prL ps)[k]?=(ps[k]?).map prV:=by simp[prL]
@[simp] def Gg:PV.mapF g (prV x)=prV x:=rfl
@[simp] def Gh:(prV x).has p=false:=rfl
@[simp] def Fp:mapL g (prL ps)=prL ps:=by
 induction ps with
 |nil=>rfl
 |cons n ns ih=>simp[mapL,ih]
@[simp] def FQ:hasL p (prL ps)=false:=by
 induction ps with
 |nil=>rfl
 |cons n ns ih=>simp[hasL,ih]
@[simp] def qh:shp (prV x)=true:=rfl
@[simp] def oJ:(prL ps).all shp=true:=by
 induction ps with
 |nil=>rfl
 |cons n ns ih=>simp only[vH,all_cons,qh,ih];rfl
def C3(x y:Int×Int):PyData.eqv (prV x).data (prV y).data=decide (x=y):=by obtain⟨a,b⟩:=x;obtain⟨c,d⟩:=y;simp only[prV,PV.data,dataL,PyData.eqv,PyData.eqvAll];by_cases h1:a=c<;>by_cases h2:b=d<;>simp[h1,h2]
def wJ:inL (prV x) (prL ps)=ps.contains x:=by
 induction ps with
 |nil=>rfl
 |cons n ns ih=>
  have e:inL (prV x) (prL (n::ns))=(PyData.eqv (prV n).data (prV x).data||inL (prV x) (prL ns)):=rfl;rw[e,ih,List.contains_cons,C3];congr 1;by_cases h:n=x
  ·subst h;simp
  ·rw[decide_eq_false h];exact(beq_eq_false_iff_ne.mpr (Ne.symm h)).symm
@[simp] def HB:pIn (prV x) (.lst f (prL ps))=.ok (.bl (ps.contains x)):=by unfold pIn;simp only[aT,qh,oJ,Bool.and_self,if_true,wJ]
@[simp] def Fm:jL (prV x) (.lst f (prL ps))=.ok (.bl (!ps.contains x)):=by unfold jL;simp only[aT,qh,oJ,Bool.and_self,if_true,wJ]
@[simp] def Gy:az (prV x) (.int 0)=.ok (.int x.1):=rfl
@[simp] def Gx:az (prV x) (.int 1)=.ok (.int x.2):=rfl
def p8(a b:Int):PV.tup [.int a,.int b]=prV (a,b):=rfl
@[simp] def Hd:eP fv (prV x)=.ok (.int (min x.1 x.2)):=rfl
@[simp] def He:eP dC (prV x)=.ok (.int (max x.1 x.2)):=rfl
@[simp] def qv:gW (prL ps)=some ps:=by
 induction ps with
 |nil=>rfl
 |cons n ns ih=>have:kS (prV n)=some n:=rfl;simp[gW,ih,this]
def jE(ns:List Int)(h:ns.length<64):dH (.lst f (iL ns))=.ok (.lst .own (iL (gP ns))):=by simp[dH,h,fR];rfl
def qc(h:ps.length<64)(hd:ps.Nodup):dH (.lst f (prL ps))=.ok (.lst .own (prL (aW ps))):=by
 cases ps with
 |nil=>rfl
 |cons n ns=>have e:bz (prL (n::ns))=none:=rfl;simp only[dH,e,qv,iu];rw[if_pos (decide_eq_true h),if_pos (decide_eq_true hd)];rfl
def je{α:Type}{n:Nat}{y z:α}{l:List α}:z∈gT n y l↔z=y\/z∈l:=by
 unfold gT;rw[mem_append,mem_cons];constructor
 ·rintro(h|h|h)
  ·exact .inr (List.mem_of_mem_take h)
  ·exact .inl h
  ·exact .inr (List.mem_of_mem_drop h)
 ·rintro(h|h)
  ·exact .inr (.inl h)
  ·rw[<- List.take_append_drop n l]at h;rcases mem_append.mp h with h|h
   ·exact .inl h
   ·exact .inr (.inr h)
def jd{α:Type}(n:Nat)(y:α)(l:List α):(gT n y l).Perm (y::l):=by unfold gT;refine List.perm_middle.trans ?_;rw[List.take_append_drop]
end
def iR{x:PV}{xs:List PV}{k:Nat}{y:PV}(hs:aT x=some xs)(h:xs[k]?=some y)(ho:y.has Fl.isOwn=false):az x (.int k)=.ok y:=by have hl:k<xs.length:=(List.getElem?_eq_some_iff.mp h).1;unfold az;simp only[hs,atI];rw[fz hl];simp[h,ho]
def nbL(ps:List (Int×Int))(at_:Int):List Int:=gP ((ps.filter fun x=>decide (x.2=at_)).map (·.1)++(ps.filter fun x=>decide (x.1=at_)).map (·.2))
def fe{ps:List (Int×Int)}{a o:Int}:o∈nbL ps a ↔(o,a)∈ ps \/(a,o)∈ ps:=by
 unfold nbL;rw[(cO _).mem_iff,mem_append];simp only[mem_map,mem_filter,decide_eq_true_eq];constructor
 ·rintro(⟨⟨x,y⟩,⟨h1,h2⟩,h3⟩ |⟨⟨x,y⟩,⟨h1,h2⟩,h3⟩)
  ·dsimp only at h2 h3;subst h2 h3;exact .inl h1
  ·dsimp only at h2 h3;subst h2 h3;exact .inr h1
 ·rintro(h|h)
  ·exact .inl ⟨_,⟨h,rfl⟩,rfl⟩
  ·exact .inr ⟨_,⟨h,rfl⟩,rfl⟩
def mm(w:Int×Int):Int×Int:=(min w.1 w.2,max w.1 w.2)
structure DO(n:Nat)(ws:List (Int×Int)):Prop where
 rg:∀w∈ws,0<=w.1/\w.1<n/\0<=w.2/\w.2<n/\w.1≠w.2
 nd:(ws.map mm).Nodup
 sz:ws.length<64
end PR
namespace PR
def AI{w u:Int×Int}(h:mm w=mm u):w=u\/w=(u.2,u.1):=by obtain⟨a,b⟩:=w;obtain⟨c,d⟩:=u;simp only[mm,Prod.mk.injEq]at h ⊢;omega
def r9{w u:Int×Int}(h:mm w=mm u):(w.1=u.1/\w.2=u.2)\/(w.1=u.2/\w.2=u.1):=by
 rcases AI h with rfl|rfl
 ·exact .inl ⟨rfl,rfl⟩
 ·exact .inr ⟨rfl,rfl⟩
structure Tree(n:Nat)(od:List Int)(k:Nat)(ws:List (Int×Int)):Prop where
 rg:∀w∈ws,w.1∈od.take k/\w.2∈od.take k/\w.1≠w.2
 nd:(ws.map mm).Nodup
 ln:ws.length+1=k
 cn:∀S:Int->Prop,(∀w∈ws,(S w.1↔S w.2))->∀a∈od.take k,(S a↔S (od.getD 0 0))
def Tree.start{n:Nat}{od:List Int}(h:od.length=n)(hn:1<=n):Tree n od 1 [] where
 rg:=fun w hw=>by cases hw
 nd:=.nil
 ln:=rfl
 cn:=fun S _ a ha=>by
  cases od with
  |nil=>simp at h;omega
  |cons x l=>
   have:a=x:=by simpa using ha
   subst this;simp
def Tree.more{n:Nat}{od:List Int}{k j:Nat}{ws:List (Int×Int)}{w:Int×Int}{p:Nat}(T:Tree n od k ws)(hod:od.Nodup)(hk:k<od.length)(hj:j<k)(hw:w=(od.getD k 0,od.getD j 0)\/ w=(od.getD j 0,od.getD k 0)):Tree n od (k+1) (gT p w ws):=by
 have hjl:j<od.length:=by omega
 have e1:od.getD k 0=od[k]:=by simp[hk]
 have e2:od.getD j 0=od[j]:=by simp[hjl]
 rw[e1,e2]at hw;have tk:od.take (k+1)=od.take k++[od[k]]:=by rw[take_add_one];simp[hk]
 have mj:od[j]∈ od.take k:=List.mem_take_iff_getElem.mpr ⟨j,by omega,rfl⟩;have nk:od[k]∉ od.take k:=fun z=>by obtain⟨i,hi,e⟩:=List.mem_take_iff_getElem.mp z;have:=(getElem_inj hod).mp e;omega
 have ne:od[k]≠ od[j]:=fun z=>nk (z▸mj);have mem:∀u∈gT p w ws,u=w\/u∈ws:=fun u hu=>je.mp hu;refine⟨fun u hu=>?_,?_,?_,fun S hS a ha=>?_⟩
 ·rcases mem u hu with rfl|hu
  ·grind
  ·obtain⟨h1,h2,h3⟩:=T.rg u hu;rw[tk];exact⟨mem_append_left _ h1,mem_append_left _ h2,h3⟩
 ·have:((gT p w ws).map mm).Perm (mm w::ws.map mm):=(jd p w ws).map mm;refine this.symm.nodup (nodup_cons.mpr ⟨fun z=>?_,T.nd⟩);obtain⟨u,hu,e⟩:=mem_map.mp z;obtain⟨h1,h2,_⟩:=T.rg u hu;rcases hw with rfl|rfl
  ·rcases r9 e with⟨q1,q2⟩ |⟨q1,q2⟩
   ·exact nk (by rw[q1]at h1;exact h1)
   ·exact nk (by rw[q2]at h2;exact h2)
  ·rcases r9 e with⟨q1,q2⟩ |⟨q1,q2⟩
   ·exact nk (by rw[q2]at h2;exact h2)
   ·exact nk (by rw[q1]at h1;exact h1)
 ·rw[(jd p w ws).length_eq,length_cons,T.ln]
 ·have hw':=hS w (je.mpr (.inl rfl));have cn:=T.cn S fun u hu=>hS u (je.mpr (.inr hu))
  grind
structure fk(n m:Nat)(ws:List (Int×Int)):Prop where
 rg:∀w∈ws,0<=w.1/\w.1<n/\0<=w.2/\w.2<n/\w.1≠w.2
 nd:(ws.map mm).Nodup
 ln:ws.length<=m
 cn:∀S:Int->Prop,(∀w∈ws,(S w.1↔S w.2))->∀i j:Nat,i<n->j<n->S i->S j
def Tree.whole{n:Nat}{od:List Int}{ws:List (Int×Int)}(T:Tree n od n ws)(hp:od.Perm ((range n).map fun k:Nat=>(k:Int))):fk n n ws:=by
 have hl:od.length=n:=by simpa using hp.length_eq
 have ht:od.take n=od:=by rw[<- hl,take_length]
 have hm:∀a,a∈od↔∃k:Nat,k<n/\(k:Int)=a:=fun a=>by rw[hp.mem_iff];simp
 refine⟨fun w hw=>?_,T.nd,by have:=T.ln;omega,fun S hS i j hi hj hs=>?_⟩
 ·obtain⟨h1,h2,h3⟩:=T.rg w hw;rw[ht]at h1 h2;obtain⟨a,ha,ea⟩:=(hm _).mp h1;obtain⟨b,hb,eb⟩:=(hm _).mp h2;omega
 ·have cn:=T.cn S hS;rw[ht]at cn;exact(cn j ((hm _).mpr ⟨j,hj,rfl⟩)).mpr ((cn i ((hm _).mpr ⟨i,hi,rfl⟩)).mp hs)
def fk.more{n m p:Nat}{ws:List (Int×Int)}{a b:Int}(h:fk n m ws)(ha:0<=a/\a<n)(hb:0<=b/\b<n)(hne:a≠b)(h1:(a,b)∉ ws)(h2:(b,a)∉ ws):fk n (m+1) (gT p (a,b) ws):=by
 refine⟨fun u hu=>?_,?_,?_,fun S hS=>h.cn S fun u hu=>hS u (je.mpr (.inr hu))⟩
 ·rcases je.mp hu with rfl|hu
  ·exact⟨ha.1,ha.2,hb.1,hb.2,hne⟩
  ·exact h.rg u hu
 ·have:((gT p (a,b) ws).map mm).Perm (mm (a,b)::ws.map mm):=(jd p (a,b) ws).map mm;refine this.symm.nodup (nodup_cons.mpr ⟨fun z=>?_,h.nd⟩);obtain⟨u,hu,e⟩:=mem_map.mp z;rcases AI e with rfl|rfl
  ·exact h1 hu
  ·exact h2 hu
 ·rw[(jd p (a,b) ws).length_eq,length_cons];have:=h.ln;omega
def fk.keep{n m:Nat}{ws:List (Int×Int)}(h:fk n m ws):fk n (m+1) ws:=⟨h.rg,h.nd,Nat.le_succ_of_le h.ln,h.cn⟩
def fk.good{n m:Nat}{ws:List (Int×Int)}(h:fk n m ws)(hm:m<64):DO n ws:=⟨h.rg,h.nd,by have:=h.ln;omega⟩
open PySem L2 in
def lL(o:Out)(Q:PV->Prop):Prop:=∃v,o=.ret v/\Q v
section
open PySem L2
variable{env e:En}{Q:PV->Prop}
def cF{a b:MS}(h1:a env=.next e)(h2:lL (b e) Q):lL (aw a b env) Q:=by obtain⟨v,h,q⟩:=h2;exact⟨v,af h1 h,q⟩
def ir{o:Out}{v:PV}(h:o=.ret v)(q:Q v):lL o Q:=⟨v,h,q⟩
def ja{it:MI}{g:TgM}{body rest:MS}{xs:List PV}(P:Nat->En->Prop)(h:it env=.ok xs)(h0:P 0 env)
  (step:∀(k:Nat) (x:PV) (e:En),xs[k]?=some x->P k e->∃e1,g x e=some e1/\jZ (body e1) (P (k+1))) (fin:∀e,P xs.length e->lL (rest e) Q):lL (aw (c9 it g body) rest env) Q:=by
 obtain⟨e2,h1,h2⟩:=ju P h h0 fun k x e h1 h2=>by obtain⟨e1,h3,e2,h4,h5⟩:=step k x e h1 h2;exact⟨e1,e2,h3,h4,h5⟩
 exact cF h1 (fin e2 h2)
end
end PR
namespace PR
open PySem L2
section
variable{env:En}
def fY(ho:env[0]?=some (some (.obj .own c ks vs)))(ha:ms env=.ok xs)(hl:hasL Fl.isLnt xs=false)
  (hm:m (.obj .own c ks vs::mapL Fl.toBor xs)=.ok (.obj fl c' ks' vs')) (hb:(PV.obj fl c' ks' vs').has Fl.isBor=false):gM m ms env=.next (env.set 0 (some (.obj fl c' ks' vs'))):=by
 unfold gM;rw[ho];dsimp only;rw[ha];dsimp only;rw[hl,if_neg (by decide),hm];dsimp only;rw[hb,if_neg (by decide)]
end
def mM(h:c env=.ok true)(h2:jZ (a env) Q):jZ (mBr c a b env) Q:=by rw[AO h];exact h2
def mO(h:c env=.ok false)(h2:jZ (b env) Q):jZ (mBr c a b env) Q:=by rw[AO h];exact h2
section
variable{env:En}{g:TgM}{me:ME}
def d5(f:Int->Int)(row:List Int)(h:∀x∈row,∃e1,g (.int x) env=some e1/\me e1=.ok (.int (f x))):dB g bX me env (iL row)=.ok (iL (row.map f)):=by rw[show iL (row.map f)=row.map fun x=>PV.int (f x) by simp[iL]];exact b8 (a:=PV.int) (f:=fun x=>.int (f x)) row fun x hx=>let⟨e1,h1,h2⟩:=h x hx;⟨e1,h1,h2,rfl,rfl⟩
def d4(lo:Int)(f:Nat->Int)(n:Nat)(h:∀k<n,∃e1,g (.int (lo+(k:Int))) env=some e1/\me e1=.ok (.int (f k))):dB g bX me env (cq lo n)=.ok (iL ((range n).map f)):=by rw[show iL ((range n).map f)=(range n).map fun k=>PV.int (f k) by simp[iL]];exact b8 (a:=fun k:Nat=>PV.int (lo+(k:Int))) (f:=fun k=>.int (f k)) (range n) fun k hk=>let⟨e1,h1,h2⟩:=h k (mem_range.mp hk);⟨e1,h1,h2,rfl,rfl⟩
def lC(p:Nat->Bool)(f:Nat->Int)(n:Nat)(h:∀k<n,∃e1,g (.int (0+(k:Int))) env=some e1/\mc e1=.ok (p k)/\(p k=true->me e1=.ok (.int (f k)))):dB g mc me env (cq 0 n)=.ok (iL (((range n).filter p).map f)):=by rw[show iL (((range n).filter p).map f)=((range n).filter p).map fun k=>PV.int (f k) by simp[iL]];exact bQ (a:=fun k:Nat=>PV.int (0+(k:Int))) (f:=fun k=>.int (f k)) (p:=p) (range n) fun k hk=>let⟨e1,h1,h2,h3⟩:=h k (mem_range.mp hk);⟨e1,h1,h2,fun z=>⟨h3 z,rfl,rfl⟩⟩
end
def bq(h0:0<=i)(h:i<cs.length):az (.lst f (iL cs)) (.int i)=.ok (.int (gt cs i.toNat)):=by
 have:i.toNat<cs.length:=by omega
 exact hV _ h0 (by simp[gt,this])
def C8(xs:List PV)(k:Nat)(h:k<=xs.length):uJ xs none (some (k:Int))=xs.take k:=by unfold uJ;rw[HT.sIx_nat,HT.sIx_none];simp[Nat.min_eq_left h]
def eE(p:Int->Bool)(f:Int->Int)(row:List Int)(h:∀x∈row,∃e1,g (.int x) env=some e1/\mc e1=.ok (p x)/\(p x=true->me e1=.ok (.int (f x)))):dB g mc me env (iL row)=.ok (iL ((row.filter p).map f)):=by rw[show iL ((row.filter p).map f)=(row.filter p).map fun x=>PV.int (f x) by simp[iL]];exact bQ (a:=PV.int) (f:=fun x=>.int (f x)) (p:=p) row fun x hx=>let⟨e1,h1,h2,h3⟩:=h x hx;⟨e1,h1,h2,fun z=>⟨h3 z,rfl,rfl⟩⟩
def qS(lo:Int)(p:Nat->Bool)(f:Nat->Int)(n:Nat)(h:∀k<n,∃e1,g (.int (lo+(k:Int))) env=some e1/\mc e1=.ok (p k)/\(p k=true->me e1=.ok (.int (f k)))):dB g mc me env (cq lo n)=.ok (iL (((range n).filter p).map f)):=by rw[show iL (((range n).filter p).map f)=((range n).filter p).map fun k=>PV.int (f k) by simp[iL]];exact bQ (a:=fun k:Nat=>PV.int (lo+(k:Int))) (f:=fun k=>.int (f k)) (p:=p) (range n) fun k hk=>let⟨e1,h1,h2,h3⟩:=h k (mem_range.mp hk);⟨e1,h1,h2,fun z=>⟨h3 z,rfl,rfl⟩⟩
def m4{Fin:En->Prop}(P:Nat->En->Prop)(step:∀m e,P m e->(c e=.ok false/\Fin e)\/(c e=.ok true/\∃m' e',m'<m/\(b e=.next e'\/b e=.cont e')/\P m' e')) :
  ∀(k m:Nat) (env:En),m<k->P m env->∃e',whL c b k env=.next e'/\Fin e'
 |0,m,_,h,_=>absurd h (Nat.not_lt_zero m)
 |k+1,m,env,h,hP=>by
  unfold whL;rcases step m env hP with⟨h1,h2⟩ |⟨h1,m',e',h2,h3,h4⟩
  ·rw[h1];exact⟨env,rfl,h2⟩
  ·obtain⟨e2,h5,h6⟩:=m4 P step k m' e' (by omega) h4;rw[h1];rcases h3 with h3|h3<;>rw[h3]<;>exact⟨e2,h5,h6⟩
section
variable{env:En}{r:Out}
def tq{c:MT}{b rest:MS}{Fin:En->Prop}(P:Nat->En->Prop)(m:Nat)(hm:m<100000)(h0:P m env)(step:∀m e,P m e->(c e=.ok false/\Fin e)\/(c e=.ok true/\∃m' e',m'<m/\(b e=.next e'\/b e=.cont e')/\P m' e'))(fin:∀e,Fin e->rest e=r):aw (jQ c b) rest env=r:=by obtain⟨e',h1,h2⟩:=m4 P step 100000 m env hm h0;exact af h1 (fin e' h2)
def qp{Q:PV->Prop}{c:MT}{b rest:MS}{Fin:En->Prop}(P:Nat->En->Prop)(m:Nat)(hm:m<100000)(h0:P m env)(step:∀m e,P m e->(c e=.ok false/\Fin e)\/(c e=.ok true/\∃m' e',m'<m/\(b e=.next e'\/b e=.cont e')/\P m' e'))(fin:∀e,Fin e->lL (rest e) Q):lL (aw (jQ c b) rest env) Q:=by obtain⟨e',h1,h2⟩:=m4 P step 100000 m env hm h0;exact cF h1 (fin e' h2)
end
def rC(hl:l.length<=1000)(hb:∀x∈l,-1000000<=x/\x<=1000000):nG (.lst f (iL l))=.ok (.int l.sum):=by
 have:dD l=true:=by simp only[dD,all_eq_true,decide_eq_true_eq];exact hb
 simp[nG,aT,hl,this]
@[simp] def Ei(bs:List Bool):eF (bs.map .bl)=some bs:=by
 induction bs with
 |nil=>rfl
 |cons b bs ih=>simp[eF,ih]
end PR
namespace PR
def s0_{α:Type}{a b:α}{l:List α}:(a::l).set 0 b=b::l:=rfl
def s1_{α:Type}{a b:α}{l:List α}{n:Nat}:(a::l).set (n+1) b=a::l.set n b:=rfl
end PR
namespace G
open PySem L2 PR
def xT:MS:=
 (aw (mBr (aC (mOp pLt (aa 1) (au (p1 bZ) (ae (aa 0) am))))
  (bL (mOp az (aa 0) (aa 1)))
  aZ)
 (bL (mC (.int 0))))
def gH:List PV->Res PV:=br 2 xT
def xL:MS:=
 (aw (aV 3 (eK am))
 (aw (c9 (ji (ae (mC (.int 1)) (ae (aa 0) am))) (tgN 4)
  (aw (ee 3 (nN (ae (mOp dI (aa 1) (aa 4)) (ae (aa 4) am))))
 (aV 1 (mOp fM (aa 1) (aa 4)))))
 (aw (c9 (bU (ae (aa 0) am)) (tgN 4)
  (c9 (bU (ae (aa 4) am)) (tgN 5)
  (aw (mBr ((jo (aC (mOp pEq (mOp dI (aa 2) (mC (.int 3))) (mC (.int 0)))) (aC (mOp jL (nN (ae (aa 5) (ae (aa 4) am))) (aa 3)))))
  (ee 3 (nN (ae (aa 4) (ae (aa 5) am))))
  aZ)
 (aV 2 (mOp fM (aa 2) (mC (.int 3)))))))
 (eQ 3))))
def wW:List PV->Res PV:=br 6 xL
def xM:MS:=
 (aw (aV 2 (au nH (ae (mC (.int 10)) am)))
 (aw (aV 3 (eK am))
 (aw (c9 (bU (ae (aa 0) am)) (tgN 4)
  (aw (jm 3 2 (mOp dI (aa 1) (au (p1 bZ) (ae (aa 2) am))))
 (aV 1 (mOp fM (aa 1) (mOp fB (mC (.int 10)) (aa 4))))))
 (eQ 3))))
def wX:List PV->Res PV:=br 5 xM
def xH:MS:=
 (aw (aV 1 (au (aU gH) (ae (aa 0) (ae (mC (.int 0)) am))))
 (aw (aV 2 (au (aU gH) (ae (aa 0) (ae (mC (.int 3)) am))))
 (aw (aV 3 (mOp az (eK (ae (mC (.str "pass")) (ae (mC (.str "paint")) (ae (mC (.str "count")) (ae (mC (.str "far")) (ae (mC (.str "lead")) (ae (mC (.str "grow")) am))))))) (mOp dI (aa 1) (mC (.int 6)))))
 (aw (aV 4 (mOp aY (mC (.int 1)) (mOp dI (mOp fM (aa 1) (mC (.int 6))) (mC (.int 6)))))
 (aw (mBr (aC (mOp pEq (aa 3) (mC (.str "pass"))))
  (aV 4 (mOp aY (aa 4) (mC (.int 1))))
  aZ)
 (aw (aV 5 (au (aU wW) (ae (aa 4) (ae (au (aU gH) (ae (aa 0) (ae (mC (.int 1)) am))) (ae (au (aU gH) (ae (aa 0) (ae (mC (.int 2)) am))) am)))))
 (aw (aV 6 (mOp aY (aa 4) (mOp dI (mOp fM (aa 2) (mC (.int 2))) (mC (.int 7)))))
 (aw (mBr (aC (mOp pEq (mOp dI (aa 2) (mC (.int 2))) (mC (.int 1))))
  (aV 6 (mOp aY (aa 4) (mOp dI (mOp fM (aa 2) (mC (.int 2))) (mOp t7 (mC (.int 10)) (mC (.int 59))))))
  aZ)
 (aw (aV 7 (a6 [] 1 (cb (nQ (aa 5) nR (sd (mOp fB (aa 4) (mC (.int 1)))))) (tgN 0) bX (mOp az (aa 0) (mC (.int 0)))))
 (aw (aV 8 (au (aU wX) (ae (aa 4) (ae (aa 2) am))))
 (aw (fD 5) (aw (fD 7) (aw (fD 8) (sf 0 9 [(aa 3),(aa 4),(aa 5),(aa 7),(aa 8)] (mOp dI (aa 2) (aa 4)) (aa 6)))))))))))))))
def wT:List PV->Res PV:=br 10 xH
def im:MS:=
 (aw (fN 0 0 (aa 1))
 (aw (fN 0 7 (aa 2))
 (fN 0 8 (aa 3))))
def fT:List PV->Res PV:=iC 4 im
def Dt:MS:=
 (aw (mBr ((g8 (aC (mOp pLt (aa 1) (mC (.int 2)))) (aC (mOp pGt (aa 1) (mC (.int 20))))))
  (bw 2 (ae (mC (.str "the number of machines is out of bounds")) am))
  aZ)
 (aw (mBr (aC (mOp pLt (aa 2) (aa 1)))
  (bw 2 (ae (mC (.str "the span is less than the size")) am))
  aZ)
 (gM fT (ae (aa 1) (ae (aa 2) (ae (mC (.bl false)) am))))))
def CM:List PV->Res PV:=iC 3 Dt
def DC:MS:=
 (aw (mBr (aC (mOp pGt (au (p1 bZ) (ae (aa 0) am)) (mC (.int 9))))
  (bw 2 (ae (mC (.str "there are more than nine parents")) am))
  aZ)
 (c9 (ui (aa 0)) (tgT 2 (dg (tgN 1) (dg (tgN 2) kE)))
  (mBr ((g8 (aC (mOp pLt (aa 2) (mC (.int 0)))) (aC (mOp pGe (aa 2) (aa 1)))))
  (bw 2 (ae (mC (.str "a parent is no machine of a lower number than its kid")) am))
  aZ)))
def CU:List PV->Res PV:=br 3 DC
def pX:MS:=
 (gM fT (ae (aa 1) (ae (aa 2) (ae (mC (.bl false)) am))))
def lz:List PV->Res PV:=iC 3 pX
def DA:MS:=
 (aw (g_ (au (aU CU) (ae (aa 1) am)))
 (aw (fN 0 11 (au (p1 dZ) (ae (aa 1) am)))
 (gM lz (ae (mOp aY (au (p1 bZ) (ae (aa 1) am)) (mC (.int 1))) (ae (mOp aY (au (p1 bZ) (ae (aa 1) am)) (mC (.int 2))) am)))))
def CS:List PV->Res PV:=iC 2 DA
def xV:MS:=
 (mBr ((g8 (aC (mOp pLt (aa 0) (aa 1))) (aC (mOp pGt (aa 0) (mC (.int 10))))))
  (bw 1 (ae (mC (.str "the number of machines is out of bounds")) am))
  aZ)
def w5:List PV->Res PV:=br 2 xV
def Dr:MS:=
 (aw (aV 2 (eK am))
 (aw (c9 (gE (aa 1)) (tgN 3)
  (aw (aV 4 (nN (ae (au (p1 (eP fv)) (ae (aa 3) am)) (ae (au (p1 (eP dC)) (ae (aa 3) am)) am))))
 (aw (mBr ((g8 (aC (mOp pLt (mOp az (aa 4) (mC (.int 0))) (mC (.int 0)))) (aC (mOp pGe (mOp az (aa 4) (mC (.int 1))) (aa 0)))))
  (bw 1 (ae (mC (.str "a way has a number that is no machine")) am))
  aZ)
 (aw (mBr (aC (mOp pEq (mOp az (aa 4) (mC (.int 0))) (mOp az (aa 4) (mC (.int 1)))))
  (bw 1 (ae (mC (.str "a way has twice the same machine")) am))
  aZ)
 (aw (mBr (aC (mOp pIn (aa 4) (aa 2)))
  (bw 1 (ae (mC (.str "a way is told twice")) am))
  aZ)
 (ee 2 (aa 4)))))))
 (bL (au (p1 dH) (ae (aa 2) am)))))
def CK:List PV->Res PV:=br 5 Dr
def xQ:MS:=
 (aw (aV 2 (a6 [1] 1 (cb (aa 0)) (tgN 1) (aC (mOp pEq (mOp az (aa 1) (mC (.int 1))) (aa 0))) (mOp az (aa 1) (mC (.int 0)))))
 (aw (aV 3 (a6 [1] 1 (cb (aa 0)) (tgN 1) (aC (mOp pEq (mOp az (aa 1) (mC (.int 0))) (aa 0))) (mOp az (aa 1) (mC (.int 1)))))
 (bL (au (p1 dH) (ae (mOp aY (aa 2) (aa 3)) am)))))
def sF:List PV->Res PV:=br 4 xQ
def pW:MS:=
 (bL (au (p1 cQ) (ae (mOp az (mUn (aq 2) (aa 0)) (aa 1)) am)))
def sG:List PV->Res PV:=br 2 pW
def bK:Nat->Option (List PV->Res PV)
 |8=>some sG
 |_=>none
def xK:MS:=
 (aw (aV 2 (a6 [0] 1 (bU (ae (mUn (aq 0) (aa 0)) am)) (tgN 1) bX (mUn (aq 0) (aa 0))))
 (aw (eJ 2 (aa 1) (mC (.int 0)))
 (aw (c9 (bU (ae (mUn (aq 0) (aa 0)) am)) (tgN 3)
  (c9 (bU (ae (mUn (aq 0) (aa 0)) am)) (tgN 4)
  (mBr (aC (mOp pEq (mOp az (aa 2) (aa 4)) (aa 3)))
  (c9 (gE (cC bK (aa 0) (ae (aa 4) am))) (tgN 5)
  (eJ 2 (aa 5) (au (dq min) (ae (mOp az (aa 2) (aa 5)) (ae (mOp aY (aa 3) (mC (.int 1))) am)))))
  aZ)))
 (eQ 2))))
def sE:List PV->Res PV:=br 6 xK
def xJ:MS:=
 (aw (g_ (au (aU w5) (ae (aa 1) (ae (mC (.int 1)) am))))
 (aw (fN 0 0 (aa 1))
 (aw (fN 0 1 (au (p1 dZ) (ae (au (aU CK) (ae (aa 1) (ae (aa 2) am))) am)))
 (aw (fN 0 2 (au (p1 dZ) (ae (a6 [0] 1 (bU (ae (aa 1) am)) (tgN 1) bX (au (p1 dZ) (ae (au (aU sF) (ae (mUn (aq 1) (aa 0)) (ae (aa 1) am))) am))) am)))
 (mBr (aC (mOp pEq (au (p1 (eP dC)) (ae (au (aU sE) (ae (aa 0) (ae (mC (.int 0)) am))) am)) (aa 1)))
  (bw 1 (ae (mC (.str "not every machine can be come to from machine 0")) am))
  aZ)))))
def wV:List PV->Res PV:=iC 3 xJ
def xW:MS:=
 (mBr ((g8 (aC (mOp pLt (aa 0) (mC (.int 1)))) (aC (mOp pGt (aa 0) (mC (.int 10))))))
  (bw 2 (ae (mC (.str "the stretch or the number of blocks is out of bounds")) am))
  aZ)
def sH:List PV->Res PV:=br 1 xW
def Do:MS:=
 (aw (mBr (aC (mOp pNe (au (p1 bZ) (ae (aa 1) am)) (mUn (aq 0) (aa 0))))
  (bw 2 (ae (mC (.str "there are not as many starts as machines")) am))
  aZ)
 (c9 (gE (aa 1)) (tgN 3)
  (mBr ((jo (aC (mOp iD (aa 3) (mC .non))) ((g8 (aC (mOp pLt (aa 3) (mC (.int 0)))) (aC (mOp pGe (aa 3) (aa 2)))))))
  (bw 2 (ae (mC (.str "a start is out of bounds")) am))
  aZ)))
def CI:List PV->Res PV:=br 4 Do
def Dx:MS:=
 (aw (g_ (au (aU sH) (ae (aa 3) am)))
 (aw (g_ (au (aU sH) (ae (aa 4) am)))
 (aw (fN 0 3 (mOp gK (aa 3) (aa 4)))
 (aw (g_ (au (aU CI) (ae (aa 1) (ae (aa 2) (ae (mUn (aq 3) (aa 0)) am)))))
 (aw (fD 1) (aw (fN 0 4 (aa 1))
 (aw (fN 0 5 (au (p1 dZ) (ae (aa 2) am)))
 (aw (fN 0 6 (aa 3))
 (gM fT (ae (mUn (aq 0) (aa 1)) (ae (mOp aY (mUn (aq 3) (aa 0)) (mC (.int 1))) (ae (mC (.bl true)) am))))))))))))
def uA:List PV->Res PV:=iC 5 Dx
def xZ:MS:=
 (aw (mBr ((g8 (aC (mOp pLt (aa 2) (mC (.int 0)))) (aC (mOp pGe (aa 2) (mUn (aq 0) (aa 1))))))
  (bw 2 (ae (mC (.str "the root is no machine")) am))
  aZ)
 (aw (aV 3 (a6 [2] 1 (bU (ae (mUn (aq 0) (aa 1)) am)) (tgN 1) bX (wy (aC (mOp pEq (aa 1) (aa 0))) (mC (.int 0)) (mC .non))))
 (aw (fD 3) (aw (fD 1) (gM uA (ae (aa 1) (ae (aa 3) (ae (mUn (aq 0) (aa 1)) (ae (mC (.int 1)) am)))))))))
def pH:List PV->Res PV:=iC 4 xZ
def Dw:MS:=
 (aw (fD 1) (aw (fN 0 9 (iP 5 pH (ae (aa 1) (ae (aa 2) am))))
 (aw (fN 0 4 (aa 1))
 (aw (fN 0 10 (aa 2))
 (gM fT (ae (mUn (aq 0) (aa 1)) (ae (mOp gK (mOp aY (mUn (aq 0) (aa 1)) (mC (.int 1))) (mOp aY (mUn (aq 0) (aa 1)) (mC (.int 1)))) (ae (mC (.bl true)) am))))))))
def zY:List PV->Res PV:=iC 3 Dw
def yb:MS:=
 (aw (mBr (aC (mOp pNe (au (p1 bZ) (ae (aa 1) am)) (mUn (aq 0) (aa 0))))
  (bw 2 (ae (mC (.str "there are not as many names as machines")) am))
  aZ)
 (aw (mBr (aC (mOp pNe (mUn iw (aa 1)) (au (p1 bZ) (ae (aa 1) am))))
  (bw 2 (ae (mC (.str "two machines have the same name")) am))
  aZ)
 (c9 (gE (aa 1)) (tgN 2)
  (mBr ((g8 (aC (mOp pLt (aa 2) (mC (.int 0)))) (aC (mOp pGt (aa 2) (mC (.int 9))))))
  (bw 2 (ae (mC (.str "a name is out of bounds")) am))
  aZ))))
def w_:List PV->Res PV:=br 3 yb
def yc:MS:=
 (aw (fD 1) (aw (g_ (au (aU w_) (ae (aa 1) (ae (aa 2) am))))
 (aw (aV 3 (a6 [1] 1 (cb (aa 2)) (tgN 1) bX (mOp gK (mOp fB (mC (.int 9)) (aa 1)) (mUn (aq 0) (aa 0)))))
 (aw (fD 3) (gM uA (ae (aa 1) (ae (aa 3) (ae (mUn (aq 0) (aa 1)) (ae (mC (.int 10)) am)))))))))
def sI:List PV->Res PV:=iC 4 yc
def xR:MS:=
 (aw (aV 2 (mOp fB (mOp fB (mUn (bJ 0 1) (aa 1)) (mC (.int 1))) (mUn (bJ 0 5) (aa 1))))
 (bL (eK (ae (iP 6 sI (ae (aa 0) (ae (a6 [] 1 (cb (mUn (bJ 0 4) (aa 1))) (tgN 0) bX (mOp fB (mC (.int 9)) (aa 0))) am))) (ae (iP 5 pH (ae (aa 0) (ae (aa 2) am))) (ae (iP 7 zY (ae (aa 0) (ae (aa 2) am))) am))))))
def mP:List PV->Res PV:=br 3 xR
def DB:MS:=
 (aw (fD 1) (aw (fN 0 4 (aa 1))
 (gM lz (ae (mUn (aq 0) (aa 1)) (ae (mUn (aq 0) (aa 1)) am)))))
def CT:List PV->Res PV:=iC 2 DB
def pV:MS:=
 (aw (aV 1 (mUn (bJ 0 0) (aa 0)))
 (aw (mBr (aC (mOp pEq (aa 1) (mC (.str "pass"))))
  (bL (iP 9 CM (ae (mUn (bJ 0 1) (aa 0)) (ae (mUn (bJ 0 6) (aa 0)) am))))
  aZ)
 (aw (mBr (aC (mOp pEq (aa 1) (mC (.str "count"))))
  (bL (iP 3 CS (ae (au (p1 cQ) (ae (mUn (bJ 0 3) (aa 0)) am)) am)))
  aZ)
 (aw (aV 2 (iP 8 wV (ae (mUn (bJ 0 1) (aa 0)) (ae (au (p1 cQ) (ae (mUn (bJ 0 2) (aa 0)) am)) am))))
 (aw (fD 2) (aw (aV 3 (eK am))
 (aw (mBr (aC (mOp pEq (mOp dI (mOp az (mUn (bJ 0 4) (aa 0)) (mC (.int 0))) (mC (.int 2))) (mC (.int 1))))
  (aV 3 (au (aU mP) (ae (aa 2) (ae (aa 0) am))))
  aZ)
 (aw (aV 4 (eK (ae (iP 2 CT (ae (aa 2) am)) (ae (iP 5 pH (ae (aa 2) (ae (mUn (bJ 0 5) (aa 0)) am))) am))))
 (aw (fD 4) (aw (fD 3) (aw (aV 4 (mOp aY (mOp aY (aa 4) (eK (ae (iP 6 sI (ae (aa 2) (ae (au (p1 cQ) (ae (mUn (bJ 0 4) (aa 0)) am)) am))) (ae (iP 7 zY (ae (aa 2) (ae (mUn (bJ 0 5) (aa 0)) am))) am)))) (aa 3)))
 (aw (fD 4) (aw (aV 3 (au (aU mP) (ae (aa 2) (ae (aa 0) am))))
 (aw (fD 3) (bL (mOp az (mOp aY (aa 4) (aa 3)) (jk e_ (eK (ae (mC (.str "paint")) (ae (mC (.str "far")) (ae (mC (.str "lead")) (ae (mC (.str "grow")) am))))) (aa 1))))))))))))))))))
def pG:List PV->Res PV:=br 5 pV
def Dv:MS:=
 (bL (a6 [0] 1 (bU (ae (aa 1) am)) (tgN 1) bX (mOp fB (mOp dI (au (aU gH) (ae (aa 0) (ae (mOp aY (mC (.int 4)) (aa 1)) am))) (mOp gK (mC (.int 2)) (mOp t7 (mC (.int 10)) (mC (.int 59))))) (mOp t7 (mC (.int 10)) (mC (.int 59))))))
def CO:List PV->Res PV:=br 2 Dv
def lK:MS:=
 (aw (aV 3 (eK (ae (mOp az (aa 1) (mOp dI (mOp fM (aa 0) (mC (.int 3))) (au (p1 bZ) (ae (aa 1) am)))) am)))
 (aw (mBr ((g8 (eH (aa 2)) (aC (mOp pEq (mOp dI (aa 0) (mC (.int 3))) (mC (.int 0))))))
  (eQ 3)
  aZ)
 (aw (aV 4 (a6 [0,1] 1 (bU (ae (au (p1 bZ) (ae (aa 1) am)) am)) (tgN 2) (aC (mOp pEq (mOp rW (mOp zr (mOp fM (aa 0) (mC (.int 3))) (aa 2)) (mC (.int 1))) (mC (.int 1)))) (mOp az (aa 1) (aa 2))))
 (aw (mBr (aC (mOp pEq (aa 4) (eK am)))
  (eQ 3)
  aZ)
 (eQ 4)))))
def wZ:List PV->Res PV:=br 5 lK
def xI:MS:=
 (aw (aV 4 (mC (.int 0)))
 (aw (mBr (aC (mOp pGt (au (p1 bZ) (ae (aa 3) am)) (mC (.int 4))))
  (aV 4 (mOp az (aa 3) (mOp aY (mC (.int 4)) (mOp dI (aa 0) (mOp fB (au (p1 bZ) (ae (aa 3) am)) (mC (.int 4)))))))
  aZ)
 (bL (au (aU wZ) (ae (aa 4) (ae (aa 1) (ae (aa 2) am)))))))
def pF:List PV->Res PV:=br 5 xI
def xP:MS:=
 (aw (mBr (aC (mOp pNe (au (p1 bZ) (ae (aa 1) am)) (mUn (aq 0) (aa 0))))
  (bw 3 (ae (mC (.str "there are not as many registers as machines")) am))
  aZ)
 (bL (a6 [0] 1 (cb (aa 1)) (tgN 1) bX (mOp dI (aa 1) (mUn (aq 7) (aa 0))))))
def gG:List PV->Res PV:=br 2 xP
def aI:Nat->Option (List PV->Res PV)
 |0|1|2|3|4|5|6|7|9=>some gG
 |_=>none
def F7:MS:=
 (bL (mOp az (aa 1) (aa 2)))
def wU:List PV->Res PV:=br 3 F7
def Hr:MS:=
 (bL (eK am))
def FW:List PV->Res PV:=br 2 Hr
def DG:MS:=
 (bL (a6 [1] 1 (cb (cC bK (mUn (aq 4) (aa 0)) (ae (aa 1) am))) (tgN 1) (aC (mOp pLt (aa 1) (aa 0))) (aa 1)))
def CY:List PV->Res PV:=br 2 DG
def DH:MS:=
 (bL (a6 [1] 2 (zM (mUn (aq 11) (aa 0))) (tgT 2 (dg (tgN 1) (dg (tgN 2) kE))) (aC (mOp pEq (aa 2) (aa 0))) (aa 1)))
def CZ:List PV->Res PV:=br 2 DH
def bG:Nat->Option (List PV->Res PV)
 |1=>some FW
 |2=>some CY
 |3=>some CZ
 |_=>none
def Ds:MS:=
 (aw (aV 3 (a6 [1] 1 (cb (cC bG (aa 0) (ae (aa 2) am))) (tgN 1) bX (mOp az (aa 0) (aa 1))))
 (aw (aV 4 (mC (.int 0)))
 (aw (jQ (aC (mOp pIn (aa 4) (aa 3)))
  (aV 4 (mOp aY (aa 4) (mC (.int 1)))))
 (eQ 4))))
def CL:List PV->Res PV:=br 5 Ds
def Dn:MS:=
 (bL (au (dq min) (ae (mUn (aq 0) (aa 0)) (ae (mOp aY (mC (.int 1)) (au (p1 nG) (ae (a6 [1] 1 (cb (cC bG (aa 0) (ae (aa 2) am))) (tgN 1) bX (mOp az (aa 0) (aa 1))) am))) am))))
def CH:List PV->Res PV:=br 3 Dn
def DJ:MS:=
 (bL ((pd (mOp pNe (aa 1) (mUn (aq 3) (aa 0))) (mOp pNe (mOp dI (mOp aY (aa 1) (mC (.int 1))) (mUn (aq 6) (aa 0))) (mC (.int 0))))))
def uB:List PV->Res PV:=br 2 DJ
def cW:Nat->Option (List PV->Res PV)
 |4|5|6=>some uB
 |_=>none
def Du:MS:=
 (aw (aV 3 (a6 [1] 1 (cb (cC bK (mUn (aq 4) (aa 0)) (ae (aa 2) am))) (tgN 1) bX (mOp az (aa 0) (aa 1))))
 (aw (aV 4 (a6 [0] 1 (cb (aa 3)) (tgN 1) (eH (cC cW (aa 0) (ae (aa 1) am))) (mOp aY (aa 1) (mC (.int 1)))))
 (aw (mBr (aC (mOp iD (mOp az (mUn (aq 5) (aa 0)) (aa 2)) (mC .non)))
  (ee 4 (mOp az (mUn (aq 5) (aa 0)) (aa 2)))
  aZ)
 (bL (au (p1 (eP fv)) (ae (mOp aY (aa 4) (eK (ae (mUn (aq 3) (aa 0)) am))) am))))))
def uz:List PV->Res PV:=br 5 Du
def Dy:MS:=
 (bL (a6 [0] 1 (cb (aa 1)) (tgN 1) bX (nN (ae (mOp fM (aa 1) (mOp aY (mUn (aq 0) (aa 0)) (mC (.int 1)))) (ae (mOp dI (aa 1) (mOp aY (mUn (aq 0) (aa 0)) (mC (.int 1)))) am)))))
def CP:List PV->Res PV:=br 2 Dy
def eD:Nat->Option (List PV->Res PV)
 |7=>some CP
 |_=>none
def Dq:MS:=
 (bL (a6 [] 1 (cb (cC eD (aa 0) (ae (aa 1) am))) (tgN 0) bX (mOp az (aa 0) (mC (.int 0)))))
def CJ:List PV->Res PV:=br 2 Dq
def fj:Nat->Option (List PV->Res PV)
 |7=>some CJ
 |_=>none
def jY:Nat->Option (List PV->Res PV)
 |5=>some uz
 |_=>none
def DE:MS:=
 (bL (a6 [] 1 (cb (cC eD (aa 0) (ae (aa 1) am))) (tgN 0) bX (mOp az (aa 0) (mC (.int 1)))))
def CW:List PV->Res PV:=br 2 DE
def dN:Nat->Option (List PV->Res PV)
 |7=>some CW
 |_=>none
def Dz:MS:=
 (aw (mBr (aC (mOp pEq (aa 2) (mUn (aq 10) (aa 0))))
  (bL (mC .non))
  aZ)
 (aw (aV 3 (a6 [1,2] 1 (cb (cC bK (mUn (aq 4) (aa 0)) (ae (aa 2) am))) (tgN 2) (aC (mOp pEq (mOp az (aa 0) (aa 2)) (mOp fB (mOp az (aa 0) (aa 1)) (mC (.int 1))))) (aa 2)))
 (bL (mUn mz (aa 3)))))
def CQ:List PV->Res PV:=br 4 Dz
def ij:Nat->Option (List PV->Res PV)
 |7=>some CQ
 |_=>none
def DD:MS:=
 (aw (aV 2 (cC fj (aa 0) (ae (aa 1) am)))
 (bL (a6 [0,2] 1 (bU (ae (mUn (aq 0) (aa 0)) am)) (tgN 2) bX (cC ij (aa 0) (ae (aa 1) (ae (aa 2) am))))))
def CV:List PV->Res PV:=br 3 DD
def gw:Nat->Option (List PV->Res PV)
 |7=>some CV
 |_=>none
def DI:MS:=
 (aw (aV 3 (a6 [2] 2 (r_ (ae (cC dN (aa 0) (ae (aa 1) am)) (ae (cC gw (aa 0) (ae (aa 1) am)) am))) (tgT 2 (dg (tgN 1) (dg (tgN 2) kE))) (aC (mOp pEq (aa 2) (aa 0))) (aa 1)))
 (bL (au (dq min) (ae (mUn (aq 0) (aa 0)) (ae (mOp aY (mC (.int 1)) (au (p1 nG) (ae (aa 3) am))) am)))))
def C0:List PV->Res PV:=br 4 DI
def eM:Nat->Option (List PV->Res PV)
 |7=>some C0
 |_=>none
def ya:MS:=
 (aw (aV 3 (cC fj (aa 0) (ae (aa 1) am)))
 (aw (aV 4 (cC jY (mUn (aq 9) (aa 0)) (ae (aa 3) (ae (aa 2) am))))
 (aw (aV 5 (mOp az (cC dN (aa 0) (ae (aa 1) am)) (aa 2)))
 (aw (mBr (aC (mOp pEq (aa 4) (mOp az (aa 3) (aa 2))))
  (aV 5 (cC eM (aa 0) (ae (aa 1) (ae (aa 2) am))))
  aZ)
 (bL (mOp aY (mOp gK (aa 4) (mOp aY (mUn (aq 0) (aa 0)) (mC (.int 1)))) (aa 5)))))))
def w9:List PV->Res PV:=br 6 ya
def x_:MS:=
 (aw (mBr (aC (mOp pNe (aa 2) (mC (.int 0))))
  (bL (mOp az (aa 1) (mOp fB (aa 2) (mC (.int 1)))))
  aZ)
 (aw (mBr (aC (mOp pEq (mOp az (aa 1) (mC (.int 0))) (mOp az (aa 1) (mOp fB (mUn (aq 0) (aa 0)) (mC (.int 1))))))
  (bL (mOp dI (mOp aY (mOp az (aa 1) (mC (.int 0))) (mC (.int 1))) (mUn (aq 7) (aa 0))))
  aZ)
 (bL (mOp az (aa 1) (mC (.int 0))))))
def w8:List PV->Res PV:=br 3 x_
def aK:Nat->Option (List PV->Res PV)
 |0|1=>some wU
 |2=>some CL
 |3=>some CH
 |4|5|6=>some uz
 |7=>some w9
 |9=>some w8
 |_=>none
def xU:MS:=
 (bL (a6 [0,1] 1 (bU (ae (mUn (aq 0) (aa 0)) am)) (tgN 2) (aC (mOp pNe (cC aK (aa 0) (ae (aa 1) (ae (aa 2) am))) (mOp az (aa 1) (aa 2)))) (aa 2)))
def gI:List PV->Res PV:=br 2 xU
def av:Nat->Option (List PV->Res PV)
 |0|1|2|3|4|5|6|7|9=>some gI
 |_=>none
def xY:MS:=
 (aw (mBr ((jo (eH (mUn (aq 8) (aa 0))) (aC (mOp pGt (au (p1 bZ) (ae (aa 1) am)) (mC (.int 1))))))
  (bw 4 (ae (mC (.str "a rule that is alone gets one machine at a turn")) am))
  aZ)
 (aw (c9 (gE (aa 1)) (tgN 2)
  (mBr ((g8 (aC (mOp pLt (aa 2) (mC (.int 0)))) (aC (mOp pGe (aa 2) (mUn (aq 0) (aa 0))))))
  (bw 4 (ae (mC (.str "a name is no machine")) am))
  aZ))
 (mBr (aC (mOp pNe (mUn iw (aa 1)) (au (p1 bZ) (ae (aa 1) am))))
  (bw 4 (ae (mC (.str "a machine is named twice")) am))
  aZ)))
def w6:List PV->Res PV:=br 3 xY
def xX:MS:=
 (aw (g_ (au (aU w6) (ae (aa 0) (ae (aa 2) am))))
 (bL (a6 [2,0,1] 1 (bU (ae (mUn (aq 0) (aa 0)) am)) (tgN 3) bX (wy (aC (mOp pIn (aa 3) (aa 0))) (cC aK (aa 1) (ae (aa 2) (ae (aa 3) am))) (mOp az (aa 2) (aa 3))))))
def gJ:List PV->Res PV:=br 3 xX
def aJ:Nat->Option (List PV->Res PV)
 |0|1|2|3|4|5|6|7|9=>some gJ
 |_=>none
def xF:MS:=
 (aw (aV 3 (cC aJ (aa 0) (ae (aa 1) (ae (aa 2) am))))
 (aw (aV 4 (a6 [2] 1 (cb (cC av (aa 0) (ae (aa 1) am))) (tgN 1) (aC (mOp pIn (aa 1) (aa 0))) (aa 1)))
 (qG 4 3)))
def wS:List PV->Res PV:=br 5 xF
def xE:MS:=
 (aw (aV 4 (cC aI (aa 0) (ae (aa 1) am)))
 (aw (aV 5 (eK am))
 (aw (jQ ((jo (aC (mOp pLt (au (p1 bZ) (ae (aa 5) am)) (aa 3))) (aC (mOp pGt (au (p1 bZ) (ae (cC av (aa 0) (ae (aa 4) am)) am)) (mC (.int 0))))))
  (aw (aV 6 (hR 2 99 pF (ae (au (p1 bZ) (ae (aa 5) am)) (ae (cC av (aa 0) (ae (aa 4) am)) am))))
 (aw (ee 5 (mFz (au (aU wS) (ae (aa 0) (ae (aa 4) (ae (aa 6) am))))))
 (aV 4 (mOp az (mOp az (aa 5) (mUn o3 (mC (.int 1)))) (mC (.int 1)))))))
 (eQ 5))))
def sC:List PV->Res PV:=br 7 xE
def xG:MS:=
 (aw (aV 2 (a6 [0] 1 (bU (ae (mUn (bJ 0 1) (aa 0)) am)) (tgN 1) bX (mUn (bJ 0 1) (aa 0))))
 (aw (eJ 2 (aa 1) (mC (.int 0)))
 (aw (c9 (bU (ae (mUn (bJ 0 1) (aa 0)) am)) (tgN 3)
  (c9 (gE (mUn (bJ 0 2) (aa 0))) (tgN 4)
  (aw (eJ 2 (mOp az (aa 4) (mC (.int 0))) (au (dq min) (ae (mOp az (aa 2) (mOp az (aa 4) (mC (.int 0)))) (ae (mOp aY (mOp az (aa 2) (mOp az (aa 4) (mC (.int 1)))) (mC (.int 1))) am))))
 (eJ 2 (mOp az (aa 4) (mC (.int 1))) (au (dq min) (ae (mOp az (aa 2) (mOp az (aa 4) (mC (.int 1)))) (ae (mOp aY (mOp az (aa 2) (mOp az (aa 4) (mC (.int 0)))) (mC (.int 1))) am)))))))
 (eQ 2))))
def pE:List PV->Res PV:=br 5 xG
def xS:MS:=
 (aw (aV 2 (a6 [1] 1 (cb (mUn (bJ 0 2) (aa 0))) (tgN 1) (aC (mOp pEq (mOp az (aa 1) (mC (.int 0))) (aa 0))) (mOp az (aa 1) (mC (.int 1)))))
 (bL (au (p1 dH) (ae (mOp aY (aa 2) (a6 [1] 1 (cb (mUn (bJ 0 2) (aa 0))) (tgN 1) (aC (mOp pEq (mOp az (aa 1) (mC (.int 1))) (aa 0))) (mOp az (aa 1) (mC (.int 0))))) am))))
def w4:List PV->Res PV:=br 3 xS
def xO:MS:=
 (aw (aV 1 (mUn (bJ 0 1) (aa 0)))
 (aw (aV 2 (au (aU pE) (ae (aa 0) (ae (mUn (bJ 0 5) (aa 0)) am))))
 (aw (aV 3 (a6 [] 1 (bU (ae (aa 1) am)) (tgN 0) bX (mC (.int 1))))
 (aw (c9 (mF (ae (aa 1) (ae (mC (.int 0)) (ae (mUn o3 (mC (.int 1))) am)))) (tgN 4)
  (c9 (bU (ae (aa 1) am)) (tgN 5)
  (mBr (aC (mOp pEq (mOp az (aa 2) (aa 5)) (aa 4)))
  (aw (aV 6 (a6 [2,4] 1 (cb (au (aU w4) (ae (aa 0) (ae (aa 5) am)))) (tgN 2) (aC (mOp pEq (mOp az (aa 0) (aa 2)) (mOp fB (aa 1) (mC (.int 1))))) (aa 2)))
 (eJ 3 (mOp az (aa 6) (mC (.int 0))) (mOp aY (mOp az (aa 3) (mOp az (aa 6) (mC (.int 0)))) (mOp az (aa 3) (aa 5)))))
  aZ)))
 (bL (a6 [2,1,3] 1 (bU (ae (aa 1) am)) (tgN 3) bX (mOp aY (mOp gK (mOp az (aa 0) (aa 3)) (mOp aY (aa 1) (mC (.int 1)))) (mOp az (aa 2) (aa 3)))))))))
def wY:List PV->Res PV:=br 7 xO
def jz:MS:=
 (aw (aV 1 (mUn (bJ 0 1) (aa 0)))
 (aw (mBr (aC (mOp pEq (mUn (bJ 0 0) (aa 0)) (mC (.str "far"))))
  (bL (au (aU pE) (ae (aa 0) (ae (mUn (bJ 0 5) (aa 0)) am))))
  aZ)
 (aw (mBr (aC (mOp pEq (mUn (bJ 0 0) (aa 0)) (mC (.str "lead"))))
  (aw (aV 2 (au (p1 (eP dC)) (ae (mUn (bJ 0 4) (aa 0)) am)))
 (aw (aV 3 (au (aU pE) (ae (aa 0) (ae (jk e_ (mUn (bJ 0 4) (aa 0)) (aa 2)) am))))
 (bL (a6 [2,1,3] 1 (bU (ae (aa 1) am)) (tgN 3) bX (mOp aY (mOp gK (mOp fB (mC (.int 9)) (aa 0)) (aa 1)) (mOp az (aa 2) (aa 3)))))))
  aZ)
 (aw (mBr (aC (mOp pEq (mUn (bJ 0 0) (aa 0)) (mC (.str "grow"))))
  (bL (au (aU wY) (ae (aa 0) am)))
  aZ)
 (aw (aV 4 (a6 [] 1 (bU (ae (aa 1) am)) (tgN 0) bX (mC (.int 1))))
 (aw (c9 (mF (ae (mOp fB (aa 1) (mC (.int 1))) (ae (mC (.int 0)) (ae (mUn o3 (mC (.int 1))) am)))) (tgN 5)
  (aw (aV 6 (mOp az (mUn (bJ 0 3) (aa 0)) (mOp fB (aa 5) (mC (.int 1)))))
 (eJ 4 (aa 6) (mOp aY (mOp az (aa 4) (aa 6)) (mOp az (aa 4) (aa 5))))))
 (eQ 4)))))))
def sD:List PV->Res PV:=br 7 jz
def lJ:MS:=
 (aw (mBr (aC (mOp pEq (mUn (bJ 0 0) (aa 0)) (mC (.str "pass"))))
  (aw (aV 2 (a6 [1] 1 (ji (ae (mC (.int 1)) (ae (mUn (bJ 0 1) (aa 0)) am))) (tgN 1) (aC (mOp pNe (mOp az (aa 0) (aa 1)) (mOp az (aa 0) (mOp fB (aa 1) (mC (.int 1)))))) (aa 1)))
 (bL (mOp pEq (mOp aY (au (p1 bZ) (ae (aa 2) am)) (au (p1 kT) (ae (mOp pEq (mOp az (aa 1) (mC (.int 0))) (mOp az (aa 1) (mUn o3 (mC (.int 1))))) am))) (mC (.int 1)))))
  aZ)
 (aw (mBr (aC (mOp pEq (mUn (bJ 0 0) (aa 0)) (mC (.str "paint"))))
  (bL (au (p1 (vU pY)) (ae (a6 [1] 1 (cb (mUn (bJ 0 2) (aa 0))) (tgN 1) bX (mOp pNe (mOp az (aa 0) (mOp az (aa 1) (mC (.int 0)))) (mOp az (aa 0) (mOp az (aa 1) (mC (.int 1)))))) am)))
  aZ)
 (bL (mOp pEq (aa 1) (au (aU sD) (ae (aa 0) am))))))
def h8:List PV->Res PV:=br 3 lJ
def xN:MS:=
 (bL (mOp pEq (au (p1 bZ) (ae (cC av (aa 0) (ae (aa 1) am)) am)) (mC (.int 0))))
def h_:List PV->Res PV:=br 2 xN
def Dp:MS:=
 (bL (mOp pEq (au (p1 bZ) (ae (cC av (aa 0) (ae (aa 1) am)) am)) (mC (.int 1))))
def zX:List PV->Res PV:=br 2 Dp
def aE:Nat->Option (List PV->Res PV)
 |0|1|2|3|4|5|6|7=>some h_
 |9=>some zX
 |_=>none
def yd:MS:=
 (aw (aV 1 (au (aU wT) (ae (aa 0) am)))
 (aw (aV 2 (au (aU pG) (ae (aa 1) am)))
 (aw (aV 3 (au (aU CO) (ae (aa 0) (ae (mUn (bJ 0 1) (aa 1)) am))))
 (aw (aV 4 (mOp pIn (mUn (bJ 0 0) (aa 1)) (eK (ae (mC (.str "far")) (ae (mC (.str "lead")) (ae (mC (.str "grow")) am))))))
 (aw (pb 5 99 [4,0])
 (aw (aV 6 (au (aU sC) (ae (aa 2) (ae (au (p1 cQ) (ae (aa 3) am)) (ae (aa 5) (ae (mC (.int 60)) am))))))
 (aw (mBr ((g8 (mG (eH (yx (aa 6) "list"))) (aC (mOp pGt (au (p1 bZ) (ae (aa 6) am)) (mC (.int 60))))))
  (bL (mC (.bl false)))
  aZ)
 (aw (aV 7 (cC aI (aa 2) (ae (au (p1 cQ) (ae (aa 3) am)) am)))
 (aw (c9 (bU (ae (mOp aY (au (p1 bZ) (ae (aa 6) am)) (mC (.int 1))) am)) (tgN 8)
  (aw (mBr ((jo (eH (cC aE (aa 2) (ae (au (p1 cQ) (ae (aa 7) am)) am))) (mG (eH (au (aU h8) (ae (aa 1) (ae (aa 7) am)))))))
  (bL (mC (.bl false)))
  aZ)
 (aw (aV 9 (cC av (aa 2) (ae (au (p1 cQ) (ae (aa 7) am)) am)))
 (aw (mBr (aC (mOp pEq (aa 8) (au (p1 bZ) (ae (aa 6) am))))
  (bL ((wx (mOp pEq (au (p1 bZ) (ae (aa 6) am)) (mC (.int 60))) (mOp pEq (aa 9) (eK am)))))
  aZ)
 (aw (mBr ((g8 (aC (mOp pEq (aa 9) (eK am))) (aC (mOp pNe (mOp az (mOp az (aa 6) (aa 8)) (mC (.int 0))) (au (p1 dH) (ae (hR 5 99 pF (ae (aa 8) (ae (aa 9) am))) am))))))
  (bL (mC (.bl false)))
  aZ)
 (aV 7 (mOp az (mOp az (aa 6) (aa 8)) (mC (.int 1)))))))))
 (bL (mC (.bl false))))))))))))
def AM:List PV->Res PV:=br 10 yd
end G
namespace G
open PySem L2 PR
def top(i:Nat):Stmt:=PySem.Challenge.pw_calmring_k50_whole_calm_is_as_it_ought_t.main.body.getD i (.Pass ⟨0,0,0,0⟩)
def tF(q:Str)(i k:Nat)(N:List Str):FS:=⟨q,top i,k,N,none⟩
def tM(c:Nat)(q:Str)(i j k:Nat)(N:List Str):FS:=⟨q,zR (top i) j,k,N,some c⟩
def mE(c:Nat)(n:Str)(i:Nat):Nat×Str×Nat:=(c,n,i)
noncomputable def pt:PT:={
 F:=[tF "_law_cell_at" 50 2 ["_law_script", "_law_k"],
  tF "_law_ways" 51 3 ["_law_size","_law_ties","_law_more","_law_ways_here","_law_at","_law_other"],
  tF "_law_names" 52 2 ["_law_size","_law_cell","_law_pool","_law_names_here","_law_k"],
  tF "_law_told" 53 1 ["_law_script","_law_first","_law_third","_law_kind","_law_size","_law_ways_here","_law_span","_law_parents","_law_names_here","_law_told_here"],
  tM 0 "Rule.__init__" 20 0 4 ["self","size","span","alone"],
  tM 9 "PassRule.__init__" 25 0 3 ["self","size","span"],
  tF "refuse_parents" 35 1 ["parents","kid","parent"],
  tM 1 "DownRule.__init__" 32 0 3 ["self","size","span"],
  tM 3 "CountRule.__init__" 34 0 2 ["self","parents"],
  tF "refuse_size" 16 2 ["size","least"],
  tF "ordered_pairs" 17 2 ["size","ways","pairs","way","pair"],
  tF "neighbours" 18 2 ["pairs","at","lower","higher"],
  tM 8 "Net.beside" 14 1 2 ["self","at"],
  tF "far_from" 15 2 ["net","root","far","steps","at","other"],
  tM 8 "Net.__init__" 14 0 3 ["self","size","ways"],
  tF "refuse_part" 43 1 ["part"],
  tF "refuse_starts" 44 3 ["net","starts","top","start"],
  tM 4 "LeastRule.__init__" 40 0 5 ["self","net","starts","stretch","blocks"],
  tM 5 "FarRule.__init__" 41 0 3 ["self","net","root","starts"],
  tM 7 "GrowRule.__init__" 47 0 3 ["self","net","root"],
  tF "refuse_names" 45 2 ["net","names","name"],
  tM 6 "LeadRule.__init__" 42 0 3 ["self","net","names","starts"],
  tF "_law_others" 54 2 ["_law_net","_law_told_here","_law_other"],
  tM 2 "PaintRule.__init__" 33 0 2 ["self","net"],
  tF "_law_rule" 55 1 ["_law_told_here","_law_kind","_law_net","_law_others_here","_law_rules"],
  tF "_law_registers" 56 2 ["_law_script","_law_size"],
  tF "_law_named" 62 3 ["_law_cell","_law_movers","_law_alone","_law_one","_law_some"],
  tM 0 "Rule.read" 20 1 2 ["self","registers"],
  tM 0 "Rule.due" 20 2 3 ["self","cells","at"],
  tM 1 "DownRule.hangs_on" 32 1 2 ["self","at"],
  tM 2 "PaintRule.hangs_on" 33 1 2 ["self","at"],
  tM 3 "CountRule.hangs_on" 34 1 2 ["self","at"],
  tM 2 "PaintRule.due" 33 3 3 ["self","cells","at","taken","colour"],
  tM 3 "CountRule.due" 34 3 3 ["self","cells","at"],
  tM 4 "LeastRule.has_offer" 40 2 2 ["self","cell"],
  tM 4 "LeastRule.due" 40 1 3 ["self","cells","at","near","offers"],
  tM 7 "GrowRule.parts" 47 1 2 ["self","cells"],
  tM 7 "GrowRule.fars" 47 6 2 ["self","cells"],
  tM 7 "GrowRule.counts" 47 7 2 ["self","cells"],
  tM 7 "GrowRule.elder" 47 8 3 ["self","fars","at","nearer"],
  tM 7 "GrowRule.elders" 47 2 2 ["self","cells","fars"],
  tM 7 "GrowRule.due_count" 47 9 3 ["self","cells","at","kids"],
  tM 7 "GrowRule.due" 47 3 3 ["self","cells","at","fars","due_far","count"],
  tM 9 "PassRule.due" 25 1 3 ["self","cells","at"],
  tM 0 "Rule.movers" 20 3 2 ["self","cells"],
  tF "refuse_turn" 21 2 ["rule","named","at"],
  tM 0 "Rule.turned" 20 5 3 ["self","cells","named"],
  tF "row_of" 3 3 ["rule","cells","named","behind","done"],
  tF "drive" 2 4 ["rule","registers","hand","most","cells","rows","named"],
  tF "_law_far" 58 2 ["_law_told_here","_law_root","_law_far_here","_law_turn","_law_way"],
  tF "_law_beside" 57 2 ["_law_told_here","_law_at","_law_row"],
  tF "_law_grown" 59 1 ["_law_told_here","_law_size","_law_far_here","_law_counts","_law_depth","_law_at","_law_elders"],
  tF "_law_rest" 60 1 ["_law_told_here","_law_size","_law_best","_law_far_here","_law_counts","_law_at","_law_elder"],
  tF "_law_right" 61 2 ["_law_told_here","_law_cells","_law_free"],
  tM 0 "Rule.calm" 20 4 2 ["self","cells"],
  tM 9 "PassRule.calm" 25 2 2 ["self","cells"],
  tF "law" 63 1 ["_law_script","_law_told_here","_law_rule_here","_law_registers_here","_law_alone","_law_hand","_law_rows","_law_cells","_law_k","_law_movers"]]
 C:=["Rule","DownRule","PaintRule","CountRule","LeastRule","FarRule","LeadRule","GrowRule","Net","PassRule"]
 X:=["CalmError","BadNet","BadRule","BadState","BadTurn","NoMeasure"]
 A:=["size","pairs","near","top","net","starts","stretch","span","alone","far_rule","root","parents"]
 M:=[mE 8 "beside" 12,mE 0 "read" 27,mE 1 "read" 27,mE 2 "read" 27,mE 3 "read" 27,mE 4 "read" 27,mE 5 "read" 27,mE 6 "read" 27,mE 7 "read" 27,mE 9 "read" 27,mE 1 "hangs_on" 29,mE 2 "hangs_on" 30,mE 3 "hangs_on" 31,mE 4 "has_offer" 34,mE 5 "has_offer" 34,mE 6 "has_offer" 34,mE 7 "parts" 36,mE 7 "fars" 37,mE 5 "due" 35,mE 7 "counts" 38,mE 7 "elder" 39,mE 7 "elders" 40,mE 7 "due_count" 41,mE 0 "due" 28,mE 1 "due" 28,mE 2 "due" 32,mE 3 "due" 33,mE 4 "due" 35,mE 6 "due" 35,mE 7 "due" 42,mE 9 "due" 43,mE 0 "movers" 44,mE 1 "movers" 44,mE 2 "movers" 44,mE 3 "movers" 44,mE 4 "movers" 44,mE 5 "movers" 44,mE 6 "movers" 44,mE 7 "movers" 44,mE 9 "movers" 44,mE 0 "turned" 46,mE 1 "turned" 46,mE 2 "turned" 46,mE 3 "turned" 46,mE 4 "turned" 46,mE 5 "turned" 46,mE 6 "turned" 46,mE 7 "turned" 46,mE 9 "turned" 46,mE 0 "calm" 54,mE 1 "calm" 54,mE 2 "calm" 54,mE 3 "calm" 54,mE 4 "calm" 54,mE 5 "calm" 54,mE 6 "calm" 54,mE 7 "calm" 54,mE 9 "calm" 55]
 Mk:=[(3,8),(5,18),(7,19),(6,21),(8,14),(2,23),(9,5)]
 U:=[(1,7),(4,17),(0,4)]
 B:=["len","range","list","enumerate","tuple","max","min","sorted","set","sum","zip","isinstance","int","all"]
 I:=[("LEAST_RING",2),("GREATEST_RING",20),("MOST_PARENTS",9),("GREATEST_NET",10),("LEAST_NET",1),("GREATEST_PART",10),("GREATEST_NAME",9),("LEAD_BLOCKS",10)]
 KT:=[]
 HT:=[]
 D:=[["kind","size","ways","parents","names","root","span"]]
 G:=some ⟨56,4,"law.<locals>._law_hand",2,["_law_alone","_law_script"],["_law_count","_law_movers","_law_alone","_law_script","_law_cell"]⟩}
def hA:pt.attOk:=⟨by decide +kernel,by decide +kernel⟩
abbrev T(K:PySem.W.Frag):Tb:=pt.T hA K
section
variable{P:Program}{w:World}{K:PySem.W.Frag}{mg:Str->Option Value}{base:Heap}(t:Tx pt K mg)(hB:K.In base)(tg:TG pt K mg base)
include t hB tg
theorem kW:OkF pt hA P w K mg base 1 0 gH:=okC 0 t fun _ _ _ _ _ _ cx nd=>
 (ah (bg (fI (sv 1) (bN cx.hK rfl (t.b 0) (sv 0))) (ao (aO (a5 cx (sv 0) (sv 1) (fun _ _=>rfl)))) aQ)
 (ao (aO (ak))))
theorem B2:OkF pt hA P w K mg base 1 1 wW:=okC 1 t fun _ _ _ _ _ _ cx nd=>
 (ah (bE nd (gR ag))
 (ah (cH cx.po cx.calm (tj rfl (t.b 1) (ac (ak) (ac (sv 0) ag))) (sgN nd) (ah (vv cx (vp (ac (cI (sv 1) (sv 4)) (ac (sv 4) ag))))
 (ao (bE nd (f7 (sv 1) (sv 4))))))
 (ah (cH cx.po cx.calm (dy rfl (t.b 1) (ac (sv 0) ag)) (sgN nd) (ao (cH cx.po cx.calm (dy rfl (t.b 1) (ac (sv 4) ag)) (sgN nd) (ah (bg (SW.st (kF (bS cx.hK cx.hu (cI (sv 2) (ak)) (ak)) (iZ (u6 cx.hK cx.hu2 (vp (ac (sv 5) (ac (sv 4) ag))) (sv 3))))) (ao (vv cx (vp (ac (sv 4) (ac (sv 5) ag))))) aQ)
 (ao (bE nd (f7 (sv 2) (ak))))))))
 (ao (d_ rfl (Or.inl rfl))))))
theorem B4:OkF pt hA P w K mg base 1 2 wX:=okC 2 t fun _ _ _ _ _ _ cx nd=>
 (ah (bE nd (tw cx.calm rfl (t.b 2) et rfl (t.b 1) (ac (ak) ag)))
 (ah (bE nd (gR ag))
 (ah (cH cx.po cx.calm (dy rfl (t.b 1) (ac (sv 0) ag)) (sgN nd) (ah (s_ cx.hK rfl (Or.inl rfl) rfl (Or.inl rfl) (cI (sv 1) (bN cx.hK rfl (t.b 0) (sv 2))))
 (ao (bE nd (f7 (sv 1) (cV (ak) (sv 4)))))))
 (ao (d_ rfl (Or.inl rfl))))))
theorem BY:OkF pt hA P w K mg base 2 3 wT:=okC 3 t fun _ _ _ _ _ _ cx nd=>
 (ah (bE nd (bT t (kW t hB tg) cx (ac (sv 0) (ac (ak) ag))))
 (ah (bE nd (bT t (kW t hB tg) cx (ac (sv 0) (ac (ak) ag))))
 (ah (bE nd (a5 cx (gR (ac (aX) (ac (aX) (ac (aX) (ac (aX) (ac (aX) (ac (aX) ag))))))) (cI (sv 1) (ak)) (fun _ _=>rfl)))
 (ah (bE nd (a9 (ak) (cI (f7 (sv 1) (ak)) (ak))))
 (ah (bg (bS cx.hK cx.hu (sv 3) (aX)) (ao (bE nd (a9 (sv 4) (ak)))) aQ)
 (ah (bE nd (bT t (B2 t hB tg) cx (ac (sv 4) (ac (bT t (kW t hB tg) cx (ac (sv 0) (ac (ak) ag))) (ac (bT t (kW t hB tg) cx (ac (sv 0) (ac (ak) ag))) ag)))))
 (ah (bE nd (a9 (sv 4) (cI (f7 (sv 2) (ak)) (ak))))
 (ah (bg (bS cx.hK cx.hu (cI (sv 2) (ak)) (ak)) (ao (bE nd (a9 (sv 4) (cI (f7 (sv 2) (ak)) (qk (ak) (ak)))))) aQ)
 (ah (dU ["_law_way"] cx nd (bM cx.hK (vg cx.hK (sv 5) yG (yF (cV (sv 4) (ak))))) cE (fun _ _ _ _ nd=>⟨(sgN nd),bA,(a5 cx.comp (sv 0) (ak) (fun _ _=>rfl))⟩))
 (ah (bE nd (bT t (B4 t hB tg) cx (ac (sv 4) (ac (sv 2) ag))))
 (dh (i:=5) (dh (i:=7) (dh (i:=8) (yC (k:=0) (x:=9) (ks:=["kind","size","ways","parents","names"]) (ms:=[(aa 3),(aa 4),(aa 5),(aa 7),(aa 8)]) nd rfl (Or.inl rfl) (Or.inl rfl) (by decide) cx.hu rfl (fun _ _ _ o a b=>⟨o,a,b⟩) (by decide +kernel) rfl (by decide) (gU gb (sv 3) (gU gb (sv 4) (gU gb (sv 5) (gU gb (sv 7) (gU gb (sv 8) zc))))) (cI (sv 2) (sv 4)) (sv 6)))))))))))))))
theorem nJ:OkI pt hA P w K mg base 1 4 fT:=okI 4 t fun _ _ _ _ _ _ cx nd=>
 (ah (sFld 0 t cx (sv 1))
 (ah (sFld 7 t cx (sv 2))
 (ao (sFld 8 t cx (sv 3)))))
theorem E6:OkI pt hA P w K mg base 3 5 CM:=okI 5 t fun _ _ _ _ _ _ cx nd=>
 (ah (bg (SW.st (gC (fI (sv 1) (dE rfl (t.c 0))) (eG (i6 (sv 1) (dE rfl (t.c 1)))))) (ao (ck 2 t cx hB cj (ac (aX) ag))) aQ)
 (ah (bg (fI (sv 2) (sv 1)) (ao (ck 2 t cx hB cj (ac (aX) ag))) aQ)
 (ao (oN 0 t (nJ t hB tg) cx (ac (sv 1) (ac (sv 2) (ac (j3) ag)))))))
theorem Fb:OkF pt hA P w K mg base 1 6 CU:=okC 6 t fun _ _ _ _ _ _ cx nd=>
 (ah (bg (i6 (bN cx.hK rfl (t.b 0) (sv 0)) (dE rfl (t.c 2))) (ao (ck 2 t cx hB cj (ac (aX) ag))) aQ)
 (ao (cH cx.po cx.calm (yK cx.hK rfl (t.b 3) (sv 0)) (qi cx.hK cx.calm (fJ nd rfl (Or.inl rfl) (fJ nd rfl (Or.inl rfl) nq))) (ao (bg (SW.st (gC (fI (sv 2) (ak)) (eG (oF (sv 2) (sv 1))))) (ao (ck 2 t cx hB cj (ac (aX) ag))) aQ)))))
theorem v9:OkI pt hA P w K mg base 3 7 lz:=okI 7 t fun _ _ _ _ _ _ cx nd=>
 (ao (oN 0 t (nJ t hB tg) cx (ac (sv 1) (ac (sv 2) (ac (j3) ag)))))
theorem E_:OkI pt hA P w K mg base 5 8 CS:=okI 8 t fun _ _ _ _ _ _ cx nd=>
 (ah (fZ (bT t (Fb t hB tg) cx (ac (sv 1) ag)))
 (ah (sFld 11 t cx (gQ cx.hK rfl (t.b 4) il (sv 1)))
 (ao (oN 1 t (v9 t hB tg) cx (ac (a9 (bN cx.hK rfl (t.b 0) (sv 1)) (ak)) (ac (a9 (bN cx.hK rfl (t.b 0) (sv 1)) (ak)) ag))))))
theorem B_:OkF pt hA P w K mg base 1 9 w5:=okC 9 t fun _ _ _ _ _ _ cx nd=>
 (ao (bg (SW.st (gC (fI (sv 0) (sv 1)) (eG (i6 (sv 0) (dE rfl (t.c 3)))))) (ao (ck 1 t cx hB cj (ac (aX) ag))) aQ))
theorem E4:OkF pt hA P w K mg base 1 10 CK:=okC 10 t fun _ _ _ _ _ _ cx nd=>
 (ah (bE nd (gR ag))
 (ah (cH cx.po cx.calm (jG cx.hK (sv 1)) (sgN nd) (ah (bE nd (vp (ac (rH cx.hK cx.calm rfl (t.b 6) (sv 3)) (ac (ny cx.hK cx.calm rfl (t.b 5) (sv 3)) ag))))
 (ah (bg (SW.st (gC (fI (a5 cx (sv 4) (ak) (fun _ _=>rfl)) (ak)) (eG (oF (a5 cx (sv 4) (ak) (fun _ _=>rfl)) (sv 0))))) (ao (ck 1 t cx hB cj (ac (aX) ag))) aQ)
 (ah (bg (bS cx.hK cx.hu (a5 cx (sv 4) (ak) (fun _ _=>rfl)) (a5 cx (sv 4) (ak) (fun _ _=>rfl))) (ao (ck 1 t cx hB cj (ac (aX) ag))) aQ)
 (ah (bg (rE cx.hK cx.hu2 (sv 4) (sv 2)) (ao (ck 1 t cx hB cj (ac (aX) ag))) aQ)
 (ao (vv cx (sv 4))))))))
 (ao (aO (iq cx.hK rfl (t.b 7) (sv 2))))))
theorem B7:OkF pt hA P w K mg base 1 11 sF:=okC 11 t fun _ _ _ _ _ _ cx nd=>
 (ah (dU ["pair"] cx nd (bM cx.hK (sv 0)) cE (fun _ _ _ _ nd=>⟨(sgN nd),(cL (bS cx.comp.hK cx.comp.hu (a5 cx.comp (sv 1) (ak) (fun _ _=>rfl)) (sv 0))),(a5 cx.comp (sv 1) (ak) (fun _ _=>rfl))⟩))
 (ah (dU ["pair"] cx nd (bM cx.hK (sv 0)) cE (fun _ _ _ _ nd=>⟨(sgN nd),(cL (bS cx.comp.hK cx.comp.hu (a5 cx.comp (sv 1) (ak) (fun _ _=>rfl)) (sv 0))),(a5 cx.comp (sv 1) (ak) (fun _ _=>rfl))⟩))
 (ao (aO (iq cx.hK rfl (t.b 7) (a9 (sv 2) (sv 3)))))))
theorem B8:OkF pt hA P w K mg base 1 12 sG:=okC 12 t fun _ _ _ _ _ _ cx nd=>
 (ao (aO (fw cx.hK rfl (t.b 2) et (a5 cx (bh 2 t cx (sv 0)) (sv 1) (fun _ _=>rfl)))))
omit t hB tg in
theorem db{X:Cx}(t:Tx pt X.K X.mg)(hB:X.K.In X.base)(tg:TG pt X.K X.mg X.base):gB X (T X.K) 1 "beside" ["self","at"] [] bK:=fun c _ hc e=>match c,hc,e with
 |8,_,e=>dm 0 t (B8 t hB tg) e
 |0,_,e|1,_,e|2,_,e|3,_,e|4,_,e|5,_,e|6,_,e|7,_,e|9,_,e=>nomatch e
 |_+10,h,_=>dno (n:=10) h
theorem B0:OkF pt hA P w K mg base 2 13 sE:=okC 13 t fun _ _ _ _ _ _ cx nd=>
 (ah (dU ["at"] cx nd (bD rfl (t.b 1) (ac (bh 0 t cx (sv 0)) ag)) cE (fun _ _ _ _ nd=>⟨(sgN nd),bA,(bh 0 t cx.comp (sv 0))⟩))
 (ah (eU rfl (Or.inl rfl) (sv 1) (ak))
 (ah (cH cx.po cx.calm (dy rfl (t.b 1) (ac (bh 0 t cx (sv 0)) ag)) (sgN nd) (ao (cH cx.po cx.calm (dy rfl (t.b 1) (ac (bh 0 t cx (sv 0)) ag)) (sgN nd) (ao (bg (bS cx.hK cx.hu (a5 cx (sv 2) (sv 4) (fun _ _=>rfl)) (sv 3)) (ao (cH cx.po cx.calm (jG cx.hK (dF t (db t hB tg) cx (sv 0) (ac (sv 4) ag))) (sgN nd) (ao (eU rfl (Or.inl rfl) (sv 5) (i_ cx.calm rfl (t.b 6) (ac (a5 cx (sv 2) (sv 5) (fun _ _=>rfl)) (ac (a9 (sv 3) (ak)) ag))))))) aQ)))))
 (ao (d_ rfl (Or.inl rfl))))))
theorem BZ:OkI pt hA P w K mg base 3 14 wV:=okI 14 t fun _ _ _ _ _ _ cx nd=>
 (ah (fZ (bT t (B_ t hB tg) cx (ac (sv 1) (ac (dE rfl (t.c 4)) ag))))
 (ah (sFld 0 t cx (sv 1))
 (ah (sFld 1 t cx (gQ cx.hK rfl (t.b 4) il (bT t (E4 t hB tg) cx (ac (sv 1) (ac (sv 2) ag)))))
 (ah (sFld 2 t cx (gQ cx.hK rfl (t.b 4) il (dW ["at"] cx (bD rfl (t.b 1) (ac (sv 1) ag)) cE (fun _ _ _ _ nd=>⟨(sgN nd),bA,(gQ cx.comp.hK rfl (t.b 4) il (bT t (B7 t hB tg) cx.comp (ac (bh 1 t cx.comp (sv 0)) (ac (sv 1) ag))))⟩))))
 (ao (bg (bS cx.hK cx.hu (ny cx.hK cx.calm rfl (t.b 5) (bT t (B0 t hB tg) cx (ac (sv 0) (ac (ak) ag)))) (sv 1)) (ao (ck 1 t cx hB cj (ac (aX) ag))) aQ))))))
theorem v5:OkF pt hA P w K mg base 1 15 sH:=okC 15 t fun _ _ _ _ _ _ cx nd=>
 (ao (bg (SW.st (gC (fI (sv 0) (ak)) (eG (i6 (sv 0) (dE rfl (t.c 5)))))) (ao (ck 2 t cx hB cj (ac (aX) ag))) aQ))
theorem E0:OkF pt hA P w K mg base 1 16 CI:=okC 16 t fun _ _ _ _ _ _ cx nd=>
 (ah (bg (i5 cx.hK cx.hu (bN cx.hK rfl (t.b 0) (sv 1)) (bh 0 t cx (sv 0))) (ao (ck 2 t cx hB cj (ac (aX) ag))) aQ)
 (ao (cH cx.po cx.calm (jG cx.hK (sv 1)) (sgN nd) (ao (bg (SW.st (kF (rD (sv 3) (nu)) (iZ (SW.st (gC (fI (sv 3) (ak)) (eG (oF (sv 3) (sv 2)))))))) (ao (ck 2 t cx hB cj (ac (aX) ag))) aQ)))))
theorem AG:OkI pt hA P w K mg base 3 17 uA:=okI 17 t fun _ _ _ _ _ _ cx nd=>
 (ah (fZ (bT t (v5 t hB tg) cx (ac (sv 3) ag)))
 (ah (fZ (bT t (v5 t hB tg) cx (ac (sv 4) ag)))
 (ah (sFld 3 t cx (iJ (sv 3) (sv 4)))
 (ah (fZ (bT t (E0 t hB tg) cx (ac (sv 1) (ac (sv 2) (ac (bh 3 t cx (sv 0)) ag)))))
 (dh (i:=1) (ah (sFld 4 t cx (sv 1))
 (ah (sFld 5 t cx (gQ cx.hK rfl (t.b 4) il (sv 2)))
 (ah (sFld 6 t cx (sv 3))
 (ao (oN 0 t (nJ t hB tg) cx (ac (bh 0 t cx (sv 1)) (ac (a9 (bh 3 t cx (sv 0)) (ak)) (ac (j3) ag)))))))))))))
theorem qy:OkI pt hA P w K mg base 5 18 pH:=okI 18 t fun _ _ _ _ _ _ cx nd=>
 (ah (bg (SW.st (gC (fI (sv 2) (ak)) (eG (oF (sv 2) (bh 0 t cx (sv 1)))))) (ao (ck 2 t cx hB cj (ac (aX) ag))) aQ)
 (ah (dU ["at"] cx nd (bD rfl (t.b 1) (ac (bh 0 t cx (sv 1)) ag)) cE (fun _ _ _ _ nd=>⟨(sgN nd),bA,(oM (bS cx.comp.hK cx.comp.hu (sv 1) (sv 0)) (ak) (nu))⟩))
 (dh (i:=3) (dh (i:=1) (ao (oN 4 t (AG t hB tg) cx (ac (sv 1) (ac (sv 3) (ac (bh 0 t cx (sv 1)) (ac (ak) ag))))))))))
theorem AF:OkI pt hA P w K mg base 7 19 zY:=okI 19 t fun _ _ _ _ _ _ cx nd=>
 (dh (i:=1) (ah (sFld 9 t cx (kM 5 t (qy t hB tg) cx (ac (sv 1) (ac (sv 2) ag))))
 (ah (sFld 4 t cx (sv 1))
 (ah (sFld 10 t cx (sv 2))
 (ao (oN 0 t (nJ t hB tg) cx (ac (bh 0 t cx (sv 1)) (ac (iJ (a9 (bh 0 t cx (sv 1)) (ak)) (a9 (bh 0 t cx (sv 1)) (ak))) (ac (j3) ag)))))))))
theorem Ce:OkF pt hA P w K mg base 1 20 w_:=okC 20 t fun _ _ _ _ _ _ cx nd=>
 (ah (bg (i5 cx.hK cx.hu (bN cx.hK rfl (t.b 0) (sv 1)) (bh 0 t cx (sv 0))) (ao (ck 2 t cx hB cj (ac (aX) ag))) aQ)
 (ah (bg (i5 cx.hK cx.hu (mq cx.hK cx.calm rfl (t.b 0) rfl (t.b 8) (sv 1)) (bN cx.hK rfl (t.b 0) (sv 1))) (ao (ck 2 t cx hB cj (ac (aX) ag))) aQ)
 (ao (cH cx.po cx.calm (jG cx.hK (sv 1)) (sgN nd) (ao (bg (SW.st (gC (fI (sv 2) (ak)) (eG (i6 (sv 2) (dE rfl (t.c 6)))))) (ao (ck 2 t cx hB cj (ac (aX) ag))) aQ))))))
theorem v8:OkI pt hA P w K mg base 5 21 sI:=okI 21 t fun _ _ _ _ _ _ cx nd=>
 (dh (i:=1) (ah (fZ (bT t (Ce t hB tg) cx (ac (sv 1) (ac (sv 2) ag))))
 (ah (dU ["name"] cx nd (bM cx.hK (sv 2)) cE (fun _ _ _ _ nd=>⟨(sgN nd),bA,(iJ (cV (dE rfl (t.c 6)) (sv 1)) (bh 0 t cx.comp (sv 0)))⟩))
 (dh (i:=3) (ao (oN 4 t (AG t hB tg) cx (ac (sv 1) (ac (sv 3) (ac (bh 0 t cx (sv 1)) (ac (dE rfl (t.c 7)) ag))))))))))
theorem v4:OkF pt hA P w K mg base 9 22 mP:=okC 22 t fun _ _ _ _ _ _ cx nd=>
 (ah (bE nd (cV (cV (bf 0 1 cx.hu rfl (fun _ _ _ h=>h) (sv 1)) (ak)) (bf 0 5 cx.hu rfl (fun _ _ _ h=>h) (sv 1))))
 (ao (aO (gR (ac (kM 6 t (v8 t hB tg) cx (ac (sv 0) (ac (dW ["_law_name"] cx (bM cx.hK (bf 0 4 cx.hu rfl (fun _ _ _ h=>h) (sv 1))) cE (fun _ _ _ _ nd=>⟨(sgN nd),bA,(cV (ak) (sv 0))⟩)) ag))) (ac (kM 5 t (qy t hB tg) cx (ac (sv 0) (ac (sv 2) ag))) (ac (kM 7 t (AF t hB tg) cx (ac (sv 0) (ac (sv 2) ag))) ag)))))))
theorem Fa:OkI pt hA P w K mg base 5 23 CT:=okI 23 t fun _ _ _ _ _ _ cx nd=>
 (dh (i:=1) (ah (sFld 4 t cx (sv 1))
 (ao (oN 1 t (v9 t hB tg) cx (ac (bh 0 t cx (sv 1)) (ac (bh 0 t cx (sv 1)) ag))))))
theorem B1:OkF pt hA P w K mg base 10 24 pG:=okC 24 t fun _ _ _ _ _ _ cx nd=>
 (ah (bE nd (bf 0 0 cx.hu rfl (fun _ _ _ h=>h) (sv 0)))
 (ah (bg (bS cx.hK cx.hu (sv 1) (aX)) (ao (aO (kM 9 t (E6 t hB tg) cx (ac (bf 0 1 cx.hu rfl (fun _ _ _ h=>h) (sv 0)) (ac (bf 0 6 cx.hu rfl (fun _ _ _ h=>h) (sv 0)) ag))))) aQ)
 (ah (bg (bS cx.hK cx.hu (sv 1) (aX)) (ao (aO (kM 3 t (E_ t hB tg) cx (ac (fw cx.hK rfl (t.b 2) et (bf 0 3 cx.hu rfl (fun _ _ _ h=>h) (sv 0))) ag)))) aQ)
 (ah (bE nd (kM 8 t (BZ t hB tg) cx (ac (bf 0 1 cx.hu rfl (fun _ _ _ h=>h) (sv 0)) (ac (fw cx.hK rfl (t.b 2) et (bf 0 2 cx.hu rfl (fun _ _ _ h=>h) (sv 0))) ag))))
 (dh (i:=2) (ah (bE nd (gR ag))
 (ah (bg (bS cx.hK cx.hu (cI (a5 cx (bf 0 4 cx.hu rfl (fun _ _ _ h=>h) (sv 0)) (ak) (fun _ _=>rfl)) (ak)) (ak)) (ao (bE nd (bT t (v4 t hB tg) cx (ac (sv 2) (ac (sv 0) ag))))) aQ)
 (ah (bE nd (gR (ac (kM 2 t (Fa t hB tg) cx (ac (sv 2) ag)) (ac (kM 5 t (qy t hB tg) cx (ac (sv 2) (ac (bf 0 5 cx.hu rfl (fun _ _ _ h=>h) (sv 0)) ag))) ag))))
 (dh (i:=4) (dh (i:=3) (ah (bE nd (a9 (a9 (sv 4) (gR (ac (kM 6 t (v8 t hB tg) cx (ac (sv 2) (ac (fw cx.hK rfl (t.b 2) et (bf 0 4 cx.hu rfl (fun _ _ _ h=>h) (sv 0))) ag))) (ac (kM 7 t (AF t hB tg) cx (ac (sv 2) (ac (bf 0 5 cx.hu rfl (fun _ _ _ h=>h) (sv 0)) ag))) ag)))) (sv 3)))
 (dh (i:=4) (ah (bE nd (bT t (v4 t hB tg) cx (ac (sv 2) (ac (sv 0) ag))))
 (dh (i:=3) (ao (aO (a5 cx (a9 (sv 4) (sv 3)) (oK cx cx.hu2 (gR (ac (aX) (ac (aX) (ac (aX) (ac (aX) ag))))) (sv 1)) (fun _ _=>rfl))))))))))))))))))
theorem E7:OkF pt hA P w K mg base 2 25 CO:=okC 25 t fun _ _ _ _ _ _ cx nd=>
 (ao (aO (dW ["_law_at"] cx (bD rfl (t.b 1) (ac (sv 1) ag)) cE (fun _ _ _ _ nd=>⟨(sgN nd),bA,(cV (cI (bT t (kW t hB tg) cx.comp (ac (sv 0) (ac (a9 (ak) (sv 1)) ag))) (iJ (ak) (qk (ak) (ak)))) (qk (ak) (ak)))⟩))))
theorem B6:OkF pt hA P w K mg base 1 26 wZ:=okC 26 t fun _ _ _ _ _ _ cx nd=>
 (ah (bE nd (gR (ac (a5 cx (sv 1) (cI (f7 (sv 0) (ak)) (bN cx.hK rfl (t.b 0) (sv 1))) (fun _ _=>rfl)) ag)))
 (ah (bg (SW.st (gC (fH cx.hK (sv 2)) (eG (bS cx.hK cx.hu (cI (sv 0) (ak)) (ak))))) (ao (d_ rfl (Or.inl rfl))) aQ)
 (ah (dU ["_law_k"] cx nd (bD rfl (t.b 1) (ac (bN cx.hK rfl (t.b 0) (sv 1)) ag)) cE (fun _ _ _ _ nd=>⟨(sgN nd),(cL (bS cx.comp.hK cx.comp.hu (yU (A8 (f7 (sv 0) (ak)) (sv 2)) (ak)) (ak))),(a5 cx.comp (sv 1) (sv 2) (fun _ _=>rfl))⟩))
 (ah (bg (bS cx.hK cx.hu (sv 4) (gR ag)) (ao (d_ rfl (Or.inl rfl))) aQ)
 (ao (d_ rfl (Or.inl rfl)))))))
omit t hB tg in
theorem sR:Ge pt:=fun _ _ _ _ _ us hl=>match us,hl with|[_,_],_=>rfl
theorem vY:OkN pt hA P w K mg base 2 pF:=okN (by decide +kernel) fun _ _ _ _ _ _ _ _ cx nd=>
 (ah (bE nd (ak))
 (ah (bg (i6 (bN cx.hK rfl (t.b 0) (sv 3)) (ak)) (ao (bE nd (a5 cx (sv 3) (a9 (ak) (cI (sv 0) (cV (bN cx.hK rfl (t.b 0) (sv 3)) (ak)))) (fun _ _=>rfl)))) aQ)
 (ao (aO (bT t (B6 t hB tg) cx (ac (sv 4) (ac (sv 1) (ac (sv 2) ag))))))))
theorem ge:OkF pt hA P w K mg base 1 27 gG:=okC 27 t fun _ _ _ _ _ _ cx nd=>
 (ah (bg (i5 cx.hK cx.hu (bN cx.hK rfl (t.b 0) (sv 1)) (bh 0 t cx (sv 0))) (ao (ck 3 t cx hB cj (ac (aX) ag))) aQ)
 (ao (aO (dW ["number"] cx (bM cx.hK (sv 1)) cE (fun _ _ _ _ nd=>⟨(sgN nd),bA,(cI (sv 1) (bh 7 t cx.comp (sv 0)))⟩)))))
omit t hB tg in
theorem cu{X:Cx}(t:Tx pt X.K X.mg)(hB:X.K.In X.base)(tg:TG pt X.K X.mg X.base):gB X (T X.K) 1 "read" ["self","registers"] [] aI:=fun c _ hc e=>match c,hc,e with
 |0,_,e=>dm 1 t (ge t hB tg) e
 |1,_,e=>dm 2 t (ge t hB tg) e
 |2,_,e=>dm 3 t (ge t hB tg) e
 |3,_,e=>dm 4 t (ge t hB tg) e
 |4,_,e=>dm 5 t (ge t hB tg) e
 |5,_,e=>dm 6 t (ge t hB tg) e
 |6,_,e=>dm 7 t (ge t hB tg) e
 |7,_,e=>dm 8 t (ge t hB tg) e
 |9,_,e=>dm 9 t (ge t hB tg) e
 |8,_,e=>nomatch e
 |_+10,h,_=>dno (n:=10) h
theorem vZ:OkF pt hA P w K mg base 1 28 wU:=okC 28 t fun _ _ _ _ _ _ cx nd=>
 (ao (aO (a5 cx (sv 1) (sv 2) (fun _ _=>rfl))))
theorem Fg:OkF pt hA P w K mg base 1 29 FW:=okC 29 t fun _ _ _ _ _ _ cx nd=>
 (ao (aO (gR ag)))
theorem Fh:OkF pt hA P w K mg base 2 30 CY:=okC 30 t fun _ _ _ _ _ _ cx nd=>
 (ao (aO (dW ["other"] cx (bM cx.hK (dF t (db t hB tg) cx (bh 4 t cx (sv 0)) (ac (sv 1) ag))) cE (fun _ _ _ _ nd=>⟨(sgN nd),(cL (fI (sv 1) (sv 0))),(sv 1)⟩))))
theorem Fj:OkF pt hA P w K mg base 1 31 CZ:=okC 31 t fun _ _ _ _ _ _ cx nd=>
 (ao (aO (dW ["kid","parent"] cx (vd cx.hK rfl (t.b 3) (bh 11 t cx (sv 0))) (rp (io cE (io cE oB))) (fun _ _ _ _ nd=>⟨(qi cx.comp.hK cx.comp.calm (fJ nd rfl (Or.inl rfl) (fJ nd rfl (Or.inl rfl) nq))),(cL (bS cx.comp.hK cx.comp.hu (sv 2) (sv 0))),(sv 1)⟩))))
omit t hB tg in
theorem dX{X:Cx}(t:Tx pt X.K X.mg)(hB:X.K.In X.base)(tg:TG pt X.K X.mg X.base):gB X (T X.K) 2 "hangs_on" ["self","at"] [] bG:=fun c _ hc e=>match c,hc,e with
 |1,_,e=>dm 10 t (Fg t hB tg) e
 |2,_,e=>dm 11 t (Fh t hB tg) e
 |3,_,e=>dm 12 t (Fj t hB tg) e
 |0,_,e|4,_,e|5,_,e|6,_,e|7,_,e|8,_,e|9,_,e=>nomatch e
 |_+10,h,_=>dno (n:=10) h
theorem E5:OkF pt hA P w K mg base 3 32 CL:=okC 32 t fun _ _ _ _ _ _ cx nd=>
 (ah (dU ["other"] cx nd (bM cx.hK (dF t (dX t hB tg) cx (sv 0) (ac (sv 2) ag))) cE (fun _ _ _ _ nd=>⟨(sgN nd),bA,(a5 cx.comp (sv 0) (sv 1) (fun _ _=>rfl))⟩))
 (ah (bE nd (ak))
 (ah (oG cx.po (rE cx.hK cx.hu2 (sv 4) (sv 3)) (ao (bE nd (a9 (sv 4) (ak)))))
 (ao (d_ rfl (Or.inl rfl))))))
theorem EZ:OkF pt hA P w K mg base 3 33 CH:=okC 33 t fun _ _ _ _ _ _ cx nd=>
 (ao (aO (i_ cx.calm rfl (t.b 6) (ac (bh 0 t cx (sv 0)) (ac (a9 (ak) (vf cx.hK cx.calm rfl (t.b 9) (dW ["kid"] cx (bM cx.hK (dF t (dX t hB tg) cx (sv 0) (ac (sv 2) ag))) cE (fun _ _ _ _ nd=>⟨(sgN nd),bA,(a5 cx.comp (sv 0) (sv 1) (fun _ _=>rfl))⟩)))) ag)))))
theorem v_:OkF pt hA P w K mg base 1 34 uB:=okC 34 t fun _ _ _ _ _ _ cx nd=>
 (ao (aO ((Bd (vi cx.hK cx.hu (sv 1) (bh 3 t cx (sv 0))) (vh (vi cx.hK cx.hu (cI (a9 (sv 1) (ak)) (bh 6 t cx (sv 0))) (ak)))))))
omit t hB tg in
theorem gn{X:Cx}(t:Tx pt X.K X.mg)(hB:X.K.In X.base)(tg:TG pt X.K X.mg X.base):gB X (T X.K) 1 "has_offer" ["self","cell"] [] cW:=fun c _ hc e=>match c,hc,e with
 |4,_,e=>dm 13 t (v_ t hB tg) e
 |5,_,e=>dm 14 t (v_ t hB tg) e
 |6,_,e=>dm 15 t (v_ t hB tg) e
 |0,_,e|1,_,e|2,_,e|3,_,e|7,_,e|8,_,e|9,_,e=>nomatch e
 |_+10,h,_=>dno (n:=10) h
theorem rX:OkF pt hA P w K mg base 2 35 uz:=okC 35 t fun _ _ _ _ _ _ cx nd=>
 (ah (dU ["other"] cx nd (bM cx.hK (dF t (db t hB tg) cx (bh 4 t cx (sv 0)) (ac (sv 2) ag))) cE (fun _ _ _ _ nd=>⟨(sgN nd),bA,(a5 cx.comp (sv 0) (sv 1) (fun _ _=>rfl))⟩))
 (ah (dU ["cell"] cx nd (bM cx.hK (sv 3)) cE (fun _ _ _ _ nd=>⟨(sgN nd),(cL (fH cx.comp.hK (dF t (gn t hB tg) cx.comp (sv 0) (ac (sv 1) ag)))),(a9 (sv 1) (ak))⟩))
 (ah (bg (rD (a5 cx (bh 5 t cx (sv 0)) (sv 2) (fun _ _=>rfl)) (nu)) (ao (vv cx (a5 cx (bh 5 t cx (sv 0)) (sv 2) (fun _ _=>rfl)))) aQ)
 (ao (aO (rH cx.hK cx.calm rfl (t.b 6) (a9 (sv 4) (gR (ac (bh 3 t cx (sv 0)) ag)))))))))
theorem E8:OkF pt hA P w K mg base 1 36 CP:=okC 36 t fun _ _ _ _ _ _ cx nd=>
 (ao (aO (dW ["cell"] cx (bM cx.hK (sv 1)) cE (fun _ _ _ _ nd=>⟨(sgN nd),bA,(vp (ac (f7 (sv 1) (a9 (bh 0 t cx.comp (sv 0)) (ak))) (ac (cI (sv 1) (a9 (bh 0 t cx.comp (sv 0)) (ak))) ag)))⟩))))
omit t hB tg in
theorem gY{X:Cx}(t:Tx pt X.K X.mg)(hB:X.K.In X.base)(tg:TG pt X.K X.mg X.base):gB X (T X.K) 1 "parts" ["self","cells"] [] eD:=fun c _ hc e=>match c,hc,e with
 |7,_,e=>dm 16 t (E8 t hB tg) e
 |0,_,e|1,_,e|2,_,e|3,_,e|4,_,e|5,_,e|6,_,e|8,_,e|9,_,e=>nomatch e
 |_+10,h,_=>dno (n:=10) h
theorem E2:OkF pt hA P w K mg base 2 37 CJ:=okC 37 t fun _ _ _ _ _ _ cx nd=>
 (ao (aO (dW ["part"] cx (bM cx.hK (dF t (gY t hB tg) cx (sv 0) (ac (sv 1) ag))) cE (fun _ _ _ _ nd=>⟨(sgN nd),bA,(a5 cx.comp (sv 0) (ak) (fun _ _=>rfl))⟩))))
omit t hB tg in
theorem iE{X:Cx}(t:Tx pt X.K X.mg)(hB:X.K.In X.base)(tg:TG pt X.K X.mg X.base):gB X (T X.K) 2 "fars" ["self","cells"] [] fj:=fun c _ hc e=>match c,hc,e with
 |7,_,e=>dm 17 t (E2 t hB tg) e
 |0,_,e|1,_,e|2,_,e|3,_,e|4,_,e|5,_,e|6,_,e|8,_,e|9,_,e=>nomatch e
 |_+10,h,_=>dno (n:=10) h
omit t hB tg in
theorem nK{X:Cx}(t:Tx pt X.K X.mg)(hB:X.K.In X.base)(tg:TG pt X.K X.mg X.base):gB X (T X.K) 2 "due" ["self","cells","at"] [] jY:=fun c _ hc e=>match c,hc,e with
 |5,_,e=>dm 18 t (rX t hB tg) e
 |0,_,e|1,_,e|2,_,e|3,_,e|4,_,e|6,_,e|7,_,e|8,_,e|9,_,e=>nomatch e
 |_+10,h,_=>dno (n:=10) h
theorem Ff:OkF pt hA P w K mg base 2 38 CW:=okC 38 t fun _ _ _ _ _ _ cx nd=>
 (ao (aO (dW ["part"] cx (bM cx.hK (dF t (gY t hB tg) cx (sv 0) (ac (sv 1) ag))) cE (fun _ _ _ _ nd=>⟨(sgN nd),bA,(a5 cx.comp (sv 0) (ak) (fun _ _=>rfl))⟩))))
omit t hB tg in
theorem gD{X:Cx}(t:Tx pt X.K X.mg)(hB:X.K.In X.base)(tg:TG pt X.K X.mg X.base):gB X (T X.K) 2 "counts" ["self","cells"] [] dN:=fun c _ hc e=>match c,hc,e with
 |7,_,e=>dm 19 t (Ff t hB tg) e
 |0,_,e|1,_,e|2,_,e|3,_,e|4,_,e|5,_,e|6,_,e|8,_,e|9,_,e=>nomatch e
 |_+10,h,_=>dno (n:=10) h
theorem E9:OkF pt hA P w K mg base 2 39 CQ:=okC 39 t fun _ _ _ _ _ _ cx nd=>
 (ah (bg (bS cx.hK cx.hu (sv 2) (bh 10 t cx (sv 0))) (ao (aO (nu))) aQ)
 (ah (dU ["other"] cx nd (bM cx.hK (dF t (db t hB tg) cx (bh 4 t cx (sv 0)) (ac (sv 2) ag))) cE (fun _ _ _ _ nd=>⟨(sgN nd),(cL (bS cx.comp.hK cx.comp.hu (a5 cx.comp (sv 0) (sv 2) (fun _ _=>rfl)) (cV (a5 cx.comp (sv 0) (sv 1) (fun _ _=>rfl)) (ak)))),(sv 2)⟩))
 (ao (aO (yO cx.hK cx.calm rfl (t.b 6) (sv 3))))))
omit t hB tg in
theorem kX{X:Cx}(t:Tx pt X.K X.mg)(hB:X.K.In X.base)(tg:TG pt X.K X.mg X.base):gB X (T X.K) 2 "elder" ["self","fars","at"] [] ij:=fun c _ hc e=>match c,hc,e with
 |7,_,e=>dm 20 t (E9 t hB tg) e
 |0,_,e|1,_,e|2,_,e|3,_,e|4,_,e|5,_,e|6,_,e|8,_,e|9,_,e=>nomatch e
 |_+10,h,_=>dno (n:=10) h
theorem Fd:OkF pt hA P w K mg base 3 40 CV:=okC 40 t fun _ _ _ _ _ _ cx nd=>
 (ah (bE nd (dF t (iE t hB tg) cx (sv 0) (ac (sv 1) ag)))
 (ao (aO (dW ["at"] cx (bD rfl (t.b 1) (ac (bh 0 t cx (sv 0)) ag)) cE (fun _ _ _ _ nd=>⟨(sgN nd),bA,(dF t (kX t hB tg) cx.comp (sv 0) (ac (sv 1) (ac (sv 2) ag)))⟩)))))
omit t hB tg in
theorem kf{X:Cx}(t:Tx pt X.K X.mg)(hB:X.K.In X.base)(tg:TG pt X.K X.mg X.base):gB X (T X.K) 3 "elders" ["self","cells"] [] gw:=fun c _ hc e=>match c,hc,e with
 |7,_,e=>dm 21 t (Fd t hB tg) e
 |0,_,e|1,_,e|2,_,e|3,_,e|4,_,e|5,_,e|6,_,e|8,_,e|9,_,e=>nomatch e
 |_+10,h,_=>dno (n:=10) h
theorem Fk:OkF pt hA P w K mg base 4 41 C0:=okC 41 t fun _ _ _ _ _ _ cx nd=>
 (ah (dU ["count", "elder"] cx nd (yJ cx.hK rfl (t.b 10) (ac (dF t (gD t hB tg) cx (sv 0) (ac (sv 1) ag)) (ac (dF t (kf t hB tg) cx (sv 0) (ac (sv 1) ag)) ag))) (rp (io cE (io cE oB))) (fun _ _ _ _ nd=>⟨(qi cx.comp.hK cx.comp.calm (fJ nd rfl (Or.inl rfl) (fJ nd rfl (Or.inl rfl) nq))),(cL (bS cx.comp.hK cx.comp.hu (sv 2) (sv 0))),(sv 1)⟩))
 (ao (aO (i_ cx.calm rfl (t.b 6) (ac (bh 0 t cx (sv 0)) (ac (a9 (ak) (vf cx.hK cx.calm rfl (t.b 9) (sv 3))) ag))))))
omit t hB tg in
theorem iN{X:Cx}(t:Tx pt X.K X.mg)(hB:X.K.In X.base)(tg:TG pt X.K X.mg X.base):gB X (T X.K) 4 "due_count" ["self","cells","at"] [] eM:=fun c _ hc e=>match c,hc,e with
 |7,_,e=>dm 22 t (Fk t hB tg) e
 |0,_,e|1,_,e|2,_,e|3,_,e|4,_,e|5,_,e|6,_,e|8,_,e|9,_,e=>nomatch e
 |_+10,h,_=>dno (n:=10) h
theorem Cd:OkF pt hA P w K mg base 5 42 w9:=okC 42 t fun _ _ _ _ _ _ cx nd=>
 (ah (bE nd (dF t (iE t hB tg) cx (sv 0) (ac (sv 1) ag)))
 (ah (bE nd (dF t (nK t hB tg) cx (bh 9 t cx (sv 0)) (ac (sv 3) (ac (sv 2) ag))))
 (ah (bE nd (a5 cx (dF t (gD t hB tg) cx (sv 0) (ac (sv 1) ag)) (sv 2) (fun _ _=>rfl)))
 (ah (bg (bS cx.hK cx.hu (sv 4) (a5 cx (sv 3) (sv 2) (fun _ _=>rfl))) (ao (bE nd (dF t (iN t hB tg) cx (sv 0) (ac (sv 1) (ac (sv 2) ag))))) aQ)
 (ao (aO (a9 (iJ (sv 4) (a9 (bh 0 t cx (sv 0)) (ak))) (sv 5))))))))
theorem Cc:OkF pt hA P w K mg base 1 43 w8:=okC 43 t fun _ _ _ _ _ _ cx nd=>
 (ah (bg (i5 cx.hK cx.hu (sv 2) (ak)) (ao (aO (a5 cx (sv 1) (cV (sv 2) (ak)) (fun _ _=>rfl)))) aQ)
 (ah (bg (bS cx.hK cx.hu (a5 cx (sv 1) (ak) (fun _ _=>rfl)) (a5 cx (sv 1) (cV (bh 0 t cx (sv 0)) (ak)) (fun _ _=>rfl))) (ao (aO (cI (a9 (a5 cx (sv 1) (ak) (fun _ _=>rfl)) (ak)) (bh 7 t cx (sv 0))))) aQ)
 (ao (aO (a5 cx (sv 1) (ak) (fun _ _=>rfl))))))
omit t hB tg in
theorem cG{X:Cx}(t:Tx pt X.K X.mg)(hB:X.K.In X.base)(tg:TG pt X.K X.mg X.base):gB X (T X.K) 5 "due" ["self","cells","at"] [] aK:=fun c _ hc e=>match c,hc,e with
 |0,_,e=>dm 23 t (vZ t hB tg) e
 |1,_,e=>dm 24 t (vZ t hB tg) e
 |2,_,e=>dm 25 t (E5 t hB tg) e
 |3,_,e=>dm 26 t (EZ t hB tg) e
 |4,_,e=>dm 27 t (rX t hB tg) e
 |5,_,e=>dm 18 t (rX t hB tg) e
 |6,_,e=>dm 28 t (rX t hB tg) e
 |7,_,e=>dm 29 t (Cd t hB tg) e
 |9,_,e=>dm 30 t (Cc t hB tg) e
 |8,_,e=>nomatch e
 |_+10,h,_=>dno (n:=10) h
theorem gh:OkF pt hA P w K mg base 6 44 gI:=okC 44 t fun _ _ _ _ _ _ cx nd=>
 (ao (aO (dW ["at"] cx (bD rfl (t.b 1) (ac (bh 0 t cx (sv 0)) ag)) cE (fun _ _ _ _ nd=>⟨(sgN nd),(cL (i5 cx.comp.hK cx.comp.hu (dF t (cG t hB tg) cx.comp (sv 0) (ac (sv 1) (ac (sv 2) ag))) (a5 cx.comp (sv 1) (sv 2) (fun _ _=>rfl)))),(sv 2)⟩))))
omit t hB tg in
theorem aM{X:Cx}(t:Tx pt X.K X.mg)(hB:X.K.In X.base)(tg:TG pt X.K X.mg X.base):gB X (T X.K) 6 "movers" ["self","cells"] [] av:=fun c _ hc e=>match c,hc,e with
 |0,_,e=>dm 31 t (gh t hB tg) e
 |1,_,e=>dm 32 t (gh t hB tg) e
 |2,_,e=>dm 33 t (gh t hB tg) e
 |3,_,e=>dm 34 t (gh t hB tg) e
 |4,_,e=>dm 35 t (gh t hB tg) e
 |5,_,e=>dm 36 t (gh t hB tg) e
 |6,_,e=>dm 37 t (gh t hB tg) e
 |7,_,e=>dm 38 t (gh t hB tg) e
 |9,_,e=>dm 39 t (gh t hB tg) e
 |8,_,e=>nomatch e
 |_+10,h,_=>dno (n:=10) h
theorem Cb:OkF pt hA P w K mg base 1 45 w6:=okC 45 t fun _ _ _ _ _ _ cx nd=>
 (ah (bg (SW.st (kF (fH cx.hK (bh 8 t cx (sv 0))) (iZ (i6 (bN cx.hK rfl (t.b 0) (sv 1)) (ak))))) (ao (ck 4 t cx hB cj (ac (aX) ag))) aQ)
 (ah (cH cx.po cx.calm (jG cx.hK (sv 1)) (sgN nd) (ao (bg (SW.st (gC (fI (sv 2) (ak)) (eG (oF (sv 2) (bh 0 t cx (sv 0)))))) (ao (ck 4 t cx hB cj (ac (aX) ag))) aQ)))
 (ao (bg (i5 cx.hK cx.hu (mq cx.hK cx.calm rfl (t.b 0) rfl (t.b 8) (sv 1)) (bN cx.hK rfl (t.b 0) (sv 1))) (ao (ck 4 t cx hB cj (ac (aX) ag))) aQ))))
theorem gj:OkF pt hA P w K mg base 6 46 gJ:=okC 46 t fun _ _ _ _ _ _ cx nd=>
 (ah (fZ (bT t (Cb t hB tg) cx (ac (sv 0) (ac (sv 2) ag))))
 (ao (aO (dW ["at"] cx (bD rfl (t.b 1) (ac (bh 0 t cx (sv 0)) ag)) cE (fun _ _ _ _ nd=>⟨(sgN nd),bA,(oM (rE cx.comp.hK cx.comp.hu2 (sv 3) (sv 0)) (dF t (cG t hB tg) cx.comp (sv 1) (ac (sv 2) (ac (sv 3) ag))) (a5 cx.comp (sv 2) (sv 3) (fun _ _=>rfl)))⟩)))))
omit t hB tg in
theorem dQ{X:Cx}(t:Tx pt X.K X.mg)(hB:X.K.In X.base)(tg:TG pt X.K X.mg X.base):gB X (T X.K) 6 "turned" ["self","cells","named"] [] aJ:=fun c _ hc e=>match c,hc,e with
 |0,_,e=>dm 40 t (gj t hB tg) e
 |1,_,e=>dm 41 t (gj t hB tg) e
 |2,_,e=>dm 42 t (gj t hB tg) e
 |3,_,e=>dm 43 t (gj t hB tg) e
 |4,_,e=>dm 44 t (gj t hB tg) e
 |5,_,e=>dm 45 t (gj t hB tg) e
 |6,_,e=>dm 46 t (gj t hB tg) e
 |7,_,e=>dm 47 t (gj t hB tg) e
 |9,_,e=>dm 48 t (gj t hB tg) e
 |8,_,e=>nomatch e
 |_+10,h,_=>dno (n:=10) h
theorem BW:OkF pt hA P w K mg base 7 47 wS:=okC 47 t fun _ _ _ _ _ _ cx nd=>
 (ah (bE nd (dF t (dQ t hB tg) cx (sv 0) (ac (sv 1) (ac (sv 2) ag))))
 (ah (dU ["at"] cx nd (bM cx.hK (dF t (aM t hB tg) cx (sv 0) (ac (sv 1) ag))) cE (fun _ _ _ _ nd=>⟨(sgN nd),(cL (rE cx.comp.hK cx.comp.hu2 (sv 1) (sv 0))),(sv 1)⟩))
 (ao (u9 rfl (Or.inl rfl) rfl (Or.inl rfl)))))
theorem BV:OkF pt hA P w K mg base 8 48 sC:=okC 48 t fun _ _ _ _ _ _ cx nd=>
 (ah (bE nd (dF t (cu t hB tg) cx (sv 0) (ac (sv 1) ag)))
 (ah (bE nd (gR ag))
 (ah (oG cx.po (SW.st (kF (fI (bN cx.hK rfl (t.b 0) (sv 5)) (sv 3)) (iZ (i6 (bN cx.hK rfl (t.b 0) (dF t (aM t hB tg) cx (sv 0) (ac (sv 4) ag))) (ak))))) (ah (bE nd (vt (vY t hB tg) sR cx (ac (bN cx.hK rfl (t.b 0) (sv 5)) (ac (dF t (aM t hB tg) cx (sv 0) (ac (sv 4) ag)) ag))))
 (ah (vv cx (EB (bT t (BW t hB tg) cx (ac (sv 0) (ac (sv 4) (ac (sv 6) ag))))))
 (ao (bE nd (a5 cx (a5 cx (sv 5) (nv (ak)) (fun _ _=>rfl)) (ak) (fun _ _=>rfl)))))))
 (ao (d_ rfl (Or.inl rfl))))))
theorem qx:OkF pt hA P w K mg base 1 49 pE:=okC 49 t fun _ _ _ _ _ _ cx nd=>
 (ah (dU ["_law_at"] cx nd (bD rfl (t.b 1) (ac (bf 0 1 cx.hu rfl (fun _ _ _ h=>h) (sv 0)) ag)) cE (fun _ _ _ _ nd=>⟨(sgN nd),bA,(bf 0 1 cx.comp.hu rfl (fun _ _ _ h=>h) (sv 0))⟩))
 (ah (eU rfl (Or.inl rfl) (sv 1) (ak))
 (ah (cH cx.po cx.calm (dy rfl (t.b 1) (ac (bf 0 1 cx.hu rfl (fun _ _ _ h=>h) (sv 0)) ag)) (sgN nd) (ao (cH cx.po cx.calm (jG cx.hK (bf 0 2 cx.hu rfl (fun _ _ _ h=>h) (sv 0))) (sgN nd) (ah (eU rfl (Or.inl rfl) (a5 cx (sv 4) (ak) (fun _ _=>rfl)) (i_ cx.calm rfl (t.b 6) (ac (a5 cx (sv 2) (a5 cx (sv 4) (ak) (fun _ _=>rfl)) (fun _ _=>rfl)) (ac (a9 (a5 cx (sv 2) (a5 cx (sv 4) (ak) (fun _ _=>rfl)) (fun _ _=>rfl)) (ak)) ag))))
 (ao (eU rfl (Or.inl rfl) (a5 cx (sv 4) (ak) (fun _ _=>rfl)) (i_ cx.calm rfl (t.b 6) (ac (a5 cx (sv 2) (a5 cx (sv 4) (ak) (fun _ _=>rfl)) (fun _ _=>rfl)) (ac (a9 (a5 cx (sv 2) (a5 cx (sv 4) (ak) (fun _ _=>rfl)) (fun _ _=>rfl)) (ak)) ag)))))))))
 (ao (d_ rfl (Or.inl rfl))))))
theorem B9:OkF pt hA P w K mg base 1 50 w4:=okC 50 t fun _ _ _ _ _ _ cx nd=>
 (ah (dU ["_law_way"] cx nd (bM cx.hK (bf 0 2 cx.hu rfl (fun _ _ _ h=>h) (sv 0))) cE (fun _ _ _ _ nd=>⟨(sgN nd),(cL (bS cx.comp.hK cx.comp.hu (a5 cx.comp (sv 1) (ak) (fun _ _=>rfl)) (sv 0))),(a5 cx.comp (sv 1) (ak) (fun _ _=>rfl))⟩))
 (ao (aO (iq cx.hK rfl (t.b 7) (a9 (sv 2) (dW ["_law_way"] cx (bM cx.hK (bf 0 2 cx.hu rfl (fun _ _ _ h=>h) (sv 0))) cE (fun _ _ _ _ nd=>⟨(sgN nd),(cL (bS cx.comp.hK cx.comp.hu (a5 cx.comp (sv 1) (ak) (fun _ _=>rfl)) (sv 0))),(a5 cx.comp (sv 1) (ak) (fun _ _=>rfl))⟩)))))))
theorem B5:OkF pt hA P w K mg base 2 51 wY:=okC 51 t fun _ _ _ _ _ _ cx nd=>
 (ah (bE nd (bf 0 1 cx.hu rfl (fun _ _ _ h=>h) (sv 0)))
 (ah (bE nd (bT t (qx t hB tg) cx (ac (sv 0) (ac (bf 0 5 cx.hu rfl (fun _ _ _ h=>h) (sv 0)) ag))))
 (ah (bE nd (dW ["_law_at"] cx (bD rfl (t.b 1) (ac (sv 1) ag)) cE (fun _ _ _ _ nd=>⟨(sgN nd),bA,(ak)⟩)))
 (ah (cH cx.po cx.calm (md rfl (t.b 1) (ac (sv 1) (ac (ak) (ac (nv (ak)) ag)))) (sgN nd) (ao (cH cx.po cx.calm (dy rfl (t.b 1) (ac (sv 1) ag)) (sgN nd) (ao (bg (bS cx.hK cx.hu (a5 cx (sv 2) (sv 5) (fun _ _=>rfl)) (sv 4)) (ah (dU ["_law_other"] cx nd (bM cx.hK (bT t (B9 t hB tg) cx (ac (sv 0) (ac (sv 5) ag)))) cE (fun _ _ _ _ nd=>⟨(sgN nd),(cL (bS cx.comp.hK cx.comp.hu (a5 cx.comp (sv 0) (sv 2) (fun _ _=>rfl)) (cV (sv 1) (ak)))),(sv 2)⟩))
 (ao (eU rfl (Or.inr (Or.inl rfl)) (a5 cx (sv 6) (ak) (fun _ _=>rfl)) (a9 (a5 cx (sv 3) (a5 cx (sv 6) (ak) (fun _ _=>rfl)) (fun _ _=>rfl)) (a5 cx (sv 3) (sv 5) (fun _ _=>rfl)))))) aQ)))))
 (ao (aO (dW ["_law_at"] cx (bD rfl (t.b 1) (ac (sv 1) ag)) cE (fun _ _ _ _ nd=>⟨(sgN nd),bA,(a9 (iJ (a5 cx.comp (sv 0) (sv 3) (fun _ _=>rfl)) (a9 (sv 1) (ak))) (a5 cx.comp (sv 2) (sv 3) (fun _ _=>rfl)))⟩))))))))
theorem BX:OkF pt hA P w K mg base 3 52 sD:=okC 52 t fun _ _ _ _ _ _ cx nd=>
 (ah (bE nd (bf 0 1 cx.hu rfl (fun _ _ _ h=>h) (sv 0)))
 (ah (bg (bS cx.hK cx.hu (bf 0 0 cx.hu rfl (fun _ _ _ h=>h) (sv 0)) (aX)) (ao (aO (bT t (qx t hB tg) cx (ac (sv 0) (ac (bf 0 5 cx.hu rfl (fun _ _ _ h=>h) (sv 0)) ag))))) aQ)
 (ah (bg (bS cx.hK cx.hu (bf 0 0 cx.hu rfl (fun _ _ _ h=>h) (sv 0)) (aX)) (ah (bE nd (ny cx.hK cx.calm rfl (t.b 5) (bf 0 4 cx.hu rfl (fun _ _ _ h=>h) (sv 0))))
 (ah (bE nd (bT t (qx t hB tg) cx (ac (sv 0) (ac (oK cx cx.hu2 (bf 0 4 cx.hu rfl (fun _ _ _ h=>h) (sv 0)) (sv 2)) ag))))
 (ao (aO (dW ["_law_at"] cx (bD rfl (t.b 1) (ac (sv 1) ag)) cE (fun _ _ _ _ nd=>⟨(sgN nd),bA,(a9 (iJ (cV (ak) (sv 0)) (sv 1)) (a5 cx.comp (sv 2) (sv 3) (fun _ _=>rfl)))⟩)))))) aQ)
 (ah (bg (bS cx.hK cx.hu (bf 0 0 cx.hu rfl (fun _ _ _ h=>h) (sv 0)) (aX)) (ao (aO (bT t (B5 t hB tg) cx (ac (sv 0) ag)))) aQ)
 (ah (dU ["_law_at"] cx nd (bD rfl (t.b 1) (ac (sv 1) ag)) cE (fun _ _ _ _ nd=>⟨(sgN nd),bA,(ak)⟩))
 (ah (cH cx.po cx.calm (md rfl (t.b 1) (ac (cV (sv 1) (ak)) (ac (ak) (ac (nv (ak)) ag)))) (sgN nd) (ah (bE nd (a5 cx (bf 0 3 cx.hu rfl (fun _ _ _ h=>h) (sv 0)) (cV (sv 5) (ak)) (fun _ _=>rfl)))
 (ao (eU rfl (Or.inl rfl) (sv 6) (a9 (a5 cx (sv 4) (sv 6) (fun _ _=>rfl)) (a5 cx (sv 4) (sv 5) (fun _ _=>rfl)))))))
 (ao (d_ rfl (Or.inl rfl)))))))))
theorem B3:OkF pt hA P w K mg base 4 53 h8:=okC 53 t fun _ _ _ _ _ _ cx nd=>
 (ah (bg (bS cx.hK cx.hu (bf 0 0 cx.hu rfl (fun _ _ _ h=>h) (sv 0)) (aX)) (ah (dU ["_law_at"] cx nd (qg rfl (t.b 1) (ac (ak) (ac (bf 0 1 cx.hu rfl (fun _ _ _ h=>h) (sv 0)) ag))) cE (fun _ _ _ _ nd=>⟨(sgN nd),(cL (i5 cx.comp.hK cx.comp.hu (a5 cx.comp (sv 0) (sv 1) (fun _ _=>rfl)) (a5 cx.comp (sv 0) (cV (sv 1) (ak)) (fun _ _=>rfl)))),(sv 1)⟩))
 (ao (aO (kK cx.hK cx.hu (a9 (bN cx.hK rfl (t.b 0) (sv 2)) (vj rfl (t.b 12) (kK cx.hK cx.hu (a5 cx (sv 1) (ak) (fun _ _=>rfl)) (a5 cx (sv 1) (nv (ak)) (fun _ _=>rfl))))) (ak))))) aQ)
 (ah (bg (bS cx.hK cx.hu (bf 0 0 cx.hu rfl (fun _ _ _ h=>h) (sv 0)) (aX)) (ao (aO (Be cx.hK cx.calm rfl (t.b 13) (dW ["_law_way"] cx (bM cx.hK (bf 0 2 cx.hu rfl (fun _ _ _ h=>h) (sv 0))) cE (fun _ _ _ _ nd=>⟨(sgN nd),bA,(vi cx.comp.hK cx.comp.hu (a5 cx.comp (sv 0) (a5 cx.comp (sv 1) (ak) (fun _ _=>rfl)) (fun _ _=>rfl)) (a5 cx.comp (sv 0) (a5 cx.comp (sv 1) (ak) (fun _ _=>rfl)) (fun _ _=>rfl)))⟩))))) aQ)
 (ao (aO (kK cx.hK cx.hu (sv 1) (bT t (BX t hB tg) cx (ac (sv 0) ag)))))))
theorem gX:OkF pt hA P w K mg base 7 54 h_:=okC 54 t fun _ _ _ _ _ _ cx nd=>
 (ao (aO (kK cx.hK cx.hu (bN cx.hK rfl (t.b 0) (dF t (aM t hB tg) cx (sv 0) (ac (sv 1) ag))) (ak))))
theorem E1:OkF pt hA P w K mg base 7 55 zX:=okC 55 t fun _ _ _ _ _ _ cx nd=>
 (ao (aO (kK cx.hK cx.hu (bN cx.hK rfl (t.b 0) (dF t (aM t hB tg) cx (sv 0) (ac (sv 1) ag))) (ak))))
omit t hB tg in
theorem eB{X:Cx}(t:Tx pt X.K X.mg)(hB:X.K.In X.base)(tg:TG pt X.K X.mg X.base):gB X (T X.K) 7 "calm" ["self","cells"] [] aE:=fun c _ hc e=>match c,hc,e with
 |0,_,e=>dm 49 t (gX t hB tg) e
 |1,_,e=>dm 50 t (gX t hB tg) e
 |2,_,e=>dm 51 t (gX t hB tg) e
 |3,_,e=>dm 52 t (gX t hB tg) e
 |4,_,e=>dm 53 t (gX t hB tg) e
 |5,_,e=>dm 54 t (gX t hB tg) e
 |6,_,e=>dm 55 t (gX t hB tg) e
 |7,_,e=>dm 56 t (gX t hB tg) e
 |9,_,e=>dm 57 t (E1 t hB tg) e
 |8,_,e=>nomatch e
 |_+10,h,_=>dno (n:=10) h
theorem Cf:OkF pt hA P w K mg base 11 56 AM:=G7 56 t fun _ _ _ _ _ cx cl nd=>
 (kr (fun _=>rfl) (bE nd (bT t (BY t hB tg) cx (ac (sv 0) ag)))
 (kr (fun _=>rfl) (bE nd (bT t (B1 t hB tg) cx (ac (sv 1) ag)))
 (kr (fun _=>rfl) (bE nd (bT t (E7 t hB tg) cx (ac (sv 0) (ac (bf 0 1 cx.hu rfl (fun _ _ _ h=>h) (sv 1)) ag))))
 (kr (fun _=>rfl) (bE nd (EA cx.hK cx.hu2 (bf 0 0 cx.hu rfl (fun _ _ _ h=>h) (sv 1)) (gR (ac (aX) (ac (aX) (ac (aX) ag))))))
 (Cw (fun _=>rfl) (ah (EC 5 [4,0] tg nd)
 (ah (bE nd (bT t (BV t hB tg) cl (ac (sv 2) (ac (fw cl.hK rfl (t.b 2) et (sv 3)) (ac (sv 5) (ac (ak) ag))))))
 (ah (bg (SW.st (gC (u7 (fH cl.hK (Bb cl.hK wB rfl (t.b 11) lY rfl (t.b 2) et (sv 6)))) (eG (i6 (bN cl.hK rfl (t.b 0) (sv 6)) (ak))))) (ao (aO (j3))) aQ)
 (ah (bE nd (dF t (cu t hB tg) cl (sv 2) (ac (fw cl.hK rfl (t.b 2) et (sv 3)) ag)))
 (ah (cH cl.po cl.calm (dy rfl (t.b 1) (ac (a9 (bN cl.hK rfl (t.b 0) (sv 6)) (ak)) ag)) (sgN nd) (ah (bg (SW.st (kF (fH cl.hK (dF t (eB t hB tg) cl (sv 2) (ac (fw cl.hK rfl (t.b 2) et (sv 7)) ag))) (iZ (u7 (fH cl.hK (bT t (B3 t hB tg) cl (ac (sv 1) (ac (sv 7) ag)))))))) (ao (aO (j3))) aQ)
 (ah (bE nd (dF t (aM t hB tg) cl (sv 2) (ac (fw cl.hK rfl (t.b 2) et (sv 7)) ag)))
 (ah (bg (bS cl.hK cl.hu (sv 8) (bN cl.hK rfl (t.b 0) (sv 6))) (ao (aO ((Ey (kK cl.hK cl.hu (bN cl.hK rfl (t.b 0) (sv 6)) (ak)) (vh (kK cl.hK cl.hu (sv 9) (gR ag))))))) aQ)
 (ah (bg (SW.st (gC (bS cl.hK cl.hu (sv 9) (gR ag)) (eG (i5 cl.hK cl.hu (a5 cl (a5 cl (sv 6) (sv 8) (fun _ _=>rfl)) (ak) (fun _ _=>rfl)) (iq cl.hK rfl (t.b 7) (vt (vY t hB tg) sR cl (ac (sv 8) (ac (sv 9) ag)))))))) (ao (aO (j3))) aQ)
 (ao (bE nd (a5 cl (a5 cl (sv 6) (sv 8) (fun _ _=>rfl)) (ak) (fun _ _=>rfl)))))))))
 (ao (aO (j3)))))))))))))
end
end G
namespace G
open PySem L2 PR
variable{n i r j k cc t:Nat}{cs l hs ms rs F ns:List Int}{ps ws:List (Int×Int)}{f fc fl:Fl}{os:List (Option Int)}{tp st x a c at_ b sp v:Int}{g:Fl->Fl}{p:Nat->Bool}{env:En}
def qq(n k:Int)(h1:k<=n)(h2:n<=10):w5 [.int n,.int k]=.ok .non:=by refine mt (e:=[some (.int n),some (.int k)]) ?_;show xV [some (.int n),some (.int k)]=_;unfold xV;exact bR (by simp;rw[if_neg (by omega),decide_eq_false (by omega)]) aG
def qw(g:DO n ws)(hf:fl.lend=fl)(hl:fl.isLnt=false):CK [.int n,.lst fl (prL ws)]=.ok (.lst .own (prL (aW (ws.map mm)))):=by
 refine aD (v:=.lst .own (prL (aW (ws.map mm)))) ?_;show Dr [some (.int n),some (.lst fl (prL ws)),none,none,none]=_;unfold Dr;refine af (aB (v:=.lst .own []) (by simp) (by simp) rfl) ?_;simp only[s0_,s1_];refine nt (fun k e=>∃c d,e=[some (.int n),some (.lst fl (prL ws)),some (.lst .own (prL ((ws.take k).map mm))),c,d]) (xs:=prL ws) (fK (by simp[hf]) hl (by simp) (by simp)) ⟨_,_,rfl⟩ (fun k x e hx hP=>?_) (fun e hP=>?_)
 ·obtain⟨c,d,rfl⟩:=hP;rw[rO]at hx;obtain⟨w,hw,rfl⟩:∃w,ws[k]?=some w/\x=prV w:=by
   cases e:ws[k]? with
   |none=>rw[e]at hx;cases hx
   |some w=>rw[e]at hx;cases hx;exact⟨w,rfl,rfl⟩
  have hk:k<ws.length:=(List.getElem?_eq_some_iff.mp hw).1;obtain⟨r1,r2,r3,r4,r5⟩:=g.rg w (List.mem_of_getElem? hw);have hn:((ws.take k).map mm).contains (mm w)=false:=by
   rw[Bool.eq_false_iff];intro z;have z':mm w ∈(ws.take k).map mm:=by simpa using z
   have nd:=g.nd;rw[<- List.take_append_drop k ws,map_append,nodup_append]at nd;refine nd.2.2 _ z' (mm w) (mem_map_of_mem ?_) rfl;rw[List.drop_eq_getElem_cons hk];obtain⟨_,e⟩:=List.getElem?_eq_some_iff.mp hw;rw[e];exact mem_cons_self
  have hn':mm w ∉(ws.map mm).take k:=by rw[<- List.map_take];simpa using hn
  have ht:(ws.take (k+1)).map mm=(ws.take k).map mm++[mm w]:=by rw[take_add_one,hw];simp
  have hz:=g.sz;refine⟨_,cN rfl,cT (aB (v:=prV (mm w)) (by simp[p1,p8,mm]) (by simp) rfl) ?_⟩;simp only[s0_,s1_];refine cT (bR (by simp[mm];rw[if_neg (by omega),decide_eq_false (by omega)]) aG) ?_;refine cT (bR (by simp[mm];omega) aG) ?_;refine cT (bR (by simp only[jv,eR,cD];simp[hn']) aG) ?_;refine b0 (fW (v:=prV (mm w)) (xs:=prL ((ws.take k).map mm)) (by simp) rfl (by simp) (by simp;omega)) ⟨some (prV w),some (prV (mm w)),?_⟩;simp only[s0_,s1_];rw[ht,<- zb];rfl
 ·obtain⟨c,d,rfl⟩:=hP;refine bj ?_ (by simp);have e:ws.take (prL ws).length=ws:=by rw[iu,take_length]
  simp only[e];simp[p1,qc (f:=.lnt) (ps:=ws.map mm) (by simpa using g.sz) g.nd]
def j0(a:Int):∀(ps:List (Int×Int)),(∀x∈ps,x.1≠x.2)->(ps.filter fun x=>decide (x.2=a)).length+(ps.filter fun x=>decide (x.1=a)).length<=ps.length
 | [],_=>Nat.le_refl _
 |x::ps,h=>by
  have:=j0 a ps fun y hy=>h y (mem_cons_of_mem _ hy);have hx:=h x mem_cons_self;rw[filter_cons,filter_cons];by_cases h1:x.2=a
  ·have h2:x.1≠a:=fun z=>hx (z.trans h1.symm);simp[h1,h2];omega
  ·by_cases h2:x.1=a
   ·simp[h1,h2];omega
   ·simp[h1,h2];omega
def wc(ps:List (Int×Int))(a:Int)(h:ps.length<64)(hne:∀x∈ps,x.1≠x.2):sF [.tup (prL ps),.int a]=.ok (.lst .own (iL (nbL ps a))):=by
 refine aD (v:=.lst .own (iL (nbL ps a))) ?_;show xQ [some (.tup (prL ps)),some (.int a),none,none]=_;unfold xQ;refine af (aB (v:=.lst .own (iL ((ps.filter fun x=>decide (x.2=a)).map (·.1)))) ?_ (by simp) rfl) ?_
 ·refine aR (xs:=prL ps) (by simp) (by simp;omega) ?_;unfold iL prL;rw[map_map];exact bQ (a:=prV) (f:=PV.int ∘ Prod.fst) (p:=fun x=>decide (x.2=a)) ps fun x _=>⟨[some (.int a),some (prV x)],by simp[tgN,aS,bH],by simp,fun _=>⟨by simp,rfl,rfl⟩⟩
 simp only[s0_,s1_];refine af (aB (v:=.lst .own (iL ((ps.filter fun x=>decide (x.1=a)).map (·.2)))) ?_ (by simp) rfl) ?_
 ·refine aR (xs:=prL ps) (by simp) (by simp;omega) ?_;rw[show iL ((ps.filter fun x=>decide (x.1=a)).map (·.2))=(ps.filter fun x=>decide (x.1=a)).map (PV.int ∘ Prod.snd)from map_map ..];exact bQ (a:=prV) (f:=PV.int ∘ Prod.snd) (p:=fun x=>decide (x.1=a)) ps fun x _=>⟨[some (.int a),some (prV x)],by simp[tgN,aS,bH],by simp,fun _=>⟨by simp,rfl,rfl⟩⟩
 simp only[s0_,s1_];refine bj ?_ (by simp);have h1:=j0 a ps hne;simp only[de,bO,eR,cD,cr];simp[p1];rw[eY (by decide) (by decide) (by simp;omega)];simp;rw[jE _ (by simp;omega)];rfl
abbrev net(fl:Fl)(n:Nat)(ps:List (Int×Int)):PV:=.obj fl 8 [0,1,2] [.int n,.tup (prL ps),.tup ((range n).map fun k:Nat=>.tup (iL (nbL ps k)))]
@[simp] def Gn{p:Fl->Bool}:hasL p ((range n).map fun k:Nat=>PV.tup (iL (nbL ps k)))=false:=by
 induction range n with
 |nil=>rfl
 |cons a l ih=>simp[hasL,PV.has,ih]
@[simp] def Gm:mapL g ((range n).map fun k:Nat=>PV.tup (iL (nbL ps k)))=(range n).map fun k:Nat=>PV.tup (iL (nbL ps k)):=by
 induction range n with
 |nil=>rfl
 |cons a l ih=>simp[mapL,PV.mapF,ih]
def uO(hk:k<n):sG [net .bor n ps,.int k]=.ok (.lst .own (iL (nbL ps k))):=by
 refine aD (v:=.lst .own (iL (nbL ps k))) ?_;show pW [some (net .bor n ps),some (.int k)]=_;unfold pW;refine bj ?_ (by simp);have e:az (.tup ((range n).map fun k:Nat=>PV.tup (iL (nbL ps k)))) (.int k)=.ok (.tup (iL (nbL ps k))):=by
  have hk':((range n).map fun k:Nat=>PV.tup (iL (nbL ps k)))[k]?=some (.tup (iL (nbL ps k))):=by simp[hk]
  exact iR rfl hk' (by simp[PV.has])
 simp[aq,bc,p1,cQ,e,aT]
def d8(ps:List (Int×Int))(i j:Nat):Prop:=((i:Int),(j:Int))∈ ps \/((j:Int),(i:Int))∈ ps
def wR(hr:r<n)(hn:n<=10)(g:∀x∈ps,0<=x.1/\x.1<n/\0<=x.2/\x.2<n) :
  ∃far,sE [net .bor n ps,.int r]=.ok (.lst .own (iL far))/\lZ n r (d8 ps) far:=by
 have a0:aq 0 (net .bor n ps)=.ok (.int n):=by simp[aq,bc]
 have end_:∀e:En,(∃far a b c,e=[some (net .bor n ps),some (.int r),some (.lst .own (iL far)),a,b,c]/\Far n r (d8 ps) n 0 (fun _=>False) far)->∃far,eQ 2 e=.ret (.lst .own (iL far))/\lZ n r (d8 ps) far:=fun e ⟨far,a,b,c,he,F⟩=>⟨far,by subst he;exact fA rfl,F.dist⟩
 let P:Nat->En->Prop:=fun s e=>∃far a b c,e=[some (net .bor n ps),some (.int r),some (.lst .own (iL far)),a,b,c]/\Far n r (d8 ps) s 0 (fun _=>False) far
 have loop:∃e2,c9 (bU (ae (mUn (aq 0) (aa 0)) am)) (tgN 3)
   (c9 (bU (ae (mUn (aq 0) (aa 0)) am)) (tgN 4)
   (mBr (aC (mOp pEq (mOp az (aa 2) (aa 4)) (aa 3)))
   (c9 (gE (cC bK (aa 0) (ae (aa 4) am))) (tgN 5)
   (eJ 2 (aa 5) (au (dq min) (ae (mOp az (aa 2) (aa 5)) (ae (mOp aY (aa 3) (mC (.int 1))) am)))))
   aZ)) [some (net .bor n ps),some (.int r),some (.lst .own (iL (((range n).map fun _=>(n:Int)).set r 0))),none,none,none]=.next e2/\P (cq 0 n).length e2:=by
  refine ju P (bI (n:=n) (by simp[a0]) (by omega)) ⟨_,_,_,_,rfl,Far.start hr (fun i hi=>?_) (by simp)⟩ (fun s x e hx hP=>?_)
  ·rw[gv _ (by simpa using hr)];simp[gt,hi]
  ·obtain⟨far,a,b,c,rfl,F⟩:=hP;obtain⟨hs,rfl⟩:=eA hx
   suffices jZ _ _ by obtain⟨e2,h1,h2⟩:=this;exact⟨_,e2,cN rfl,h1,h2⟩
   refine fS (fun k e=>∃far b c,e=[some (net .bor n ps),some (.int r),some (.lst .own (iL far)),some (.int (0+(s:Int))),b,c]/\Far n r (d8 ps) s k (fun _=>False) far) (bI (n:=n) (by simp[a0]) (by omega)) ⟨_,_,_,rfl,F⟩ (fun k x e hx hP=>?_) (fun e hP=>?_)
   ·obtain⟨far,b,c,rfl,F⟩:=hP;obtain⟨hk,rfl⟩:=eA hx;have ix:∀ (f:Fl) (i:Nat),i < n->az (.lst f (iL far)) (.int i)=.ok (.int (gt far i)):=fun f i hi=>hV _ (by omega) (by
     have:i<far.length:=by rw[F.len];exact hi
     simp[gt,this])
    refine⟨_,cN rfl,?_⟩;simp only[s0_,s1_];by_cases hv:gt far k=s
    ·refine mM (by simp[ix _ k hk,hv]) ?_;have nbs:∀o∈nbL ps k,∃j:Nat,o=j/\j<n/\d8 ps j k:=fun o ho=>by
      rcases fe.mp ho with q|q
      ·have:=g _ q;exact⟨o.toNat,by omega,by omega,.inl (by rw[show((o.toNat:Nat):Int)=o by omega];exact q)⟩
      ·have:=g _ q;exact⟨o.toNat,by omega,by omega,.inr (by rw[show((o.toNat:Nat):Int)=o by omega];exact q)⟩
     refine fS (fun q e=>∃far c,e=[some (net .bor n ps),some (.int r),some (.lst .own (iL far)),some (.int (0+(s:Int))),some (.int (0+(k:Int))),c]/\Far n r (d8 ps) s k (fun j=>(j:Int)∈(nbL ps k).take q) far/\gt far k=s) (xs:=iL (nbL ps k)) ?_ ⟨far,_,rfl,F.none (by simp),hv⟩ (fun q x e hx hP=>?_) (fun e hP=>?_)
     ·have bk:=uO (ps:=ps) hk;refine fK (f:=.own) ?_ rfl (by simp) (by simp);simp[bK,bk,aL]
     ·obtain⟨far,c,rfl,F,hv⟩:=hP;rw[wG]at hx;obtain⟨o,ho,rfl⟩:∃o,(nbL ps k)[q]?=some o/\x=.int o:=by
       cases e:(nbL ps k)[q]? with
       |none=>rw[e]at hx;cases hx
       |some w=>rw[e]at hx;cases hx;exact⟨w,rfl,rfl⟩
      obtain⟨j,rfl,hj,aj⟩:=nbs o (List.mem_of_getElem? ho);have ix:∀ (f:Fl) (i:Nat),i < n->az (.lst f (iL far)) (.int i)=.ok (.int (gt far i)):=fun f i hi=>hV _ (by omega) (by
       have:i<far.length:=by rw[F.len];exact hi
       simp[gt,this])
      obtain⟨F',hv'⟩:=F.relax hk hv hj aj hs;refine⟨_,cN rfl,b0 (eV (v:=.int (min (gt far j) ((s:Int)+1))) (xs:=iL far) (j:=j) (n:=j) (by simp[ix _ j hj,dq]) rfl (by simp) (fz (by rw[bp,F.len];exact hj)) (by simp)) ⟨_,some (.int j),?_,?_,hv'⟩⟩
      ·rw[fh];rfl
      ·have e:∀i:Nat,((i:Int)∈(nbL ps k).take (q+1))=((i:Int)∈(nbL ps k).take q\/i=j):=fun i=>by rw[take_add_one,ho];simp;exact or_congr_right ⟨fun h=>by omega,fun h=>by omega⟩
       simp only[e];exact F'
     ·obtain⟨far,c,rfl,F,hv⟩:=hP;refine⟨far,_,_,rfl,F.close fun j hj a=>?_⟩;rw[bp,take_length];exact fe.mpr (a.elim .inr .inl)
    ·refine mO (by simp[ix _ k hk,hv]) (b0 aG ⟨far,_,_,rfl,F.skip hv⟩)
   ·obtain⟨far,b,c,rfl,F⟩:=hP;rw[a_]at F;exact⟨far,_,_,_,rfl,F.next⟩
 obtain⟨e2,h1,h2⟩:=loop;rw[a_]at h2;obtain⟨far,h3,h4⟩:=end_ e2 h2;refine⟨far,aD (v:=.lst .own (iL far)) ?_,h4⟩;show xK [some (net .bor n ps),some (.int r),none,none,none,none]=_;unfold xK;refine af (aB (v:=.lst .own (iL ((range n).map fun _=>(n:Int)))) ?_ (by simp) rfl) ?_
 ·refine aR (xs:=cq 0 n) (bI (n:=n) (by simp[a0]) (by omega)) (by rw[a_];omega) ?_;rw[show iL ((range n).map fun _=>(n:Int))=(range n).map (fun _=>PV.int n)from by simp[iL]];exact b8 (a:=fun k:Nat=>PV.int (0+(k:Int))) (f:=fun _=>PV.int n) (range n) fun k _=>⟨[some (net .bor n ps),some (.int (0+k))],by simp[tgN,aS,bH,PV.borrow],by simp[a0],rfl,rfl⟩
 simp only[s0_,s1_];refine af (eV (v:=.int 0) (xs:=iL ((range n).map fun _=>(n:Int))) (j:=r) (n:=r) (by simp) rfl (by simp) (fz (by simpa using hr)) (by simp)) ?_;rw[fh];exact af h1 h3
def Cm{far:List Int}(h:far≠[])(hb:∀x∈far,x<b):dC far<b:=hb _ (jh h).1
def zQ(g:DO n ws)(h1:1<=n)(hn:n<=10)(hf:fl.lend.toBor=.bor\/fl.lend.toBor=.frz)(conn:∀S:Nat->Prop,S 0->(∀i<n,∀j<n,d8 (aW (ws.map mm)) i j->S i->S j)->∀i<n,S i) :
  wV [.obj .own 8 [] [],.int n,.lst fl (prL ws)]=.ok (net .own n (aW (ws.map mm))):=by
 have hfl:fl.lend.toBor.lend=fl.lend.toBor:=by rcases hf with e|e<;>rw[e]<;>rfl
 have hfi:fl.lend.toBor.isLnt=false:=by rcases hf with e|e<;>rw[e]<;>rfl
 have o1:=qw (fl:=fl.lend.toBor) g hfl hfi;have rg:∀x∈aW (ws.map mm),0<=x.1/\x.1<n/\0<=x.2/\x.2<n/\x.1≠x.2:=fun x hx=>by obtain⟨w,hw,rfl⟩:=mem_map.mp ((bC _).mem_iff.mp hx);have:=g.rg w hw;simp only[mm];omega
 have sz:(aW (ws.map mm)).length<64:=by rw[(bC _).length_eq,length_map];exact g.sz
 generalize hps:aW (ws.map mm)=ps at *;have nb:∀k:Nat,sF [.tup (prL ps),.int k]=.ok (.lst .own (iL (nbL ps k))):=fun k=>wc ps k sz fun x hx=>(rg x hx).2.2.2.2;obtain⟨far,e1,D⟩:=wR (n:=n) (r:=0) (ps:=ps) (by omega) hn fun x hx=>⟨(rg x hx).1,(rg x hx).2.1,(rg x hx).2.2.1,(rg x hx).2.2.2.1⟩
 have hall:=D.all (by omega) conn;have hne:far≠[]:=fun z=>by have:=D.len;rw[z]at this;simp at this;omega
 have hmx:dC far<n:=Cm hne fun x hx=>by obtain⟨i,hi,rfl⟩:=getElem_of_mem hx;have:=hall i (by rw[<- D.len];exact hi);simpa[gt,hi]using this
 refine cz (e:=[some (net .own n ps),some (.int n),some (.lst fl (prL ws))]) ?_ rfl;show xJ [some (.obj .own 8 [] []),some (.int n),some (.lst fl (prL ws))]=_;unfold xJ;have rf:=qq n 1 (by omega) (by omega);refine af (gx (v:=.non) (by simp[rf,aL])) ?_;refine af (bF (v:=.int n) (ks:=[]) (vs:=[]) (by simp) rfl (by simp) rfl (by decide)) ?_;simp only[s0_,s1_];refine af (bF (v:=.tup (prL ps)) (ks:=[0]) (vs:=[.int n]) ?_ rfl (by simp) rfl (by decide)) ?_
 ·simp[o1,aL,p1,dZ,aT]
 simp only[s0_,s1_];refine af (bF (v:=.tup ((range n).map fun k:Nat=>.tup (iL (nbL ps k)))) (ks:=[0,1]) (vs:=[.int n,.tup (prL ps)]) ?_ rfl (by simp) rfl (by decide)) ?_
 ·simp only[de,bO,cr];rw [aR (xs:=cq 0 n) (ys:=(range n).map fun k:Nat=>.tup (iL (nbL ps k))) (bI (n:=n) (by simp) (by omega)) (by rw [a_];omega)
   (b8 (a:=fun k:Nat=>PV.int (0+(k:Int))) (f:=fun k:Nat=>.tup (iL (nbL ps k))) (range n) fun k _=>⟨[some (.obj .bor 8 [0,1] [.int n,.tup (prL ps)]),some (.int (0+k))],by simp[tgN,aS,bH],by simp[aq,bc,nb,aL,p1,dZ,aT],by simp[PV.has],by simp[PV.has]⟩)]
  simp[p1,dZ,aT]
 simp only[s0_,s1_];refine bR ?_ aG;have hi:far.isEmpty=false:=by cases far with|nil=>exact absurd rfl hne|cons a l=>rfl
 have e2:sE [net .bor n ps,.int 0]=.ok (.lst .own (iL far)):=e1;simp[e2,aL,p1,eP,aT,hi];omega
def cell(ns:List Int)(k:Nat):Int:=ns.getD k 0
def sQ(ns:List Int)(k:Nat)(h:Scr fl):gH [.lst fl (iL ns),.int k]=.ok (.int (cell ns k)):=by
 refine aD ?_;show xT [some (.lst fl (iL ns)),some (.int k)]=_;unfold xT cell;by_cases hk:k<ns.length
 ·refine cw (fG (by simp[h.lend,hk]) (bj ?_ (by simp)));simp only[eR,cD];simp[h.lend];rw[hV ns (by omega) (n:=ns.getD k 0) (by simp[hk])];simp[hk]
 ·refine af (bR (by simp[h.lend,hk]) aG) (bj (by simp[List.getElem?_eq_none (Nat.le_of_not_lt hk)]) (by simp))
def sO{m:Nat}(Wh:fk n m ws)(hr:r<n)(S:Nat->Prop)(h0:S r)(hc:∀i<n,∀j<n,d8 (aW (ws.map mm)) i j->S i->S j):∀i<n,S i:=fun i hi=>by
 have:=Wh.cn (fun x=>S x.toNat) (fun w hw=>?_) r i hr hi (by simpa using h0)
 ·simpa using this
 ·have rg:=Wh.rg w hw;have hm:mm w∈aW (ws.map mm):=(bC _).mem_iff.mpr (mem_map_of_mem hw);have e1:((w.1.toNat:Nat):Int)=w.1:=by omega
  have e2:((w.2.toNat:Nat):Int)=w.2:=by omega
  have ad:d8 (aW (ws.map mm)) w.1.toNat w.2.toNat:=by
   unfold d8;rw[e1,e2];rcases Int.le_total w.1 w.2 with h|h
   ·left;rw[show(w.1,w.2)=mm w by simp only[mm,Prod.mk.injEq];omega];exact hm
   ·right;rw[show(w.2,w.1)=mm w by simp only[mm,Prod.mk.injEq];omega];exact hm
  exact⟨hc _ (by omega) _ (by omega) ad,hc _ (by omega) _ (by omega) (ad.elim .inr .inl)⟩
def fnd(ws:List (Int×Int))(a:Int):List Int:=ws.flatMap fun w=>(if w.1=a then [w.2]else [])++(if w.2=a then [w.1]else [])
def oV:Option Int->PV
 |none=>.non
 |some s=>.int s
def oL(os:List (Option Int)):List PV:=os.map oV
@[simp] def G9(os:List (Option Int)):(oL os).length=os.length:=by simp[oL]
@[simp] def G_{p:Fl->Bool}:hasL p (oL os)=false:=by
 induction os with
 |nil=>rfl
 |cons o os ih=>cases o<;>simpa[oL,oV,hasL,PV.has]using ih
@[simp] def G8:mapL g (oL os)=oL os:=by
 induction os with
 |nil=>rfl
 |cons o os ih=>cases o<;>simpa[oL,oV,mapL,PV.mapF]using ih
@[simp] def Hb:PyData.canLayAll0 (dataL (oL os))=true:=by
 induction os with
 |nil=>rfl
 |cons o os ih=>cases o <;>(simp only[oL,map_cons,oV,dataL,PV.data,PyData.canLayAll0]at ih ⊢;rw[ih];rfl)
@[simp] def Ha:PyData.depthAll (dataL (oL os))=0:=by
 induction os with
 |nil=>rfl
 |cons o os ih=>cases o <;>(simp only[oL,map_cons,oV,dataL,PV.data,PyData.depthAll]at ih ⊢;rw[ih];rfl)
def OkS(tp:Int)(os:List (Option Int)):Prop:=∀s,some s∈os->0<=s/\s<tp
def Fc(f:Fl):Prop:=f=.bor\/f=.frz
def Fc.le(h:Fc f):f.lend=f:=by rcases h with rfl|rfl<;>rfl
def Fc.tb(h:Fc f):f.toBor=f:=by rcases h with rfl|rfl<;>rfl
def Fc.bo(h:Fc f):f.borrow=f:=by rcases h with rfl|rfl<;>rfl
def Fc.nl(h:Fc f):f.isLnt=false:=by rcases h with rfl|rfl<;>rfl
def Fc.of(h:Fc f\/f=.own):Fc f.borrow:=by
 rcases h with(rfl|rfl)|rfl
 ·exact .inl rfl
 ·exact .inr rfl
 ·exact .inl rfl
def iV(hk:k<n):sG [net .frz n ps,.int k]=.ok (.lst .own (iL (nbL ps k))):=by
 refine aD (v:=.lst .own (iL (nbL ps k))) ?_;show pW [some (net .frz n ps),some (.int k)]=_;unfold pW;refine bj ?_ (by simp);have e:az (.tup ((range n).map fun k:Nat=>PV.tup (iL (nbL ps k)))) (.int k)=.ok (.tup (iL (nbL ps k))):=by
  have hk':((range n).map fun k:Nat=>PV.tup (iL (nbL ps k)))[k]?=some (.tup (iL (nbL ps k))):=by simp[hk]
  exact iR rfl hk' (by simp[PV.has])
 simp[aq,bc,p1,cQ,e,aT]
abbrev pnt(fl:Fl)(n:Nat)(ps:List (Int×Int)):PV:=.obj fl 2 [4,0,7,8] [net .frz n ps,.int n,.int n,.bl false]
def tD:fT [.obj .own 2 [4] [net .frz n ps],.int n,.int n,.bl false]=.ok (pnt .own n ps):=by refine cz (e:=[some (pnt .own n ps),some (.int n),some (.int n),some (.bl false)]) ?_ rfl;show im [some (.obj .own 2 [4] [net .frz n ps]),some (.int n),some (.int n),some (.bl false)]=_;unfold im;refine af (bF (v:=.int n) (ks:=[4]) (vs:=[net .frz n ps]) (by simp) rfl (by simp) rfl (by decide)) ?_;refine af (bF (v:=.int n) (ks:=[4,0]) (vs:=[net .frz n ps,.int n]) (by simp) rfl (by simp) rfl (by decide)) ?_;exact bF (v:=.bl false) (ks:=[4,0,7]) (vs:=[net .frz n ps,.int n,.int n]) (by simp) rfl (by simp) rfl (by decide)
def uH:lz [.obj .own 2 [4] [net .frz n ps],.int n,.int n]=.ok (pnt .own n ps):=by refine cz (e:=[some (pnt .own n ps),some (.int n),some (.int n)]) ?_ rfl;show pX [some (.obj .own 2 [4] [net .frz n ps]),some (.int n),some (.int n)]=_;unfold pX;exact fY (xs:=[.int n,.int n,.bl false]) rfl (by simp) (by simp) (by simpa using tD (n:=n) (ps:=ps)) (by simp[PV.has])
def tX:CT [.obj .own 2 [] [],net .frz n ps]=.ok (pnt .own n ps):=by refine cz (e:=[some (pnt .own n ps),some (net .frz n ps)]) ?_ rfl;show DB [some (.obj .own 2 [] []),some (net .frz n ps)]=_;unfold DB;refine af (du (v:=net .frz n ps) rfl) ?_;simp only[s0_,s1_];refine af (bF (v:=net .frz n ps) (ks:=[]) (vs:=[]) (by simp[PV.mapF,Fl.freeze]) rfl (by simp[PV.noLnt,PV.has]) rfl (by decide)) ?_;simp only[s0_,s1_];have:=fY (env:=[some (.obj .own 2 [4] [net .frz n ps]),some (net .frz n ps)]) (m:=lz) (ms:=ae (mUn (aq 0) (aa 1)) (ae (mUn (aq 0) (aa 1)) am)) (xs:=[.int n,.int n]) rfl (by simp[aq,bc]) (by simp) (by simpa using uH (n:=n) (ps:=ps)) (by simp[PV.has]);simpa[PV.mapF,Fl.freeze]using this
def jR(ps:List (Int×Int))(i:Nat):List Int:=(nbL ps i).filter fun x=>decide (x <(i:Int))
def wL(hi:i<n)(hl:(nbL ps i).length<=1000):CY [pnt .frz n ps,.int i]=.ok (.lst .own (iL (jR ps i))):=by
 refine aD ?_;show DG [some (pnt .frz n ps),some (.int i)]=_;unfold DG jR;have be:=iV (ps:=ps) hi;refine bj ?_ (by simp);have:=eE (env:=bH [1] 1 [some (pnt .frz n ps),some (.int i)]) (g:=tgN 1) (mc:=aC (mOp pLt (aa 1) (aa 0))) (me:=aa 1) (fun x=>decide (x <(i:Int))) (fun x=>x) (nbL ps i) fun x hx=>⟨[some (.int i),some (.int x)],by simp[tgN,aS,bH],by simp,fun _=>by simp⟩
 rw[map_id']at this;exact aR (xs:=iL (nbL ps i)) (by simp[aq,bc,bK,be,aL]) (by rw[bp];omega) this
def jP(l:List Int):Nat:=((range (l.length+1)).find? fun j:Nat=>!l.contains (j:Int)).getD 0
def k9(l:List Int):((jP l:Nat):Int)∉ l/\∀j,j<jP l->(j:Int)∈ l:=by
 have ex:∃j,j<l.length+1/\(j:Int)∉ l:=by
  apply Classical.byContradiction;intro no;have h:=rZ (l:=(range (l.length+1)).map fun k:Nat=>(k:Int)) (l':=l) (Pairwise.map _ (fun a b h e=>h (by omega)) nodup_range) fun x hx=>by obtain⟨k,hk,rfl⟩:=mem_map.mp hx;exact Classical.byContradiction fun z=>no ⟨k,mem_range.mp hk,z⟩
  simp at h;omega
 unfold jP;cases e:(range (l.length+1)).find? fun j:Nat=>!l.contains (j:Int)with
 |none=>exfalso;obtain⟨j,h1,h2⟩:=ex;have:=List.find?_eq_none.mp e j (mem_range.mpr h1);simp at this;exact h2 this
 |some m=>simp only[getD_some];have h1:=List.find?_some e;refine⟨by simpa using h1,fun j hj=>?_⟩;have h2:=(List.find?_range_eq_some.mp e).2.2 j hj;simpa using h2
def wv{L':List Int}(h:∀x∈l,x∈L'):jP l<=L'.length:=by
 have:=rZ (l:=(range (jP l)).map fun k:Nat=>(k:Int)) (l':=L') (Pairwise.map _ (fun a b h e=>h (by omega)) nodup_range) fun x hx=>by obtain⟨k,hk,rfl⟩:=mem_map.mp hx;exact h _ ((k9 l).2 k (mem_range.mp hk))
 simpa using this
def nY(ps:List (Int×Int))(cs:List Int)(i:Nat):Int:=jP ((jR ps i).map fun o=>gt cs o.toNat)
def sg(rg:∀x∈ps,0<=x.1/\x.1<n/\0<=x.2/\x.2<n/\x.1≠x.2){o:Int}(h:o∈jR ps i):0<=o/\o<n/\o<i/\((o,(i:Int))∈ ps \/((i:Int),o)∈ ps):=by
 obtain⟨h1,h2⟩:=mem_filter.mp h;have h3:=fe.mp h1;simp only[decide_eq_true_eq]at h2;rcases h3 with z|z
 ·have:=rg _ z;exact⟨this.1,this.2.1,h2,.inl z⟩
 ·have:=rg _ z;exact⟨this.2.2.1,this.2.2.2.1,h2,.inr z⟩
def Ab(rg:∀x∈ps,0<=x.1/\x.1<n/\0<=x.2/\x.2<n/\x.1≠x.2)(hi:i<n):0<=nY ps cs i/\nY ps cs i<n:=by
 unfold nY;have:=wv (l:=(jR ps i).map fun o=>gt cs o.toNat) (L':=(range i).map fun k=>gt cs k) fun x hx=>by obtain⟨o,ho,rfl⟩:=mem_map.mp hx;have:=sg rg ho;exact mem_map.mpr ⟨o.toNat,mem_range.mpr (by omega),rfl⟩
 simp at this;omega
def yu(rg:∀x∈ps,0<=x.1/\x.1<n/\0<=x.2/\x.2<n/\x.1≠x.2)(hfc:Fc fc)(hl:∀i,(nbL ps i).length<=1000)(hn:cs.length=n)(hi:i<n):CL [pnt .frz n ps,.lst fc (iL cs),.int i]=.ok (.int (nY ps cs i)):=by
 refine aD ?_;show Ds [some (pnt .frz n ps),some (.lst fc (iL cs)),some (.int i),none,none]=_;unfold Ds nY;have ha:=wL (ps:=ps) hi (hl i);have ll:(jR ps i).length<=1000:=Nat.le_trans (length_filter_le _ _) (hl i);refine af (aB (v:=.lst .own (iL ((jR ps i).map fun o=>gt cs o.toNat))) ?_ (by simp) rfl) ?_
 ·refine aR (xs:=iL (jR ps i)) (by simp[bG,ha,aL]) (by rw[bp];omega) (d5 (fun o=>gt cs o.toNat) (jR ps i) fun o ho=>⟨[some (.lst fc (iL cs)),some (.int o)],by simp[tgN,aS,bH,hfc.bo],?_⟩);have:=sg rg ho;simp[hfc.le,bq (f:=fc) (cs:=cs) (i:=o) this.1 (by omega)]
 simp only[s0_,s1_];have tkl:((jR ps i).map fun o=>gt cs o.toNat).length<=1000:=by rw[length_map];exact ll
 generalize(jR ps i).map (fun o=>gt cs o.toNat)=tk at *;obtain⟨m1,m2⟩:=k9 tk;refine af (aB (v:=.int 0) (by simp) (by simp) rfl) ?_;simp only[s0_,s1_];have mb:jP tk<100000:=by have:=wv (l:=tk) (L':=tk) fun x hx=>hx;omega
 refine tq (Fin:=fun e=>e=[some (pnt .frz n ps),some (.lst fc (iL cs)),some (.int i),some (.lst .own (iL tk)),some (.int (jP tk))]) (fun m e=>∃c:Nat,e=[some (pnt .frz n ps),some (.lst fc (iL cs)),some (.int i),some (.lst .own (iL tk)),some (.int c)]/\m=jP tk-c/\c<=jP tk) (jP tk) mb ⟨0,rfl,by omega,by omega⟩ (fun m e hP=>?_) fun e hF=>?_
 ·obtain⟨c,rfl,rfl,hc⟩:=hP;by_cases q:c=jP tk
  ·subst q;exact .inl ⟨by simp;exact m1,rfl⟩
  ·have:=m2 c (by omega);exact .inr ⟨by simp;exact this,jP tk-(c+1),[some (pnt .frz n ps),some (.lst fc (iL cs)),some (.int i),some (.lst .own (iL tk)),some (.int (c+1:Nat))],by omega,.inl (aB (v:=.int ((c+1:Nat):Int)) (by simp) (by simp) rfl),c+1,rfl,rfl,by omega⟩
 ·subst hF;exact fA rfl
abbrev lea(fl:Fl)(c:Nat)(n:Nat)(ps:List (Int×Int))(os:List (Option Int))(st tp:Int):PV:=.obj fl c [3,4,5,6,0,7,8] [.int tp,net .frz n ps,.tup (oL os),.int st,.int n,.int (tp+1),.bl true]
def rV(h1:1<=x)(h2:x<=10):sH [.int x]=.ok .non:=by refine fL ⟨[some (.int x)],?_⟩;show xW [some (.int x)]=_;unfold xW;exact bR (by simp[show ¬x<1 by omega,show ¬10<x by omega]) aG
def qm{gf:Fl}(hg:gf=.bor\/gf=.frz)(hf:f=.bor\/f=.frz)(hn:os.length=n)(ho:OkS tp os):CI [net gf n ps,.lst f (oL os),.int tp]=.ok .non:=by
 have hf1:f.lend=f:=by rcases hf with rfl|rfl<;>rfl
 have hf2:f.isLnt=false:=by rcases hf with rfl|rfl<;>rfl
 have hg1:gf.lend=gf:=by rcases hg with rfl|rfl<;>rfl
 refine fL ?_;show Ends (Do [some (net gf n ps),some (.lst f (oL os)),some (.int tp),none]);unfold Do;refine ig (bR (by simp[hf1,hg1,p1,bZ,aT,aq,bc,hn]) aG) ?_;refine ku (fun _ e=>∃x,e=[some (net gf n ps),some (.lst f (oL os)),some (.int tp),x]) (fun r=>∃e,r=.next e) (xs:=oL os) (fK (f:=f) (by simp[hf1]) hf2 (by simp) (by simp)) ⟨_,rfl⟩ (fun k x e hx hP=>?_) (fun e hP=>⟨e,rfl⟩);obtain⟨y,rfl⟩:=hP;simp only[oL,getElem?_map]at hx;obtain⟨o,ho1,rfl⟩:=map_eq_some_iff.mp hx;refine⟨_,cN rfl,.inl ⟨_,.inl (bR ?_ aG),_,rfl⟩⟩;cases o with
 |none=>simp[oV,iD,PV.isNon]
 |some s=>have:=ho s (List.mem_of_getElem? ho1);simp[oV,iD,PV.isNon,show ¬s<0 by omega,show ¬tp<=s by omega]
def tH:fT [.obj .own cc [3,4,5,6] [.int tp,net .frz n ps,.tup (oL os),.int st],.int n,.int (tp+1),.bl true]=.ok (lea .own cc n ps os st tp):=by refine cz (e:=[some (lea .own cc n ps os st tp),some (.int n),some (.int (tp+1)),some (.bl true)]) ?_ rfl;show im [some (.obj .own cc [3,4,5,6] [.int tp,net .frz n ps,.tup (oL os),.int st]),some (.int n),some (.int (tp+1)),some (.bl true)]=_;unfold im;refine af (bF (v:=.int n) (ks:=[3,4,5,6]) (vs:=[.int tp,net .frz n ps,.tup (oL os),.int st]) (by simp) rfl (by simp) rfl (by decide)) ?_;refine af (bF (v:=.int (tp+1)) (ks:=[3,4,5,6,0]) (vs:=[.int tp,net .frz n ps,.tup (oL os),.int st,.int n]) (by simp) rfl (by simp) rfl (by decide)) ?_;exact bF (v:=.bl true) (ks:=[3,4,5,6,0,7]) (vs:=[.int tp,net .frz n ps,.tup (oL os),.int st,.int n,.int (tp+1)]) (by simp) rfl (by simp) rfl (by decide)
def pj{bk:Int}(hf:f.lend.toBor=.bor\/f.lend.toBor=.frz)(h1:1<=st)(h2:st<=10)(h3:1<=bk)(h4:bk<=10)(hn:os.length=n)(ho:OkS (st*bk) os):uA [.obj .own cc [] [],net .frz n ps,.lst f (oL os),.int st,.int bk]=.ok (lea .own cc n ps os st (st*bk)):=by refine cz (e:=[some (lea .own cc n ps os st (st*bk)),some (net .frz n ps),some (.lst f (oL os)),some (.int st),some (.int bk)]) ?_ rfl;show Dx [some (.obj .own cc [] []),some (net .frz n ps),some (.lst f (oL os)),some (.int st),some (.int bk)]=_;unfold Dx;have r1:=rV h1 h2;have r2:=rV h3 h4;have r3:=qm (ps:=ps) (gf:=.frz) (.inr rfl) hf hn ho;have mu:gK (.int st) (.int bk)=.ok (.int (st*bk)):=jN (.inl ⟨by omega,by omega⟩);generalize st*bk=tp at *;refine af (gx (v:=.non) (by simp[r1,aL])) ?_;refine af (gx (v:=.non) (by simp[r2,aL])) ?_;refine af (bF (v:=.int tp) (ks:=[]) (vs:=[]) (by simp[mu]) rfl (by simp) rfl (by decide)) ?_;simp only[s0_,s1_];refine af (gx (v:=.non) (by simp[aq,bc,r3,aL])) ?_;refine af (du (v:=net .frz n ps) rfl) ?_;simp only[s0_,s1_];refine af (bF (v:=net .frz n ps) (ks:=[3]) (vs:=[.int tp]) (by simp[PV.mapF,Fl.freeze]) rfl (by simp[PV.noLnt,PV.has]) rfl (by decide)) ?_;simp only[s0_,s1_];refine af (bF (v:=.tup (oL os)) (ks:=[3,4]) (vs:=[.int tp,net .frz n ps]) (by simp[p1,dZ,aT]) rfl (by simp[PV.noLnt,PV.has]) rfl (by decide)) ?_;simp only[s0_,s1_];refine af (bF (v:=.int st) (ks:=[3,4,5]) (vs:=[.int tp,net .frz n ps,.tup (oL os)]) (by simp) rfl (by simp) rfl (by decide)) ?_;simp only[s0_,s1_];have:=fY (env:=[some (.obj .own cc [3,4,5,6] [.int tp,net .frz n ps,.tup (oL os),.int st]),some (net .frz n ps),some (.lst f (oL os)),some (.int st),some (.int bk)]) (m:=fT) (ms:=ae (mUn (aq 0) (aa 1)) (ae (mOp aY (mUn (aq 3) (aa 0)) (mC (.int 1))) (ae (mC (.bl true)) am))) (xs:=[.int n,.int (tp+1),.bl true]) rfl (by simp[aq,bc]) (by simp) (by simpa using tH (cc:=cc) (n:=n) (ps:=ps) (os:=os) (st:=st) (tp:=tp)) (by simp[PV.has]);simpa[PV.mapF,Fl.freeze]using this
def j9(st tp c:Int):Bool:=decide (c≠tp)&&decide ((c+1)%st≠0)
def gL(ps:List (Int×Int))(st tp:Int)(cs:List Int)(i:Nat):List Int:=(((nbL ps i).map fun o=>gt cs o.toNat).filter (j9 st tp)).map (· + 1)
def fF(ps:List (Int×Int))(os:List (Option Int))(st tp:Int)(cs:List Int)(i:Nat):Int:=fv (gL ps st tp cs i ++(os.getD i none).toList++[tp])
def rP(h:l≠[]):eP fv (.lst f (iL l))=.ok (.int (fv l)):=by unfold eP;simp only[aT,fR];rw[if_neg (by simpa using h)]
def wa(hs:0<st):uB [lea .frz cc n ps os st tp,.int c]=.ok (.bl (j9 st tp c)):=by
 refine aD ?_;show DJ [some (lea .frz cc n ps os st tp),some (.int c)]=_;unfold DJ j9;refine bj ?_ (by simp);by_cases h:c=tp
 ·simp[aq,bc,h]
 ·simp[aq,bc,h,bV hs]
def pp(hfc:Fc fc)(hcc:cW cc=some uB)(hnb:∀x∈nbL ps i,0<=x/\x<n)(hl:(nbL ps i).length<=1000)(hs:0<st)(hn:cs.length=n)(ho:os.length=n)(hi:i<n):uz [lea .frz cc n ps os st tp,.lst fc (iL cs),.int i]=.ok (.int (fF ps os st tp cs i)):=by
 refine aD ?_;show Du [some (lea .frz cc n ps os st tp),some (.lst fc (iL cs)),some (.int i),none,none]=_;unfold Du;have e3:=hfc.bo;have be:=iV (ps:=ps) hi;have l1:((nbL ps i).map fun o=>gt cs o.toNat).length<=1000:=by simpa using hl
 refine af (aB (v:=.lst .own (iL ((nbL ps i).map fun o=>gt cs o.toNat))) ?_ (by simp) rfl) ?_
 ·refine aR (xs:=iL (nbL ps i)) (by simp[aq,bc,bK,be,aL]) (by rw[bp];omega) (d5 (fun o=>gt cs o.toNat) _ fun x hx=>⟨[some (.lst fc (iL cs)),some (.int x)],by simp[tgN,aS,bH,e3],?_⟩);obtain⟨h1,h2⟩:=hnb x hx;simp[hfc.le,bq (f:=fc) (cs:=cs) (i:=x) (by omega) (by omega)]
 simp only[s0_,s1_];have l2:(gL ps st tp cs i).length<=1000:=by unfold gL;rw[length_map];exact Nat.le_trans (length_filter_le _ _) l1
 refine af (aB (v:=.lst .own (iL (gL ps st tp cs i))) ?_ (by simp) rfl) ?_
 ·unfold gL;exact aR (xs:=iL ((nbL ps i).map fun o=>gt cs o.toNat)) (by simp) (by rw[bp];omega) (eE (j9 st tp) (· + 1) _ fun x hx=>⟨[some (lea .frz cc n ps os st tp),some (.int x)],by simp[tgN,aS,bH],by simp[hcc,wa hs,aL],fun _=>by simp⟩)
 simp only[s0_,s1_];have hio:i<os.length:=by omega
 have ix:az (.tup (oL os)) (.int (i:Int))=.ok (oV os[i]):=iR rfl (by simp[oL,hio]) (by cases os[i]<;>rfl);have eg:os.getD i none=os[i]:=by simp[hio]
 unfold fF;rw[eg];generalize os[i]=o at *;generalize gL ps st tp cs i=of at *;cases o with
 |none=>
  refine af (bR (by simp[aq,bc,ix,oV,iD,PV.isNon]) aG) (bj ?_ (by simp));have pl:aY (.lst .lnt (iL of)) (.lst .own [.int tp])=.ok (.lst .own (iL (of++[tp]))):=by rw[eY (by decide) (by decide) (by simp;omega)];simp[iL]
  simp[aq,bc,pl,p1,rP (l:=of++[tp]) (by simp)]
 |some s=>
  refine af (fG (by simp[aq,bc,ix,oV,iD,PV.isNon]) (fW (v:=.int s) (xs:=iL of) (by simp[aq,bc,ix,oV]) rfl (by simp) (by rw[bp];omega))) ?_;simp only[s0_,s1_];rw[show iL of++[PV.int s]=iL (of++[s]) by simp[iL]];refine bj ?_ (by simp);have pl:aY (.lst .lnt (iL (of++[s]))) (.lst .own [.int tp])=.ok (.lst .own (iL (of++[s]++ [tp]))):=by rw[eY (by decide) (by decide) (by simp;omega)];simp[iL]
  have pm:=rP (f:=.own) (l:=of++[s]++ [tp]) (by simp);show _=Res.ok (PV.int (fv (of++[s]++ [tp])));generalize of++[s]=of2 at *;simp[aq,bc,pl,p1];exact pm
def fs(n r:Nat):List (Option Int):=(range n).map fun i=>if i=r then some 0 else none
def FU:oL (fs n r)=(range n).map fun i=>oV (if i=r then some 0 else none):=by simp[oL,fs]
def ly(hf:f=.frz\/f=.own)(n1:1<=n)(n10:n<=10)(hr:r<n):pH [.obj .own 5 [] [],net f n ps,.int r]=.ok (lea .own 5 n ps (fs n r) n n):=by
 refine cz (e:=[some (lea .own 5 n ps (fs n r) n n),some (net .frz n ps),some (.int r),some (.lst .frz (oL (fs n r)))]) ?_ rfl;show xZ [some (.obj .own 5 [] []),some (net f n ps),some (.int r),none]=_;unfold xZ;refine af (bR (by simp[aq,bc,show ¬(r:Int)<0 by omega,show ¬(n:Int)<= r by omega]) aG) ?_;refine af (aB (v:=.lst .own (oL (fs n r))) ?_ (by simp[PV.noLnt,PV.has]) rfl) ?_
 ·refine aR (xs:=cq 0 n) (bI (n:=n) (by simp[aq,bc]) (by omega)) (by rw[a_];omega) ?_;rw[FU];refine b8 (a:=fun k:Nat=>PV.int (0+(k:Int))) (f:=fun i=>oV (if i=r then some 0 else none)) (range n) fun k hk=>⟨[some (.int r),some (.int (0+k))],by simp[tgN,aS,bH],?_,?_,?_⟩
  ·by_cases e:k=r
   ·simp[e,oV]
   ·simp[e,oV,show ¬(k:Int)=r by omega]
  ·by_cases e:k=r<;>simp[e,oV,PV.has]
  ·by_cases e:k=r<;>simp[e,oV,PV.has]
 simp only[s0_,s1_];refine af (du (v:=.lst .own (oL (fs n r))) rfl) ?_;simp only[s0_,s1_];refine af (du (v:=net f n ps) rfl) ?_;have efz:(net f n ps).mapF Fl.freeze=net .frz n ps:=by rcases hf with rfl|rfl<;>simp[PV.mapF,Fl.freeze]
 simp only[s0_,s1_,efz];have li:=pj (cc:=5) (n:=n) (ps:=ps) (os:=fs n r) (st:=n) (bk:=1) (f:=.frz) (.inr rfl) (by omega) (by omega) (by decide) (by decide) (by simp [fs]) (fun s hs=>by
  simp only[fs,mem_map,mem_range]at hs;obtain⟨i,_,e⟩:=hs;split at e
  ·cases e;omega
  ·cases e)
 rw[Int.mul_one]at li;have:=fY (env:=[some (.obj .own 5 [] []),some (net .frz n ps),some (.int r),some (.lst .frz (oL (fs n r)))]) (m:=uA) (ms:=ae (aa 1) (ae (aa 3) (ae (mUn (aq 0) (aa 1)) (ae (mC (.int 1)) am)))) (xs:=[net .frz n ps,.lst .frz (oL (fs n r)),.int n,.int 1]) rfl (by simp[aq,bc,Fl.lend]) (by simp[PV.has]) (by simpa[Fl.toBor]using li) (by simp[PV.has]);simpa[PV.mapF,Fl.freeze]using this
structure OkM(n:Nat)(ms:List Int):Prop where
 ml:ms.length=n
 nd:ms.Nodup
 mr:∀x∈ms,0<=x/\x<=9
def ls(n:Nat)(ms:List Int):List (Option Int):=ms.map fun x=>some ((9-x)*n)
def wd(N:OkM n ms)(n10:n<=10):w_ [net .frz n ps,.lst .bor (iL ms)]=.ok .non:=by have lu:=N.ml;refine fL ?_;show Ends (yb [some (net .frz n ps),some (.lst .bor (iL ms)),none]);unfold yb;refine ig (bR (by simp[p1,bZ,aT,aq,bc,lu,Fl.lend]) aG) ?_;refine ig (bR (by simp[p1,bZ,aT,mI (show ms.length<=1000 by omega),pK N.nd,Fl.lend]) aG) ?_;refine ku (fun _ e=>∃x,e=[some (net .frz n ps),some (.lst .bor (iL ms)),x]) (fun r=>∃e,r=.next e) (xs:=iL ms) (fK (f:=.bor) (by simp[Fl.lend]) rfl (by simp) (by simp)) ⟨_,rfl⟩ (fun k x e hx hP=>?_) (fun e hP=>⟨e,rfl⟩);obtain⟨y,rfl⟩:=hP;obtain⟨z,hz,rfl⟩:=qN hx;have:=N.mr z (List.mem_of_getElem? hz);refine⟨_,cN rfl,.inl ⟨_,.inl (bR ?_ aG),_,rfl⟩⟩;simp[show ¬z<0 by omega,show ¬(9:Int)<z by omega]
def mJ{fm:Fl}(hf:fm=.bor\/fm=.own)(N:OkM n ms)(n1:1<=n)(n10:n<=10):sI [.obj .own 6 [] [],net .frz n ps,.lst fm (iL ms)]=.ok (lea .own 6 n ps (ls n ms) n (10*n)):=by
 refine cz (e:=[some (lea .own 6 n ps (ls n ms) n (10*n)),some (net .frz n ps),some (.lst fm (iL ms)),some (.lst .frz (oL (ls n ms)))]) ?_ rfl;show yc [some (.obj .own 6 [] []),some (net .frz n ps),some (.lst fm (iL ms)),none]=_;unfold yc;have e1:fm.lend.toBor=.bor:=by rcases hf with rfl|rfl<;>rfl
 have rn:=wd (ps:=ps) N n10;refine af (du (v:=net .frz n ps) rfl) ?_;have efz:(net .frz n ps).mapF Fl.freeze=net .frz n ps:=by simp[PV.mapF,Fl.freeze]
 simp only[s0_,s1_,efz];refine af (gx (v:=.non) (by simp[e1,rn,aL,PV.mapF])) ?_;have eL:oL (ls n ms)=iL (ms.map fun x=>(9-x)*n):=by simp[oL,ls,iL,oV]
 refine af (aB (v:=.lst .own (oL (ls n ms))) ?_ (by simp[PV.noLnt,PV.has]) rfl) ?_
 ·rw[eL];refine aR (xs:=iL ms) (by simp) (by rw[bp,N.ml];omega) (d5 (fun x=>(9-x)*n) ms fun x hx=>⟨[some (net .frz n ps),some (.int x)],by simp[tgN,aS,bH,PV.borrow,Fl.borrow,PV.mapF],?_⟩);have m:gK (.int (9-x)) (.int (n:Int))=.ok (.int ((9-x)*n)):=jN (.inr ⟨by omega,by omega⟩);simp[aq,bc,m]
 simp only[s0_,s1_];refine af (du (v:=.lst .own (oL (ls n ms))) rfl) ?_;simp only[s0_,s1_];have li:=pj (cc:=6) (n:=n) (ps:=ps) (os:=ls n ms) (st:=n) (bk:=10) (f:=.frz) (.inr rfl) (by omega) (by omega) (by decide) (by decide) (by simp [ls,N.ml]) (fun s hs=>by
  simp only[ls,mem_map]at hs;obtain⟨x,hx,e⟩:=hs;have:=N.mr x hx;cases e;have h1:0 <=(9-x)*(n:Int):=Int.mul_nonneg (by omega) (by omega);have h2:(9-x)*(n:Int)<= 9*n:=Int.mul_le_mul_of_nonneg_right (by omega) (by omega);omega)
 rw[Int.mul_comm (n:Int) 10]at li;have:=fY (env:=[some (.obj .own 6 [] []),some (net .frz n ps),some (.lst fm (iL ms)),some (.lst .frz (oL (ls n ms)))]) (m:=uA) (ms:=ae (aa 1) (ae (aa 3) (ae (mUn (aq 0) (aa 1)) (ae (mC (.int 10)) am)))) (xs:=[net .frz n ps,.lst .frz (oL (ls n ms)),.int n,.int 10]) rfl (by simp[aq,bc,Fl.lend]) (by simp[PV.has]) (by simpa[Fl.toBor]using li) (by simp[PV.has]);simpa[PV.mapF,Fl.freeze]using this
abbrev gro(fl:Fl)(n:Nat)(ps:List (Int×Int))(r:Nat):PV:=.obj fl 7 [9,4,10,0,7,8] [lea fl 5 n ps (fs n r) n n,net .frz n ps,.int r,.int n,.int (((n:Int)+1)*((n:Int)+1)),.bl true]
def tJ:fT [.obj .own 7 [9,4,10] [lea .own 5 n ps (fs n r) n n,net .frz n ps,.int r],.int n,.int (((n:Int)+1)*((n:Int)+1)),.bl true]=.ok (gro .own n ps r):=by refine cz (e:=[some (gro .own n ps r),some (.int n),some (.int (((n:Int)+1)*((n:Int)+1))),some (.bl true)]) ?_ rfl;show im [some (.obj .own 7 [9,4,10] [lea .own 5 n ps (fs n r) n n,net .frz n ps,.int r]),some (.int n),some (.int (((n:Int)+1)*((n:Int)+1))),some (.bl true)]=_;unfold im;refine af (bF (v:=.int n) (ks:=[9,4,10]) (vs:=[lea .own 5 n ps (fs n r) n n,net .frz n ps,.int r]) (by simp) rfl (by simp) rfl (by decide)) ?_;refine af (bF (v:=.int (((n:Int)+1)*((n:Int)+1))) (ks:=[9,4,10,0]) (vs:=[lea .own 5 n ps (fs n r) n n,net .frz n ps,.int r,.int n]) (by simp) rfl (by simp) rfl (by decide)) ?_;exact bF (v:=.bl true) (ks:=[9,4,10,0,7]) (vs:=[lea .own 5 n ps (fs n r) n n,net .frz n ps,.int r,.int n,.int (((n:Int)+1)*((n:Int)+1))]) (by simp) rfl (by simp) rfl (by decide)
def pC(hf:f=.frz\/f=.own)(n1:1<=n)(n10:n<=10)(hr:r<n):zY [.obj .own 7 [] [],net f n ps,.int r]=.ok (gro .own n ps r):=by
 refine cz (e:=[some (gro .own n ps r),some (net .frz n ps),some (.int r)]) ?_ rfl;show Dw [some (.obj .own 7 [] []),some (net f n ps),some (.int r)]=_;unfold Dw;have fi:=ly (f:=.frz) (ps:=ps) (.inl rfl) n1 n10 hr;have mu:gK (.int ((n:Int)+1)) (.int ((n:Int)+1))=.ok (.int (((n:Int)+1)*((n:Int)+1))):=jN (.inl ⟨by omega,by omega⟩);have ri:=tJ (n:=n) (ps:=ps) (r:=r);generalize((n:Int)+1)*((n:Int)+1)=sq at mu ri;refine af (du (v:=net f n ps) rfl) ?_;have efz:(net f n ps).mapF Fl.freeze=net .frz n ps:=by rcases hf with rfl|rfl<;>simp[PV.mapF,Fl.freeze]
 simp only[s0_,s1_,efz];refine af (bF (v:=lea .own 5 n ps (fs n r) n n) (ks:=[]) (vs:=[]) (by simp[fi,aL,PV.has,Fl.lend,Fl.toBor]) rfl (by simp[PV.noLnt,PV.has]) rfl (by decide)) ?_;simp only[s0_,s1_];refine af (bF (v:=net .frz n ps) (ks:=[9]) (vs:=[lea .own 5 n ps (fs n r) n n]) (by simp[PV.mapF,Fl.lend]) rfl (by simp[PV.noLnt,PV.has]) rfl (by decide)) ?_;simp only[s0_,s1_];refine af (bF (v:=.int r) (ks:=[9,4]) (vs:=[lea .own 5 n ps (fs n r) n n,net .frz n ps]) (by simp) rfl (by simp) rfl (by decide)) ?_;simp only[s0_,s1_];have:=fY (env:=[some (.obj .own 7 [9,4,10] [lea .own 5 n ps (fs n r) n n,net .frz n ps,.int r]),some (net .frz n ps),some (.int r)]) (m:=fT) (ms:=ae (mUn (aq 0) (aa 1)) (ae (mOp gK (mOp aY (mUn (aq 0) (aa 1)) (mC (.int 1))) (mOp aY (mUn (aq 0) (aa 1)) (mC (.int 1)))) (ae (mC (.bl true)) am))) (xs:=[.int n,.int sq,.bl true]) rfl (by simp[aq,bc,mu]) (by simp) (by simpa using ri) (by simp[PV.has]);simpa using this
def PT(n:Nat)(cs:List Int):List (Int×Int):=cs.map fun c=>(c / ((n:Int)+1),c%((n:Int)+1))
def FA(n:Nat)(cs:List Int):List Int:=cs.map (· / ((n:Int)+1))
def CN(n:Nat)(cs:List Int):List Int:=cs.map (· % ((n:Int)+1))
@[simp] def Hv:(FA n cs).length=cs.length:=by simp[FA]
@[simp] def DQ:(CN n cs).length=cs.length:=by simp[CN]
def nea(ps:List (Int×Int))(fa:List Int)(i:Nat):List Int:=(nbL ps i).filter fun o=>decide (gt fa o.toNat=gt fa i-1)
def eld(ps:List (Int×Int))(r:Nat)(fa:List Int)(i:Nat):Option Int:=if i=r then none else if(nea ps fa i).isEmpty then none else some (fv (nea ps fa i))
def jT(n:Nat)(ps:List (Int×Int))(r:Nat)(cs:List Int)(i:Nat):List Int:=((range n).filter fun j=>decide (eld ps r (FA n cs) j=some (i:Int))).map (gt (CN n cs))
def dcn(n:Nat)(ps:List (Int×Int))(r:Nat)(cs:List Int)(i:Nat):Int:=min (n:Int) (1+(jT n ps r cs i).sum)
def kh(n:Nat)(ps:List (Int×Int))(r:Nat)(cs:List Int)(i:Nat):Int:=
 fF ps (fs n r) n n (FA n cs) i*((n:Int)+1)+(if fF ps (fs n r) n n (FA n cs) i=gt (FA n cs) i then dcn n ps r cs i else gt (CN n cs) i)
def oZ(hfc:Fc fc)(n10:n<=10)(hn:cs.length=n):CP [gro .frz n ps r,.lst fc (iL cs)]=.ok (.lst .own (prL (PT n cs))):=by
 refine aD ?_;show Dy [some (gro .frz n ps r),some (.lst fc (iL cs))]=_;unfold Dy;refine bj ?_ (by simp[PV.noLnt,PV.has]);have e4:fc≠.mod:=by rcases hfc with rfl|rfl<;>decide
 rw[show prL (PT n cs)=cs.map fun c=>prV (c / ((n:Int)+1),c%((n:Int)+1)) by simp[prL,PT]];refine aR (xs:=iL cs) (by rcases hfc with rfl|rfl<;>simp) (by rw[bp];omega) (b8 (a:=PV.int) (f:=fun c=>prV (c / ((n:Int)+1),c%((n:Int)+1))) cs fun c _=>⟨[some (gro .frz n ps r),some (.int c)],by simp[tgN,aS,bH,PV.mapF,Fl.borrow],?_,by simp,by simp⟩);have np:(0:Int) <(n:Int)+1:=by omega
 simp[aq,bc,bV np,iS np (show(n:Int)+1<1073741824 by omega),prV]
def sB(hfc:Fc fc)(n10:n<=10)(hn:cs.length=n):CJ [gro .frz n ps r,.lst fc (iL cs)]=.ok (.lst .own (iL (FA n cs))):=by refine aD ?_;show Dq [some (gro .frz n ps r),some (.lst fc (iL cs))]=_;unfold Dq;refine bj ?_ (by simp);have pt:=oZ (ps:=ps) (r:=r) hfc n10 hn;rw[show iL (FA n cs)=(PT n cs).map fun x=>PV.int x.1 by simp[iL,FA,PT]];refine aR (xs:=prL (PT n cs)) (by rcases hfc with rfl|rfl<;>simp[eD,pt,aL,PV.has,Fl.lend,Fl.toBor,PV.mapF]) (by simp[PT];omega) (b8 (a:=prV) (f:=fun x=>PV.int x.1) (PT n cs) fun x _=>⟨[some (prV x)],by simp[tgN,aS,bH,cR],?_,by simp,by simp⟩);simp
def mS(hfc:Fc fc)(n10:n<=10)(hn:cs.length=n):CW [gro .frz n ps r,.lst fc (iL cs)]=.ok (.lst .own (iL (CN n cs))):=by refine aD ?_;show DE [some (gro .frz n ps r),some (.lst fc (iL cs))]=_;unfold DE;refine bj ?_ (by simp);have pt:=oZ (ps:=ps) (r:=r) hfc n10 hn;rw[show iL (CN n cs)=(PT n cs).map fun x=>PV.int x.2 by simp[iL,CN,PT]];refine aR (xs:=prL (PT n cs)) (by rcases hfc with rfl|rfl<;>simp[eD,pt,aL,PV.has,Fl.lend,Fl.toBor,PV.mapF]) (by simp[PT];omega) (b8 (a:=prV) (f:=fun x=>PV.int x.2) (PT n cs) fun x _=>⟨[some (prV x)],by simp[tgN,aS,bH,cR],?_,by simp,by simp⟩);simp
def zI:mz (.lst f (iL l))=.ok (if l.isEmpty then .non else .int (fv l)):=by unfold mz;simp only[aT,fR]
def xk{fa:List Int}(hnb:∀x∈nbL ps i,0<=x/\x<n)(hl:(nbL ps i).length<=1000)(hn:fa.length=n)(hi:i<n):CQ [gro .frz n ps r,.lst .bor (iL fa),.int i]=.ok (oV (eld ps r fa i)):=by
 refine aD ?_;show Dz [some (gro .frz n ps r),some (.lst .bor (iL fa)),some (.int i),none]=_;unfold Dz eld;by_cases q:i=r
 ·rw[if_pos q];exact cw (fG (by simp[aq,bc,q]) (bj (by simp[oV]) (by simp[oV])))
 rw[if_neg q];refine af (bR (by simp[aq,bc,show ¬(i:Int)=r by omega]) aG) ?_;have be:=iV (ps:=ps) hi;refine af (aB (v:=.lst .own (iL (nea ps fa i))) ?_ (by simp) rfl) ?_
 ·have hz:nea ps fa i=((nbL ps i).filter fun o=>decide (gt fa o.toNat=gt fa i-1)).map id:=by simp[nea]
  rw[hz];refine aR (xs:=iL (nbL ps i)) (by simp[aq,bc,bK,be,aL]) (by rw[bp];omega) (eE (fun o=>decide (gt fa o.toNat=gt fa i-1)) id _ fun x hx=>⟨[some (.lst .bor (iL fa)),some (.int i),some (.int x)],by simp[tgN,aS,bH,Fl.borrow],?_,fun _=>by simp⟩);obtain⟨h1,h2⟩:=hnb x hx;simp[bq (f:=.bor) (cs:=fa) (i:=x) (by omega) (by omega),bq (f:=.bor) (cs:=fa) (i:=i) (by omega) (by omega)]
 simp only[s0_,s1_];generalize nea ps fa i=l;refine bj ?_ (by cases l<;>simp[oV]);simp only[AN,cD,getElem?_cons_zero,getElem?_cons_succ,BL,Res.ok_bind,PV.mapF,Fl.lend,ug];rw[zI];cases l<;>simp[oV]
abbrev ELs(n:Nat)(ps:List (Int×Int))(r:Nat)(fa:List Int):List (Option Int):=(range n).map (eld ps r fa)
def uF(hfc:Fc fc)(n10:n<=10)(hnb:∀i:Nat,∀x∈nbL ps i,0<=x/\x<n)(hl:∀i:Nat,(nbL ps i).length<=1000)(hn:cs.length=n):CV [gro .frz n ps r,.lst fc (iL cs)]=.ok (.lst .own (oL (ELs n ps r (FA n cs)))):=by
 refine aD ?_;show DD [some (gro .frz n ps r),some (.lst fc (iL cs)),none]=_;unfold DD;have fo:=sB (ps:=ps) (r:=r) hfc n10 hn;refine af (aB (v:=.lst .own (iL (FA n cs))) (by rcases hfc with rfl|rfl<;>simp[fj,fo,aL,PV.has,Fl.lend,Fl.toBor,PV.mapF]) (by simp) rfl) ?_;simp only[s0_,s1_];refine bj ?_ (by simp[PV.noLnt,PV.has]);rw[show oL (ELs n ps r (FA n cs))=(range n).map fun i=>oV (eld ps r (FA n cs) i) by simp[oL]];refine aR (xs:=cq 0 n) (bI (n:=n) (by simp[aq,bc]) (by omega)) (by rw[a_];omega) (b8 (a:=fun k:Nat=>PV.int (0+(k:Int))) (f:=fun i=>oV (eld ps r (FA n cs) i)) (range n) fun k hk=>⟨[some (gro .frz n ps r),some (.lst .bor (iL (FA n cs))),some (.int (0+k))],by simp[tgN,aS,bH,Fl.borrow,PV.mapF],?_,?_,?_⟩)
 ·have el:=xk (r:=r) (hnb k) (hl k) (show(FA n cs).length=n by simpa using hn) (mem_range.mp hk);simp[ij,el,aL,PV.has,Fl.lend,Fl.toBor,PV.mapF];cases eld ps r (FA n cs) k<;>simp[oV,PV.has]
 ·cases eld ps r (FA n cs) k<;>simp[oV,PV.has]
 ·cases eld ps r (FA n cs) k<;>simp[oV,PV.has]
def oy(f:Nat->Int)(g:Nat->Option Int):∀l:List Nat,iY (iL (l.map f)) (oL (l.map g))=l.map fun i=>PV.tup [.int (f i),oV (g i)]
 | []=>rfl
 |i::l=>by have:=oy f g l;simp only[iL,oL,map_cons,iY]at this ⊢;rw[this]
def eqO(o:Option Int)(i:Int):pEq (oV o) (.int i)=.ok (.bl (decide (o=some i))):=by
 cases o with
 |none=>simp[oV,pEq,PV.data];rfl
 |some s=>simp[oV]
def gtR(l:List Int):(range l.length).map (gt l)=l:=by apply ext_getElem (by simp);intro i h1 h2;simp[gt,h2]
def rh(hn:cs.length=n):∀i,i<n->0<=gt (CN n cs) i/\gt (CN n cs) i<=n:=fun i hi=>by have hm:=cK (far:=CN n cs) (i:=i) (by simpa using hn▸hi);obtain⟨c,_,e⟩:=mem_map.mp hm;rw[<- e];have:=emod_nonneg c (show(n:Int)+1≠0 by omega);have:=emod_lt_of_pos c (show(0:Int) <(n:Int)+1 by omega);omega
def lq(hn:cs.length=n)(hx:x∈jT n ps r cs i):0<=x/\x<=n:=by obtain⟨j,hj,rfl⟩:=mem_map.mp hx;exact rh hn j (mem_range.mp (mem_filter.mp hj).1)
def wC:(jT n ps r cs i).length<=n:=by have:=length_filter_le (fun j=>decide (eld ps r (FA n cs) j=some (i:Int))) (range n);simpa[jT]using this
def C7(hfc:Fc fc)(n10:n<=10)(hnb:∀i:Nat,∀x∈nbL ps i,0<=x/\x<n)(hl:∀i:Nat,(nbL ps i).length<=1000)(hn:cs.length=n):C0 [gro .frz n ps r,.lst fc (iL cs),.int i]=.ok (.int (dcn n ps r cs i)):=by
 refine aD ?_;show DI [some (gro .frz n ps r),some (.lst fc (iL cs)),some (.int i),none]=_;unfold DI;have co:=mS (ps:=ps) (r:=r) hfc n10 hn;have eo:=uF (ps:=ps) (r:=r) hfc n10 hnb hl hn;have zp:iY (iL (CN n cs)) (oL (ELs n ps r (FA n cs)))=(range n).map fun j=>PV.tup [.int (gt (CN n cs) j),oV (eld ps r (FA n cs) j)]:=by
  have:=oy (gt (CN n cs)) (eld ps r (FA n cs)) (range n)
  rwa [show(range n).map (gt (CN n cs))=CN n cs by have:=gtR (CN n cs);rw[DQ,hn]at this;exact this]at this
 refine af (aB (v:=.lst .own (iL (jT n ps r cs i))) ?_ (by simp) rfl) ?_
 ·rw[show iL (jT n ps r cs i)=((range n).filter fun j=>decide (eld ps r (FA n cs) j=some (i:Int))).map fun j=>PV.int (gt (CN n cs) j) by simp[iL,jT]];refine aR (xs:=(range n).map fun j=>PV.tup [.int (gt (CN n cs) j),oV (eld ps r (FA n cs) j)]) ?_ (by simp;omega) (bQ (a:=fun j=>PV.tup [.int (gt (CN n cs) j),oV (eld ps r (FA n cs) j)]) (f:=fun j=>.int (gt (CN n cs) j)) (p:=fun j=>decide (eld ps r (FA n cs) j=some (i:Int))) (range n) fun j hj=>⟨[some (.int i),some (.int (gt (CN n cs) j)),some (oV (eld ps r (FA n cs) j))],?_,?_,fun _=>⟨by simp,rfl,rfl⟩⟩)
  ·unfold r_;rcases hfc with rfl|rfl<;>simp[dN,gw,co,eo,aL,PV.has,Fl.lend,Fl.toBor,PV.mapF,cZ,zp]
  ·cases eld ps r (FA n cs) j<;>rfl
  ·have ob:∀o:Option Int,PV.mapF Fl.lend (oV o)=oV o:=fun o=>by cases o<;>rfl
   simp[ob,eqO]
 simp only[s0_,s1_];have sm:nG (.lst .lnt (iL (jT n ps r cs i)))=.ok (.int (jT n ps r cs i).sum):=rC (by have:=wC (n:=n) (ps:=ps) (r:=r) (cs:=cs) (i:=i);omega) fun x hx=>by have:=lq hn hx;omega
 refine bj ?_ (by simp);simp[aq,bc,p1,sm,dcn,dq]
def Ad(hfc:Fc fc)(n1:1<=n)(n10:n<=10)(hnb:∀i:Nat,∀x∈nbL ps i,0<=x/\x<n)(hl:∀i:Nat,(nbL ps i).length<=1000)(hn:cs.length=n)(hi:i<n):w9 [gro .frz n ps r,.lst fc (iL cs),.int i]=.ok (.int (kh n ps r cs i)):=by
 refine aD ?_;show ya [some (gro .frz n ps r),some (.lst fc (iL cs)),some (.int i),none,none,none]=_;unfold ya;have fo:=sB (ps:=ps) (r:=r) hfc n10 hn;have co:=mS (ps:=ps) (r:=r) hfc n10 hn;have dc:=C7 (ps:=ps) (r:=r) (i:=i) hfc n10 hnb hl hn;have fl:(FA n cs).length=n:=by simpa using hn
 have cl:(CN n cs).length=n:=by simpa using hn
 have ld:=pp (.inl rfl) (cc:=5) (os:=fs n r) (st:=n) (tp:=n) (cs:=FA n cs) rfl (hnb i) (hl i) (by omega) fl (by simp[fs]) hi;refine af (aB (v:=.lst .own (iL (FA n cs))) (by rcases hfc with rfl|rfl<;>simp[fj,fo,aL,PV.has,Fl.lend,Fl.toBor,PV.mapF]) (by simp) rfl) ?_;simp only[s0_,s1_];unfold kh;generalize fF ps (fs n r) n n (FA n cs) i=df at *;refine af (aB (v:=.int df) (by simp[aq,bc,jY,ld,aL,PV.has,Fl.lend,Fl.toBor,PV.mapF]) (by simp) rfl) ?_;simp only[s0_,s1_];have ic:∀f,az (.lst f (iL (CN n cs))) (.int (i:Int))=.ok (.int (gt (CN n cs) i)):=fun f=>by simpa using bq (f:=f) (cs:=CN n cs) (i:=i) (by omega) (by omega)
 have ia:∀f,az (.lst f (iL (FA n cs))) (.int (i:Int))=.ok (.int (gt (FA n cs) i)):=fun f=>by simpa using bq (f:=f) (cs:=FA n cs) (i:=i) (by omega) (by omega)
 refine af (aB (v:=.int (gt (CN n cs) i)) (by rcases hfc with rfl|rfl<;>simp[dN,co,ic,aL,PV.has,Fl.lend,Fl.toBor,PV.mapF]) (by simp) rfl) ?_;simp only[s0_,s1_];have mu:gK (.int df) (.int ((n:Int)+1))=.ok (.int (df*((n:Int)+1))):=jN (.inr ⟨by omega,by omega⟩);by_cases q:df=gt (FA n cs) i
 ·rw[if_pos q];refine af (fG (by simp[ia,q]) (aB (v:=.int (dcn n ps r cs i)) (by rcases hfc with rfl|rfl<;>simp[eM,dc,aL,PV.has,Fl.lend,Fl.toBor,PV.mapF]) (by simp) rfl)) ?_;simp only[s0_,s1_];exact bj (by simp[aq,bc,mu]) (by simp)
 ·rw[if_neg q];refine af (bR (by simp[ia,q]) aG) ?_;exact bj (by simp[aq,bc,mu]) (by simp)
def cf(at_:Int):Int->List Int->List Int
 |_,[]=>[]
 |k,p::ps=>if p=at_ then k::cf at_ (k+1) ps else cf at_ (k+1) ps
def fO:∀{k:Int}{ps:List Int}{x:Int},x∈cf at_ k ps->k<=x/\x<k+ps.length/\ps[(x-k).toNat]?=some at_
 |_,[],x,h=>by simp[cf]at h
 |k,p::ps,x,h=>by
  have key:x∈cf at_ (k+1) ps->k<=x/\x<k+(p::ps).length/\(p::ps)[(x-k).toNat]?=some at_:=fun h=>by obtain⟨h1,h2,h3⟩:=fO h;refine⟨by omega,by simp only[length_cons];omega,?_⟩;rw[show(x-k).toNat=(x-(k+1)).toNat+1 by omega,getElem?_cons_succ];exact h3
  unfold cf at h;split at h
  ·rename_i hp
   rcases mem_cons.mp h with rfl|h
   ·refine⟨by omega,by simp only[length_cons];omega,by simp[hp]⟩
   ·exact key h
  ·exact key h
def pq{at_:Int}:∀{k:Int}{ps:List Int},(cf at_ k ps).length<=ps.length
 |_,[]=>by simp[cf]
 |k,p::ps=>by have:=pq (at_:=at_) (k:=k+1) (ps:=ps);unfold cf;split<;>simp<;>omega
def dS(cs l:List Int):Int:=(l.map fun k=>gt cs k.toNat).sum
def nZ(n:Nat)(ps cs:List Int)(i:Nat):Int:=min (n:Int) (1+dS cs (cf i 1 ps))
def kG{cs cs':List Int}:∀{l:List Int},(∀k∈l,gt cs k.toNat=gt cs' k.toNat)->dS cs l=dS cs' l
 | [],_=>rfl
 |k::l,h=>by have:=kG (cs:=cs) (cs':=cs') (l:=l) fun x hx=>h x (mem_cons_of_mem _ hx);simp only[dS,map_cons,sum_cons]at this ⊢;rw[h k mem_cons_self,this]
def oE{cs:List Int}:∀{l:List Int},(∀k∈l,0<=gt cs k.toNat)->0<=dS cs l
 | [],_=>by simp[dS]
 |k::l,h=>by have:=oE (cs:=cs) (l:=l) fun x hx=>h x (mem_cons_of_mem _ hx);have h2:=h k mem_cons_self;simp only[dS,map_cons,sum_cons]at this ⊢;omega
def hZ(l:List Int)(k:Nat)(h:k<l.length):gt l k=l[k]:=by simp[gt,h]
def rA:∀(l:List Int) (i:Nat) (d:Int),i<l.length->(l.set i (gt l i+d)).sum=l.sum+d
 | [],i,d,h=>by simp at h
 |x::l,0,d,_=>by simp[gt];omega
 |x::l,i+1,d,h=>by
  have:=rA l i d (by simpa using h);simp only[s1_,sum_cons];have e:gt (x::l) (i+1)=gt l i:=by simp[gt]
  rw[e,this];omega
def wz:∀{l:List Int},(∀x∈l,0<=x)->∀x∈l,x<=l.sum
 | [],_,x,h=>by simp at h
 |y::l,hp,x,h=>by
  have h1:∀{l:List Int},(∀x∈l,0<=x)->0<=l.sum:=fun {l}=>by
   intro h
   induction l with
   |nil=>simp
   |cons a l ih=>have:=ih fun x hx=>h x (mem_cons_of_mem _ hx);have:=h a mem_cons_self;simp;omega
  have h0:=h1 fun x hx=>hp x (mem_cons_of_mem y hx);have hy:=hp y mem_cons_self;simp only[sum_cons];rcases mem_cons.mp h with rfl|h
  ·omega
  ·have:=wz (fun x hx=>hp x (mem_cons_of_mem y hx)) x h;omega
def Tree(ps:List Int):Prop:=∀i (h:i<ps.length),0<=ps[i]/\ps[i]<= i
structure jB(ps hs:List Int)(j:Nat):Prop where
 len:hs.length=ps.length+1
 eqn:∀i:Nat,i<=ps.length->gt hs i=1+dS hs (cf i (j+1) (ps.drop j))
 bnd:∀i:Nat,i<=ps.length->1<=gt hs i/\gt hs i<=ps.length+1
 sum:(hs.take (j+1)).sum=ps.length+1
def jB.step{ps:List Int}(T:Tree ps)(h:jB ps hs (j+1))(hj:j<ps.length):jB ps (hs.set ps[j].toNat (gt hs ps[j].toNat+gt hs (j+1))) j:=by
 obtain⟨t1,t2⟩:=T j hj;have ln:=h.len;have ha:ps[j].toNat<hs.length:=by omega
 have gs:=fun i=>gv (far:=hs) (gt hs ps[j].toNat+gt hs (j+1)) ha i;have dr:ps.drop j=ps[j]::ps.drop (j+1):=List.drop_eq_getElem_cons hj;have later:∀i:Int,dS (hs.set ps[j].toNat (gt hs ps[j].toNat+gt hs (j+1))) (cf i (j+1+1) (ps.drop (j+1)))=dS hs (cf i (j+1+1) (ps.drop (j+1))):=fun i=>kG fun k hk=>by have:=fO hk;rw[gs,if_neg (by omega)]
 have e0:=h.eqn;have cast:((j+1:Nat):Int)+1=(j:Int)+1+1:=by omega
 rw[cast]at e0;have s1:(hs.set ps[j].toNat (gt hs ps[j].toNat+gt hs (j+1))).take (j+1)=(hs.take (j+1)).set ps[j].toNat (gt (hs.take (j+1)) ps[j].toNat+gt hs (j+1)):=by rw[List.take_set];congr 2;simp only[gt,getD_eq_getElem?_getD];rw[List.getElem?_take_of_lt (by omega)]
 have s2:(hs.take (j+1+1)).sum=(hs.take (j+1)).sum+gt hs (j+1):=by
  have hlt:j+1<hs.length:=by omega
  rw[take_add_one,getElem?_eq_getElem hlt,Option.toList_some,sum_append,List.sum_singleton];simp[gt,hlt]
 have s3:((hs.set ps[j].toNat (gt hs ps[j].toNat+gt hs (j+1))).take (j+1)).sum=ps.length+1:=by rw[s1,rA _ _ _ (by simp;omega),<- s2];exact h.sum
 have low:∀i:Nat,i<=ps.length->1<=gt (hs.set ps[j].toNat (gt hs ps[j].toNat+gt hs (j+1))) i:=fun i hi=>by rw[gs];have h1:=(h.bnd i hi).1;have h2:=(h.bnd (j+1) (by omega)).1;have h3:=(h.bnd ps[j].toNat (by omega)).1;split<;>omega
 refine⟨by simpa using ln,fun i hi=>?_,fun i hi=>⟨low i hi,?_⟩,s3⟩
 ·rw[dr];unfold cf;by_cases hc:ps[j]=(i:Int)
  ·rw[if_pos hc];have e1:dS (hs.set ps[j].toNat (gt hs ps[j].toNat+gt hs (j+1))) (((j:Int)+1)::cf (i:Int) (j+1+1) (ps.drop (j+1)))=gt hs (j+1)+dS hs (cf (i:Int) (j+1+1) (ps.drop (j+1))):=by have e2:=later i;simp only[dS,map_cons,sum_cons]at e2 ⊢;rw[e2,show((j:Int)+1).toNat=j+1 by omega,gs,if_neg (by omega)]
   rw[e1,gs,if_pos (by omega)];have:=e0 i hi;rw[show ps[j].toNat=i by omega];omega
  ·rw[if_neg hc,later,gs,if_neg (by omega)];exact e0 i hi
 ·by_cases hi2:i=ps[j].toNat
  ·have hm:gt (hs.set ps[j].toNat (gt hs ps[j].toNat+gt hs (j+1))) i ∈(hs.set ps[j].toNat (gt hs ps[j].toNat+gt hs (j+1))).take (j+1):=by rw[List.mem_take_iff_getElem];refine⟨i,by simp;omega,?_⟩;simp[gt,show i<hs.length by omega]
   have nn:∀x ∈(hs.set ps[j].toNat (gt hs ps[j].toNat+gt hs (j+1))).take (j+1),0<=x:=fun x hx=>by rw[List.mem_take_iff_getElem]at hx;obtain⟨k,hk,rfl⟩:=hx;simp at hk;have:=low k (by omega);rw[hZ _ _ (by simp;omega)]at this;omega
   have:=wz nn _ hm;omega
  ·rw[gs,if_neg hi2];exact(h.bnd i hi).2
def jB.first{ps:List Int}:jB ps ((range (ps.length+1)).map fun _=>(1:Int)) ps.length:=by
 have g:∀i,i<=ps.length->gt ((range (ps.length+1)).map fun _=>(1:Int)) i=1:=fun i hi=>by simp[gt,show i<ps.length+1 by omega]
 have sm:∀n:Nat,((range n).map fun _=>(1:Int)).sum=n:=fun n=>by
  induction n with
  |zero=>rfl
  |succ n ih=>rw[List.range_succ,map_append,sum_append,ih];simp
 refine⟨by simp,fun i hi=>?_,fun i hi=>by rw[g i hi];omega,?_⟩
 ·rw[g i hi,List.drop_length];simp[cf,dS]
 ·rw[List.take_of_length_le (by simp),sm];omega
structure lM(ps hs:List Int):Prop where
 len:hs.length=ps.length+1
 eqn:∀i:Nat,i<=ps.length->gt hs i=1+dS hs (cf i 1 ps)
 bnd:∀i:Nat,i<=ps.length->1<=gt hs i/\gt hs i<=ps.length+1
def jB.last{ps:List Int}(h:jB ps hs 0):lM ps hs:=⟨h.len,fun i hi=>by simpa using h.eqn i hi,h.bnd⟩
def lM.due{ps:List Int}(P:lM ps hs)(T:Tree ps)(hi:i<=ps.length)(h:∀k:Nat,i<k->k<=ps.length->gt cs k=gt hs k):nZ (ps.length+1) ps cs i=gt hs i:=by
 unfold nZ;have e:dS cs (cf i 1 ps)=dS hs (cf i 1 ps):=kG fun k hk=>by
  obtain⟨h1,h2,h3⟩:=fO hk;have hlt:(k-1).toNat<ps.length:=by omega
  rw[getElem?_eq_getElem hlt]at h3;have:=T _ hlt;rw[Option.some.inj h3]at this;exact h _ (by omega) (by omega)
 rw[e,<- P.eqn i hi];have:=(P.bnd i hi).2;rw[Int.min_eq_right];omega
def lM.calm{ps:List Int}(P:lM ps hs)(T:Tree ps)(hn:cs.length=ps.length+1)(h:∀i,i<cs.length->nZ (ps.length+1) ps cs i=gt cs i):cs=hs:=by
 have key:∀d i:Nat,i+d=ps.length->gt cs i=gt hs i:=by
  intro d
  induction d using Nat.strongRecOn with
  |_ d ih=>intro i hi;rw[<- h i (by omega)];exact P.due T (by omega) fun k h1 h2=>ih (ps.length-k) (by omega) k (by omega)
 have hl:=P.len;apply ext_getElem (by omega);intro i h1 h2;have:=key (ps.length-i) i (by omega);simpa[gt,h1,h2]using this
abbrev cnt(fl:Fl)(ps:List Int):PV:=.obj fl 3 [11,0,7,8] [.tup (iL ps),.int (ps.length+1),.int (ps.length+2),.bl false]
def tK{ps:List Int}:fT [.obj .own 3 [11] [.tup (iL ps)],.int (ps.length+1),.int (ps.length+2),.bl false]=.ok (cnt .own ps):=by refine cz (e:=[some (cnt .own ps),some (.int (ps.length+1)),some (.int (ps.length+2)),some (.bl false)]) ?_ rfl;show im [some (.obj .own 3 [11] [.tup (iL ps)]),some (.int (ps.length+1)),some (.int (ps.length+2)),some (.bl false)]=_;unfold im;refine af (bF (v:=.int (ps.length+1)) (ks:=[11]) (vs:=[.tup (iL ps)]) (by simp) rfl (by simp) rfl (by decide)) ?_;refine af (bF (v:=.int (ps.length+2)) (ks:=[11,0]) (vs:=[.tup (iL ps),.int (ps.length+1)]) (by simp) rfl (by simp) rfl (by decide)) ?_;exact bF (v:=.bl false) (ks:=[11,0,7]) (vs:=[.tup (iL ps),.int (ps.length+1),.int (ps.length+2)]) (by simp) rfl (by simp) rfl (by decide)
def uI{ps:List Int}:lz [.obj .own 3 [11] [.tup (iL ps)],.int (ps.length+1),.int (ps.length+2)]=.ok (cnt .own ps):=by refine cz (e:=[some (cnt .own ps),some (.int (ps.length+1)),some (.int (ps.length+2))]) ?_ rfl;show pX [some (.obj .own 3 [11] [.tup (iL ps)]),some (.int (ps.length+1)),some (.int (ps.length+2))]=_;unfold pX;exact fY (xs:=[.int (ps.length+1),.int (ps.length+2),.bl false]) rfl (by simp) (by simp) (by simpa using tK (ps:=ps)) (by simp[PV.has])
def C4{m:ME}{ps:List Int}(h:m env=.ok (.lst f (iL ps)))(hf:f.isLnt=false):ui m env=.ok (enP 1 (iL ps)):=by unfold ui;rw[h];simp[hf,cZ]
def qr{ps:List Int}(T:Tree ps)(hl:ps.length<=9)(hf:f=.bor\/f=.frz):CU [.lst f (iL ps)]=.ok .non:=by
 have hf1:f.lend=f:=by rcases hf with rfl|rfl<;>rfl
 have hf2:f.isLnt=false:=by rcases hf with rfl|rfl<;>rfl
 have key:∃e,DC [some (.lst f (iL ps)),none,none]=.next e:=by
  unfold DC;have s1:∀a:MS,mBr (aC (mOp pGt (au (p1 bZ) (ae (aa 0) am)) (mC (.int 9)))) a aZ [some (.lst f (iL ps)),none,none]=.next [some (.lst f (iL ps)),none,none]:=fun a=>bR (by simp[p1,bZ,aT];omega) aG
  suffices hh:∃e,c9 (ui (aa 0)) (tgT 2 (dg (tgN 1) (dg (tgN 2) kE))) (mBr ((g8 (aC (mOp pLt (aa 2) (mC (.int 0)))) (aC (mOp pGe (aa 2) (aa 1))))) (bw 2 (ae (mC (.str "a parent is no machine of a lower number than its kid")) am)) aZ) [some (.lst f (iL ps)),none,none]=.next e by obtain⟨e,h⟩:=hh;exact⟨e,af (s1 _) h⟩
  refine ku (fun _ e=>∃a b,e=[some (.lst f (iL ps)),a,b]) (fun r=>∃e,r=.next e) (xs:=enP 1 (iL ps)) (C4 (f:=f) (by simp[hf1]) hf2) ⟨_,_,rfl⟩ (fun k x e hx hP=>?_) (fun e hP=>⟨e,rfl⟩);obtain⟨a,b,rfl⟩:=hP;rw[ky]at hx;obtain⟨y,hy,rfl⟩:=map_eq_some_iff.mp hx;obtain⟨v,hv,rfl⟩:=qN hy;obtain⟨hk,ev⟩:=List.getElem?_eq_some_iff.mp hv;have:=T k hk;rw[ev]at this;refine⟨[some (.lst f (iL ps)),some (.int (1+k)),some (.int v)],rfl,.inl ⟨_,.inl (bR ?_ aG),_,_,rfl⟩⟩;simp[show ¬v<0 by omega,show ¬1+(k:Int)<= v by omega]
 obtain⟨e,h⟩:=key;exact fL ⟨e,h⟩
def xu{ps:List Int}(T:Tree ps)(hl:ps.length<=9)(hf:f.lend.toBor=.bor\/f.lend.toBor=.frz):CS [.obj .own 3 [] [],.lst f (iL ps)]=.ok (cnt .own ps):=by refine cz (e:=[some (cnt .own ps),some (.lst f (iL ps))]) ?_ rfl;show DA [some (.obj .own 3 [] []),some (.lst f (iL ps))]=_;unfold DA;have rf:=qr T hl hf;refine af (gx (v:=.non) (by simp[rf,aL])) ?_;refine af (bF (v:=.tup (iL ps)) (ks:=[]) (vs:=[]) (by simp[p1,dZ,aT]) rfl (by simp[PV.noLnt,PV.has]) rfl (by decide)) ?_;have:=fY (env:=[some (.obj .own 3 [11] [.tup (iL ps)]),some (.lst f (iL ps))]) (m:=lz) (ms:=ae (mOp aY (au (p1 bZ) (ae (aa 1) am)) (mC (.int 1))) (ae (mOp aY (au (p1 bZ) (ae (aa 1) am)) (mC (.int 2))) am)) (xs:=[.int (ps.length+1),.int (ps.length+2)]) rfl (by simp[p1,bZ,aT]) (by simp) (by simpa using uI (ps:=ps)) (by simp[PV.has]);exact this
def pM{env:En}{g:TgM}{mc:MT}{me:ME}{at_:Int}:∀(ps:List Int) (k:Int),(∀j v:Int,v∈ps->∃e1,g (.tup [.int j,.int v]) env=some e1/\mc e1=.ok (decide (v=at_))/\me e1=.ok (.int j))->dB g mc me env (enP k (iL ps))=.ok (iL (cf at_ k ps))
 | [],_,_=>rfl
 |p::ps,k,h=>by
  obtain⟨e1,h1,h2,h3⟩:=h k p mem_cons_self;have ih:=pM (at_:=at_) ps (k+1) fun j v hv=>h j v (mem_cons_of_mem _ hv);simp only[fQ,enP,dB];have b:(PV.tup [.int k,.int p]).borrow=.tup [.int k,.int p]:=by simp[PV.borrow]
  rw[b,h1];simp only[h2,Res.ok_bind];unfold cf;by_cases hc:p=at_
  ·simp[hc,h3,ih]
  ·simp[hc,ih]
def ux{ps:List Int}{i:Int}(hl:ps.length<=1000):CZ [cnt .bor ps,.int i]=.ok (.lst .own (iL (cf i 1 ps))):=by refine aD ?_;show DH [some (cnt .bor ps),some (.int i)]=_;unfold DH;refine bj (aR (xs:=enP 1 (iL ps)) ?_ (by rw[kx,bp];omega) (pM ps 1 fun j v _=>⟨[some (.int i),some (.int j),some (.int v)],by simp[tgT,dg,tgN,kE,aS,bH],by simp,by simp⟩)) (by simp);unfold zM;simp[aq,bc,aT]
def Sm(cs:List Int):Prop:=∀c∈cs,0<=c/\c<=1000
def An{ps:List Int}(hfc:Fc fc)(hl:ps.length<=9)(hs:Sm cs)(hn:cs.length=ps.length+1):CH [cnt .bor ps,.lst fc (iL cs),.int i]=.ok (.int (nZ (ps.length+1) ps cs i)):=by
 refine aD ?_;show Dn [some (cnt .bor ps),some (.lst fc (iL cs)),some (.int i)]=_;unfold Dn nZ dS;have ho:=ux (ps:=ps) (i:=(i:Int)) (by omega);have kl:=pq (at_:=(i:Int)) (k:=1) (ps:=ps);have hc:a6 [1] 1 (cb (cC bG (aa 0) (ae (aa 2) am))) (tgN 1) bX (mOp az (aa 0) (aa 1)) [some (cnt .bor ps),some (.lst fc (iL cs)),some (.int i)]=.ok (.lst .own (iL ((cf i 1 ps).map fun k=>gt cs k.toNat))):=by refine aR (xs:=iL (cf i 1 ps)) (by simp[bG,ho,aL]) (by rw[bp];omega) (d5 (fun k=>gt cs k.toNat) _ fun x hx=>⟨[some (.lst fc (iL cs)),some (.int x)],by simp[tgN,aS,bH,hfc.bo],?_⟩);obtain⟨h1,h2,_⟩:=fO hx;simp[hfc.le,bq (f:=fc) (cs:=cs) (i:=x) (by omega) (by omega)]
 have sm:nG (.lst .own (iL ((cf i 1 ps).map fun k=>gt cs k.toNat)))=.ok (.int ((cf i 1 ps).map fun k=>gt cs k.toNat).sum):=rC (by simp;omega) fun x hx=>by obtain⟨k,hk,rfl⟩:=mem_map.mp hx;obtain⟨h1,h2,_⟩:=fO hk;have:=hs _ (cK (far:=cs) (i:=k.toNat) (by omega));omega
 refine bj ?_ (by simp);simp only[de,bO,cr,eR,hc];simp[aq,bc,p1,sm,dq]
def InS(sp:Int)(cs:List Int):Prop:=∀c∈cs,0<=c/\c<sp
structure Rl(o:PV)(n:Nat)(sp:Int)(al ip:Bool)(D:List Int->Nat->Int):Prop where
 le:o.mapF Fl.lend=o
 tb:o.mapF Fl.toBor=o
 bo:o.mapF Fl.borrow=o
 a0:aq 0 o=.ok (.int n)
 a7:aq 7 o=.ok (.int sp)
 a8:aq 8 o=.ok (.bl al)
 s0:0<sp
 n1:1<=n
 n20:n<=20
 due:∀fc cs k,Fc fc->cs.length=n->InS sp cs->k<n->jM aK (.ok [.lst fc (iL cs),.int k]) o=.ok (.int (D cs k))/\0<=D cs k/\D cs k<sp
 rd:∀r,jM aI r o=r.bind fun xs=>aU gG (o::xs)
 mv:∀r,jM av r o=r.bind fun xs=>aU gI (o::xs)
 tu:∀r,jM aJ r o=r.bind fun xs=>aU gJ (o::xs)
 ca:∀r,jM aE r o=r.bind fun xs=>aU (if ip then zX else h_) (o::xs)
def mvR(n:Nat)(D:List Int->Nat->Int)(cs:List Int):List Int:=((range n).filter fun i=>decide (D cs i≠gt cs i)).map fun i:Nat=>(i:Int)
def stR(n:Nat)(D:List Int->Nat->Int)(cs nm:List Int):List Int:=(range n).map fun i:Nat=>if nm.contains (i:Int)then D cs i else gt cs i
def sT(n:Nat)(al:Bool)(nm:List Int):Prop:=nm.Nodup/\(∀x∈nm,0<=x/\x<n)/\(al=true->nm.length<=1)/\nm.length<=1000
def caR(n:Nat)(ip:Bool)(D:List Int->Nat->Int)(cs:List Int):Bool:=decide ((mvR n D cs).length=if ip then 1 else 0)
section
variable{o:PV}{n:Nat}{sp:Int}{al ip:Bool}{D:List Int->Nat->Int}{cs nm:List Int}{f fn:Fl}
def u8(r:Rl o n sp al ip D)(hn:cs.length=n)(hc:InS sp cs)(nm:List Int):(stR n D cs nm).length=n/\InS sp (stR n D cs nm):=by
 refine⟨by simp[stR],fun c hc'=>?_⟩;unfold stR at hc';obtain⟨i,hi,rfl⟩:=mem_map.mp hc';have hi:=mem_range.mp hi;split
 ·exact(r.due .bor cs i (.inl rfl) hn hc hi).2
 ·exact hc _ (cK (by omega))
def nM:(mvR n D cs).length<=n:=by
 unfold mvR;rw[length_map];have:=length_filter_le (fun i=>decide (D cs i≠gt cs i)) (range n)
 rwa [List.length_range]at this
def iy(r:Rl o n sp al ip D)(hf:Fc f\/f=.own)(hn:cs.length=n)(hc:InS sp cs):gI [o,.lst f (iL cs)]=.ok (.lst .own (iL (mvR n D cs))):=by
 have n20:=r.n20;have fb:=Fc.of hf;refine aD ?_;show xU [some o,some (.lst f (iL cs))]=_;unfold xU mvR;refine bj ?_ (by simp);refine aR (xs:=cq 0 n) (bI (n:=n) (by simp[r.le,r.a0]) (by omega)) (by rw[a_];omega) (lC (fun k=>decide (D cs k≠gt cs k)) (fun k=>(k:Int)) n fun k hk=>⟨[some o,some (.lst f.borrow (iL cs)),some (.int (0+k))],by simp[tgN,aS,bH,PV.borrow,r.bo],?_,fun _=>by simp⟩);generalize f.borrow=fc at *;have gk:az (.lst fc (iL cs)) (.int (k:Int))=.ok (.int (gt cs k)):=by simpa using bq (f:=fc) (cs:=cs) (i:=k) (by omega) (by omega)
 simp[r.le,fb.le,(r.due fc cs k fb hn hc hk).1,gk]
def Ao(r:Rl o n sp al ip D)(hf:Fc f\/f=.own)(hn:cs.length=n)(hc:InS sp cs):jM aE (.ok [.lst f (iL cs)]) o=.ok (.bl (caR n ip D cs)):=by
 have e:∀f',Fc f'\/f'=.own->(if ip then zX else h_) [o,.lst f' (iL cs)]=.ok (.bl (caR n ip D cs)):=fun f' hf=>by
  have fb:Fc f'.lend.toBor:=by
   rcases hf with(rfl|rfl)|rfl
   ·exact .inl rfl
   ·exact .inr rfl
   ·exact .inl rfl
  have mo:=iy r (.inl fb) hn hc;cases ip with
  |false=>refine aD ?_;show xN [some o,some (.lst f' (iL cs))]=_;unfold xN caR;exact bj (by simp[r.le,r.tb,r.mv,mo,aL]) (by simp)
  |true=>
   refine aD ?_;show Dp [some o,some (.lst f' (iL cs))]=_;unfold Dp caR;have e1:((mvR n D cs).length:Int)=1 ↔(mvR n D cs).length=1:=by omega
   exact bj (by simp[r.le,r.tb,r.mv,mo,aL,e1]) (by simp)
 have hf2:Fc f.toBor\/f.toBor=.own:=by
  rcases hf with(rfl|rfl)|rfl
  ·exact .inl (.inl rfl)
  ·exact .inl (.inr rfl)
  ·exact .inr rfl
 simp[r.ca,r.tb,e _ hf2,aL]
def tN(r:Rl o n sp al ip D)(hf:Fc fn)(hg:sT n al nm):w6 [o,.lst fn (iL nm)]=.ok .non:=by
 obtain⟨hd,hr,ha,hl⟩:=hg;refine fL ?_;show Ends (xY [some o,some (.lst fn (iL nm)),none]);unfold xY;refine ig (bR ?_ aG) ?_
 ·cases al with
  |false=>simp[r.le,r.a8]
  |true=>have:=ha rfl;simp[r.le,r.a8];omega
 refine xj (fun _ e=>∃x,e=[some o,some (.lst fn (iL nm)),x]) (xs:=iL nm) (fK (f:=fn) (by simp[hf.le]) hf.nl (by simp) (by simp)) ⟨_,rfl⟩ (fun k x e hx hP=>?_) (fun e hP=>?_)
 ·obtain⟨y,rfl⟩:=hP;obtain⟨m,hm,rfl⟩:=qN hx;obtain⟨h1,h2⟩:=hr m (List.mem_of_getElem? hm);refine⟨_,cN rfl,b0 (bR ?_ aG) ⟨_,rfl⟩⟩;simp[r.le,r.a0,show ¬m<0 by omega,show ¬(n:Int)<= m by omega]
 ·obtain⟨y,rfl⟩:=hP;exact uE (bR (by simp[mI hl,pK hd]) aG)
def Fc.call(h:Fc f\/f=.own):Fc f.lend.toBor:=by
 rcases h with(rfl|rfl)|rfl
 ·exact .inl rfl
 ·exact .inr rfl
 ·exact .inl rfl
def sU(r:Rl o n sp al ip D)(hf:Fc f\/f=.own)(hfn:Fc fn\/fn=.own)(hn:cs.length=n)(hc:InS sp cs)(hg:sT n al nm):gJ [o,.lst f (iL cs),.lst fn (iL nm)]=.ok (.lst .own (iL (stR n D cs nm))):=by
 have n20:=r.n20;have fb:=Fc.of hf;refine aD ?_;show xX [some o,some (.lst f (iL cs)),some (.lst fn (iL nm))]=_;unfold xX stR;refine af (gx (v:=.non) (by simp[r.le,r.tb,tN r (Fc.call hfn) hg,aL])) (bj ?_ (by simp));refine aR (xs:=cq 0 n) (bI (n:=n) (by simp[r.le,r.a0]) (by omega)) (by rw[a_];omega) (d4 0 (fun i:Nat=>if nm.contains (i:Int)then D cs i else gt cs i) n fun k hk=>⟨[some (.lst fn.borrow (iL nm)),some o,some (.lst f.borrow (iL cs)),some (.int (0+k))],by simp[tgN,aS,bH,PV.borrow,r.bo],?_⟩);generalize f.borrow=fc at *;have gk:∀f,az (.lst f (iL cs)) (.int (k:Int))=.ok (.int (gt cs k)):=fun f=>by simpa using bq (f:=f) (cs:=cs) (i:=k) (by omega) (by omega)
 have dk:=(r.due fc cs k fb hn hc hk).1;by_cases q:nm.contains (k:Int)=true
 ·simp only[q,if_true];simp at q;simp[q,r.le,fb.le,dk,aL]
 ·simp only[q];simp at q;simp[q,gk]
def dnR(n:Nat)(D:List Int->Nat->Int)(cs nm:List Int):List Int:=(mvR n D cs).filter fun a=>nm.contains a
def tB(r:Rl o n sp al ip D)(hf:Fc f)(hfn:Fc fn)(hn:cs.length=n)(hc:InS sp cs)(hg:sT n al nm):wS [o,.lst f (iL cs),.lst fn (iL nm)]=.ok (.tup [.lst .own (iL (dnR n D cs nm)),.lst .own (iL (stR n D cs nm))]):=by
 have n20:=r.n20;have ml:=nM (n:=n) (D:=D) (cs:=cs);refine aD ?_;show xF [some o,some (.lst f (iL cs)),some (.lst fn (iL nm)),none,none]=_;unfold xF;refine af (aB (v:=.lst .own (iL (stR n D cs nm))) (by simp[r.le,r.tb,r.tu,hf.le,hf.tb,hfn.le,hfn.tb,sU r (.inl hf) (.inl hfn) hn hc hg,aL]) (by simp) rfl) ?_;simp only[s0_,s1_];refine af (aB (v:=.lst .own (iL (dnR n D cs nm))) ?_ (by simp) rfl) ?_
 ·refine aR (xs:=iL (mvR n D cs)) (by simp[r.le,r.tb,r.mv,hf.le,hf.tb,iy r (.inl hf) hn hc,aL]) (by simp;omega) ?_;have:=eE (env:=bH [2] 1 [some o,some (.lst f (iL cs)),some (.lst fn (iL nm)),some (.lst .own (iL (stR n D cs nm))),none]) (g:=tgN 1) (mc:=aC (mOp pIn (aa 1) (aa 0))) (me:=aa 1) (fun a=>nm.contains a) (fun a=>a) (mvR n D cs) fun x hx=>⟨[some (.lst fn (iL nm)),some (.int x)],by simp[tgN,aS,bH,PV.borrow,hfn.bo],by simp,fun _=>by simp⟩
  unfold dnR;rw[map_id']at this;exact this
 ·simp only[s0_,s1_];rfl
def cP(f:Fl)(p:List Int×List Int):PV:=.tup [.lst f (iL p.1),.lst f (iL p.2)]
def EE(n:Nat)(D:List Int->Nat->Int):List Int->List (List Int)->List (List Int×List Int)
 |_,[]=>[]
 |cs,nm::tns=>(dnR n D cs nm,stR n D cs nm)::EE n D (stR n D cs nm) tns
def oO{p:Fl->Bool}(h:p f=false)(ps:List (List Int×List Int)):hasL p (ps.map (cP f))=false:=by
 induction ps with
 |nil=>simp
 |cons a l ih=>simp[ih,cP,h]
@[simp] def EF(ps:List (List Int×List Int)):mapL g (ps.map (cP f))=ps.map (cP (g f)):=by
 induction ps with
 |nil=>simp
 |cons a l ih=>simp[ih,cP]
def rL(r:Rl o n sp al ip D)(hn:rs.length=n):gG [o,.lst f (iL rs)]=.ok (.lst .own (iL (rs.map (· % sp)))):=by have n20:=r.n20;refine aD ?_;show xP [some o,some (.lst f (iL rs))]=_;unfold xP;refine af (bR (by simp[r.le,r.a0,hn]) aG) (bj ?_ (by simp));refine aR (xs:=iL rs) (by simp) (by simp;omega) ?_;exact d5 (· % sp) rs fun x hx=>⟨[some o,some (.int x)],by simp[tgN,aS,bH,PV.borrow,r.bo],by simp[r.le,r.a7,bV r.s0]⟩
def wn(r:Rl o n sp al ip D):InS sp (rs.map (· % sp)):=fun c hc=>by obtain⟨x,_,rfl⟩:=mem_map.mp hc;have:=r.s0;exact⟨emod_nonneg _ (by omega),emod_lt_of_pos _ r.s0⟩
end
abbrev nC(f:Fl)(size span:Int):PV:=.obj f 9 [0,7,8] [.int size,.int span,.bl false]
def vJ{size span:Int}(h1:2<=size)(h2:size<=20)(h3:size<=span):CM [.obj .own 9 [] [],.int size,.int span]=.ok (nC .own size span):=by
 refine cz (e:=[some (nC .own size span),some (.int size),some (.int span)]) ?_ rfl;show Dt [some (.obj .own 9 [] []),some (.int size),some (.int span)]=_;unfold Dt;refine af (bR (by simp[show ¬size<2 by omega,show ¬20<size by omega]) aG) ?_;refine af (bR (by simp[show ¬span<size by omega]) aG) ?_;have ri:fT [.obj .own 9 [] [],.int size,.int span,.bl false]=.ok (nC .own size span):=by refine cz (e:=[some (nC .own size span),some (.int size),some (.int span),some (.bl false)]) ?_ rfl;show im [some (.obj .own 9 [] []),some (.int size),some (.int span),some (.bl false)]=_;unfold im;refine af (bF (v:=.int size) (ks:=[]) (vs:=[]) (by simp) rfl (by simp) rfl (by decide)) ?_;refine af (bF (v:=.int span) (ks:=[0]) (vs:=[.int size]) (by simp) rfl (by simp) rfl (by decide)) ?_;exact bF (v:=.bl false) (ks:=[0,7]) (vs:=[.int size,.int span]) (by simp) rfl (by simp) rfl (by decide)
 have:=fY (env:=[some (.obj .own 9 [] []),some (.int size),some (.int span)]) (m:=fT) (ms:=ae (aa 1) (ae (aa 2) (ae (mC (.bl false)) am))) (xs:=[.int size,.int span,.bl false]) rfl (by simp) (by simp) (by simpa using ri) (by simp[PV.has]);simpa using this
def jw(sp:Int)(cs:List Int)(i:Nat):Int:=if i=0 then(if gt cs 0=gt cs (cs.length-1)then(gt cs 0+1)%sp else gt cs 0)else gt cs (i-1)
def zo(hfc:Fc fc)(hn:cs.length=n)(hi:i<n)(hs:0<sp):w8 [nC .bor n sp,.lst fc (iL cs),.int i]=.ok (.int (jw sp cs i)):=by
 refine aD ?_;show x_ [some (nC .bor n sp),some (.lst fc (iL cs)),some (.int i)]=_;unfold x_ jw;by_cases h0:i=0
 ·subst h0;rw[if_pos rfl];have g0:az (.lst fc (iL cs)) (.int 0)=.ok (.int (gt cs 0)):=bq (by omega) (by omega);have gl:az (.lst fc (iL cs)) (.int ((n:Int)-1))=.ok (.int (gt cs (cs.length-1))):=by rw[bq (by omega) (by omega)];congr 3;omega
  refine af (bR (by simp) aG) ?_;by_cases hc:gt cs 0=gt cs (cs.length-1)
  ·rw[if_pos hc];exact cw (fG (by simp[aq,bc,hfc.le,g0,gl,<- hc]) (bj (by simp[aq,bc,hfc.le,g0,bV hs]) (by simp)))
  ·rw[if_neg hc];exact af (bR (by simp[aq,bc,hfc.le,g0,gl,hc]) aG) (bj (by simp[hfc.le,g0]) (by simp))
 ·rw[if_neg h0];have gl:az (.lst fc (iL cs)) (.int ((i:Int)-1))=.ok (.int (gt cs (i-1))):=by rw[bq (by omega) (by omega)];congr 3;omega
  exact cw (fG (by simp;omega) (bj (by simp[hfc.le,gl]) (by simp)))
def Ac(hn:cs.length=n)(hc:InS sp cs)(hi:i<n)(hs:0<sp):0<=jw sp cs i/\jw sp cs i<sp:=by
 unfold jw;split
 ·split
  ·exact⟨emod_nonneg _ (by omega),emod_lt_of_pos _ hs⟩
  ·exact hc _ (cK (by omega))
 ·exact hc _ (cK (by omega))
def y0(h1:1<=n)(h20:n<=20)(hs:0<sp):Rl (nC .bor n sp) n sp false true (jw sp) where
 le:=by simp
 tb:=by simp
 bo:=by simp
 a0:=by simp[aq,bc]
 a7:=by simp[aq,bc]
 a8:=by simp[aq,bc]
 s0:=hs
 n1:=h1
 n20:=h20
 due:=fun fc cs k hfc hn hc hk=>⟨by simp[aK,hfc.tb,zo hfc hn hk hs,aL],Ac hn hc hk hs⟩
 rd:=fun r=>by simp[aI]
 mv:=fun r=>by simp[av]
 tu:=fun r=>by simp[aJ]
 ca:=fun r=>by simp[aE]
def vy(h1:1<=n)(h20:n<=20)(rg:∀x∈ps,0<=x.1/\x.1<n/\0<=x.2/\x.2<n/\x.1≠x.2)(hl:∀i,(nbL ps i).length<=1000):Rl (pnt .frz n ps) n n false false (nY ps) where
 le:=by simp
 tb:=by simp
 bo:=by simp
 a0:=by simp[aq,bc]
 a7:=by simp[aq,bc]
 a8:=by simp[aq,bc]
 s0:=by omega
 n1:=h1
 n20:=h20
 due:=fun fc cs k hfc hn hc hk=>⟨by simp[aK,hfc.tb,yu rg hfc hl hn hk,aL],Ab rg hk⟩
 rd:=fun r=>by simp[aI]
 mv:=fun r=>by simp[av]
 tu:=fun r=>by simp[aJ]
 ca:=fun r=>by simp[aE]
def vz{ps:List Int}(hl:ps.length<=9):Rl (cnt .bor ps) (ps.length+1) ((ps.length:Int)+2) false false (nZ (ps.length+1) ps) where
 le:=by simp
 tb:=by simp
 bo:=by simp
 a0:=by simp[aq,bc]
 a7:=by simp[aq,bc]
 a8:=by simp[aq,bc]
 s0:=by omega
 n1:=by omega
 n20:=by omega
 due:=fun fc cs k hfc hn hc hk=>by
  have sm:Sm cs:=fun c hc'=>by have:=hc c hc';omega
  refine⟨by simp[aK,hfc.tb,An (i:=k) hfc hl sm hn,aL],?_⟩;have nn:=oE (cs:=cs) (l:=cf k 1 ps) fun j hj=>by obtain⟨h1,h2,_⟩:=fO hj;exact(hc _ (cK (far:=cs) (i:=j.toNat) (by omega))).1
  unfold nZ;omega
 rd:=fun r=>by simp[aI]
 mv:=fun r=>by simp[av]
 tu:=fun r=>by simp[aJ]
 ca:=fun r=>by simp[aE]
def sK(ht:0<=tp)(ho:OkS tp os)(hn:cs.length=n)(hnb:∀x∈nbL ps i,0<=x/\x<n)(hc:∀c∈cs,0<=c):0<=fF ps os st tp cs i/\fF ps os st tp cs i<=tp:=by
 unfold fF;obtain⟨m1,m2⟩:=ff (l:=gL ps st tp cs i ++(os.getD i none).toList++[tp]) (by simp);have h2:=m2 tp (by simp);generalize fv (gL ps st tp cs i ++(os.getD i none).toList++[tp])=M at *;refine⟨?_,h2⟩;rcases mem_append.mp m1 with q|q
 ·rcases mem_append.mp q with q|q
  ·unfold gL at q;obtain⟨c,hc1,rfl⟩:=mem_map.mp q;obtain⟨o,ho1,rfl⟩:=mem_map.mp (mem_filter.mp hc1).1;have:=hnb o ho1;have:=hc _ (cK (far:=cs) (i:=o.toNat) (by omega));omega
  ·have e:os.getD i none=some M:=by
    cases eo:os.getD i none with
    |none=>rw[eo]at q;cases q
    |some s=>rw[eo]at q;exact congrArg some (mem_singleton.mp q).symm
   have hm:some M∈os:=by
    rw[getD_eq_getElem?_getD]at e;cases e2:os[i]? with
    |none=>rw[e2]at e;cases e
    |some x=>rw[e2]at e;rw[<- show x=some M from e];exact List.mem_of_getElem? e2
   exact(ho M hm).1
 ·have:=mem_singleton.mp q;omega
def oP(hcc:cc=5\/cc=6)(h1:1<=n)(h20:n<=20)(hst:0<st)(ht:0<=tp)(ho:OkS tp os)(hol:os.length=n)(hnb:∀i:Nat,∀x∈nbL ps i,0<=x/\x<n)(hl:∀i,(nbL ps i).length<=1000):Rl (lea .frz cc n ps os st tp) n (tp+1) true false (fF ps os st tp) where
 le:=by simp
 tb:=by simp
 bo:=by simp
 a0:=by simp[aq,bc]
 a7:=by simp[aq,bc]
 a8:=by simp[aq,bc]
 s0:=by omega
 n1:=h1
 n20:=h20
 due:=fun fc cs k hfc hn hc hk=>by have d:=pp (cc:=cc) (ps:=ps) (os:=os) (st:=st) (tp:=tp) (cs:=cs) (i:=k) hfc (by rcases hcc with rfl|rfl<;>rfl) (hnb k) (hl k) hst hn hol hk;have b:=sK (st:=st) (i:=k) ht ho hn (hnb k) fun c hc'=>(hc c hc').1;refine⟨?_,b.1,by omega⟩;rcases hcc with rfl|rfl<;>simp[aK,hfc.tb,d,aL]
 rd:=fun r=>by rcases hcc with rfl|rfl<;>simp[aI]
 mv:=fun r=>by rcases hcc with rfl|rfl<;>simp[av]
 tu:=fun r=>by rcases hcc with rfl|rfl<;>simp[aJ]
 ca:=fun r=>by rcases hcc with rfl|rfl<;>simp[aE]
def wO(h:1<=n):OkS n (fs n r):=fun s hs=>by
 simp only[fs,mem_map,mem_range]at hs;obtain⟨i,_,e⟩:=hs;split at e
 ·cases e;omega
 ·cases e
def Ae(h1:1<=n)(hn:cs.length=n)(hi:i<n)(hnb:∀i:Nat,∀x∈nbL ps i,0<=x/\x<n)(hc:InS (((n:Int)+1)*((n:Int)+1)) cs):0<=kh n ps r cs i/\kh n ps r cs i <((n:Int)+1)*((n:Int)+1):=by
 have hfa:∀c∈FA n cs,0<=c:=fun c hc'=>by obtain⟨x,hx,rfl⟩:=mem_map.mp hc';exact Int.ediv_nonneg (hc x hx).1 (by omega)
 obtain⟨b1,b2⟩:=sK (ps:=ps) (os:=fs n r) (st:=n) (tp:=n) (cs:=FA n cs) (i:=i) (by omega) (wO h1) (show(FA n cs).length=n by simpa using hn) (hnb i) hfa;have c1:=rh hn i hi;have sn:0 <=(jT n ps r cs i).sum:=by
  have:∀l:List Int,(∀x∈l,0<=x)->0<=l.sum:=fun l=>by
   induction l with
   |nil=>simp
   |cons a l ih=>intro h;have:=ih fun x hx=>h x (mem_cons_of_mem _ hx);have:=h a mem_cons_self;simp;omega
  exact this _ fun x hx=>(lq hn hx).1
 unfold kh dcn;generalize fF ps (fs n r) n n (FA n cs) i=d at *;have m1:0<=d*((n:Int)+1):=Int.mul_nonneg b1 (by omega);have m2:d*((n:Int)+1)<= n*((n:Int)+1):=Int.mul_le_mul_of_nonneg_right b2 (by omega);have m3:((n:Int)+1)*((n:Int)+1)=n*((n:Int)+1)+((n:Int)+1):=by rw[Int.add_mul,Int.one_mul]
 split<;>omega
def y2(h1:1<=n)(h10:n<=10)(hnb:∀i:Nat,∀x∈nbL ps i,0<=x/\x<n)(hl:∀i:Nat,(nbL ps i).length<=1000):Rl (gro .frz n ps r) n (((n:Int)+1)*((n:Int)+1)) true false (kh n ps r) where
 le:=by simp
 tb:=by simp
 bo:=by simp
 a0:=by simp[aq,bc]
 a7:=by simp[aq,bc]
 a8:=by simp[aq,bc]
 s0:=Int.mul_pos (by omega) (by omega)
 n1:=h1
 n20:=by omega
 due:=fun fc cs k hfc hn hc hk=>⟨by simp[aK,hfc.tb,Ad (r:=r) hfc h1 h10 hnb hl hn hk,aL],Ae h1 hn hk hnb hc⟩
 rd:=fun r=>by simp[aI]
 mv:=fun r=>by simp[av]
 tu:=fun r=>by simp[aJ]
 ca:=fun r=>by simp[aE]
def tri:Nat->Nat
 |0=>0
 |k+1=>tri k+k
def rM{α:Type}(y:α)(xs:List α):PR.gT xs.length y xs=xs++[y]:=by simp[PR.gT]
def yp(ti mo:Int)(n1:1<=n)(n2:n<=10):∃ts ms:List (Int×Int),wW [.int n,.int ti,.int mo]=.ok (.lst .own (prL (ts++ms)))/\fk n 55 (ts++ms)/\ts.length+1=n/\Tree (ts.map (·.1)):=by
 suffices hh:lL (xL [some (.int n),some (.int ti),some (.int mo),none,none,none]) (fun v=>∃ts ms:List (Int×Int),v=.lst .own (prL (ts++ms))/\fk n 55 (ts++ms)/\ts.length+1=n/\Tree (ts.map (·.1))) by obtain⟨v,h1,ts,ms,rfl,h2⟩:=hh;exact⟨ts,ms,aD h1,h2⟩
 unfold xL;obtain⟨od,hod⟩:∃od:List Int,od=(range n).map fun k:Nat=>(k:Int):=⟨_,rfl⟩
 have hlen:od.length=n:=by rw[hod];simp
 have odn:od.Nodup:=by rw[hod];exact Pairwise.map _ (fun a b h z=>h (by omega)) nodup_range
 have od1:∀i:Nat,i<n->od.getD i 0=(i:Int):=fun i hi=>by rw[hod];simp[hi]
 refine cF (aB (v:=.lst .own []) (by simp) (by simp) rfl) ?_;simp only[s0_,s1_];refine ja (fun q e=>∃ws t a,e=[some (.int n),some (.int t),some (.int mo),some (.lst .own (prL ws)),a,none]/\PR.Tree n od (q+1) ws/\Tree (ws.map (·.1))/\∀w∈ws,w.1<w.2) (xs:=cq 1 (n-1)) ?_ ⟨[],ti,_,rfl,PR.Tree.start hlen n1,fun i h=>by simp at h,fun w h=>nomatch h⟩ (fun q x e hx hP=>?_) (fun e hP=>?_)
 ·rw[rJ (lo:=1) (hi:=n) (by simp) (by omega) (by omega)];rw[show((n:Int)-1).toNat=n-1 by omega]
 ·obtain⟨ws,t,a,rfl,T,G1,G2⟩:=hP;obtain⟨hq,rfl⟩:=eA hx;have lt:=T.ln;have kp:(0:Int)<1+(q:Int):=by omega
  have b1:=emod_nonneg t (show(1:Int)+q≠0 by omega);have b2:=emod_lt_of_pos t kp;have dv:fM (.int t) (.int (1+(q:Int)))=.ok (.int (t / (1+(q:Int)))):=iS kp (by omega);refine⟨_,cN rfl,cT (fW (v:=prV (t%(1+(q:Int)),1+(q:Int))) (xs:=prL ws) (by simp[bV kp,prV]) rfl (by simp) (by rw[iu];omega)) (b0 (aB (v:=.int (t / (1+(q:Int)))) (by simp[dv]) (by simp) rfl) ⟨ws++[(t%(1+(q:Int)),1+(q:Int))],t / (1+(q:Int)),some (.int (1+(q:Int))),by simp[prL],?_,fun i h=>?_,fun w hw=>?_⟩)⟩
  ·rw[<- rM];refine T.more (j:=(t%(1+(q:Int))).toNat) odn (by omega) (by omega) (.inr ?_);rw[od1 _ (by omega),od1 _ (by omega)];congr 1<;>omega
  ·rw[length_map,length_append,List.length_singleton]at h;simp only[map_append,map_cons,map_nil];by_cases z:i<ws.length
   ·rw[List.getElem_append_left (by simpa using z)];exact G1 i (by simpa using z)
   ·rw[List.getElem_append_right (by simpa using z)];simp;omega
  ·rcases mem_append.mp hw with hw|hw
   ·exact G2 w hw
   ·rw[mem_singleton.mp hw];exact b2
 obtain⟨ts,t,a,rfl,T,G1,G2⟩:=hP;rw[a_,show n-1+1=n by omega]at T;have Wh:=T.whole (by rw[hod]);have tln:=T.ln;have t10:∀k,k<=10->tri k<=45:=by decide
 refine ja (fun k e=>∃ms m a b,e=[some (.int n),some (.int t),some (.int m),some (.lst .own (prL (ts++ms))),a,b]/\fk n (10+tri k) (ts++ms)/\∀w∈ts++ms,w.2<w.1->w.1<k) (bI (n:=n) (by simp) (by omega)) ⟨[],mo,a,none,by simp,by rw[append_nil];exact⟨Wh.rg,Wh.nd,Nat.le_trans Wh.ln n2,Wh.cn⟩,fun w hw h=>by rw[append_nil]at hw;have:=G2 w hw;omega⟩ (fun k x e hx hP=>?_) (fun e hP=>?_)
 ·obtain⟨ms,m,a,b,rfl,Wh,lo⟩:=hP;obtain⟨hk,rfl⟩:=eA hx;refine⟨_,cN rfl,?_⟩;simp only[s0_,s1_,Int.zero_add];have tk:=t10 k (by omega);refine fS (fun j e=>∃ms m b,e=[some (.int n),some (.int t),some (.int m),some (.lst .own (prL (ts++ms))),some (.int k),b]/\fk n (10+tri k+j) (ts++ms)/\∀w∈ts++ms,w.2<w.1->w.1<k \/(w.1=k/\w.2<j)) (bI (n:=k) (by simp) (by omega)) ⟨ms,m,_,rfl,Wh,fun w hw h=>.inl (lo w hw h)⟩ (fun j y e hy hP=>?_) (fun e hP=>?_)
  ·obtain⟨ms,m,b,rfl,Wh,lo⟩:=hP;obtain⟨hj,rfl⟩:=eA hy;have wl:=Wh.ln;have d3:fM (.int m) (.int 3)=.ok (.int (m / 3)):=iS (by decide) (by decide);refine⟨_,cN rfl,?_⟩;simp only[s0_,s1_,Int.zero_add];by_cases hc:m%3=0/\((j:Int),(k:Int))∉ ts++ms
   ·obtain⟨c1,c2⟩:=hc;have c3:((k:Int),(j:Int))∉ ts++ms:=fun z=>by have:=lo _ z (show(j:Int)<k by omega);dsimp only at this;omega
    refine cT (fG (by simp only[nW,jv,eR,xb,bO,cr,cD,pI];simp[p8,bV,c1];simpa using c2) (fW (v:=prV ((k:Int),(j:Int))) (xs:=prL (ts++ms)) (by simp;rfl) rfl (by simp) (by rw[iu];omega))) (b0 (aB (v:=.int (m / 3)) (by simp[d3]) (by simp) rfl) ⟨ms++[((k:Int),(j:Int))],m / 3,some (.int j),by simp[prL],?_,fun w hw h=>?_⟩)
    ·rw[<- append_assoc,<- rM];exact Wh.more ⟨by omega,by omega⟩ ⟨by omega,by omega⟩ (by omega) c3 c2
    ·rw[<- append_assoc]at hw;rcases mem_append.mp hw with hw|hw
     ·have:=lo w hw h;omega
     ·rw[mem_singleton.mp hw];exact .inr ⟨rfl,by dsimp only;omega⟩
   ·refine cT (bR ?_ aG) (b0 (aB (v:=.int (m / 3)) (by simp[d3]) (by simp) rfl) ⟨ms,m / 3,some (.int j),rfl,Wh.keep,fun w hw h=>?_⟩)
    ·by_cases c1:m%3=0
     ·have c2:((j:Int),(k:Int))∈ ts++ms:=Classical.byContradiction fun z=>hc ⟨c1,z⟩;simp only[nW,jv,eR,xb,bO,cr,cD,pI];simp[p8,bV,c1];exact fun z=>(mem_append.mp c2).resolve_left z
     ·simp[bV,c1]
    ·have:=lo w hw h;omega
  ·obtain⟨ms,m,b,rfl,Wh,lo⟩:=hP;rw[a_]at Wh lo;exact⟨ms,_,_,_,rfl,by rw[show 10+tri (k+1)=10+tri k+k by simp[tri];omega];exact Wh,fun w hw h=>by have:=lo w hw h;omega⟩
 ·obtain⟨ms,m,a,b,rfl,Wh,_⟩:=hP;rw[a_]at Wh;have tn:=t10 n n2;exact ir (fA rfl) ⟨ts,ms,rfl,⟨Wh.rg,Wh.nd,by have:=Wh.ln;omega,Wh.cn⟩,tln,G1⟩
def xi{α β:Type}(f:α->β):∀(l:List α) (j:Nat),(l.map f).eraseIdx j=(l.eraseIdx j).map f
 | [],_|_::_,0=>rfl
 |x::l,j+1=>by simp[xi f l j]
def nX:∀(l:List Int) (j:Nat) (h:j<l.length),(l[j]::l.eraseIdx j).Perm l
 |_::_,0,_=>.refl _
 |x::l,j+1,h=>(List.Perm.swap _ _ _).trans ((nX l j (by simpa using h)).cons x)
def Ci(c:Int)(n2:n<=10):∃ms:List Int,wX [.int n,.int c]=.ok (.lst .own (iL ms))/\OkM n ms:=by
 suffices hh:lL (xM [some (.int n),some (.int c),none,none,none]) (fun v=>∃ms:List Int,v=.lst .own (iL ms)/\OkM n ms) by obtain⟨v,h1,ms,rfl,h2⟩:=hh;exact⟨ms,aD h1,h2⟩
 unfold xM;refine cF (aB (v:=.lst .own (iL [0,1,2,3,4,5,6,7,8,9])) rfl (by simp) rfl) ?_;simp only[s0_,s1_];refine cF (aB (v:=.lst .own []) (by simp) (by simp) rfl) ?_;simp only[s0_,s1_];refine ja (fun k e=>∃po ms c a,e=[some (.int n),some (.int c),some (.lst .own (iL po)),some (.lst .own (iL ms)),a]/\ms.length=k/\po.length+k=10/\(ms++po).Nodup/\∀x∈ms++po,0<=x/\x<=9) (bI (n:=n) (by simp) (by omega)) ⟨[0,1,2,3,4,5,6,7,8,9],[],c,none,rfl,rfl,rfl,by decide,by decide⟩ (fun k x e hx hP=>?_) (fun e hP=>?_)
 ·obtain⟨po,ms,c,a,rfl,l1,l2,nd,rg⟩:=hP;obtain⟨hk,rfl⟩:=eA hx;have kp:(0:Int)<po.length:=by omega
  have b1:=emod_nonneg c (show(po.length:Int)≠ 0 by omega);have b2:=emod_lt_of_pos c kp;obtain⟨j,hj⟩:∃j:Nat,c%(po.length:Int)=j:=⟨(c%(po.length:Int)).toNat,by omega⟩
  have jl:j<po.length:=by omega
  have dv:fM (.int c) (.int (10-(k:Int)))=.ok (.int (c / (10-(k:Int)))):=iS (by omega) (by omega);have ap:jm 3 2 (mOp dI (aa 1) (au (p1 bZ) (ae (aa 2) am))) [some (.int n),some (.int c),some (.lst .own (iL po)),some (.lst .own (iL ms)),some (.int (0+k))]=.next [some (.int n),some (.int c),some (.lst .own (iL (po.eraseIdx j))),some (.lst .own (iL (ms++[po[j]]))),some (.int (0+k))]:=by
   unfold jm;have e:(mOp dI (aa 1) (au (p1 bZ) (ae (aa 2) am))) [some (.int n),some (.int c),some (.lst .own (iL po)),some (.lst .own (iL ms)),some (.int (0+k))]=.ok (.int (j:Int)):=by simp[p1,bZ,aT,bV kp,hj]
   rw[e];simp only[getElem?_cons_zero,getElem?_cons_succ];have g:(iL po)[(j:Int).toNat]?=some (.int po[j]):=by simp[iL,jl]
   rw[g];simp only[];rw[if_pos ⟨by decide,by omega,by simp[cZ],by simp[cZ],by simp;omega,by simp;omega⟩];have er:(iL po).eraseIdx (j:Int).toNat=iL (po.eraseIdx j):=by simp[iL,xi]
   rw[er];simp[iL]
  refine⟨_,cN rfl,cT ap (b0 (aB (v:=.int (c / (10-(k:Int)))) (by simp[dv]) (by simp) rfl) ⟨po.eraseIdx j,ms++[po[j]],_,_,rfl,by simp[l1],by rw[List.length_eraseIdx,if_pos jl];omega,?_,fun x hx=>?_⟩)⟩
  ·have pm:(ms++[po[j]]++ po.eraseIdx j).Perm (ms++po):=by rw[append_assoc];exact(nX po j jl).append_left ms
   exact pm.symm.nodup nd
  ·have pm:(ms++[po[j]]++ po.eraseIdx j).Perm (ms++po):=by rw[append_assoc];exact(nX po j jl).append_left ms
   exact rg x (pm.mem_iff.mp hx)
 ·obtain⟨po,ms,c,a,rfl,l1,l2,nd,rg⟩:=hP;rw[a_]at l1;exact ir (fA rfl) ⟨ms,rfl,l1,(nodup_append.mp nd).1,fun x hx=>rg x (mem_append_left _ hx)⟩
def isB(x:Res PV)(b:Bool):Bool:=match x with
 |.ok (.bl c)=>c==b
 |_=>false
def cJ{x:Res PV}{b:Bool}(h:isB x b=true):x=.ok (.bl b):=by
 unfold isB at h;split at h
 ·rw[eq_of_beq h]
 ·cases h
def kiS:Nat->Str
 |0=>"pass"
 |1=>"paint"
 |2=>"count"
 |3=>"far"
 |4=>"lead"
 |_=>"grow"
def tdV(k n:Nat)(ws:List (Int×Int))(pa ms:List Int)(r:Nat)(sp:Int):PV:=.box 0 [.str (kiS k),.int n,.lst .frz (prL ws),.lst .frz (iL pa),.lst .frz (iL ms),.int r,.int sp]
structure Td(k n:Nat)(ws:List (Int×Int))(pa ms:List Int)(r:Nat)(sp:Int):Prop where
 k6:k<6
 n1:1<=n
 n7:n<=7
 p2:k=0->2<=n
 wh:fk n 55 ws
 pl:pa.length+1=n
 tr:Tree pa
 nm:OkM n ms
 rn:r<n
 sn:(n:Int)<= sp
section
variable{k n:Nat}{ws:List (Int×Int)}{pa ms:List Int}{r:Nat}{sp:Int}
def p_(g:Fl->Fl)(h:g .frz=.frz):(tdV k n ws pa ms r sp).mapF g=tdV k n ws pa ms r sp:=by simp[tdV,PV.mapF,h]
@[simp] def Ay:(tdV k n ws pa ms r sp).mapF Fl.lend=tdV k n ws pa ms r sp:=p_ _ rfl
@[simp] def Em:(tdV k n ws pa ms r sp).mapF Fl.toBor=tdV k n ws pa ms r sp:=p_ _ rfl
def uW(p:Fl->Bool)(h:p .frz=false):(tdV k n ws pa ms r sp).has p=false:=by simp[tdV,PV.has,h]
def iB:bJ 0 0 (tdV k n ws pa ms r sp)=.ok (.str (kiS k)):=rfl
def jC:bJ 0 1 (tdV k n ws pa ms r sp)=.ok (.int n):=rfl
def uY:bJ 0 2 (tdV k n ws pa ms r sp)=.ok (.lst .frz (prL ws)):=by simp[bJ,tdV,PV.has,Fl.isOwn]
def Eo:bJ 0 3 (tdV k n ws pa ms r sp)=.ok (.lst .frz (iL pa)):=by simp[bJ,tdV,PV.has,Fl.isOwn]
def sX:bJ 0 4 (tdV k n ws pa ms r sp)=.ok (.lst .frz (iL ms)):=by simp[bJ,tdV,PV.has,Fl.isOwn]
def uX:bJ 0 5 (tdV k n ws pa ms r sp)=.ok (.int r):=rfl
def GP:bJ 0 6 (tdV k n ws pa ms r sp)=.ok (.int sp):=rfl
end
def yt(fl:Fl)(ns:List Int)(h:Scr fl):∃k n ws pa ms r sp,wT [.lst fl (iL ns)]=.ok (tdV k n ws pa ms r sp)/\Td k n ws pa ms r sp:=by
 have cl:∀k:Nat,gH [.lst fl (iL ns),.int k]=.ok (.int (cell ns k)):=fun k=>sQ ns k h;have c0:gH [.lst fl (iL ns),.int 0]=.ok (.int (cell ns 0)):=cl 0;have c1:gH [.lst fl (iL ns),.int 1]=.ok (.int (cell ns 1)):=cl 1;have c2:gH [.lst fl (iL ns),.int 2]=.ok (.int (cell ns 2)):=cl 2;have c3:gH [.lst fl (iL ns),.int 3]=.ok (.int (cell ns 3)):=cl 3;clear cl;generalize cell ns 0=z0 at c0;generalize cell ns 1=z1 at c1;generalize cell ns 2=z2 at c2;generalize cell ns 3=z3 at c3;obtain⟨k,hk⟩:∃k:Nat,z0%6=k:=⟨(z0%6).toNat,by omega⟩
 have k6:k<6:=by omega
 obtain⟨m,hm⟩:∃m:Nat,1+z0 / 6%6=m:=⟨(1+z0 / 6%6).toNat,by omega⟩
 obtain⟨n,hn⟩:∃n:Nat,n=if k=0 then m+1 else m:=⟨_,rfl⟩
 have n7:1<=n/\n<=7/\(k=0->2<=n):=by rw[hn];split<;>omega
 obtain⟨ts,tm,hw,Wh,tl,tr⟩:=yp (n:=n) z1 z2 (by omega) (by omega);obtain⟨ms,hms,N⟩:=Ci (n:=n) z3 (by omega);have np:(0:Int)<n:=by omega
 obtain⟨r,hr⟩:∃r:Nat,z3%(n:Int)=r:=⟨(z3%(n:Int)).toNat,by have:=emod_nonneg z3 (show(n:Int)≠ 0 by omega);omega⟩
 have rn:r<n:=by have:=emod_lt_of_pos z3 np;omega
 have d6:fM (.int z0) (.int 6)=.ok (.int (z0 / 6)):=iS (by decide) (by decide);have d2:fM (.int z3) (.int 2)=.ok (.int (z3 / 2)):=iS (by decide) (by decide);have p59:t7 (.int 10) (.int 59)=.ok (.int 100000000000000000000000000000000000000000000000000000000000):=by rfl
 have m59:dI (.int (z3 / 2)) (.int 100000000000000000000000000000000000000000000000000000000000)=.ok (.int (z3 / 2%100000000000000000000000000000000000000000000000000000000000)):=bV (by decide);have b59:=emod_nonneg (z3 / 2) (show(100000000000000000000000000000000000000000000000000000000000:Int)≠ 0 by decide);generalize z3 / 2%100000000000000000000000000000000000000000000000000000000000=w at m59 b59;have b7:=emod_nonneg (z3 / 2) (show(7:Int)≠ 0 by decide);obtain⟨sp,hsp,sn⟩:∃sp:Int,sp=(if z3%2=1 then(n:Int)+w else(n:Int)+z3 / 2%7)/\(n:Int)<= sp:=⟨_,rfl,by split<;>omega⟩
 refine⟨k,n,ts++tm,ts.map (·.1),ms,r,sp,aD ?_,k6,n7.1,n7.2.1,n7.2.2,Wh,by simpa using tl,tr,N,rn,sn⟩;show xH [some (.lst fl (iL ns)),none,none,none,none,none,none,none,none,none]=_;unfold xH;refine af (aB (v:=.int z0) (by simp[h.lend,h.toBor,c0,aL]) (by simp) rfl) ?_;simp only[s0_,s1_];refine af (aB (v:=.int z3) (by simp[h.lend,h.toBor,c3,aL]) (by simp) rfl) ?_;simp only[s0_,s1_];refine af (aB (v:=.str (kiS k)) ?_ (by simp[PV.noLnt,PV.has]) rfl) ?_
 ·simp only[eR,ib,bO,cr,pI,cD,getElem?_cons_zero,getElem?_cons_succ];simp[bV,hk];have:k=0\/k=1\/k=2\/k=3\/k=4\/k=5:=by omega
  rcases this with rfl|rfl|rfl|rfl|rfl|rfl<;>rfl
 simp only[s0_,s1_];refine af (aB (v:=.int m) (by simp[d6,bV,hm]) (by simp) rfl) ?_;simp only[s0_,s1_];have ek:pEq (.str (kiS k)) (.str "pass")=.ok (.bl (decide (k=0))):=by
  have:k=0\/k=1\/k=2\/k=3\/k=4\/k=5:=by omega
  rcases this with rfl|rfl|rfl|rfl|rfl|rfl<;>exact cJ (by decide +kernel)
 refine af (e:=[some (.lst fl (iL ns)),some (.int z0),some (.int z3),some (.str (kiS k)),some (.int n),none,none,none,none,none]) ?_ ?_
 ·by_cases q:k=0
  ·rw[decide_eq_true q]at ek;refine fG (by simp[ek,PV.mapF]) ?_;rw[hn,if_pos q];exact aB (v:=.int ((m+1:Nat):Int)) (by simp) (by simp) rfl
  ·rw[decide_eq_false q]at ek;refine bR (by simp[ek,PV.mapF]) ?_;rw[hn,if_neg q];exact aG
 refine af (aB (v:=.lst .own (prL (ts++tm))) (by simp[h.lend,h.toBor,c1,c2,hw,aL]) (by simp) rfl) ?_;simp only[s0_,s1_];refine af (aB (v:=.int ((n:Int)+z3 / 2%7)) (by simp[d2,bV]) (by simp) rfl) ?_;simp only[s0_,s1_];refine af (e:=[some (.lst fl (iL ns)),some (.int z0),some (.int z3),some (.str (kiS k)),some (.int n),some (.lst .own (prL (ts++tm))),some (.int sp),none,none,none]) ?_ ?_
 ·by_cases q:z3%2=1
  ·refine fG (by simp[bV,q]) ?_;rw[hsp,if_pos q];exact aB (v:=.int ((n:Int)+w)) (by simp[d2,p59,m59]) (by simp) rfl
  ·refine bR (by simp[bV,q]) ?_;rw[hsp,if_neg q];exact aG
 refine af (aB (v:=.lst .own (iL (ts.map (·.1)))) ?_ (by simp) rfl) ?_
 ·refine aR (xs:=prL ts) ?_ (by rw[iu];omega) ?_
  ·have ec:uJ (prL (ts++tm)) none (some ((n:Int)-1))=prL ts:=by rw[show(n:Int)-1=(ts.length:Int) by omega];rw[C8 _ _ (by simp[iu])];simp[prL]
   simp only[z7,xh,z8,uD,eR,cD,pI,getElem?_cons_zero,getElem?_cons_succ];simp[ec]
  ·rw[show iL (ts.map (·.1))=ts.map fun w=>PV.int w.1 by simp[iL]];exact b8 (a:=prV) (f:=fun w=>PV.int w.1) ts fun w _=>⟨[some (prV w)],by simp[tgN,aS,bH,cR],by simp[prV];rfl,by simp,by simp⟩
 simp only[s0_,s1_];refine af (aB (v:=.lst .own (iL ms)) (by simp[hms,aL]) (by simp) rfl) ?_;simp only[s0_,s1_];refine af (du (v:=.lst .own (prL (ts++tm))) rfl) (af (du (v:=.lst .own (iL (ts.map (·.1)))) rfl) (af (du (v:=.lst .own (iL ms)) rfl) ?_));simp only[s0_,s1_];unfold sf;simp[nS,bV np,hr,PV.mapF,Fl.freeze,Fl.lend,tdV,PV.has]
inductive Kn(n:Nat)(ps:List (Int×Int))(pa ms:List Int)(r:Nat)(sp:Int):Nat->Int->Bool->(List Int->Nat->Int)->Prop
 |pass:Kn n ps pa ms r sp 0 sp true (jw sp)
 |paint:Kn n ps pa ms r sp 1 n false (nY ps)
 |count:Kn n ps pa ms r sp 2 ((n:Int)+1) false (nZ n pa)
 |far:Kn n ps pa ms r sp 3 ((n:Int)+1) false (fF ps (fs n r) n n)
 |lead:Kn n ps pa ms r sp 4 (10*(n:Int)+1) false (fF ps (ls n ms) n (10*n))
 |grow:Kn n ps pa ms r sp 5 (((n:Int)+1)*((n:Int)+1)) false (kh n ps r)
structure KR(O o:PV)(n:Nat)(sp:Int)(al ip:Bool)(D:List Int->Nat->Int):Prop where
 own:O.has Fl.isBor=false
 nl:O.noLnt=true
 lb:(O.mapF Fl.lend).mapF Fl.toBor=o
 bb:O.mapF Fl.borrow=o
 la0:aq 0 (O.mapF Fl.lend)=.ok (.int n)
 la8:aq 8 (O.mapF Fl.lend)=.ok (.bl al)
 r:Rl o n sp al ip D
def isI(x:Res PV)(j:Nat):Bool:=match x with
 |.ok (.int c)=>c==j
 |_=>false
def Cg{x:Res PV}(h:isI x j=true):x=.ok (.int j):=by
 unfold isI at h;split at h
 ·rw[eq_of_beq h]
 ·cases h
def ot3(n:Nat)(ps:List (Int×Int))(ms:List Int)(r:Nat):List PV:=[lea .own 6 n ps (ls n (ms.map fun x=>9-x)) n (10*n),lea .own 5 n ps (fs n r) n n,gro .own n ps r]
def Cn(N:OkM n ms)(n1:1<=n):OkS (10*(n:Int)) (ls n ms):=fun s hs=>by simp only[ls,mem_map]at hs;obtain⟨x,hx,e⟩:=hs;have:=N.mr x hx;cases e;have h1:0 <=(9-x)*(n:Int):=Int.mul_nonneg (by omega) (by omega);have h2:(9-x)*(n:Int)<= 9*n:=Int.mul_le_mul_of_nonneg_right (by omega) (by omega);omega
section
variable{k n:Nat}{ws:List (Int×Int)}{pa ms:List Int}{r:Nat}{sp:Int}
def t9(T:Td k n ws pa ms r sp):mP [net .frz n ps,tdV k n ws pa ms r sp]=.ok (.lst .own (ot3 n ps ms (n-1-r))):=by
 have n1:=T.n1;have n7:=T.n7;have rn:=T.rn;have N:=T.nm;have O:OkM n (ms.map fun x=>9 - x):=⟨by simp [N.ml],Pairwise.map _ (fun a b h e=>h (by omega)) N.nd,fun x hx=>by
  obtain⟨y,hy,rfl⟩:=mem_map.mp hx;have:=N.mr y hy;omega⟩
 have ld:=mJ (ps:=ps) (fm:=.own) (.inr rfl) O n1 (by omega);have fi:=ly (f:=.frz) (ps:=ps) (r:=n-1-r) (.inl rfl) n1 (by omega) (by omega);have gi:=pC (f:=.frz) (ps:=ps) (r:=n-1-r) (.inl rfl) n1 (by omega) (by omega);have hc:∀x2,a6 [] 1 (cb (mUn (bJ 0 4) (aa 1))) (tgN 0) bX (mOp fB (mC (.int 9)) (aa 0)) [some (net .frz n ps),some (tdV k n ws pa ms r sp),x2]=.ok (.lst .own (iL (ms.map fun x=>9-x))):=fun x2=>
  aR (xs:=iL ms) (by simp[Fl.lend,sX]) (by rw[bp,N.ml];omega) (d5 (fun x=>9-x) ms fun x _=>⟨[some (.int x)],by simp[tgN,aS,bH,cR],by simp⟩)
 refine aD ?_;show xR [some (net .frz n ps),some (tdV k n ws pa ms r sp),none]=_;unfold xR ot3;refine af (aB (v:=.int ((n-1-r:Nat):Int)) (by simp[Fl.lend,jC,uX];omega) (by simp) rfl) ?_;simp only[s0_,s1_];refine bj ?_ (by simp[PV.noLnt,PV.has]);simp only[ib,bO,qQ,cr,hc];simp[ld,fi,gi,aL,PV.has,Fl.lend,Fl.toBor]
def yW(T:Td k n ws pa ms r sp):∃O o sp' al ip D,pG [tdV k n ws pa ms r sp]=.ok O/\KR O o n sp' al ip D/\Kn n (aW (ws.map mm)) pa ms r sp k sp' ip D/\al=decide (3<=k):=by
 have n1:=T.n1;have n7:=T.n7;have k6:=T.k6;have rn:=T.rn;have sn:=T.sn;have Gd:=T.wh.good (by omega);have hin:=zQ (fl:=.own) Gd n1 (by omega) (.inl rfl) fun S h0 hc=>sO T.wh (by omega) S h0 hc;have rg:∀x∈aW (ws.map mm),0<=x.1/\x.1<n/\0<=x.2/\x.2<n/\x.1≠x.2:=fun x hx=>by obtain⟨w,hw,rfl⟩:=mem_map.mp ((bC _).mem_iff.mp hx);have:=Gd.rg w hw;simp only[mm];omega
 have hl:∀i,(nbL (aW (ws.map mm)) i).length<=1000:=fun i=>by
  unfold nbL;rw[(cO _).length_eq,length_append,length_map,length_map];have h1:=length_filter_le (fun x:Int×Int=>decide (x.2=(i:Int))) (aW (ws.map mm));have h2:=length_filter_le (fun x:Int×Int=>decide (x.1=(i:Int))) (aW (ws.map mm));have h3:(aW (ws.map mm)).length<64:=by rw[(bC _).length_eq,length_map];exact Gd.sz
  omega
 generalize aW (ws.map mm)=ps at *;have hnb:∀i:Nat,∀x∈nbL ps i,0<=x/\x<n:=fun i x hx=>by
  rcases fe.mp hx with q|q
  ·have:=rg _ q;omega
  ·have:=rg _ q;omega
 have np:(0:Int)<n:=by omega
 have run:∀O,pV [some (tdV k n ws pa ms r sp),none,none,none,none]=.ret O->pG [tdV k n ws pa ms r sp]=.ok O:=fun O h=>aD h;have e0:pEq (.str (kiS k)) (.str "pass")=.ok (.bl (decide (k=0))):=by
  have:k=0\/k=1\/k=2\/k=3\/k=4\/k=5:=by omega
  rcases this with rfl|rfl|rfl|rfl|rfl|rfl<;>exact cJ (by decide +kernel)
 have e2:pEq (.str (kiS k)) (.str "count")=.ok (.bl (decide (k=2))):=by
  have:k=0\/k=1\/k=2\/k=3\/k=4\/k=5:=by omega
  rcases this with rfl|rfl|rfl|rfl|rfl|rfl<;>exact cJ (by decide +kernel)
 have s1:=aB (i:=1) (m:=mUn (bJ 0 0) (aa 0)) (env:=[some (tdV k n ws pa ms r sp),none,none,none,none]) (v:=.str (kiS k)) (by simp[Fl.lend,iB]) (by simp[PV.noLnt,PV.has]) rfl;simp only[s0_,s1_]at s1;by_cases k0:k=0
 ·have n2:=T.p2 k0;have pi:=vJ (size:=(n:Int)) (span:=sp) (by omega) (by omega) (by omega);rw[decide_eq_true k0]at e0;refine⟨nC .own n sp,nC .bor n sp,_,_,_,_,run _ ?_,⟨by simp[PV.has],by simp[PV.noLnt,PV.has],by simp[Fl.lend,Fl.toBor],by simp[Fl.borrow],by simp[aq,bc],by simp[aq,bc],y0 (by omega) (by omega) (by omega)⟩,by subst k0;exact .pass,by simp[k0]⟩;unfold pV;exact af s1 (cw (fG (by simp[e0,PV.mapF]) (bj (by simp[Fl.lend,jC,GP,pi,aL,PV.has]) (by simp[PV.noLnt,PV.has]))))
 rw[decide_eq_false k0]at e0;by_cases k2:k=2
 ·rw[decide_eq_true k2]at e2;have pl:=T.pl;have hci:=xu (f:=.own) T.tr (by omega) (.inl rfl);have rc:=vz (ps:=pa) (by omega);rw[show pa.length+1=n by omega]at rc;refine⟨cnt .own pa,cnt .bor pa,_,_,_,_,run _ ?_,⟨by simp[PV.has],by simp[PV.noLnt,PV.has],by simp[Fl.lend,Fl.toBor],by simp[Fl.borrow],by simp[aq,bc];omega,by simp[aq,bc],rc⟩,by subst k2;rw[show(pa.length:Int)+2=n+1 by omega];exact .count,by simp[k2]⟩;unfold pV;exact af s1 (af (bR (by simp[e0,PV.mapF]) aG) (cw (fG (by simp[e2,PV.mapF]) (bj (by simp[Fl.lend,Eo,p1,cQ,aT,hci,aL,PV.has]) (by simp[PV.noLnt,PV.has])))))
 rw[decide_eq_false k2]at e2;have oth:=t9 (ps:=ps) T;have N:=T.nm;have pi:=tX (n:=n) (ps:=ps);have fi:=ly (f:=.frz) (ps:=ps) (r:=r) (.inl rfl) n1 (by omega) rn;have li:=mJ (ps:=ps) (fm:=.own) (.inr rfl) N n1 (by omega);have gi:=pC (f:=.frz) (ps:=ps) (r:=r) (.inl rfl) n1 (by omega) rn;have ohas:∀p:Fl->Bool,p .own=false->p .frz=false->hasL p (ot3 n ps ms (n-1-r))=false:=fun p h1 h2=>by simp[ot3,PV.has,h1,h2]
 have ob:=ohas Fl.isBor rfl rfl;have ol:=ohas Fl.isLnt rfl rfl;obtain⟨F3,hF3⟩:∃F3,F3=mapL Fl.freeze (ot3 n ps ms (n-1-r)):=⟨_,rfl⟩
 have F3l:F3.length=3:=by rw[hF3];simp[ot3]
 have F3m:∀g:Fl->Fl,g .frz=.frz->mapL g F3=F3:=fun g hg=>by rw[hF3];simp[ot3,hg,Fl.freeze]
 have F3h:hasL Fl.isLnt F3=false:=by rw[hF3];simp[ot3,PV.has,Fl.freeze]
 have so:∀x3 x4,aV 3 (au (aU mP) (ae (aa 2) (ae (aa 0) am))) [some (tdV k n ws pa ms r sp),some (.str (kiS k)),some (net .frz n ps),x3,x4]=.next [some (tdV k n ws pa ms r sp),some (.str (kiS k)),some (net .frz n ps),some (.lst .own (ot3 n ps ms (n-1-r))),x4]:=fun x3 x4=>aB (v:=.lst .own (ot3 n ps ms (n-1-r))) (by simp[Fl.lend,Fl.toBor,oth,aL,PV.has,ob]) (by simp[PV.noLnt,PV.has,ol]) rfl;obtain⟨R3,hR3,R3f⟩:∃R3:List PV,mBr (aC (mOp pEq (mOp dI (mOp az (mUn (bJ 0 4) (aa 0)) (mC (.int 0))) (mC (.int 2))) (mC (.int 1)))) (aV 3 (au (aU mP) (ae (aa 2) (ae (aa 0) am)))) aZ [some (tdV k n ws pa ms r sp),some (.str (kiS k)),some (net .frz n ps),some (.lst .own []),none]=.next [some (tdV k n ws pa ms r sp),some (.str (kiS k)),some (net .frz n ps),some (.lst .own R3),none]/\(mapL Fl.freeze R3=F3\/mapL Fl.freeze R3=[]):=by
  have g0:az (.lst .frz (iL ms)) (.int 0)=.ok (.int (gt ms 0)):=bq (by omega) (by have:=N.ml;omega);by_cases q:gt ms 0%2=1
  ·exact⟨ot3 n ps ms (n-1-r),fG (by simp[sX,g0,bV,q]) (so _ _),.inl hF3.symm⟩
  ·exact⟨[],bR (by simp[sX,g0,bV,q]) aG,.inr rfl⟩
 have Q3:(mapL Fl.freeze R3).length<=3/\(∀g:Fl->Fl,g .frz=.frz->mapL g (mapL Fl.freeze R3)=mapL Fl.freeze R3)/\hasL Fl.isLnt (mapL Fl.freeze R3)=false:=by
  rcases R3f with e|e<;>rw[e]
  ·exact⟨by omega,F3m,F3h⟩
  ·exact⟨by simp,fun g _=>by simp,by simp⟩
 clear R3f;obtain⟨q1,q2,q3⟩:=Q3;generalize hE3:mapL Fl.freeze R3=E3 at q1 q2 q3;have q2l:=q2 Fl.lend rfl;have q2f:=q2 Fl.freeze rfl;have f3l:=F3m Fl.lend rfl;have key:∀(j:Nat) (v:PV),(∀x3 x4,jk e_ (eK (ae (mC (.str "paint")) (ae (mC (.str "far")) (ae (mC (.str "lead")) (ae (mC (.str "grow")) am))))) (aa 1) [some (tdV k n ws pa ms r sp),some (.str (kiS k)),some (net .frz n ps),x3,x4]=.ok (.int (j:Int)))->[pnt .frz n ps,lea .frz 5 n ps (fs n r) n n,lea .frz 6 n ps (ls n ms) n (10*n),gro .frz n ps r][j]?=some v->v.has Fl.isOwn=false->v.noLnt=true->pG [tdV k n ws pa ms r sp]=.ok v:=fun j v hj hv h1 h2=>by
  refine run v ?_;unfold pV;refine af s1 (af (bR (by simp[e0,PV.mapF]) aG) (af (bR (by simp[e2,PV.mapF]) aG) (af (aB (v:=net .own n ps) (by simp[jC,uY,p1,cQ,aT,hin,aL,PV.has]) (by simp[PV.noLnt,PV.has]) rfl) (af (du (v:=net .own n ps) rfl) ?_))));have efn:(net .own n ps).mapF Fl.freeze=net .frz n ps:=by simp[Fl.freeze]
  simp only[s0_,s1_,efn];refine af (aB (v:=.lst .own []) (by simp) (by simp) rfl) (af hR3 ?_);refine af (aB (v:=.lst .own [pnt .own n ps,lea .own 5 n ps (fs n r) n n]) ?_ (by simp[PV.noLnt,PV.has]) rfl) ?_
  ·simp only[ib,bO,qQ,cr];simp[Fl.lend,Fl.toBor,uX,pi,fi,aL,PV.has]
  simp only[s0_,s1_];refine af (du (v:=.lst .own [pnt .own n ps,lea .own 5 n ps (fs n r) n n]) rfl) (af (du (v:=.lst .own R3) rfl) ?_);have ef4:(PV.lst .own [pnt .own n ps,lea .own 5 n ps (fs n r) n n]).mapF Fl.freeze=.lst .frz [pnt .frz n ps,lea .frz 5 n ps (fs n r) n n]:=by simp[Fl.freeze]
  have ef3:∀R:List PV,(PV.lst .own R).mapF Fl.freeze=.lst .frz (mapL Fl.freeze R):=fun R=>by simp[PV.mapF,Fl.freeze]
  simp only[s0_,s1_,ef4,ef3,hE3];refine af (aB (v:=.lst .own (pnt .frz n ps::lea .frz 5 n ps (fs n r) n n::lea .own 6 n ps (ls n ms) n (10*n)::gro .own n ps r::E3)) ?_ (by simp[PV.noLnt,PV.has,q3]) rfl) ?_
  ·simp only[eR,ib,bO,qQ,cr,cD,getElem?_cons_zero,getElem?_cons_succ];simp[Fl.lend,Fl.toBor,uX,sX,p1,cQ,aT,li,gi,aL,PV.has,PV.mapF,q2l];rw[eY (by decide) (by decide) (by simp)];simp only[Res.ok_bind];rw[eY (by decide) (by decide) (by simp;omega)];rfl
  simp only[s0_,s1_];refine af (du (v:=.lst .own (pnt .frz n ps::lea .frz 5 n ps (fs n r) n n::lea .own 6 n ps (ls n ms) n (10*n)::gro .own n ps r::E3)) rfl) ?_;have ef5:mapL Fl.freeze (pnt .frz n ps::lea .frz 5 n ps (fs n r) n n::lea .own 6 n ps (ls n ms) n (10*n)::gro .own n ps r::E3)=pnt .frz n ps::lea .frz 5 n ps (fs n r) n n::lea .frz 6 n ps (ls n ms) n (10*n)::gro .frz n ps r::E3:=by simp[Fl.freeze,q2f]
  simp only[s0_,s1_,ef3,ef5];refine af (so _ _) (af (du (v:=.lst .own (ot3 n ps ms (n-1-r))) rfl) ?_);simp only[s0_,s1_,ef3,<- hF3];refine bj ?_ h2;simp only[eR,hj];simp only[cD,getElem?_cons_zero,getElem?_cons_succ,dz,Res.ok_bind];simp[Fl.lend,PV.mapF,q2l,f3l];rw[eY (by decide) (by decide) (by simp;omega)];simp only[Res.ok_bind];refine iR (k:=j) rfl ?_ h1;have j4:j<4:=(List.getElem?_eq_some_iff.mp hv).1;rw[<- hv];have:j=0\/j=1\/j=2\/j=3:=by omega
  rcases this with rfl|rfl|rfl|rfl<;>rfl
 have ix:∀(j:Nat),isI (jk e_ (eK (ae (mC (.str "paint")) (ae (mC (.str "far")) (ae (mC (.str "lead")) (ae (mC (.str "grow")) am))))) (mC (.str (kiS k))) []) j=true->∀x3 x4,jk e_ (eK (ae (mC (.str "paint")) (ae (mC (.str "far")) (ae (mC (.str "lead")) (ae (mC (.str "grow")) am))))) (aa 1) [some (tdV k n ws pa ms r sp),some (.str (kiS k)),some (net .frz n ps),x3,x4]=.ok (.int (j:Int)):=fun j hj x3 x4=>Cg hj;have:k=1\/k=3\/k=4\/k=5:=by omega
 rcases this with rfl|rfl|rfl|rfl
 ·exact⟨pnt .frz n ps,pnt .frz n ps,_,_,_,_,key 0 _ (ix 0 (by decide +kernel)) rfl (by simp[PV.has,Fl.isOwn]) (by simp[PV.noLnt,PV.has]),⟨by simp[PV.has],by simp[PV.noLnt,PV.has],by simp,by simp,by simp[aq,bc],by simp[aq,bc],vy n1 (by omega) rg hl⟩,.paint,rfl⟩
 ·exact⟨lea .frz 5 n ps (fs n r) n n,lea .frz 5 n ps (fs n r) n n,_,_,_,_,key 1 _ (ix 1 (by decide +kernel)) rfl (by simp[PV.has,Fl.isOwn]) (by simp[PV.noLnt,PV.has]),⟨by simp[PV.has],by simp[PV.noLnt,PV.has],by simp,by simp,by simp[aq,bc],by simp[aq,bc],oP (.inl rfl) n1 (by omega) np (by omega) (wO n1) (by simp[fs]) hnb hl⟩,.far,rfl⟩
 ·exact⟨lea .frz 6 n ps (ls n ms) n (10*n),lea .frz 6 n ps (ls n ms) n (10*n),_,_,_,_,key 2 _ (ix 2 (by decide +kernel)) rfl (by simp[PV.has,Fl.isOwn]) (by simp[PV.noLnt,PV.has]),⟨by simp[PV.has],by simp[PV.noLnt,PV.has],by simp,by simp,by simp[aq,bc],by simp[aq,bc],oP (.inr rfl) n1 (by omega) np (by omega) (Cn N n1) (by simp[ls,N.ml]) hnb hl⟩,.lead,rfl⟩
 ·exact⟨gro .frz n ps r,gro .frz n ps r,_,_,_,_,key 3 _ (ix 3 (by decide +kernel)) rfl (by simp[PV.has,Fl.isOwn]) (by simp[PV.noLnt,PV.has]),⟨by simp[PV.has],by simp[PV.noLnt,PV.has],by simp,by simp,by simp[aq,bc],by simp[aq,bc],y2 n1 (by omega) hnb fun i=>hl i⟩,.grow,rfl⟩
end
def y6(fl:Fl)(ns:List Int)(h:Scr fl)(hn:n<=20):∃rs:List Int,CO [.lst fl (iL ns),.int n]=.ok (.lst .own (iL rs))/\rs.length=n:=by
 have p59:t7 (.int 10) (.int 59)=.ok (.int 100000000000000000000000000000000000000000000000000000000000):=by rfl
 have m2:gK (.int 2) (.int 100000000000000000000000000000000000000000000000000000000000)=.ok (.int 200000000000000000000000000000000000000000000000000000000000):=by rfl
 have mm:∀x:Int,dI (.int x) (.int 200000000000000000000000000000000000000000000000000000000000)=.ok (.int (x%200000000000000000000000000000000000000000000000000000000000)):=fun x=>bV (by decide);refine⟨(range n).map fun i:Nat=>cell ns (4+i)%200000000000000000000000000000000000000000000000000000000000-100000000000000000000000000000000000000000000000000000000000,aD ?_,by simp⟩;show Dv [some (.lst fl (iL ns)),some (.int n)]=_;unfold Dv;refine bj ?_ (by simp);refine aR (xs:=cq 0 n) (bI (n:=n) (by simp) (by omega)) (by rw[a_];omega) (d4 0 (fun i:Nat=>cell ns (4+i)%200000000000000000000000000000000000000000000000000000000000-100000000000000000000000000000000000000000000000000000000000) n fun k hk=>⟨[some (.lst fl.borrow (iL ns)),some (.int (0+k))],by simp[tgN,aS,bH,PV.borrow,cR],?_⟩);have c:=sQ ns (4+k) h;rw[show((4+k:Nat):Int)=4+(k:Int) by omega]at c;simp only[eR,de,bO,cr,cD,pI,getElem?_cons_zero,getElem?_cons_succ];simp[h.borrow,h.lend,h.toBor,c,aL,p59,m2,mm]
def ot:d8 (aW (ws.map mm)) i j ↔((i:Int),(j:Int))∈ ws \/((j:Int),(i:Int))∈ ws:=by
 have key:∀a b:Int,(a,b)∈ aW (ws.map mm)->(a,b)∈ ws \/(b,a)∈ ws:=fun a b h=>by
  obtain⟨⟨x,y⟩,hw,e⟩:=mem_map.mp ((bC _).mem_iff.mp h);simp only[mm,Prod.mk.injEq]at e;by_cases q:x<=y
  ·rw[Int.min_eq_left q,Int.max_eq_right q]at e;obtain⟨rfl,rfl⟩:=e;exact .inl hw
  ·rw[Int.min_eq_right (by omega),Int.max_eq_left (by omega)]at e;obtain⟨rfl,rfl⟩:=e;exact .inr hw
 have back:∀a b:Int,(a,b)∈ ws->(a,b)∈ aW (ws.map mm)\/(b,a)∈ aW (ws.map mm):=fun a b h=>by
  have hm:mm (a,b)∈ aW (ws.map mm):=(bC _).mem_iff.mpr (mem_map_of_mem h);by_cases q:a<=b
  ·rw[show mm (a,b)=(a,b) by simp only[mm,Int.min_eq_left q,Int.max_eq_right q]]at hm;exact .inl hm
  ·rw[show mm (a,b)=(b,a) by simp only[mm,Int.min_eq_right (show b<=a by omega),Int.max_eq_left (show b<=a by omega)]]at hm;exact .inr hm
 unfold d8;constructor
 ·rintro(h|h)
  ·exact key _ _ h
  ·exact(key _ _ h).symm
 ·rintro(h|h)
  ·exact back _ _ h
  ·exact(back _ _ h).symm
def rlx(F:List Int)(w:Int×Int):List Int:=
 (F.set w.1.toNat (min (gt F w.1.toNat) (gt F w.2.toNat+1))).set w.2.toNat (min (gt F w.2.toNat) (min (gt F w.1.toNat) (gt F w.2.toNat+1)+1))
def Bj{w:Int×Int}(hn:F.length=n)(h:0<=w.1/\w.1<n/\0<=w.2/\w.2<n/\w.1≠w.2)(i:Nat):gt (rlx F w) i=if i=w.2.toNat then min (gt F w.2.toNat) (min (gt F w.1.toNat) (gt F w.2.toNat+1)+1)else if i=w.1.toNat then min (gt F w.1.toNat) (gt F w.2.toNat+1)else gt F i:=by unfold rlx;rw[gv _ (by simp;omega),gv _ (by omega)]
section
variable{k n:Nat}{ws:List (Int×Int)}{pa ms:List Int}{r:Nat}{sp:Int}{q:Nat}{F0:List Int}
structure Fi(n:Nat)(F0:List Int)(t:Int)(F:List Int):Prop where
 len:F.length=n
 lo:∀i<n,gt F0 i<=gt F i
 eq:∀i<n,gt F0 i<=t->gt F i=gt F0 i
def Fi.step{t:Int}{w:Int×Int}(I:Fi n F0 t F)(h:0<=w.1/\w.1<n/\0<=w.2/\w.2<n/\w.1≠w.2)(h1:gt F0 w.1.toNat<=gt F0 w.2.toNat+1)(h2:gt F0 w.2.toNat<=gt F0 w.1.toNat+1) :
  Fi n F0 t (rlx F w)/\(∀i<n,gt (rlx F w) i<=gt F i)/\(gt F0 w.1.toNat<=t->gt F0 w.2.toNat=gt F0 w.1.toNat+1->gt (rlx F w) w.2.toNat=gt F0 w.2.toNat)/\(gt F0 w.2.toNat<=t->gt F0 w.1.toNat=gt F0 w.2.toNat+1->gt (rlx F w) w.1.toNat=gt F0 w.1.toNat):=by
 have g:=Bj (F:=F) I.len h;have la:=I.lo w.1.toNat (by omega);have lb:=I.lo w.2.toNat (by omega);have ea:=I.eq w.1.toNat (by omega);have eb:=I.eq w.2.toNat (by omega);have ne:w.1.toNat≠w.2.toNat:=by omega
 have lo:∀i<n,gt F0 i<=gt (rlx F w) i:=fun i hi=>by
  rw[g];have:=I.lo i hi;split
  ·subst_vars;omega
  ·split
   ·subst_vars;omega
   ·exact this
 have le:∀i<n,gt (rlx F w) i<=gt F i:=fun i hi=>by
  rw[g];split
  ·subst_vars;omega
  ·split
   ·subst_vars;omega
   ·omega
 refine⟨⟨by simp[rlx,I.len],lo,fun i hi ht=>?_⟩,le,fun a b=>?_,fun a b=>?_⟩
 ·have:=lo i hi;have:=le i hi;have:=I.eq i hi ht;omega
 ·have:=lo w.2.toNat (by omega);rw[g,if_pos rfl]at this ⊢;have:=ea a;omega
 ·have:=lo w.1.toNat (by omega);rw[g,if_neg ne,if_pos rfl]at this ⊢;have:=eb a;omega
def nT(T:Td k n ws pa ms r sp)(hq:q<n)(D:lZ n q (d8 (aW (ws.map mm))) F0)(all:∀i<n,gt F0 i<n):pE [tdV k n ws pa ms r sp,.int q]=.ok (.lst .own (iL F0)):=by
 have n1:=T.n1;have n7:=T.n7;have W:=T.wh;refine aD ?_;show xG [some (tdV k n ws pa ms r sp),some (.int q),none,none,none]=_;unfold xG;refine af (aB (v:=.lst .own (iL ((range n).map fun _=>(n:Int)))) ?_ (by simp) rfl) ?_
 ·exact aR (xs:=cq 0 n) (bI (n:=n) (by simp[jC]) (by omega)) (by rw[a_];omega) (d4 0 (fun _:Nat=>(n:Int)) n fun j hj=>⟨[some (tdV k n ws pa ms r sp),some (.int (0+j))],by simp[tgN,aS,bH,p_ Fl.borrow rfl],by simp[jC]⟩)
 simp only[s0_,s1_];have s0:=eV (env:=[some (tdV k n ws pa ms r sp),some (.int q),some (.lst .own (iL ((range n).map fun _=>(n:Int)))),none,none]) (i:=2) (m:=mC (.int 0)) (mk:=aa 1) (v:=.int 0) (xs:=iL ((range n).map fun _=>(n:Int))) (j:=q) (n:=q) rfl rfl rfl (by rw[bp];exact fz (by simpa using hq)) rfl;refine af s0 ?_;simp only[s0_,s1_,fh];have I0:Fi n F0 0 (((range n).map fun _=>(n:Int)).set q 0):=by
  have g:∀i<n,gt (((range n).map fun _=>(n:Int)).set q 0) i=if i=q then 0 else n:=fun i hi=>by
   rw[gv _ (by simpa using hq)];split
   ·rfl
   ·simp[gt,hi]
  refine⟨by simp,fun i hi=>?_,fun i hi h0=>?_⟩
  ·rw[g i hi];have:=all i hi;split
   ·subst_vars;have:=D.rt;omega
   ·omega
  ·rw[g i hi];split
   ·subst_vars;exact D.rt.symm
   ·rename_i z
    have:=(D.dn i hi z (all i hi)).1;omega
 generalize((range n).map fun _=>(n:Int)).set q 0=F at I0;refine nt (fun t e=>∃F x3 x4,e=[some (tdV k n ws pa ms r sp),some (.int q),some (.lst .own (iL F)),x3,x4]/\Fi n F0 t F) (bI (n:=n) (by simp[jC]) (by omega)) ⟨F,none,none,rfl,I0⟩ (fun t x e hx hP=>?_) (fun e hP=>?_)
 ·obtain⟨F,x3,x4,rfl,I⟩:=hP;refine⟨_,cN rfl,?_⟩;simp only[s0_,s1_];refine fS (fun j e=>∃F x4,e=[some (tdV k n ws pa ms r sp),some (.int q),some (.lst .own (iL F)),some x,x4]/\Fi n F0 t F/\∀w∈ws.take j,(gt F0 w.1.toNat<=t->gt F0 w.2.toNat=gt F0 w.1.toNat+1->gt F w.2.toNat=gt F0 w.2.toNat)/\(gt F0 w.2.toNat<=t->gt F0 w.1.toNat=gt F0 w.2.toNat+1->gt F w.1.toNat=gt F0 w.1.toNat)) (xs:=prL ws) (fK (f:=.frz) (by simp[uY]) rfl (by simp) (by simp)) ⟨F,x4,rfl,I,fun w hw=>by simp at hw⟩ (fun j y e hy hP=>?_) (fun e hP=>?_)
  ·obtain⟨F,x4,rfl,I,hd⟩:=hP;rw[rO]at hy;obtain⟨w,hw,rfl⟩:=map_eq_some_iff.mp hy;have wr:=W.rg w (List.mem_of_getElem? hw);have ad:d8 (aW (ws.map mm)) w.1.toNat w.2.toNat:=ot.mpr (.inl (by rw[toNat_of_nonneg wr.1,toNat_of_nonneg wr.2.2.1];exact List.mem_of_getElem? hw));have u1:=D.up _ (by omega) _ (by omega) ad;have u2:=D.up _ (by omega) _ (by omega) (Or.symm ad);obtain⟨J,le,a1,a2⟩:=I.step wr u2 u1;have ln:=I.len;have p0:az (prV w) (.int 0)=.ok (.int w.1):=rfl;have p1':az (prV w) (.int 1)=.ok (.int w.2):=rfl;have g1:∀(G:List Int),G.length=n->az (.lst .lnt (iL G)) (.int w.1)=.ok (.int (gt G w.1.toNat)):=fun G hG=>bq (by omega) (by omega);have g2:∀(G:List Int),G.length=n->az (.lst .lnt (iL G)) (.int w.2)=.ok (.int (gt G w.2.toNat)):=fun G hG=>bq (by omega) (by omega);have i1:∀(G:List Int),G.length=n->ixN (iL G).length w.1=some w.1.toNat:=fun G hG=>by
    have:=fz (n:=(iL G).length) (k:=w.1.toNat) (by rw[bp];omega)
    rwa [show((w.1.toNat:Nat):Int)=w.1 by omega]at this
   have i2:∀(G:List Int),G.length=n->ixN (iL G).length w.2=some w.2.toNat:=fun G hG=>by
    have:=fz (n:=(iL G).length) (k:=w.2.toNat) (by rw[bp];omega)
    rwa [show((w.2.toNat:Nat):Int)=w.2 by omega]at this
   refine⟨_,cN rfl,?_⟩;simp only[s0_,s1_];have F1l:(F.set w.1.toNat (min (gt F w.1.toNat) (gt F w.2.toNat+1))).length=n:=by simpa using ln
   have F1a:gt (F.set w.1.toNat (min (gt F w.1.toNat) (gt F w.2.toNat+1))) w.1.toNat=min (gt F w.1.toNat) (gt F w.2.toNat+1):=by rw[gv _ (by omega),if_pos rfl]
   have F1b:gt (F.set w.1.toNat (min (gt F w.1.toNat) (gt F w.2.toNat+1))) w.2.toNat=gt F w.2.toNat:=by rw[gv _ (by omega),if_neg (by omega)]
   have e1:=eV (env:=[some (tdV k n ws pa ms r sp),some (.int q),some (.lst .own (iL F)),some x,some (prV w)]) (i:=2) (m:=au (dq min) (ae (mOp az (aa 2) (mOp az (aa 4) (mC (.int 0)))) (ae (mOp aY (mOp az (aa 2) (mOp az (aa 4) (mC (.int 1)))) (mC (.int 1))) am))) (mk:=mOp az (aa 4) (mC (.int 0))) (v:=.int (min (gt F w.1.toNat) (gt F w.2.toNat+1))) (xs:=iL F) (j:=w.1) (n:=w.1.toNat) (by simp[p0,p1',g1 F ln,g2 F ln,dq]) rfl (by simp[p0]) (i1 F ln) rfl;refine cT e1 ?_;simp only[s0_,s1_,fh];have e2:=eV (env:=[some (tdV k n ws pa ms r sp),some (.int q),some (.lst .own (iL (F.set w.1.toNat (min (gt F w.1.toNat) (gt F w.2.toNat+1))))),some x,some (prV w)]) (i:=2) (m:=au (dq min) (ae (mOp az (aa 2) (mOp az (aa 4) (mC (.int 1)))) (ae (mOp aY (mOp az (aa 2) (mOp az (aa 4) (mC (.int 0)))) (mC (.int 1))) am))) (mk:=mOp az (aa 4) (mC (.int 1))) (v:=.int (min (gt F w.2.toNat) (min (gt F w.1.toNat) (gt F w.2.toNat+1)+1))) (xs:=iL (F.set w.1.toNat (min (gt F w.1.toNat) (gt F w.2.toNat+1)))) (j:=w.2) (n:=w.2.toNat) (by simp[p0,p1',g1 _ F1l,g2 _ F1l,F1a,F1b,dq]) rfl (by simp[p1']) (i2 _ F1l) rfl;refine b0 e2 ⟨rlx F w,some (prV w),?_,J,fun v hv=>?_⟩
   ·simp only[s0_,s1_,fh];rfl
   ·rw[take_add_one,hw]at hv;simp at hv;rcases hv with hv|rfl
    ·obtain⟨d1,d2⟩:=hd v hv;have vr:=W.rg v (List.mem_of_mem_take hv);refine⟨fun a b=>?_,fun a b=>?_⟩
     ·have:=J.lo v.2.toNat (by omega);have:=le v.2.toNat (by omega);have:=d1 a b;omega
     ·have:=J.lo v.1.toNat (by omega);have:=le v.1.toNat (by omega);have:=d2 a b;omega
    ·exact⟨a1,a2⟩
  ·obtain⟨F,x4,rfl,I,hd⟩:=hP;refine⟨F,_,_,rfl,I.len,I.lo,fun i hi ht=>?_⟩;by_cases z:gt F0 i<=t
   ·exact I.eq i hi z
   ·have zi:i≠q:=fun e=>by subst e;have:=D.rt;omega
    obtain⟨h1,j,hj,ad,ej⟩:=D.dn i hi zi (all i hi);rw[show(prL ws).length=ws.length by simp[prL],take_length]at hd;rcases ot.mp ad with hw|hw
    ·have:=(hd _ hw).2;simp only[toNat_natCast]at this;exact this (by omega) (by omega)
    ·have:=(hd _ hw).1;simp only[toNat_natCast]at this;exact this (by omega) (by omega)
 ·obtain⟨F,x3,x4,rfl,I⟩:=hP;rw[a_]at I;have e:F=F0:=ext_getElem (by rw[I.len,D.len]) fun i h1 h2=>by
   have hi:i<n:=by rw[<- I.len];exact h1
   have:=I.eq i hi (by have:=all i hi;omega);simpa[gt,h1,h2]using this
  rw[e];exact fA rfl
end
def pz(h:0<n):ixN n (-1)=some (n-1):=by unfold ixN;rw[if_neg (by decide),if_pos (by omega)];congr 1;omega
section
variable{k n:Nat}{ws:List (Int×Int)}{pa ms:List Int}{r:Nat}{sp:Int}
def tP(T:Td 2 n ws pa ms r sp):∃hs:List Int,sD [tdV 2 n ws pa ms r sp]=.ok (.lst .own (iL hs))/\lM pa hs:=by
 have pl:=T.pl;have n7:=T.n7
 suffices hh:lL (jz [some (tdV 2 n ws pa ms r sp),none,none,none,none,none,none]) (fun v=>∃hs:List Int,v=.lst .own (iL hs)/\lM pa hs) by obtain⟨v,h1,hs,rfl,h2⟩:=hh;exact⟨hs,aD h1,h2⟩
 unfold jz;refine cF (aB (v:=.int n) (by simp[jC]) (by simp) rfl) ?_;simp only[s0_,s1_];have e1:pEq (.str (kiS 2)) (.str "far")=.ok (.bl false):=cJ (by decide +kernel);have e2:pEq (.str (kiS 2)) (.str "lead")=.ok (.bl false):=cJ (by decide +kernel);have e3:pEq (.str (kiS 2)) (.str "grow")=.ok (.bl false):=cJ (by decide +kernel);refine cF (bR (by simp[iB,e1]) aG) ?_;refine cF (bR (by simp[iB,e2]) aG) ?_;refine cF (bR (by simp[iB,e3]) aG) ?_;refine cF (aB (v:=.lst .own (iL ((range (pa.length+1)).map fun _=>(1:Int)))) ?_ (by simp) rfl) ?_
 ·exact aR (xs:=cq 0 (pa.length+1)) (bI (n:=pa.length+1) (by simp;omega) (by omega)) (by rw[a_];omega) (d4 0 (fun _:Nat=>(1:Int)) (pa.length+1) fun k hk=>⟨[some (.int (0+k))],by simp[tgN,aS,bH,cR],by simp⟩)
 simp only[s0_,s1_];have rn:kN (pa.length:Int) 0 (-1)=pa.length:=by unfold kN Builtin.Range.rangeSize;simp;omega
 refine ja (fun k e=>k<=pa.length/\∃hs x5 x6,e=[some (tdV 2 n ws pa ms r sp),some (.int n),none,none,some (.lst .own (iL hs)),x5,x6]/\jB pa hs (pa.length-k)) (xs:=iK pa.length (-1) pa.length) ?_ ⟨by omega,_,_,_,rfl,jB.first⟩ (fun k x e hx hP=>?_) (fun e hP=>?_)
 ·unfold mF;simp[o3,inM];rw[show(n:Int)-1=pa.length by omega,rn];simp;omega
 ·obtain⟨hk,hs,x5,x6,rfl,H⟩:=hP;have hlt:k<pa.length:=by have:=(List.getElem?_eq_some_iff.mp hx).1;simpa[iK]using this
  have ex:x=.int ((pa.length:Int)-k):=by simp[iK,hlt]at hx;rw[<- hx,Int.sub_eq_add_neg]
  subst ex;obtain⟨j,hj⟩:∃j:Nat,pa.length-k=j+1:=⟨pa.length-k-1,by omega⟩
  rw[hj]at H;have hj2:j<pa.length:=by omega
  have T2:=T.tr j hj2;have ln:=H.len;have S:=H.step T.tr hj2;have i1:az (.lst .frz (iL pa)) (.int ((pa.length:Int)-k-1))=.ok (.int pa[j]):=by rw[bq (by omega) (by omega)];rw[show((pa.length:Int)-k-1).toNat=j by omega,hZ _ _ hj2]
  have i2:az (.lst .lnt (iL hs)) (.int pa[j])=.ok (.int (gt hs pa[j].toNat)):=bq (by omega) (by omega);have i3:az (.lst .lnt (iL hs)) (.int ((pa.length:Int)-k))=.ok (.int (gt hs (j+1))):=by rw[bq (by omega) (by omega)];congr 3;omega
  refine⟨_,cN rfl,?_⟩;simp only[s0_,s1_];refine cT (aB (v:=.int pa[j]) (by simp[Eo,i1]) (by simp) rfl) ?_;simp only[s0_,s1_];have ix:ixN (iL hs).length pa[j]=some pa[j].toNat:=by
   have:=fz (n:=(iL hs).length) (k:=pa[j].toNat) (by rw[bp];omega)
   rwa [show((pa[j].toNat:Nat):Int)=pa[j] by omega]at this
  refine b0 (eV (v:=.int (gt hs pa[j].toNat+gt hs (j+1))) (xs:=iL hs) (j:=pa[j]) (n:=pa[j].toNat) (by simp[i2,i3]) rfl (by simp) ix (by simp)) ⟨by omega,hs.set pa[j].toNat (gt hs pa[j].toNat+gt hs (j+1)),some (.int ((pa.length:Int)-k)),some (.int pa[j]),?_,?_⟩
  ·simp only[s0_,s1_,fh]
  ·rw[show pa.length-(k+1)=j by omega];exact S
 ·obtain⟨_,hs,x5,x6,rfl,H⟩:=hP;have:pa.length-(iK (pa.length:Int) (-1) pa.length).length=0:=by simp[iK]
  rw[this]at H;exact ir (fA rfl) ⟨hs,rfl,H.last⟩
def kZ{D:List Int->Nat->Int}(h:caR n false D cs=true):∀i,i<n->D cs i=gt cs i:=fun i hi=>by
 have e:mvR n D cs=[]:=by simpa[caR]using h
 by_cases q:D cs i=gt cs i
 ·exact q
 ·have:(i:Int)∈ mvR n D cs:=mem_map.mpr ⟨i,mem_filter.mpr ⟨mem_range.mpr hi,by simpa using q⟩,rfl⟩;rw[e]at this;cases this
def f8(hf:Fc f)(k2:2<=k)(k6:k<6)(hr:sD [tdV k n ws pa ms r sp]=.ok (.lst .own (iL hs)))(e:cs=hs):h8 [tdV k n ws pa ms r sp,.lst f (iL cs)]=.ok (.bl true):=by
 refine aD ?_;show lJ [some (tdV k n ws pa ms r sp),some (.lst f (iL cs)),none]=_;unfold lJ;have e0:pEq (.str (kiS k)) (.str "pass")=.ok (.bl false):=by
  have:k=2\/k=3\/k=4\/k=5:=by omega
  rcases this with rfl|rfl|rfl|rfl<;>exact cJ (by decide +kernel)
 have e1:pEq (.str (kiS k)) (.str "paint")=.ok (.bl false):=by
  have:k=2\/k=3\/k=4\/k=5:=by omega
  rcases this with rfl|rfl|rfl|rfl<;>exact cJ (by decide +kernel)
 refine af (bR (by simp[iB,e0]) aG) (af (bR (by simp[iB,e1]) aG) (bj ?_ (by simp)));subst e;simp[hr,aL]
def Bo(T:Td 2 n ws pa ms r sp)(hf:Fc f)(hn:cs.length=n)(h:caR n false (nZ n pa) cs=true):h8 [tdV 2 n ws pa ms r sp,.lst f (iL cs)]=.ok (.bl true):=by
 obtain⟨hs,h1,P⟩:=tP T;have pl:=T.pl;refine f8 hf (by omega) (by omega) h1 (P.calm T.tr (by omega) fun i hi=>?_);have:=kZ h i (by omega)
 rwa [<- pl]at this
def Bp(T:Td 1 n ws pa ms r sp)(hf:Fc f)(hn:cs.length=n)(hc:InS n cs)(h:caR n false (nY (aW (ws.map mm))) cs=true):h8 [tdV 1 n ws pa ms r sp,.lst f (iL cs)]=.ok (.bl true):=by
 have W:=T.wh;refine aD ?_;show lJ [some (tdV 1 n ws pa ms r sp),some (.lst f (iL cs)),none]=_;unfold lJ;have e0:pEq (.str (kiS 1)) (.str "pass")=.ok (.bl false):=cJ (by decide +kernel);have e1:pEq (.str (kiS 1)) (.str "paint")=.ok (.bl true):=cJ (by decide +kernel);refine af (bR (by simp[iB,e0]) aG) (cw (fG (by simp[iB,e1]) (bj ?_ (by simp))));have cm:a6 [1] 1 (cb (mUn (bJ 0 2) (aa 0))) (tgN 1) bX (mOp pNe (mOp az (aa 0) (mOp az (aa 1) (mC (.int 0)))) (mOp az (aa 0) (mOp az (aa 1) (mC (.int 1))))) [some (tdV 1 n ws pa ms r sp),some (.lst f (iL cs)),none]=.ok (.lst .own (ws.map fun _=>PV.bl true)):=by
  refine aR (xs:=prL ws) (by simp[uY]) (by simp[prL];have:=W.ln;omega) ?_;refine b8 (a:=prV) (f:=fun _=>PV.bl true) ws fun w hw=>⟨[some (.lst f (iL cs)),some (prV w)],by simp[tgN,aS,bH,PV.borrow,hf.bo],?_,by simp,by simp⟩
  have wr:=W.rg w hw;have p0:az (prV w) (.int 0)=.ok (.int w.1):=rfl;have p1':az (prV w) (.int 1)=.ok (.int w.2):=rfl;have g1:az (.lst f (iL cs)) (.int w.1)=.ok (.int (gt cs w.1.toNat)):=bq (by omega) (by omega);have g2:az (.lst f (iL cs)) (.int w.2)=.ok (.int (gt cs w.2.toNat)):=bq (by omega) (by omega);have rg:∀x∈aW (ws.map mm),0<=x.1/\x.1<n/\0<=x.2/\x.2<n/\x.1≠x.2:=fun x hx=>by obtain⟨w,hw,rfl⟩:=mem_map.mp ((bC _).mem_iff.mp hx);have:=W.rg w hw;simp only[mm];omega
  have key:∀a b:Nat,a<b->b<n->d8 (aW (ws.map mm)) a b->gt cs a≠gt cs b:=fun a b hab hb ad e=>by have d:=kZ h b hb;have hm:(a:Int)∈ jR (aW (ws.map mm)) b:=mem_filter.mpr ⟨fe.mpr ad,by simpa using hab⟩;obtain⟨m1,_⟩:=k9 ((jR (aW (ws.map mm)) b).map fun o=>gt cs o.toNat);unfold nY at d;rw[d]at m1;exact m1 (mem_map.mpr ⟨_,hm,by simpa using e⟩)
  have ne:gt cs w.1.toNat≠gt cs w.2.toNat:=by
   have ad:d8 (aW (ws.map mm)) w.1.toNat w.2.toNat:=ot.mpr (.inl (by rw[toNat_of_nonneg wr.1,toNat_of_nonneg wr.2.2.1];exact hw));by_cases q:w.1<w.2
   ·exact key _ _ (by omega) (by omega) ad
   ·exact fun e=>key _ _ (by omega) (by omega) (Or.symm ad) e.symm
  simp[hf.le,p0,p1',g1,g2,ne]
 simp only[de,bO,cr,cm,Res.ok_bind];rw[show(ws.map fun _=>PV.bl true)=(ws.map fun _=>true).map PV.bl by simp];have ba:(ws.map fun _=>true).all id=true:=by simp
 generalize ws.map (fun _=>true)=bs at *;simp[p1,vU,aT,pY,ba]
def Bq(T:Td 0 n ws pa ms r sp)(hf:Fc f)(hn:cs.length=n)(hc:InS sp cs)(h:caR n true (jw sp) cs=true):h8 [tdV 0 n ws pa ms r sp,.lst f (iL cs)]=.ok (.bl true):=by
 have n2:=T.p2 rfl;have n7:=T.n7;have sn:=T.sn;have e0:pEq (.str (kiS 0)) (.str "pass")=.ok (.bl true):=cJ (by decide +kernel);obtain⟨m,rfl⟩:∃m,n=m+1:=⟨n-1,by omega⟩
 have c0:=hc _ (cK (far:=cs) (i:=0) (by omega));have ml:((range m).filter fun i=>decide (gt cs (i+1)≠ gt cs i)).length+(if gt cs 0=gt cs m then 1 else 0)=1:=by
  simp only[caR,if_true,decide_eq_true_eq,mvR,length_map]at h;rw[List.range_succ_eq_map,filter_cons,List.filter_map]at h;have d0:jw sp cs 0≠gt cs 0↔gt cs 0=gt cs m:=by
   unfold jw;rw[if_pos rfl,hn,show m+1-1=m from rfl];by_cases q:gt cs 0=gt cs m
   ·rw[if_pos q];refine⟨fun _=>q,fun _ z=>?_⟩;by_cases w:gt cs 0+1<sp
    ·rw[emod_eq_of_lt (by omega) w]at z;omega
    ·rw[show gt cs 0+1=sp by omega,Int.emod_self]at z;omega
   ·rw[if_neg q];exact⟨fun z=>absurd rfl z,fun z=>absurd z q⟩
  have ds:((fun i=>decide (jw sp cs i≠gt cs i)) ∘ Nat.succ)=fun i=>decide (gt cs (i+1)≠ gt cs i):=funext fun i=>by
   have e:jw sp cs (i+1)=gt cs i:=by unfold jw;rw[if_neg (Nat.succ_ne_zero i)];rfl
   show decide (jw sp cs (i+1)≠ gt cs (i+1))=_;exact decide_eq_decide.mpr ⟨fun z w=>z (e.trans w.symm),fun z w=>z (w.symm.trans e)⟩
  rw[ds]at h;by_cases q:gt cs 0=gt cs m
  ·rw[if_pos (by simpa using d0.mpr q),length_cons,length_map]at h;rw[if_pos q];exact h
  ·rw[if_neg (by simpa using fun z=>q (d0.mp z)),length_map]at h;rw[if_neg q];exact h
 refine aD ?_;show lJ [some (tdV 0 (m+1) ws pa ms r sp),some (.lst f (iL cs)),none]=_;unfold lJ;refine cw (fG (by simp[iB,e0]) (af (aB (v:=.lst .own (iL (((range m).filter fun i=>decide (gt cs (i+1)≠ gt cs i)).map fun i:Nat=>1+(i:Int)))) ?_ (by simp) rfl) ?_))
 ·refine aR (xs:=cq 1 m) ?_ (by rw[a_];omega) (qS 1 (fun i=>decide (gt cs (i+1)≠ gt cs i)) (fun i=>1+(i:Int)) m fun i hi=>⟨[some (.lst f (iL cs)),some (.int (1+i))],by simp[tgN,aS,bH,PV.borrow,hf.bo],?_,fun _=>by simp⟩)
  ·have:=rJ (ms:=ae (mC (.int 1)) (ae (mUn (bJ 0 1) (aa 0)) am)) (env:=[some (tdV 0 (m+1) ws pa ms r sp),some (.lst f (iL cs)),none]) (lo:=1) (hi:=((m+1:Nat):Int)) (by simp[jC]) (by omega) (by omega)
   rwa [show(((m+1:Nat):Int)-1).toNat=m by omega]at this
  ·have g1:az (.lst f (iL cs)) (.int (1+(i:Int)))=.ok (.int (gt cs (i+1))):=by rw[bq (by omega) (by omega)];congr 3;omega
   have g2:az (.lst f (iL cs)) (.int (1+(i:Int)-1))=.ok (.int (gt cs i)):=by rw[bq (by omega) (by omega)];congr 3;omega
   simp[hf.le,g1,g2]
 simp only[s0_,s1_];have g0:az (.lst f (iL cs)) (.int 0)=.ok (.int (gt cs 0)):=bq (by omega) (by omega);have gl:az (.lst f (iL cs)) (.int (-1))=.ok (.int (gt cs m)):=by
  unfold az;simp only[aT,atI,bp];rw[pz (by omega)];simp[hn,gt]
  try rw[getElem?_eq_getElem (by omega)]
  try simp
 refine bj ?_ (by simp);generalize((range m).filter fun i=>decide (gt cs (i+1)≠ gt cs i))=L at ml ⊢;by_cases q:gt cs 0=gt cs m
 ·rw[if_pos q]at ml;have:L=[]:=List.eq_nil_of_length_eq_zero (by omega);simp[hf.le,g0,gl,<- q,kT,this]
 ·rw[if_neg q]at ml;simp[hf.le,g0,gl,q,kT];omega
end
def wP(hi:i<n):(fs n r).getD i none=if i=r then some 0 else none:=by simp[fs,hi]
def In(n:Nat)(cs:List Int):Prop:=∀c∈cs,0<=c/\c<=n
abbrev DF(ps:List (Int×Int))(n r:Nat)(cs:List Int)(i:Nat):Int:=fF ps (fs n r) n n cs i
def mD(h0:0<=c)(h1:c<=n)(hn:1<=n):j9 n n c=true↔c+1<n:=by
 simp only[j9,and_eq_true,decide_eq_true_eq];constructor
 ·rintro⟨h2,h3⟩;apply Classical.byContradiction;intro z;have:c+1=n:=by omega
  rw[this,Int.emod_self]at h3;exact h3 rfl
 ·intro h;refine⟨by omega,?_⟩;rw[emod_eq_of_lt (by omega) h];omega
def kY(n1:1<=n)(hc:In n cs)(hn:cs.length=n)(hnb:∀x∈nbL ps i,0<=x/\x<n):x∈gL ps n n cs i↔∃j∈nbL ps i,gt cs j.toNat+1=x/\x<n:=by
 simp only[gL,mem_map,mem_filter];constructor
 ·rintro⟨c,⟨⟨j,hj,rfl⟩,h⟩,rfl⟩;obtain⟨h1,h2⟩:=hnb j hj;have hm:=hc _ (cK (far:=cs) (i:=j.toNat) (by omega));exact⟨j,hj,rfl,(mD hm.1 hm.2 n1).mp h⟩
 ·rintro⟨j,hj,rfl,h⟩;obtain⟨h1,h2⟩:=hnb j hj;have hm:=hc _ (cK (far:=cs) (i:=j.toNat) (by omega));exact⟨gt cs j.toNat,⟨⟨j,hj,rfl⟩,(mD hm.1 hm.2 n1).mpr h⟩,rfl⟩
def uG(n1:1<=n)(hr:r<n)(hc:In n cs)(hn:cs.length=n)(hnb:∀x∈nbL ps r,0<=x/\x<n):DF ps n r cs r=0:=by
 unfold DF fF;rw[wP hr,if_pos rfl];obtain⟨a1,a2⟩:=ff (l:=gL ps n n cs r ++(some (0:Int)).toList++[(n:Int)]) (by simp);have h1:=a2 0 (by simp);have h2:∀x∈gL ps n n cs r ++(some (0:Int)).toList++[(n:Int)],0<=x:=fun x hx=>by
  simp only[mem_append,toList,mem_cons,not_mem_nil,or_false]at hx;rcases hx with(hx|hx)|hx
  ·obtain⟨j,hj,h3,h4⟩:=(kY n1 hc hn hnb).mp hx;obtain⟨h5,h6⟩:=hnb j hj;have:=(hc _ (cK (far:=cs) (i:=j.toNat) (by omega))).1;omega
  ·omega
  ·omega
 have:=h2 _ a1;omega
def xm(n1:1<=n)(hi:i<n)(hir:i≠r)(hc:In n cs)(hn:cs.length=n)(hnb:∀x∈nbL ps i,0<=x/\x<n):(DF ps n r cs i=n\/∃j∈nbL ps i,gt cs j.toNat+1=DF ps n r cs i/\DF ps n r cs i<n)/\∀j∈nbL ps i,gt cs j.toNat+1<n->DF ps n r cs i<=gt cs j.toNat+1:=by
 unfold DF fF;rw[wP hi,if_neg hir];obtain⟨a1,a2⟩:=ff (l:=gL ps n n cs i ++(none:Option Int).toList++[(n:Int)]) (by simp);refine⟨?_,fun j hj hlt=>a2 _ ?_⟩
 ·simp only[mem_append,toList,mem_cons,not_mem_nil,or_false]at a1;rcases a1 with hx|hx
  ·exact .inr ((kY n1 hc hn hnb).mp hx)
  ·exact .inl hx
 ·rw[mem_append,mem_append];exact .inl (.inl ((kY n1 hc hn hnb).mpr ⟨j,hj,rfl,hlt⟩))
def Lv(F:List Int)(k:Int)(v:Int)(i:Nat):Prop:=min (gt F i) k<=v/\(gt F i<k->v<=gt F i)
def Lv.less{k:Int}(h:Lv F (k+1) v i):Lv F k v i:=⟨by have:=h.1;omega,fun z=>h.2 (by omega)⟩
structure cX(n r:Nat)(ps:List (Int×Int))(F:List Int):Prop where
 n1:1<=n
 n10:n<=10
 hr:r<n
 D:lZ n r (d8 ps) F
 all:∀i<n,gt F i<n
 rg:∀x∈ps,0<=x.1/\x.1<n/\0<=x.2/\x.2<n
section
variable{n r:Nat}{ps:List (Int×Int)}{F:List Int}
def cX.nb(N:cX n r ps F)(i:Nat):∀x∈nbL ps i,0<=x/\x<n:=fun x hx=>by
 rcases fe.mp hx with hx|hx
 ·have:=N.rg _ hx;omega
 ·have:=N.rg _ hx;omega
def cX.adj(N:cX n r ps F)(hx:x∈nbL ps i):d8 ps i x.toNat:=by have:=N.nb i x hx;unfold d8;rw[show((x.toNat:Nat):Int)=x by omega];exact(fe.mp hx).elim .inr .inl
def qX(h:d8 ps i j):(j:Int)∈ nbL ps i:=fe.mpr (h.elim .inr .inl)
def cX.step(N:cX n r ps F){k:Int}(hc:In n cs)(hn:cs.length=n)(h:∀j,j<n->Lv F k (gt cs j) j)(hi:i<n):Lv F (k+1) (DF ps n r cs i) i/\0<=DF ps n r cs i/\DF ps n r cs i<=n:=by
 have n1:=N.n1;by_cases hir:i=r
 ·subst hir;rw[uG n1 hi hc hn (N.nb i)];have:=N.D.rt;refine⟨⟨by omega,fun _=>by omega⟩,by omega,by omega⟩
 ·obtain⟨m1,m2⟩:=xm n1 hi hir hc hn (N.nb i);have ai:=N.all i hi;have di:=N.D.rng i hi;refine⟨⟨?_,fun hlt=>?_⟩,?_⟩
  ·rcases m1 with e |⟨j,hj,e,_⟩
   ·omega
   ·have hb:=N.nb i j hj;have l:=(h j.toNat (by omega)).1;have ad:d8 ps j.toNat i:=(N.adj hj).elim .inr .inl;have u:=N.D.up j.toNat (by omega) i hi ad;omega
  ·obtain⟨h1,j,hj,ad,ej⟩:=N.D.dn i hi hir ai;have hm:=qX ad;have l:=(h j hj).2 (by omega);have:=m2 _ hm (by simp;omega);simp at this;omega
  ·rcases m1 with e |⟨j,hj,e,e2⟩
   ·omega
   ·have hb:=N.nb i j hj;have:=(hc _ (cK (far:=cs) (i:=j.toNat) (by omega))).1;omega
def cX.zero(N:cX n r ps F)(hc:In n cs)(hn:cs.length=n):∀j,j<n->Lv F 0 (gt cs j) j:=fun j hj=>by have:=(hc _ (cK (far:=cs) (i:=j) (by omega))).1;have:=N.D.rng j hj;exact⟨by omega,fun z=>by omega⟩
def cX.last(N:cX n r ps F)(hn:cs.length=n)(h:∀j,j<n->Lv F n (gt cs j) j):cs=F:=by
 apply ext_getElem (by rw[hn,N.D.len]);intro i h1 h2;have a:=N.all i (by omega);obtain⟨l1,l2⟩:=h i (by omega);have:=l2 a;have e:gt cs i=gt F i:=by omega
 simpa[gt,h1,h2]using e
def cX.calm(N:cX n r ps F)(hc:In n cs)(hn:cs.length=n)(h:∀i,i<cs.length->DF ps n r cs i=gt cs i):cs=F:=by
 have key:∀k:Nat,∀j,j<n->Lv F k (gt cs j) j:=fun k=>by
  induction k with
  |zero=>exact N.zero hc hn
  |succ k ih=>intro j hj;have:=(N.step hc hn ih hj).1;rw[h j (by omega)]at this;simpa using this
 exact N.last hn (key n)
def cX.inF(N:cX n r ps F):In n F:=fun c hc=>by
 obtain⟨i,hi,rfl⟩:=List.mem_iff_getElem.mp hc;have hi':i<n:=by rw[<- N.D.len];exact hi
 have:=N.D.rng i hi';simp only[gt,getD_eq_getElem?_getD,getElem?_eq_getElem hi,getD_some]at this;exact this
def cX.rest(N:cX n r ps F):∀i,i<F.length->DF ps n r F i=gt F i:=fun i hi=>by
 have hi':i<n:=by rw[<- N.D.len];exact hi
 have:=(N.step (k:=n) N.inF N.D.len (fun j hj=>⟨by omega,fun _=>by omega⟩) hi').1;have a:=N.all i hi';obtain⟨l1,l2⟩:=this;have:=l2 (by omega);omega
end
section
abbrev DL(ps:List (Int×Int))(n:Nat)(ms:List Int)(cs:List Int)(i:Nat):Int:=fF ps (ls n ms) n ((n:Int)*10) cs i
def y3(n1:1<=n)(h:(c+1)%(n:Int)≠ 0):(c+1)%(n:Int)=c%n+1:=by
 have h1:=emod_nonneg c (show(n:Int)≠ 0 by omega);have h2:=emod_lt_of_pos c (show(0:Int)<n by omega);have e:c+1=c%n+1+n*(c / n):=by have:=Int.emod_add_mul_ediv c n;omega
 rw[e,Int.add_mul_emod_self_left]at h ⊢;by_cases q:c%n+1=n
 ·rw[q,Int.emod_self]at h;exact absurd rfl h
 ·exact emod_eq_of_lt (by omega) (by omega)
structure gz(n r:Nat)(ps:List (Int×Int))(ms F:List Int)(M:Int):Prop where
 n1:1<=n
 n10:n<=10
 hr:r<n
 D:lZ n r (d8 ps) F
 all:∀i<n,gt F i<n
 rg:∀x∈ps,0<=x.1/\x.1<n/\0<=x.2/\x.2<n
 ml:ms.length=n
 m0:0<=M
 m9:M<=9
 nr:gt ms r=M
 nl:∀i<n,i≠r->gt ms i<M
 mx:dC ms=M
 mr:∀x∈ms,0<=x/\x<=9
variable{n r:Nat}{ps:List (Int×Int)}{ms F:List Int}{M:Int}
def gz.nb(N:gz n r ps ms F M)(i:Nat):∀x∈nbL ps i,0<=x/\x<n:=fun x hx=>by
 rcases fe.mp hx with hx|hx
 ·have:=N.rg _ hx;omega
 ·have:=N.rg _ hx;omega
def gz.adj(N:gz n r ps ms F M)(hx:x∈nbL ps i):d8 ps i x.toNat:=by have:=N.nb i x hx;unfold d8;rw[show((x.toNat:Nat):Int)=x by omega];exact(fe.mp hx).elim .inr .inl
def gz.due(N:gz n r ps ms F M)(hi:i<n):(DL ps n ms cs i=(n:Int)*10\/DL ps n ms cs i=(9-gt ms i)*n\/∃j∈nbL ps i,gt cs j.toNat+1=DL ps n ms cs i/\(gt cs j.toNat+1)%(n:Int)≠ 0)/\DL ps n ms cs i <=(9-gt ms i)*n/\∀j∈nbL ps i,gt cs j.toNat ≠(n:Int)*10->(gt cs j.toNat+1)%(n:Int)≠ 0->DL ps n ms cs i<=gt cs j.toNat+1:=by
 have hm:i<ms.length:=by rw[N.ml];exact hi
 have es:(ls n ms).getD i none=some ((9-gt ms i)*n):=by simp[ls,gt,hm]
 unfold DL fF;rw[es];obtain⟨a1,a2⟩:=ff (l:=gL ps n ((n:Int)*10) cs i ++(some ((9-gt ms i)*(n:Int))).toList++[(n:Int)*10]) (by simp);refine⟨?_,a2 _ (by simp),fun j hj h1 h2=>a2 _ ?_⟩
 ·generalize fv (gL ps n ((n:Int)*10) cs i ++(some ((9-gt ms i)*(n:Int))).toList++[(n:Int)*10])=d at a1;simp only[mem_append,toList,mem_cons,not_mem_nil,or_false]at a1;rcases a1 with(hx|hx)|hx
  ·simp only[gL,mem_map,mem_filter]at hx;obtain⟨c,⟨⟨j,hj,rfl⟩,h⟩,rfl⟩:=hx;simp only[j9,and_eq_true,decide_eq_true_eq]at h;exact .inr (.inr ⟨j,hj,rfl,h.2⟩)
  ·exact .inr (.inl hx)
  ·exact .inl hx
 ·rw[mem_append,mem_append];refine .inl (.inl ?_);simp only[gL,mem_map,mem_filter];exact⟨gt cs j.toNat,⟨⟨j,hj,rfl⟩,by simp[j9,h1,h2]⟩,rfl⟩
abbrev Q(n:Nat)(M:Int):Int:=(9-M)*n
def gz.starts(N:gz n r ps ms F M)(hi:i<n):(i=r->(9-gt ms i)*(n:Int)=Q n M)/\(i≠r->Q n M+n <=(9-gt ms i)*(n:Int))/\Q n M <=(9-gt ms i)*(n:Int):=by
 have h1:i≠r->Q n M+n <=(9-gt ms i)*(n:Int):=fun h=>by
  have:=N.nl i hi h;have e:(9-gt ms i)*(n:Int)=Q n M+n+(M-gt ms i-1)*n:=by unfold Q;rw[show(9-gt ms i)=(9-M)+1+(M-gt ms i-1) by omega,Int.add_mul,Int.add_mul,Int.one_mul]
  have:0 <=(M-gt ms i-1)*(n:Int):=Int.mul_nonneg (by omega) (by omega);omega
 have h0:i=r->(9-gt ms i)*(n:Int)=Q n M:=fun h=>by rw[h,N.nr]
 refine⟨h0,h1,?_⟩;by_cases h:i=r
 ·rw[h0 h];omega
 ·have:=h1 h;omega
def gz.top(N:gz n r ps ms F M):Q n M+n <=(n:Int)*10/\0<=Q n M:=by
 have h1:(n:Int)*10=Q n M+n+M*n:=by unfold Q;rw[Int.sub_mul];omega
 have h2:0<=M*(n:Int):=Int.mul_nonneg N.m0 (by omega);have h3:0 <=(9-M)*(n:Int):=Int.mul_nonneg (by have:=N.m9;omega) (by omega);exact⟨by omega,h3⟩
def Iv(n:Nat)(F:List Int)(M:Int)(t:Nat)(v:Int)(i:Nat):Prop:=(v<Q n M->(t:Int)<= v%n)/\(n<=t->Lv F ((t:Int)-n) (v-Q n M) i)
def gz.step(N:gz n r ps ms F M)(h:∀j,j<n->Iv n F M t (gt cs j) j)(hi:i<n):Iv n F M (t+1) (DL ps n ms cs i) i:=by
 have n1:=N.n1;obtain⟨d1,d2,d3⟩:=N.due (cs:=cs) hi;obtain⟨s1,s2,s3⟩:=N.starts hi;obtain⟨t1,t2⟩:=N.top;have p1:DL ps n ms cs i<Q n M->((t+1:Nat):Int)<= DL ps n ms cs i%n:=fun z=>by
  rcases d1 with e|e |⟨j,hj,e,e2⟩
  ·omega
  ·omega
  ·have hb:=N.nb i j hj;have l:=(h j.toNat (by omega)).1 (by omega);rw[<- e,y3 n1 e2];omega
 refine⟨p1,fun ht=>?_⟩;have ai:=N.all i hi;have di:=N.D.rng i hi;have dl:n<=t+1->Q n M<=DL ps n ms cs i:=fun ht=>by apply Classical.byContradiction;intro z;have:=p1 (by omega);have:=emod_lt_of_pos (DL ps n ms cs i) (show(0:Int)<n by omega);omega
 have dl:=dl ht;by_cases q:n<=t
 ·rw[show((t+1:Nat):Int)-n=(t:Int)-n+1 by omega];by_cases hir:i=r
  ·have:=s1 hir;have f0:=N.D.rt;rw[<- hir]at f0;refine⟨by omega,fun _=>by omega⟩
  ·have s2:=s2 hir;refine⟨?_,fun hlt=>?_⟩
   ·rcases d1 with e|e |⟨j,hj,e,_⟩
    ·omega
    ·omega
    ·have hb:=N.nb i j hj;have l:=((h j.toNat (by omega)).2 q).1;have ad:d8 ps j.toNat i:=(N.adj hj).elim .inr .inl;have u:=N.D.up j.toNat (by omega) i hi ad;omega
   ·obtain⟨h1,j,hj,ad,ej⟩:=N.D.dn i hi hir ai;have hm:=qX ad;obtain⟨l1,l2⟩:=(h j hj).2 q;have l2:=l2 (by omega);have ec:gt cs j+1=gt F i+Q n M:=by omega
    have:=d3 _ hm (by simp;omega) (by
     simp;rw[ec,Int.add_mul_emod_self_right,emod_eq_of_lt (by omega) ai];omega)
    simp at this;omega
 ·rw[show((t+1:Nat):Int)-n=0 by omega];exact⟨by omega,fun z=>by omega⟩
def gz.zero(N:gz n r ps ms F M):∀j,j<n->Iv n F M 0 (gt cs j) j:=fun j hj=>by have n1:=N.n1;exact⟨fun _=>emod_nonneg _ (by omega),fun z=>by omega⟩
abbrev TT(n:Nat)(M:Int)(F:List Int):List Int:=F.map (· + Q n M)
def AR(hi:i<F.length):gt (TT n M F) i=gt F i+Q n M:=by simp[gt,hi]
def gz.last(N:gz n r ps ms F M)(hn:cs.length=n)(h:∀j,j<n->Iv n F M (2*n) (gt cs j) j):cs=TT n M F:=by
 apply ext_getElem (by simp[hn,N.D.len]);intro i h1 h2;have a:=N.all i (by omega);obtain⟨l1,l2⟩:=(h i (by omega)).2 (by omega);have:=l2 (by omega);have e:gt cs i=gt (TT n M F) i:=by rw[AR (by rw[N.D.len];omega)];omega
 have e1:gt cs i=cs[i]:=by simp[gt,h1]
 have e2:gt (TT n M F) i=(TT n M F)[i]:=by simp only[gt,getD_eq_getElem?_getD,getElem?_eq_getElem h2,getD_some]
 rw[<- e1,<- e2,e]
def gz.calm(N:gz n r ps ms F M)(hn:cs.length=n)(h:∀i,i<cs.length->DL ps n ms cs i=gt cs i):cs=TT n M F:=by
 have key:∀k:Nat,∀j,j<n->Iv n F M k (gt cs j) j:=fun k=>by
  induction k with
  |zero=>exact N.zero
  |succ k ih=>
   intro j hj;have:=N.step ih hj
   rwa [h j (by omega)]at this
 exact N.last hn (key (2*n))
end
def z_(a b:Int):eqD (.int a) (.int b)=(b==a):=rfl
def rG:∀l:List Int,(iL l).all shp=true
 | []=>rfl
 |a::l=>by have:=rG l;unfold iL at *;rw[map_cons,all_cons,this];rfl
def rF:∀l:List Int,(iL l).all smp=true
 | []=>rfl
 |a::l=>by have:=rF l;unfold iL at *;rw[map_cons,all_cons,this];rfl
def wI(hl:l.length<=1000)(h:a∈l)(f:Fl):∃j:Nat,e_ (.lst f (iL l)) (.int a)=.ok (.int j)/\l[j]?=some a/\∀i<j,l[i]?≠some a:=by
 have fi:∀l:List Int,(iL l).findIdx? (eqD (.int a))=l.findIdx? (·==a):=fun l=>by
  induction l with
  |nil=>rfl
  |cons b l ih=>have e:iL (b::l)=.int b::iL l:=rfl;rw[e,List.findIdx?_cons,List.findIdx?_cons,ih,z_]
 unfold e_;simp only[rG,rF,Bool.and_true,and_eq_true,decide_eq_true_eq];rw[if_pos ⟨rfl,by simp;omega⟩,fi];cases e:l.findIdx? (·==a)with
 |none=>rw[List.findIdx?_eq_none_iff]at e;have:=e a h;simp at this
 |some j=>
  obtain⟨h1,h2,h3⟩:=List.findIdx?_eq_some_iff_getElem.mp e;refine⟨j,rfl,?_,fun i hi q=>?_⟩
  ·rw[getElem?_eq_getElem h1,eq_of_beq h2]
  ·obtain⟨h4,h5⟩:=List.getElem?_eq_some_iff.mp q;exact h3 i hi (by rw[h5];simp)
section
variable{k n:Nat}{ws:List (Int×Int)}{pa ms:List Int}{r:Nat}{sp:Int}
def Td.net(T:Td k n ws pa ms r sp){q:Nat}(hq:q<n):∃F,cX n q (aW (ws.map mm)) F:=by
 have n7:=T.n7;have rg:∀x∈aW (ws.map mm),0<=x.1/\x.1<n/\0<=x.2/\x.2<n:=fun x hx=>by obtain⟨w,hw,rfl⟩:=mem_map.mp ((bC _).mem_iff.mp hx);have:=T.wh.rg w hw;simp only[mm];omega
 obtain⟨F,_,Df⟩:=wR (n:=n) (r:=q) (ps:=aW (ws.map mm)) hq (by omega) rg;exact⟨F,T.n1,by omega,hq,Df,Df.all hq fun S h0 hc=>sO T.wh hq S h0 hc,rg⟩
def Bm(T:Td 3 n ws pa ms r sp)(hf:Fc f)(hn:cs.length=n)(hc:InS ((n:Int)+1) cs)(h:caR n false (fF (aW (ws.map mm)) (fs n r) n n) cs=true):h8 [tdV 3 n ws pa ms r sp,.lst f (iL cs)]=.ok (.bl true):=by obtain⟨F,N⟩:=T.net T.rn;have lf:=nT T T.rn N.D N.all;have e1:pEq (.str (kiS 3)) (.str "far")=.ok (.bl true):=cJ (by decide +kernel);refine f8 hf (by omega) (by omega) (hs:=F) (aD ?_) (N.calm (fun c h=>by have:=hc c h;omega) hn fun i hi=>kZ h i (by omega));show jz [some (tdV 3 n ws pa ms r sp),none,none,none,none,none,none]=_;unfold jz;refine af (aB (v:=.int n) (by simp[jC]) (by simp) rfl) ?_;simp only[s0_,s1_];exact cw (fG (by simp[iB,e1]) (bj (by simp[uX,lf,aL]) (by simp)))
def Bl(T:Td 4 n ws pa ms r sp)(hf:Fc f)(hn:cs.length=n)(h:caR n false (fF (aW (ws.map mm)) (ls n ms) n (10*n)) cs=true):h8 [tdV 4 n ws pa ms r sp,.lst f (iL cs)]=.ok (.bl true):=by
 have n1:=T.n1;have n7:=T.n7;have O:=T.nm;have hme:ms≠[]:=fun z=>by have:=O.ml;rw[z]at this;simp at this;omega
 obtain⟨mx1,mx2⟩:=jh hme;obtain⟨q,px,hj,_⟩:=wI (by have:=O.ml;omega) mx1 .frz;obtain⟨hq0,hq1⟩:=List.getElem?_eq_some_iff.mp hj;have hq:q<n:=by have:=O.ml;omega
 obtain⟨F,N⟩:=T.net hq;have gq:gt ms q=dC ms:=by rw[hZ _ _ hq0];exact hq1
 have L:gz n q (aW (ws.map mm)) ms F (dC ms):=⟨N.n1,N.n10,hq,N.D,N.all,N.rg,O.ml,(O.mr _ mx1).1,(O.mr _ mx1).2,gq,fun i hi hir=>by
  have hi':i<ms.length:=by have:=O.ml;omega
  have le:=mx2 ms[i] (getElem_mem hi');have ne:ms[i]≠ dC ms:=fun z=>hir ((getElem_inj O.nd).mp (z.trans hq1.symm));rw[hZ _ _ hi'];omega,rfl,O.mr⟩
 have lf:=nT T hq N.D N.all;have e1:pEq (.str (kiS 4)) (.str "far")=.ok (.bl false):=cJ (by decide +kernel);have e2:pEq (.str (kiS 4)) (.str "lead")=.ok (.bl true):=cJ (by decide +kernel);have TE:TT n (dC ms) F=(range n).map fun i=>(9-dC ms)*n+gt F i:=by
  refine ext_getElem (by simp[N.D.len]) fun i h1 h2=>?_;have hi:i<F.length:=by simpa using h1
  have:=AR (n:=n) (M:=dC ms) (F:=F) hi;rw[hZ _ _ h1]at this;rw[this];simp[Q];omega
 refine f8 hf (by omega) (by omega) (hs:=TT n (dC ms) F) (aD ?_) (L.calm hn fun i hi=>by have:=kZ h i (by omega);rwa [Int.mul_comm]at this);show jz [some (tdV 4 n ws pa ms r sp),none,none,none,none,none,none]=_;unfold jz;have pm:eP dC (.lst .frz (iL ms))=.ok (.int (dC ms)):=by unfold eP;simp only[aT,fR];rw[if_neg (by simpa using hme)]
 refine af (aB (v:=.int n) (by simp[jC]) (by simp) rfl) ?_;simp only[s0_,s1_];refine af (bR (by simp[iB,e1]) aG) (cw (fG (by simp[iB,e2]) ?_));refine af (aB (v:=.int (dC ms)) (by simp[sX,p1,pm]) (by simp) rfl) ?_;simp only[s0_,s1_];refine af (aB (v:=.lst .own (iL F)) (by simp[jk,sX,px,lf,aL]) (by simp) rfl) ?_;simp only[s0_,s1_];refine bj ?_ (by simp);rw[TE];refine aR (xs:=cq 0 n) (bI (n:=n) (by simp) (by omega)) (by rw[a_];omega) (d4 0 (fun i:Nat=>(9-dC ms)*n+gt F i) n fun i hi=>⟨[some (.int (dC ms)),some (.int n),some (.lst .bor (iL F)),some (.int (0+i))],by simp[tgN,aS,bH,PV.borrow],?_⟩);have gi:az (.lst .bor (iL F)) (.int (i:Int))=.ok (.int (gt F i)):=by simpa using bq (f:=.bor) (cs:=F) (i:=i) (by omega) (by have:=N.D.len;omega)
 have mu:gK (.int (9-dC ms)) (.int (n:Int))=.ok (.int ((9-dC ms)*n)):=jN (.inr ⟨by omega,by omega⟩);simp[gi,mu]
end
def qa{f g:Nat->Int}:∀(l:List Nat),(∀j∈l,f j<=g j)->(l.map f).sum <=(l.map g).sum
 | [],_=>by simp
 |x::l,h=>by have:=qa l fun j hj=>h j (mem_cons_of_mem _ hj);have:=h x mem_cons_self;simp only[map_cons,sum_cons];omega
def i4{f g:Nat->Int}:∀(l:List Nat),(l.map fun j=>f j+g j).sum=(l.map f).sum+(l.map g).sum
 | []=>by simp
 |x::l=>by have:=i4 (f:=f) (g:=g) l;simp only[map_cons,sum_cons];omega
def m_:∀n:Nat,((range n).map fun j=>if j=i then a else 0).sum=if i<n then a else 0
 |0=>by simp
 |n+1=>by
  rw[List.range_succ,map_append,sum_append,m_ n];simp only[map_cons,map_nil,sum_cons,List.sum_nil];by_cases h:n=i
  ·subst h;simp
  ·rw[if_neg h];by_cases h2:i<n
   ·rw[if_pos h2,if_pos (by omega)];simp
   ·rw[if_neg h2,if_neg (by omega)];simp
def iH{p:Nat->Bool}{f:Nat->Int}:∀l:List Nat,((l.filter p).map f).sum=(l.map fun j=>if p j then f j else 0).sum
 | []=>by simp
 |x::l=>by
  have:=iH (p:=p) (f:=f) l;by_cases h:p x=true
  ·simp[h,this]
  ·simp[h,this]
section
variable{n:Nat}{ps:List (Int×Int)}{r:Nat}{cs:List Int}{fa:List Int}
def ii{e:Int}(h:eld ps r fa i=some e):i≠r/\e∈nbL ps i/\gt fa e.toNat=gt fa i-1/\∀x∈nbL ps i,gt fa x.toNat=gt fa i-1->e<=x:=by
 unfold eld at h;by_cases q:i=r
 ·rw[if_pos q]at h;cases h
 rw[if_neg q]at h;by_cases q2:(nea ps fa i).isEmpty=true
 ·rw[if_pos q2]at h;cases h
 rw[if_neg q2]at h;cases h;obtain⟨a1,a2⟩:=ff (l:=nea ps fa i) (by simpa using q2);obtain⟨b1,b2⟩:=mem_filter.mp a1;exact⟨q,b1,by simpa using b2,fun x hx hy=>a2 x (mem_filter.mpr ⟨hx,by simpa using hy⟩)⟩
def InG(n:Nat)(cs:List Int):Prop:=∀c∈cs,0<=c/\c <((n:Int)+1)*((n:Int)+1)
def InG.far(hc:InG n cs):∀c∈FA n cs,0<=c/\c <=(n:Int):=fun c hx=>by obtain⟨x,hm,rfl⟩:=mem_map.mp hx;obtain⟨h1,h2⟩:=hc x hm;have a:=Int.ediv_nonneg h1 (show 0 <=(n:Int)+1 by omega);have b:=Int.ediv_lt_of_lt_mul (show 0 <(n:Int)+1 by omega) h2;exact⟨a,by omega⟩
def sx(hi:i<cs.length):gt (FA n cs) i=gt cs i / ((n:Int)+1):=by simp[FA,gt,hi]
def wM(hi:i<cs.length):gt (CN n cs) i=gt cs i%((n:Int)+1):=by simp[CN,gt,hi]
def Ah(hn:cs.length=n):0<=dcn n ps r cs i/\dcn n ps r cs i<=n:=by
 have:0 <=(jT n ps r cs i).sum:=by
  have h:∀l:List Int,(∀x∈l,0<=x)->0<=l.sum:=fun l=>by
   induction l with
   |nil=>intro _;simp
   |cons x l ih=>intro h;have:=ih fun y hy=>h y (mem_cons_of_mem _ hy);have:=h x mem_cons_self;simp only[sum_cons];omega
  exact h _ fun x hx=>(lq hn hx).1
 unfold dcn;omega
def qb{m:Int}(hb:0<=b/\b<=m):(a*(m+1)+b) / (m+1)=a/\(a*(m+1)+b)%(m+1)=b:=by
 have hm:m+1≠0:=by omega
 constructor
 ·rw[Int.add_comm,Int.add_mul_ediv_right _ _ hm,Int.ediv_eq_zero_of_lt hb.1 (by omega)];omega
 ·rw[Int.add_comm,Int.add_mul_emod_self_right];exact emod_eq_of_lt hb.1 (by omega)
def pcn(n:Nat)(ps:List (Int×Int))(r:Nat)(cs:List Int)(i:Nat):Int:=if fF ps (fs n r) n n (FA n cs) i=gt (FA n cs) i then dcn n ps r cs i else gt (CN n cs) i
def zq(hn:cs.length=n)(hi:i<n):0<=pcn n ps r cs i/\pcn n ps r cs i<=n:=by
 unfold pcn;split
 ·exact Ah hn
 ·exact rh hn i hi
def xl(hn:cs.length=n)(hi:i<n):kh n ps r cs i / ((n:Int)+1)=fF ps (fs n r) n n (FA n cs) i/\kh n ps r cs i%((n:Int)+1)=pcn n ps r cs i:=qb (zq hn hi)
end
section
variable{n r:Nat}{ps:List (Int×Int)}{F:List Int}
def oC{f:Nat->Nat->Int}(m:List Nat):∀l:List Nat,(l.map fun j=>(m.map fun c=>f j c).sum).sum=(m.map fun c=>(l.map fun j=>f j c).sum).sum
 | []=>by
  have:∀m:List Nat,(m.map fun _=>(0:Int)).sum=0:=fun m=>by induction m<;>simp_all
  simp[this m]
 |j::l=>by have:=oC (f:=f) m l;simp only[map_cons,sum_cons];rw[this,<- i4]
def jD:∀l:List Nat,(l.map fun _=>(0:Int)).sum=0
 | []=>rfl
 |x::l=>by simp[jD l]
def upE(ps:List (Int×Int))(r:Nat)(F:List Int)(j:Nat):Nat->Option Int
 |0=>some (j:Int)
 |m+1=>match upE ps r F j m with
  |some c=>eld ps r F c.toNat
  |none=>none
def cnu(ps:List (Int×Int))(r:Nat)(F:List Int)(j:Nat):Nat->Nat->Int
 |0,_=>0
 |k+1,i=>cnu ps r F j k i+(if upE ps r F j k=some (i:Int)then 1 else 0)
def hdn(n:Nat)(ps:List (Int×Int))(r:Nat)(F:List Int)(i:Nat):Int:=((range n).map fun j=>cnu ps r F j n i).sum
def m5(N:cX n r ps F)(hj:j<n):∀(m:Nat) (c:Int),upE ps r F j m=some c->0<=c/\c<n/\gt F c.toNat=gt F j-m
 |0,c,h=>by simp only[upE,Option.some.injEq]at h;subst h;simp;omega
 |m+1,c,h=>by
  simp only[upE]at h;cases e:upE ps r F j m with
  |none=>rw[e]at h;cases h
  |some c'=>rw[e]at h;obtain⟨h1,h2,h3⟩:=m5 N hj m c' e;obtain⟨_,g1,g2,_⟩:=ii h;have:=N.nb _ _ g1;refine⟨this.1,this.2,?_⟩;rw[g2,h3];omega
def sP(N:cX n r ps F)(hj:j<n):∀(k i:Nat),cnu ps r F j (k+1) i=(if j=i then 1 else 0)+((range n).map fun c=>if eld ps r F c=some (i:Int)then cnu ps r F j k c else 0).sum
  |0,i=>by
    have:((range n).map fun c=>if eld ps r F c=some (i:Int)then cnu ps r F j 0 c else 0).sum=0:=by rw[show(fun c=>if eld ps r F c=some (i:Int)then cnu ps r F j 0 c else 0)=fun _=>(0:Int) by funext c;simp[cnu]];exact jD _
    rw[this];show 0+(if upE ps r F j 0=some (i:Int)then 1 else 0)=_;by_cases e:j=i
    . rw[if_pos e,if_pos (by rw[e];rfl)];rfl
    . rw [if_neg e,if_neg (show ¬ upE ps r F j 0=some (i:Int) from fun z=>by
        have z':some (j:Int)=some (i:Int):=z;simp at z';omega)]
  |k+1,i=>by
    have ih:=sP N hj k i;have e1:cnu ps r F j (k+1+1) i=cnu ps r F j (k+1) i+(if upE ps r F j (k+1)=some (i:Int)then 1 else 0):=rfl;rw[e1,ih];have e2:(fun c=>if eld ps r F c=some (i:Int)then cnu ps r F j (k+1) c else 0)=fun c=>(if eld ps r F c=some (i:Int)then cnu ps r F j k c else 0)+(if eld ps r F c=some (i:Int)then(if upE ps r F j k=some (c:Int)then(1:Int)else 0)else 0):=by
      funext c;by_cases q:eld ps r F c=some (i:Int)
      . simp only[q,if_true];rfl
      . simp[q]
    rw[e2,i4];have e3:((range n).map fun c=>if eld ps r F c=some (i:Int)then(if upE ps r F j k=some (c:Int)then(1:Int)else 0)else 0).sum=if upE ps r F j (k+1)=some (i:Int)then 1 else 0:=by
      have hh:∀x,upE ps r F j k=x->((range n).map fun c=>if eld ps r F c=some (i:Int)then(if upE ps r F j k=some (c:Int)then(1:Int)else 0)else 0).sum=if upE ps r F j (k+1)=some (i:Int)then 1 else 0:=fun x e=>by
       cases x with
       |none=>
        have u1:upE ps r F j (k+1)=none:=by simp only[upE,e]
        rw[show(fun c:Nat=>if eld ps r F c=some (i:Int)then(if upE ps r F j k=some (c:Int)then(1:Int)else 0)else 0)=fun _=>(0:Int) by funext c;simp[e],u1];simpa using jD (range n)
       |some c'=>
        obtain⟨h1,h2,_⟩:=m5 N hj k c' e;have u1:upE ps r F j (k+1)=eld ps r F c'.toNat:=by simp only[upE,e]
        rw [u1,show (fun c:Nat=>if eld ps r F c=some (i:Int) then (if upE ps r F j k=some (c:Int) then (1:Int) else 0) else 0)=fun c:Nat=>if c=c'.toNat then (if eld ps r F c'.toNat=some (i:Int) then 1 else 0) else 0 by
          funext c;rw[e];by_cases q:c=c'.toNat
          . subst q;rw[if_pos rfl,if_pos (show some c'=some ((c'.toNat:Nat):Int) by congr 1;omega)]
          . rw[if_neg q,if_neg (show ¬some c'=some (c:Int) by intro z;cases z;omega)];simp]
        rw[m_,if_pos (by omega)]
      exact hh _ rfl
    rw[e3];omega
def yr(N:cX n r ps F)(hj:j<n):upE ps r F j n=none:=by
 cases e:upE ps r F j n with
 |none=>rfl
 |some c=>obtain⟨h1,h2,h3⟩:=m5 N hj n c e;have:=N.all j hj;have:=(N.D.rng c.toNat (by omega)).1;omega
def Am(N:cX n r ps F)(hj:j<n)(i:Nat):cnu ps r F j n i=(if j=i then 1 else 0)+((range n).map fun c=>if eld ps r F c=some (i:Int)then cnu ps r F j n c else 0).sum:=by have h:=sP N hj n i;have e:cnu ps r F j (n+1) i=cnu ps r F j n i+(if upE ps r F j n=some (i:Int)then 1 else 0):=rfl;rw[yr N hj]at e;rw[<- h,e];simp
def sw(N:cX n r ps F)(hi:i<n):hdn n ps r F i=1+(((range n).filter fun c=>decide (eld ps r F c=some (i:Int))).map (hdn n ps r F)).sum:=by
 have e1:hdn n ps r F i=((range n).map fun j=>(if j=i then(1:Int)else 0)+((range n).map fun c=>if eld ps r F c=some (i:Int)then cnu ps r F j n c else 0).sum).sum:=by unfold hdn;congr 1;exact map_congr_left fun j hj=>Am N (mem_range.mp hj) i
 rw[e1,i4,m_,if_pos hi,oC,iH];congr 2;refine map_congr_left fun c _=>?_;by_cases q:eld ps r F c=some (i:Int)
 ·simp only[q,if_true,decide_true];rfl
 ·simp only[q,if_false,decide_false];simpa using jD (range n)
def qT(N:cX n r ps F)(hj:j<n):∀(k i:Nat),0<=cnu ps r F j k i/\cnu ps r F j k i<=if gt F j-gt F i<k then 1 else 0
 |0,i=>by simp only[cnu];split<;>omega
 |k+1,i=>by
  obtain⟨h1,h2⟩:=qT N hj k i;simp only[cnu];by_cases q:upE ps r F j k=some (i:Int)
  ·rw[if_pos q];have:=(m5 N hj k _ q).2.2;rw[toNat_natCast]at this;rw[if_neg (by omega)]at h2;rw[if_pos (by omega)];omega
  ·rw[if_neg q];by_cases q2:gt F j-gt F i<k
   ·rw[if_pos q2]at h2;rw[if_pos (by omega)];omega
   ·rw[if_neg q2]at h2;split<;>omega
def C5(N:cX n r ps F)(hi:i<n)(h:i≠r):∃e,eld ps r F i=some e:=by
 obtain⟨_,j,hj,ad,ej⟩:=N.D.dn i hi h (N.all i hi);have hm:(j:Int)∈ nea ps F i:=mem_filter.mpr ⟨qX ad,by simp[ej]⟩;unfold eld;rw[if_neg h,if_neg]
 ·exact⟨_,rfl⟩
 ·intro z;rw[List.isEmpty_iff.mp z]at hm;cases hm
def rB:∀n:Nat,((range n).map fun _=>(1:Int)).sum=n
 |0=>rfl
 |n+1=>by rw[List.range_succ,map_append,sum_append,rB n];simp
def zS(N:cX n r ps F)(i:Nat):0<=hdn n ps r F i/\hdn n ps r F i<=n:=by
 unfold hdn;constructor
 ·have:=qa (f:=fun _=>(0:Int)) (g:=fun j=>cnu ps r F j n i) (range n) fun j hj=>(qT N (mem_range.mp hj) n i).1
  rwa [jD]at this
 ·have:=qa (f:=fun j=>cnu ps r F j n i) (g:=fun _=>(1:Int)) (range n) fun j hj=>by have:=(qT N (mem_range.mp hj) n i).2;split at this<;>omega
  rwa [rB]at this
def Ai(N:cX n r ps F)(hf:FA n cs=F)(hi:i<n)(hk:∀c,c<n->eld ps r F c=some (i:Int)->gt (CN n cs) c=hdn n ps r F c):dcn n ps r cs i=hdn n ps r F i:=by
 have h:=sw N hi;have b:=(zS N i).2;have e:jT n ps r cs i=((range n).filter fun c=>decide (eld ps r F c=some (i:Int))).map (hdn n ps r F):=by unfold jT;rw[hf];refine map_congr_left fun c hc=>?_;obtain⟨h1,h2⟩:=mem_filter.mp hc;exact hk c (mem_range.mp h1) (by simpa using h2)
 unfold dcn;rw[e,<- h];omega
def Pg(n:Nat)(ps:List (Int×Int))(r:Nat)(F:List Int)(k:Nat)(c:Int)(i:Nat):Prop:=Lv F ((min k n:Nat):Int) (c / ((n:Int)+1)) i/\(n<=k->2*(n:Int)-k<=gt F i->c%((n:Int)+1)=hdn n ps r F i)
def Pg.zero(N:cX n r ps F)(hc:InG n cs)(hn:cs.length=n):∀j,j<n->Pg n ps r F 0 (gt cs j) j:=fun j hj=>by have n1:=N.n1;refine⟨?_,fun h=>absurd h (by omega)⟩;have:=N.zero (cs:=FA n cs) hc.far (by simpa using hn) j hj;rw[sx (by omega)]at this;simpa using this
def AS(N:cX n r ps F)(hn:cs.length=n)(hk:n<=k)(h:∀j,j<n->Pg n ps r F k (gt cs j) j):FA n cs=F:=by
 refine N.last (by simpa using hn) fun j hj=>?_;have:=(h j hj).1;rw[Nat.min_eq_right hk]at this
 rwa [sx (by omega)]
def Pg.step(N:cX n r ps F)(hc:InG n cs)(hn:cs.length=n)(h:∀j,j<n->Pg n ps r F k (gt cs j) j)(hi:i<n):Pg n ps r F (k+1) (kh n ps r cs i) i:=by
 obtain⟨e1,e2⟩:=xl (ps:=ps) (r:=r) hn hi;have fl:(FA n cs).length=n:=by simpa using hn
 refine⟨?_,fun h1 h2=>?_⟩
 ·rw[e1];have:=(N.step (k:=((min k n:Nat):Int)) (cs:=FA n cs) hc.far fl (fun j hj=>by rw[sx (by omega)];exact(h j hj).1) hi).1;by_cases q:k<n
  ·rw[Nat.min_eq_left (by omega)]at this;rw[Nat.min_eq_left (by omega)];simpa using this
  ·rw[Nat.min_eq_right (by omega)]at this;rw[Nat.min_eq_right (by omega)];exact this.less
 ·have ai:=N.all i hi;have hk:n<=k:=by omega
  have hf:=AS N hn hk h;rw[e2];have rs:=N.rest i (by rw[N.D.len];exact hi);unfold DF at rs;unfold pcn;rw[hf,if_pos rs];refine Ai N hf hi fun c hcn he=>?_;have:=(ii he).2.2.1;rw[toNat_natCast]at this;rw[wM (by omega)];exact(h c hcn).2 hk (by omega)
structure q9(n:Nat)(ps:List (Int×Int))(r:Nat)(F cs:List Int):Prop where
 fa:FA n cs=F
 cn:∀i,i<n->gt (CN n cs) i=hdn n ps r F i
def q9.of(N:cX n r ps F)(hn:cs.length=n)(h:∀j,j<n->Pg n ps r F (2*n) (gt cs j) j):q9 n ps r F cs:=
 ⟨AS N hn (by omega) h,fun i hi=>by
  have:=N.D.rng i hi;rw[wM (by omega)];exact(h i hi).2 (by omega) (by omega)⟩
def q9.calm(N:cX n r ps F)(hc:InG n cs)(hn:cs.length=n)(h:∀i,i<cs.length->kh n ps r cs i=gt cs i):q9 n ps r F cs:=by
 refine q9.of N hn ?_;have key:∀k:Nat,∀j,j<n->Pg n ps r F k (gt cs j) j:=fun k=>by
  induction k with
  |zero=>exact Pg.zero N hc hn
  |succ k ih=>
   intro j hj;have:=Pg.step N hc hn ih hj
   rwa [h j (by omega)]at this
 exact key _
end
section
variable{k n:Nat}{ws:List (Int×Int)}{pa ms:List Int}{r:Nat}{sp:Int}{F:List Int}
def qH(T:Td k n ws pa ms r sp):∃L:List Int,w4 [tdV k n ws pa ms r sp,.int i]=.ok (.lst .own (iL L))/\L.Pairwise (·<=·)/\(∀o,o∈L↔o∈nbL (aW (ws.map mm)) i)/\L.length<=1000:=by
 have wl:=T.wh.ln
 let A:List Int:=(ws.filter fun w=>decide (w.1=(i:Int))).map (·.2)
 let B:List Int:=(ws.filter fun w=>decide (w.2=(i:Int))).map (·.1)
 have la:A.length<=55:=by simp only[A,length_map];have:=length_filter_le (fun w:Int×Int=>decide (w.1=(i:Int))) ws;omega
 have lb:B.length<=55:=by simp only[B,length_map];have:=length_filter_le (fun w:Int×Int=>decide (w.2=(i:Int))) ws;omega
 have sl:(A++B).length<64:=by
  have h1:∀l:List (Int×Int),(∀w∈l,w.1≠w.2)->(l.filter fun w=>decide (w.1=(i:Int))).length+(l.filter fun w=>decide (w.2=(i:Int))).length<=l.length:=fun l=>by
   induction l with
   |nil=>intro _;simp
   |cons w l ih=>
    intro h;have:=ih fun v hv=>h v (mem_cons_of_mem _ hv);have ne:=h w mem_cons_self;by_cases a:w.1=(i:Int)<;>by_cases b:w.2=(i:Int)
    ·exact absurd (a.trans b.symm) ne
    ·simp[filter_cons,a,b];omega
    ·simp[filter_cons,a,b];omega
    ·simp[filter_cons,a,b];omega
  have:=h1 ws fun w hw=>(T.wh.rg w hw).2.2.2.2;simp only[A,B,length_append,length_map];omega
 refine⟨gP (A++B),aD ?_,jF _,fun o=>?_,by rw[(cO _).length_eq];omega⟩
 ·show xS [some (tdV k n ws pa ms r sp),some (.int i),none]=_;unfold xS;have p0:∀w,az (prV w) (.int 0)=.ok (.int w.1):=fun _=>rfl;have p1':∀w,az (prV w) (.int 1)=.ok (.int w.2):=fun _=>rfl;have cA:∀x2,a6 [1] 1 (cb (mUn (bJ 0 2) (aa 0))) (tgN 1) (aC (mOp pEq (mOp az (aa 1) (mC (.int 0))) (aa 0))) (mOp az (aa 1) (mC (.int 1))) [some (tdV k n ws pa ms r sp),some (.int i),x2]=.ok (.lst .own (iL A)):=fun x2=>by
   refine aR (xs:=prL ws) (by simp[uY]) (by simp[prL];omega) ?_;have:=bQ (env:=bH [1] 1 [some (tdV k n ws pa ms r sp),some (.int i),x2]) (g:=tgN 1) (mc:=aC (mOp pEq (mOp az (aa 1) (mC (.int 0))) (aa 0))) (me:=mOp az (aa 1) (mC (.int 1))) (a:=prV) (f:=fun w=>PV.int w.2) (p:=fun w=>decide (w.1=(i:Int))) ws fun w _=>⟨[some (.int i),some (prV w)],by simp[tgN,aS,bH],by simp[p0],fun _=>⟨by simp[p1'],by simp,by simp⟩⟩
   simpa[A,iL,prL,map_map,Function.comp_def]using this
  have cB:∀x2,a6 [1] 1 (cb (mUn (bJ 0 2) (aa 0))) (tgN 1) (aC (mOp pEq (mOp az (aa 1) (mC (.int 1))) (aa 0))) (mOp az (aa 1) (mC (.int 0))) [some (tdV k n ws pa ms r sp),some (.int i),x2]=.ok (.lst .own (iL B)):=fun x2=>by
   refine aR (xs:=prL ws) (by simp[uY]) (by simp[prL];omega) ?_;have:=bQ (env:=bH [1] 1 [some (tdV k n ws pa ms r sp),some (.int i),x2]) (g:=tgN 1) (mc:=aC (mOp pEq (mOp az (aa 1) (mC (.int 1))) (aa 0))) (me:=mOp az (aa 1) (mC (.int 0))) (a:=prV) (f:=fun w=>PV.int w.1) (p:=fun w=>decide (w.2=(i:Int))) ws fun w _=>⟨[some (.int i),some (prV w)],by simp[tgN,aS,bH],by simp[p1'],fun _=>⟨by simp[p0],by simp,by simp⟩⟩
   simpa[B,iL,prL,map_map,Function.comp_def]using this
  refine af (aB (v:=.lst .own (iL A)) (cA none) (by simp) rfl) ?_;simp only[s0_,s1_];refine bj ?_ (by simp);have so:=jE (f:=.own) (A++B) sl;simp only[de,bO,cr,eR,cB,cD];generalize A=A' at *;generalize B=B' at *;simp;rw[eY (by decide) (by decide) (by simp;omega)];simp[so]
 ·rw[(cO _).mem_iff,fe];have key:∀a b:Int,(a,b)∈ aW (ws.map mm)\/(b,a)∈ aW (ws.map mm)↔(a,b)∈ ws \/(b,a)∈ ws:=fun a b=>by
   have ng:∀w∈ws,0<=w.1/\0<=w.2:=fun w hw=>by have:=T.wh.rg w hw;omega
   have ng2:∀x∈aW (ws.map mm),0<=x.1/\0<=x.2:=fun x hx=>by obtain⟨w,hw,rfl⟩:=mem_map.mp ((bC _).mem_iff.mp hx);have:=ng w hw;simp only[mm];omega
   by_cases h0:0<=a/\0<=b
   ·have:=ot (ws:=ws) (i:=a.toNat) (j:=b.toNat);unfold d8 at this
    rwa [toNat_of_nonneg h0.1,toNat_of_nonneg h0.2]at this
   ·constructor
    ·rintro(h|h)
     ·exact absurd (ng2 _ h) h0
     ·exact absurd (ng2 _ h).symm h0
    ·rintro(h|h)
     ·exact absurd (ng _ h) h0
     ·exact absurd (ng _ h).symm h0
  rw[key];simp only[A,B,mem_append,mem_map,mem_filter,decide_eq_true_eq];constructor
  ·rintro(⟨⟨x,y⟩,⟨h1,rfl⟩,rfl⟩ |⟨⟨x,y⟩,⟨h1,rfl⟩,rfl⟩)
   ·exact .inr h1
   ·exact .inl h1
  ·rintro(h|h)
   ·exact .inr ⟨_,⟨h,rfl⟩,rfl⟩
   ·exact .inl ⟨_,⟨h,rfl⟩,rfl⟩
end
section
variable{k n:Nat}{ws:List (Int×Int)}{pa ms:List Int}{r:Nat}{sp:Int}{F:List Int}{ps:List (Int×Int)}
def sS(n:Nat)(ps:List (Int×Int))(r:Nat)(F:List Int)(p:Nat->Bool)(i:Nat):Int:=((range n).map fun c=>if p c&&decide (eld ps r F c=some (i:Int))then hdn n ps r F c else 0).sum
def Bf{p':Nat->Bool}{a:Nat}(ha:a<n)(h0:p a=false)(h:∀c,c<n->p' c=(p c||decide (c=a)))(i:Nat):sS n ps r F p' i=sS n ps r F p i+if eld ps r F a=some (i:Int)then hdn n ps r F a else 0:=by
 unfold sS;have e:((range n).map fun c=>if p' c&&decide (eld ps r F c=some (i:Int))then hdn n ps r F c else 0)=(range n).map fun c=>(if p c&&decide (eld ps r F c=some (i:Int))then hdn n ps r F c else 0)+(if c=a then(if eld ps r F a=some (i:Int)then hdn n ps r F a else 0)else 0):=by
  refine map_congr_left fun c hc=>?_;rw[h c (mem_range.mp hc)];by_cases q:c=a
  ·subst q;by_cases z:eld ps r F c=some (i:Int)<;>simp[h0,z]
  ·simp[q]
 rw[e,i4,m_,if_pos ha]
def kL{p':Nat->Bool}(h:∀c,c<n->∀i:Nat,eld ps r F c=some (i:Int)->p c=p' c)(i:Nat):sS n ps r F p i=sS n ps r F p' i:=by
 unfold sS;congr 1;refine map_congr_left fun c hc=>?_;by_cases z:eld ps r F c=some (i:Int)
 ·rw[h c (mem_range.mp hc) i z]
 ·simp[z]
def vq(N:cX n r ps F)(hi:i<n)(h:∀c,c<n->eld ps r F c=some (i:Int)->p c=true):1+sS n ps r F p i=hdn n ps r F i:=by
 rw[sw N hi,iH];unfold sS;congr 2;refine map_congr_left fun c hc=>?_;by_cases z:eld ps r F c=some (i:Int)
 ·simp[z,h c (mem_range.mp hc) z]
 ·simp[z]
def oH{L:List Int}(hs:L.Pairwise (·<=·)){e:Int}(he:e∈L)(hm:∀x∈L,e<=x):L[0]?=some e:=by
 cases L with
 |nil=>cases he
 |cons a l=>
  rcases mem_cons.mp he with rfl|h
  ·rfl
  ·have h1:=(pairwise_cons.mp hs).1 e h;have h2:=hm a mem_cons_self;rw[show a=e by omega];rfl
def ul(T:Td k n ws pa ms r sp)(N:cX n r (aW (ws.map mm)) F):wY [tdV k n ws pa ms r sp]=.ok (.lst .own (iL ((range n).map fun i=>gt F i*((n:Int)+1)+hdn n (aW (ws.map mm)) r F i))):=by
 have n1:=T.n1;have n7:=T.n7;have lf:=nT T T.rn N.D N.all;have FL:=N.D.len;have bs:=fun i=>qH T (i:=i);generalize aW (ws.map mm)=ps at *;have gF:∀(f:Fl) (i:Nat),i<n->az (.lst f (iL F)) (.int (i:Int))=.ok (.int (gt F i)):=fun f i hi=>by simpa using bq (f:=f) (cs:=F) (i:=i) (by omega) (by omega)
 refine aD ?_;show xO [some (tdV k n ws pa ms r sp),none,none,none,none,none,none]=_;unfold xO;refine af (aB (v:=.int n) (by simp[jC]) (by simp) rfl) ?_;simp only[s0_,s1_];refine af (aB (v:=.lst .own (iL F)) (by simp[uX,lf,aL]) (by simp) rfl) ?_;simp only[s0_,s1_];refine af (aB (v:=.lst .own (iL ((range n).map fun _=>(1:Int)))) ?_ (by simp) rfl) ?_
 ·exact aR (xs:=cq 0 n) (bI (n:=n) (by simp) (by omega)) (by rw[a_];omega) (d4 0 (fun _:Nat=>(1:Int)) n fun j hj=>⟨[some (.int (0+j))],by simp[tgN,aS,bH,cR],by simp⟩)
 simp only[s0_,s1_];have rn:kN (n:Int) 0 (-1)=n:=by unfold kN Builtin.Range.rangeSize;simp;omega
 refine nt (fun j e=>∃C x4 x5 x6,e=[some (tdV k n ws pa ms r sp),some (.int n),some (.lst .own (iL F)),some (.lst .own (iL C)),x4,x5,x6]/\C.length=n/\∀i<n,gt C i=1+sS n ps r F (fun c=>decide ((n:Int)-j<gt F c)) i) (xs:=iK n (-1) n) ?_ ⟨(range n).map fun _=>(1:Int),none,none,none,rfl,by simp,fun i hi=>?_⟩ (fun j x e hx hP=>?_) (fun e hP=>?_)
 ·unfold mF;simp[o3,inM,rn];omega
 ·have e:sS n ps r F (fun c=>decide ((n:Int)-(0:Nat)<gt F c)) i=0:=by unfold sS;refine(congrArg List.sum (map_congr_left fun c hc=>?_)).trans (jD (range n));have:=N.all c (mem_range.mp hc);simp[show ¬(n:Int)<gt F c by omega]
  rw[e];simp[gt,hi]
 ·obtain⟨C,x4,x5,x6,rfl,Cl,hC⟩:=hP;have jl:j<n:=by have:=(List.getElem?_eq_some_iff.mp hx).1;simpa[iK]using this
  have ex:x=.int ((n:Int)-j):=by simp[iK,jl]at hx;rw[<- hx,Int.sub_eq_add_neg]
  subst ex;obtain⟨t,ht⟩:∃t:Int,t=(n:Int)-j:=⟨_,rfl⟩
  rw[<- ht];have t1:1<=t:=by omega
  refine⟨_,cN rfl,?_⟩;simp only[s0_,s1_];refine fS (fun a e=>a<=n/\∃C x5 x6,e=[some (tdV k n ws pa ms r sp),some (.int n),some (.lst .own (iL F)),some (.lst .own (iL C)),some (.int t),x5,x6]/\C.length=n/\∀i<n,gt C i=1+sS n ps r F (fun c=>decide (t<gt F c) ||(decide (gt F c=t)&&decide (c<a))) i) (bI (n:=n) (by simp) (by omega)) ⟨by omega,C,x5,x6,rfl,Cl,fun i hi=>?_⟩ (fun a y e hy hP=>?_) (fun e hP=>?_)
  ·rw[hC i hi,ht];exact congrArg (1 + ·) (kL (fun c _ _ _=>by simp) i)
  ·obtain⟨an,C,x5,x6,rfl,Cl,hC⟩:=hP;obtain⟨ha,rfl⟩:=eA hy;refine⟨_,cN rfl,?_⟩;simp only[s0_,s1_];have ga:=gF .lnt a ha;by_cases q:gt F a=t
   ·have ar:a≠r:=fun z=>by have:=N.D.rt;rw[<- z]at this;omega
    obtain⟨e,he⟩:=C5 N ha ar;obtain⟨_,e2,e3,e4⟩:=ii he;have eb:=N.nb a e e2;obtain⟨L,hL,Ls,Lm,Ll⟩:=bs a;have Fe:∀o∈L,0<=o/\o<n:=fun o ho=>N.nb a o ((Lm o).mp ho);have hm:e∈L.filter fun o=>decide (gt F o.toNat=t-1):=mem_filter.mpr ⟨(Lm e).mpr e2,by simp;omega⟩;have hd:=oH (Ls.filter fun o=>decide (gt F o.toNat=t-1)) hm fun x hx=>by obtain⟨x1,x2⟩:=mem_filter.mp hx;exact e4 x ((Lm x).mp x1) (by simp at x2;omega)
    have Ca:gt C a=hdn n ps r F a:=by rw[hC a ha];refine vq N ha fun c hc hec=>?_;have:=(ii hec).2.2.1;simp only[toNat_natCast]at this;simp[show t<gt F c by omega]
    refine mM (by simp[ga,q]) (cT (aB (v:=.lst .own (iL (L.filter fun o=>decide (gt F o.toNat=t-1)))) ?_ (by simp) rfl) ?_)
    ·refine aR (xs:=iL L) (by simp[hL,aL]) (by rw[bp];omega) ?_;have:=eE (env:=bH [2,4] 1 [some (tdV k n ws pa ms r sp),some (.int n),some (.lst .own (iL F)),some (.lst .own (iL C)),some (.int t),some (.int (0+(a:Int))),x6]) (g:=tgN 2) (mc:=aC (mOp pEq (mOp az (aa 0) (aa 2)) (mOp fB (aa 1) (mC (.int 1))))) (me:=aa 2) (fun o=>decide (gt F o.toNat=t - 1)) (fun o=>o) L fun o ho=>⟨[some (.lst .bor (iL F)),some (.int t),some (.int o)],by simp [tgN,aS,bH,PV.borrow],by
      have ob:=Fe o ho;have go:az (.lst .bor (iL F)) (.int o)=.ok (.int (gt F o.toNat)):=bq (by omega) (by omega);simp[go],fun _=>by simp⟩
     rw[map_id']at this;exact this
    simp only[s0_,s1_];generalize L.filter (fun o=>decide (gt F o.toNat=t-1))=E at hd;have ie:az (.lst .lnt (iL E)) (.int 0)=.ok (.int e):=hV _ (by omega) hd;have ce:az (.lst .lnt (iL C)) (.int e)=.ok (.int (gt C e.toNat)):=bq (by omega) (by omega);have ca:az (.lst .lnt (iL C)) (.int (a:Int))=.ok (.int (gt C a)):=by simpa using bq (f:=.lnt) (cs:=C) (i:=a) (by omega) (by omega)
    have ix:ixN (iL C).length e=some e.toNat:=by
     have:=fz (n:=(iL C).length) (k:=e.toNat) (by rw[bp];omega)
     rwa [show((e.toNat:Nat):Int)=e by omega]at this
    have s1:=eV (env:=[some (tdV k n ws pa ms r sp),some (.int n),some (.lst .own (iL F)),some (.lst .own (iL C)),some (.int t),some (.int (0+(a:Int))),some (.lst .own (iL E))]) (i:=3) (m:=mOp aY (mOp az (aa 3) (mOp az (aa 6) (mC (.int 0)))) (mOp az (aa 3) (aa 5))) (mk:=mOp az (aa 6) (mC (.int 0))) (v:=.int (gt C e.toNat+hdn n ps r F a)) (xs:=iL C) (j:=e) (n:=e.toNat) (by simp[ie,ce,ca,Ca]) rfl (by simp[ie]) ix rfl;refine b0 s1 ⟨by omega,C.set e.toNat (gt C e.toNat+hdn n ps r F a),some (.int (0+(a:Int))),some (.lst .own (iL E)),?_,by simpa using Cl,fun i hi=>?_⟩
    ·simp only[s0_,s1_,fh]
    ·have ad:=Bf (F:=F) (ps:=ps) (r:=r) (p:=fun c=>decide (t < gt F c) || (decide (gt F c=t) && decide (c < a))) (p':=fun c=>decide (t < gt F c) || (decide (gt F c=t) && decide (c < a+1))) ha (by simp [q]) (fun c hc=>by
      by_cases z:c=a
      ·subst z;simp[q]
      ·have:(c<a+1)=(c<a):=by apply propext;omega
       simp[z,this]) i
     rw[ad,gv _ (by omega),he];by_cases z:i=e.toNat
     ·rw[if_pos z,if_pos (by rw[z,toNat_of_nonneg eb.1]),z,hC e.toNat (by omega)];omega
     ·rw[if_neg z,if_neg (fun w=>z (by have:=Option.some.inj w;omega)),hC i hi];omega
   ·refine mO (by simp[ga,q]) (b0 aG ⟨by omega,C,_,_,rfl,Cl,fun i hi=>?_⟩);rw[hC i hi];refine congrArg (1 + ·) (kL (fun c hc _ _=>?_) i);by_cases z:c=a
    ·subst z;simp[q]
    ·have:(c<a+1)=(c<a):=by apply propext;omega
     simp[this]
  ·obtain⟨_,C,x5,x6,rfl,Cl,hC⟩:=hP;rw[a_]at hC;refine⟨C,_,_,_,rfl,Cl,fun i hi=>?_⟩;rw[hC i hi];refine congrArg (1 + ·) (kL (fun c hc _ _=>?_) i);by_cases z:t<gt F c
   ·show(decide (t<gt F c) ||(decide (gt F c=t)&&decide (c<n)))=decide ((n:Int)-((j+1:Nat):Int)<gt F c);rw[decide_eq_true (show(n:Int)-((j+1:Nat):Int)<gt F c by omega),decide_eq_true z];rfl
   ·by_cases w:gt F c=t
    ·show(decide (t<gt F c) ||(decide (gt F c=t)&&decide (c<n)))=decide ((n:Int)-((j+1:Nat):Int)<gt F c);rw[decide_eq_true (show(n:Int)-((j+1:Nat):Int)<gt F c by omega),decide_eq_true w,decide_eq_true hc];simp
    ·simp[z,w];omega
 ·obtain⟨C,x4,x5,x6,rfl,Cl,hC⟩:=hP;have l0:(iK (n:Int) (-1) n).length=n:=by simp[iK]
  rw[l0]at hC;have hC':∀i<n,gt C i=hdn n ps r F i:=fun i hi=>by rw[hC i hi];refine vq N hi fun c hc hec=>?_;obtain⟨_,e2,e3,_⟩:=ii hec;have:=N.D.rng i hi;simp only[toNat_natCast]at e3;simp;omega
  refine bj ?_ (by simp);refine aR (xs:=cq 0 n) (bI (n:=n) (by simp) (by omega)) (by rw[a_];omega) (d4 0 (fun i:Nat=>gt F i*((n:Int)+1)+hdn n ps r F i) n fun i hi=>⟨[some (.lst .bor (iL F)),some (.int n),some (.lst .bor (iL C)),some (.int (0+i))],by simp[tgN,aS,bH,PV.borrow],?_⟩);have gi:=gF .bor i hi;have gc:az (.lst .bor (iL C)) (.int (i:Int))=.ok (.int (gt C i)):=by simpa using bq (f:=.bor) (cs:=C) (i:=i) (by omega) (by omega)
  have mu:gK (.int (gt F i)) (.int ((n:Int)+1))=.ok (.int (gt F i*((n:Int)+1))):=jN (.inr ⟨by omega,by omega⟩);simp[gi,gc,mu,hC' i hi]
def Bk(T:Td 5 n ws pa ms r sp)(hf:Fc f)(hn:cs.length=n)(hc:InS (((n:Int)+1)*((n:Int)+1)) cs)(h:caR n false (kh n (aW (ws.map mm)) r) cs=true):h8 [tdV 5 n ws pa ms r sp,.lst f (iL cs)]=.ok (.bl true):=by
 obtain⟨F,N⟩:=T.net T.rn;have lg:=ul T N;have R:q9 n (aW (ws.map mm)) r F cs:=q9.calm N hc hn fun i hi=>kZ h i (by omega);have e1:pEq (.str (kiS 5)) (.str "far")=.ok (.bl false):=cJ (by decide +kernel);have e2:pEq (.str (kiS 5)) (.str "lead")=.ok (.bl false):=cJ (by decide +kernel);have e3:pEq (.str (kiS 5)) (.str "grow")=.ok (.bl true):=cJ (by decide +kernel);refine f8 hf (by omega) (by omega) (hs:=(range n).map fun i=>gt F i*((n:Int)+1)+hdn n (aW (ws.map mm)) r F i) (aD ?_) ?_
 ·show jz [some (tdV 5 n ws pa ms r sp),none,none,none,none,none,none]=_;unfold jz;refine af (aB (v:=.int n) (by simp[jC]) (by simp) rfl) ?_;simp only[s0_,s1_];exact af (bR (by simp[iB,e1]) aG) (af (bR (by simp[iB,e2]) aG) (cw (fG (by simp[iB,e3]) (bj (by simp[lg,aL]) (by simp)))))
 ·refine ext_getElem (by simp[hn]) fun i h1 h2=>?_;have hi:i<n:=by omega
  have a:=R.cn i hi;rw[wM (by omega)]at a;have b:gt (FA n cs) i=gt F i:=by rw[R.fa]
  rw[sx (by omega)]at b;rw[<- hZ _ _ h1];simp only[List.getElem_map,List.getElem_range];rw[<- a,<- b];have:=Int.emod_add_mul_ediv (gt cs i) ((n:Int)+1);rw[Int.mul_comm]at this;omega
end
section
variable{k n:Nat}{ws:List (Int×Int)}{pa ms:List Int}{r:Nat}{sp sp':Int}{ip:Bool}{D:List Int->Nat->Int}
def vA(T:Td k n ws pa ms r sp)(K:Kn n (aW (ws.map mm)) pa ms r sp k sp' ip D)(hf:Fc f)(hn:cs.length=n)(hc:InS sp' cs)(h:caR n ip D cs=true):h8 [tdV k n ws pa ms r sp,.lst f (iL cs)]=.ok (.bl true):=by
 cases K with
 |pass=>exact Bq T hf hn hc h
 |paint=>exact Bp T hf hn hc h
 |count=>exact Bo T hf hn h
 |far=>exact Bm T hf hn hc h
 |lead=>exact Bl T hf hn h
 |grow=>exact Bk T hf hn hc h
end
section
variable{o:PV}{n:Nat}{sp:Int}{al ip:Bool}{D:List Int->Nat->Int}{cs nm:List Int}{f:Fl}
def iO:(mvR n D cs).Pairwise (· < ·):=Pairwise.map _ (fun a b h=>by omega) (List.pairwise_lt_range.filter _)
def zB(h:a∈mvR n D cs):∃i:Nat,i<n/\a=i/\D cs i≠gt cs i:=by unfold mvR at h;obtain⟨i,h1,rfl⟩:=mem_map.mp h;exact⟨i,mem_range.mp (mem_filter.mp h1).1,rfl,by simpa using(mem_filter.mp h1).2⟩
def Af(hd:nm.Nodup)(hs:∀x∈nm,x∈mvR n D cs):gP nm=dnR n D cs nm:=by refine(kI ?_ ((iO.filter _).imp fun h=>by omega)).symm;refine(List.perm_ext_iff_of_nodup ((iO.filter _).imp fun h=>by omega) hd).mpr fun a=>?_;rw[mem_filter];simp;exact hs a
def Hn(fl:Fl)(ns:List Int)(al:Bool)(k:Nat)(mv nm:List Int):Prop:=∀f,Fc f\/f=.own->pF [.int k,.lst f (iL mv),.bl al,.lst fl (iL ns)]=.ok (.lst .own (iL nm))
def yh(n:Nat)(al:Bool)(mv nm:List Int):Prop:=(∀x∈nm,x∈mv)/\sT n al nm
def we{mv:List Int}(z:Int)(n20:n<=20)(h0:mv≠[])(ml:mv.length<=n)(nd:mv.Nodup)(rg:∀x∈mv,0<=x/\x<n):∃nm,(∀f,Fc f->wZ [.int z,.lst f (iL mv),.bl al]=.ok (.lst .own (iL nm)))/\yh n al mv nm:=by
 have d3:fM (.int z) (.int 3)=.ok (.int (z / 3)):=iS (by decide) (by decide);have lp:(0:Int)<mv.length:=by have:=List.length_pos_iff.mpr h0;omega
 have b1:=emod_nonneg (z / 3) (show(mv.length:Int)≠ 0 by omega);have b2:=emod_lt_of_pos (z / 3) lp;obtain⟨x,hx⟩:∃x,x=gt mv (z / 3%(mv.length:Int)).toNat:=⟨_,rfl⟩
 have gm:x∈mv:=by rw[hx];exact cK (by omega)
 have ix:∀f,az (.lst f (iL mv)) (.int (z / 3%(mv.length:Int)))=.ok (.int x):=fun f=>by rw[hx];exact bq (by omega) (by omega)
 have one:yh n al mv [x]:=by
  refine⟨fun y hy=>?_,by simp,fun y hy=>?_,fun _=>by simp,by simp⟩
  ·rw[mem_singleton.mp hy];exact gm
  ·rw[mem_singleton.mp hy];exact rg x gm
 have st:∀f,Fc f->aV 3 (eK (ae (mOp az (aa 1) (mOp dI (mOp fM (aa 0) (mC (.int 3))) (au (p1 bZ) (ae (aa 1) am)))) am)) [some (.int z),some (.lst f (iL mv)),some (.bl al),none,none]=.next [some (.int z),some (.lst f (iL mv)),some (.bl al),some (.lst .own (iL [x])),none]:=fun f hf=>aB (v:=.lst .own (iL [x])) (by simp[hf.le,d3,bV lp,ix]) (by simp) rfl;by_cases q:al=true\/z%3=0
 ·refine⟨[x],fun f hf=>aD ?_,one⟩;show lK [some (.int z),some (.lst f (iL mv)),some (.bl al),none,none]=_;unfold lK;refine af (st f hf) (cw (fG ?_ (fA rfl)));cases al with
  |true=>simp
  |false=>
   have:z%3=0:=by simpa using q
   simp[bV,this]
 have ha:al=false:=by cases al<;>simp_all
 have q2:¬z%3=0:=fun e=>q (.inr e);obtain⟨row,hrow⟩:∃row:List Int,row=((range mv.length).filter fun k=>decide (Builtin.bitAnd (z / 3 / 2 ^ k) 1=1)).map fun k:Nat=>gt mv k:=⟨_,rfl⟩
 have co:∀f,Fc f->∀x3 x4,a6 [0,1] 1 (bU (ae (au (p1 bZ) (ae (aa 1) am)) am)) (tgN 2) (aC (mOp pEq (mOp rW (mOp zr (mOp fM (aa 0) (mC (.int 3))) (aa 2)) (mC (.int 1))) (mC (.int 1)))) (mOp az (aa 1) (aa 2)) [some (.int z),some (.lst f (iL mv)),some (.bl al),x3,x4]=.ok (.lst .own (iL row)):=fun f hf x3 x4=>by
  rw[hrow];refine aR (xs:=cq 0 mv.length) (bI (n:=mv.length) (by simp[hf.le]) (by omega)) (by rw[a_];omega) (lC (fun k=>decide (Builtin.bitAnd (z / 3 / 2 ^ k) 1=1)) (fun k=>gt mv k) mv.length fun k hk=>⟨[some (.int z),some (.lst f (iL mv)),some (.int (0+k))],by simp[tgN,aS,bH,PV.borrow,hf.bo],by simp[d3,zr,eZ,rW,j5],fun _=>?_⟩);have gk:az (.lst f (iL mv)) (.int (k:Int))=.ok (.int (gt mv k)):=by simpa using bq (f:=f) (cs:=mv) (i:=k) (by omega) (by omega)
  simp[hf.le,gk]
 have s3:∀f,mBr (g8 (eH (aa 2)) (aC (mOp pEq (mOp dI (aa 0) (mC (.int 3))) (mC (.int 0))))) (eQ 3) aZ [some (.int z),some (.lst f (iL mv)),some (.bl al),some (.lst .own (iL [x])),none]=.next [some (.int z),some (.lst f (iL mv)),some (.bl al),some (.lst .own (iL [x])),none]:=fun f=>bR (by simp[ha,bV,q2]) aG;by_cases q3:row=[]
 ·refine⟨[x],fun f hf=>aD ?_,one⟩;show lK [some (.int z),some (.lst f (iL mv)),some (.bl al),none,none]=_;unfold lK;refine af (st f hf) (af (s3 f) (af (aB (v:=.lst .own (iL row)) (co f hf _ _) (by simp) rfl) ?_));simp only[s0_,s1_];exact cw (fG (by rw[q3];simp[iL];rfl) (fA rfl))
 ·refine⟨row,fun f hf=>aD ?_,fun y hy=>?_,?_,fun y hy=>?_,fun e=>(by rw[ha]at e;cases e),?_⟩
  ·show lK [some (.int z),some (.lst f (iL mv)),some (.bl al),none,none]=_;unfold lK;refine af (st f hf) (af (s3 f) (af (aB (v:=.lst .own (iL row)) (co f hf _ _) (by simp) rfl) ?_));simp only[s0_,s1_];have ne:=sJ row [] .lnt .own;refine af (bR ?_ aG) (fA rfl);simp only[jv,eR,cD,ib,cr,getElem?_cons_zero,getElem?_cons_succ,dz,Res.ok_bind];simp[q3]at ne;simp[ne]
  ·rw[hrow]at hy;obtain⟨k,hk,rfl⟩:=mem_map.mp hy;exact cK (mem_range.mp (mem_filter.mp hk).1)
  ·rw[hrow];refine List.pairwise_map.mpr ((List.pairwise_lt_range.filter _).imp_of_mem fun {a b} ha hb hab e=>?_);have ha:=mem_range.mp (mem_filter.mp ha).1;have hb:=mem_range.mp (mem_filter.mp hb).1;rw[hZ _ _ ha,hZ _ _ hb]at e;have:=(getElem_inj nd).mp e;omega
  ·rw[hrow]at hy;obtain⟨k,hk,rfl⟩:=mem_map.mp hy;exact rg _ (cK (mem_range.mp (mem_filter.mp hk).1))
  ·rw[hrow,length_map];have:=length_filter_le (fun k=>decide (Builtin.bitAnd (z / 3 / 2 ^ k) 1=1)) (range mv.length);rw[List.length_range]at this;omega
def zT(h:Scr fl)(hl:ns.length<=63)(k:Nat)(n20:n<=20)(h0:mvR n D cs≠[]):∃nm,Hn fl ns al k (mvR n D cs) nm/\yh n al (mvR n D cs) nm:=by
 have ml:=nM (n:=n) (D:=D) (cs:=cs);have nd:(mvR n D cs).Nodup:=iO.imp fun h=>by omega
 have rg:∀x∈mvR n D cs,0<=x/\x<n:=fun x hx=>by obtain⟨i,hi,rfl,_⟩:=zB hx;omega
 generalize mvR n D cs=mv at *;obtain⟨z,hz⟩:∃z:Int,∀f,mBr (aC (mOp pGt (au (p1 bZ) (ae (aa 3) am)) (mC (.int 4)))) (aV 4 (mOp az (aa 3) (mOp aY (mC (.int 4)) (mOp dI (aa 0) (mOp fB (au (p1 bZ) (ae (aa 3) am)) (mC (.int 4))))))) aZ [some (.int k),some (.lst f (iL mv)),some (.bl al),some (.lst fl (iL ns)),some (.int 0)]=.next [some (.int k),some (.lst f (iL mv)),some (.bl al),some (.lst fl (iL ns)),some (.int z)]:=by
  by_cases q:4<ns.length
  ·have lp:(0:Int) <(ns.length:Int)-4:=by omega
   have b1:=emod_nonneg (k:Int) (show(ns.length:Int)-4≠0 by omega);have b2:=emod_lt_of_pos (k:Int) lp;have ix:az (.lst fl (iL ns)) (.int (4+(k:Int)%((ns.length:Int)-4)))=.ok (.int (gt ns (4+(k:Int)%((ns.length:Int)-4)).toNat)):=bq (by omega) (by omega);exact⟨_,fun f=>fG (by simp[h.lend];omega) (aB (v:=.int (gt ns (4+(k:Int)%((ns.length:Int)-4)).toNat)) (by simp[h.lend,bV lp,ix]) (by simp) rfl)⟩
  ·exact⟨0,fun f=>bR (by simp[h.lend];omega) aG⟩
 obtain⟨nm,e,N⟩:=we (al:=al) z n20 h0 ml nd rg;refine⟨nm,fun f hf=>aD ?_,N⟩;show xI [some (.int k),some (.lst f (iL mv)),some (.bl al),some (.lst fl (iL ns)),none]=_;unfold xI;refine af (aB (v:=.int 0) (by simp) (by simp) rfl) ?_;simp only[s0_,s1_];exact af (hz f) (bj (by simp[e _ (Fc.call hf),aL]) (by simp))
structure Run(fl:Fl)(ns:List Int)(n:Nat)(sp:Int)(al:Bool)(D:List Int->Nat->Int)(s0:List Int)(ps:List (List Int×List Int))(cs:List Int):Prop where
 cur:(s0::ps.map (·.2))[ps.length]?=some cs
 ats:∀k p,ps[k]?=some p->∃c nm,(s0::ps.map (·.2))[k]?=some c/\c.length=n/\InS sp c/\mvR n D c≠[]/\Hn fl ns al k (mvR n D c) nm/\yh n al (mvR n D c) nm/\p=(dnR n D c nm,stR n D c nm)
def Run.app{s0:List Int}{ps:List (List Int×List Int)}(R:Run fl ns n sp al D s0 ps cs)(h1:cs.length=n)(h2:InS sp cs)(h3:mvR n D cs≠[])(h4:Hn fl ns al ps.length (mvR n D cs) nm)(h5:yh n al (mvR n D cs) nm):Run fl ns n sp al D s0 (ps++[(dnR n D cs nm,stR n D cs nm)]) (stR n D cs nm):=by
 have e:s0::(ps++[(dnR n D cs nm,stR n D cs nm)]).map (·.2)=(s0::ps.map (·.2))++ [stR n D cs nm]:=by simp
 refine⟨by simp,fun k p hk=>?_⟩;rw[e];by_cases q:k<ps.length
 ·rw[getElem?_append_left q]at hk;rw[getElem?_append_left (by simp;omega)];exact R.ats k p hk
 ·have hl:=(List.getElem?_eq_some_iff.mp hk).1;simp at hl;obtain rfl:k=ps.length:=by omega
  simp at hk;rw[getElem?_append_left (by simp)];exact⟨cs,nm,R.cur,h1,h2,h3,h4,h5,hk.symm⟩
@[simp] def HD{m:ME}:mFz m env=(m env).bind fun v=>.ok (v.mapF Fl.freeze):=rfl
def wA(ps:List (List Int×List Int))(p:List Int×List Int):az (.lst f (ps.map (cP .frz)++ [cP .frz p])) (.int (-1))=.ok (cP .frz p):=by unfold az;simp only[aT,atI];rw[pz (by simp)];simp[cP]
def vw(p:List Int×List Int):az (cP .frz p) (.int 0)=.ok (.lst .frz (iL p.1))/\az (cP .frz p) (.int 1)=.ok (.lst .frz (iL p.2)):=⟨iR (k:=0) rfl rfl (by simp),iR (k:=1) rfl rfl (by simp)⟩
def xp{m:Nat}(r:Rl o n sp al ip D)(h:Scr fl)(hl:ns.length<=63)(hn:rs.length=n)(hm:m<=1000) :
  ∃rows e,sC [o,.lst f (iL rs),.box 99 [.bl al,.lst fl (iL ns)],.int m]=.ok (.lst .own (rows.map (cP .frz)))/\Run fl ns n sp al D (rs.map (· % sp)) rows e/\rows.length<=m/\(rows.length=m\/mvR n D e=[]):=by
 have n20:=r.n20;have s1:(rs.map (· % sp)).length=n:=by simpa using hn
 have s2:InS sp (rs.map (· % sp)):=wn r
 suffices hh:lL (xE [some o,some (.lst f (iL rs)),some (.box 99 [.bl al,.lst fl (iL ns)]),some (.int m),none,none,none]) (fun v=>∃rows e,v=.lst .own (rows.map (cP .frz))/\Run fl ns n sp al D (rs.map (· % sp)) rows e/\rows.length<=m/\(rows.length=m\/mvR n D e=[])) by obtain⟨v,h1,rows,e,rfl,h2⟩:=hh;exact⟨rows,e,aD h1,h2⟩
 unfold xE;refine cF (aB (v:=.lst .own (iL (rs.map (· % sp)))) (by simp[r.le,r.tb,r.rd,rL r hn,aL]) (by simp) rfl) ?_;simp only[s0_,s1_];refine cF (aB (v:=.lst .own []) (by simp) (by simp) rfl) ?_;simp only[s0_,s1_];generalize rs.map (· % sp)=s0 at *;refine qp (fun j e=>∃ps cs f2 x6,e=[some o,some (.lst f (iL rs)),some (.box 99 [.bl al,.lst fl (iL ns)]),some (.int m),some (.lst f2 (iL cs)),some (.lst .own (ps.map (cP .frz))),x6]/\Run fl ns n sp al D s0 ps cs/\(Fc f2\/f2=.own)/\cs.length=n/\InS sp cs/\ps.length+j=m)
  (Fin:=fun e=>∃ps x4 x6 c,e=[some o,some (.lst f (iL rs)),some (.box 99 [.bl al,.lst fl (iL ns)]),some (.int m),x4,some (.lst .own (ps.map (cP .frz))),x6]/\Run fl ns n sp al D s0 ps c/\ps.length<=m/\(ps.length=m\/mvR n D c=[])) m (by omega) ⟨[],s0,.own,none,rfl,⟨rfl,fun k p hk=>by simp at hk⟩,.inr rfl,s1,s2,by simp⟩ (fun j e hP=>?_) (fun e hP=>?_)
 ·obtain⟨ps,cs,f2,x6,rfl,hch,hf,c1,c2,hj⟩:=hP;have fc:=Fc.call hf;have mo:=iy r (.inl fc) c1 c2;by_cases q0:j=0
  ·exact .inl ⟨by simp[show ¬ps.length<m by omega],ps,_,_,cs,rfl,hch,by omega,.inl (by omega)⟩
  have pl:(ps.length:Int)<m:=by omega
  by_cases q:mvR n D cs=[]
  ·exact .inl ⟨by simp[r.le,r.tb,r.mv,mo,aL,q,show ps.length<m by omega],ps,_,_,cs,rfl,hch,by omega,.inr q⟩
  have lp:0 <(mvR n D cs).length:=List.length_pos_iff.mpr q;obtain⟨nm,hh,hN⟩:=zT (al:=al) h hl ps.length n20 q;obtain⟨t1,t2⟩:=u8 r c1 c2 nm;refine .inr ⟨by simp[r.le,r.tb,r.mv,mo,aL,lp,show ps.length<m by omega],j-1,_,by omega,.inl ?_,ps++[(dnR n D cs nm,stR n D cs nm)],stR n D cs nm,.frz,some (.lst .own (iL nm)),rfl,hch.app c1 c2 q hh hN,.inl (.inr rfl),t1,t2,by simp;omega⟩;refine af (aB (v:=.lst .own (iL nm)) ?_ (by simp) rfl) ?_
  ·unfold hR;have no:cZ [PV.bl al,PV.lst fl (iL ns)]=true:=by simp[cZ,h.isOwn,h.isLnt]
   simp[no,r.le,r.tb,r.mv,mo,aL,h.toBor,hh .own (.inr rfl)]
  simp only[s0_,s1_];have ro:=tB r fc (.inl rfl) c1 c2 hN.2;refine af (fW (v:=cP .frz (dnR n D cs nm,stR n D cs nm)) (xs:=ps.map (cP .frz)) ?_ rfl (by simp[cP]) (by simp;omega)) ?_
  ·simp[r.le,r.tb,ro,aL,cP]
  simp only[s0_,s1_];have e:ps.map (cP .frz)++ [cP .frz (dnR n D cs nm,stR n D cs nm)]=(ps++[(dnR n D cs nm,stR n D cs nm)]).map (cP .frz):=by simp
  rw[e];have li:=wA (f:=.lnt) ps (dnR n D cs nm,stR n D cs nm);rw[e]at li;have:=(vw (dnR n D cs nm,stR n D cs nm)).2;refine aB (v:=.lst .frz (iL (stR n D cs nm))) ?_ (by simp) rfl;generalize(ps++[(dnR n D cs nm,stR n D cs nm)])=qs at *;simp[li,this]
 ·obtain⟨ps,x4,x6,c,rfl,h1,h2⟩:=hP;exact ir (fA rfl) ⟨ps,c,rfl,h1,h2⟩
end
def qB{d:Nat->Option (List PV->Res PV)}{r:Res (List PV)}{x o:PV}(h:x.mapF Fl.toBor=o)(ho:o.mapF Fl.toBor=o):jM d r x=jM d r o:=by
 subst h;cases x with
 |obj f c ks vs=>
  rw[PV.mapF]at ho ⊢;unfold jM;dsimp only;cases d c with
  |none=>rfl
  |some m=>
   cases r with
   |ok xs=>simp only[Res.ok_bind,xA,uh,ho];rfl
   |exc c|stuck=>rfl
 |_=>first|rfl|simp[PV.mapF,jM]
@[simp] def Fy{xs:List PV}:(PV.box k xs).mapF g=.box k (mapL g xs):=by simp[PV.mapF]
def law_true(fl:Fl)(ns:List Int)(h:Scr fl)(hl:ns.length<=63):AM [.lst fl (ns.map .int)]=.ok (.bl true):=by
 rw[wH];obtain⟨k,n,ws,pa,ms,r,sp0,htd,T⟩:=yt fl ns h;obtain⟨O,o,sp,al,ip,D,hru,K,kn,eal⟩:=yW T;have n1:=T.n1;have n7:=T.n7;obtain⟨rs,hrs,rl⟩:=y6 fl ns h (n:=n) (by omega);have tdb:(tdV k n ws pa ms r sp0).has Fl.isBor=false:=uW _ rfl;have tdl:(tdV k n ws pa ms r sp0).noLnt=true:=by simp[PV.noLnt,uW Fl.isLnt rfl]
 have ekd:pIn (.str (kiS k)) (.lst .own [.str "far",.str "lead",.str "grow"])=.ok (.bl al):=by
  have k6:=T.k6;rw[eal];have:k=0\/k=1\/k=2\/k=3\/k=4\/k=5:=by omega
  rcases this with rfl|rfl|rfl|rfl|rfl|rfl<;>exact cJ (by decide +kernel)
 refine aD (v:=.bl true) ?_;show yd [some (.lst fl (iL ns)),none,none,none,none,none,none,none,none,none]=_;unfold yd;refine af (aB (v:=tdV k n ws pa ms r sp0) (by simp[h.lend,h.toBor,htd,aL,tdb]) tdl rfl) ?_;simp only[s0_,s1_];refine af (aB (v:=O) (by simp[hru,aL,K.own]) K.nl rfl) ?_;simp only[s0_,s1_];refine af (aB (v:=.lst .own (iL rs)) (by simp[h.lend,h.toBor,jC,hrs,aL]) (by simp) rfl) ?_;simp only[s0_,s1_];refine af (aB (v:=.bl al) ?_ (by simp) rfl) ?_
 ·simp only[eR,AN,ib,bO,cr,cD,pI,getElem?_cons_zero,getElem?_cons_succ,dz,Res.ok_bind,Ay,iB,ekd]
 simp only[s0_,s1_];have rgt:=fun(f:Fl) (cs:List Int)=>vA (f:=f) (cs:=cs) T kn;have tle:(tdV k n ws pa ms r sp0).mapF Fl.lend=tdV k n ws pa ms r sp0:=Ay;have ttb:(tdV k n ws pa ms r sp0).mapF Fl.toBor=tdV k n ws pa ms r sp0:=Em;clear kn;generalize tdV k n ws pa ms r sp0=td at *;have no:cZ [PV.bl al,PV.lst fl (iL ns)]=true:=by simp[cZ,h.isOwn,h.isLnt]
 refine af (e:=[some (.lst fl (iL ns)),some td,some O,some (.lst .own (iL rs)),some (.bl al),some (.box 99 [.bl al,.lst fl (iL ns)]),none,none,none,none]) ?_ ?_
 ·unfold pb;have e:xw [4,0] [some (.lst fl (iL ns)),some td,some O,some (.lst .own (iL rs)),some (.bl al),none,none,none,none,none]=some [.bl al,.lst fl (iL ns)]:=rfl;rw[e];dsimp only;rw[no];rfl
 obtain⟨rows,e0,hdr,R,hrl,hend⟩:=xp (f:=.own) (m:=60) K.r h hl rl (by omega);have S0:(rs.map (· % sp)).length=n/\InS sp (rs.map (· % sp)):=⟨by simpa using rl,wn K.r⟩
 have rd:=rL (f:=.own) K.r rl;have hb:hasL Fl.isBor (rows.map (cP .frz))=false:=oO rfl rows;have hn:hasL Fl.isLnt (rows.map (cP .frz))=false:=oO rfl rows;have ca:∀(cs:List Int),cs.length=n->InS sp cs->jM aE (.ok [.lst .own (iL cs)]) o=.ok (.bl (caR n ip D cs)):=fun cs h1 h2=>Ao (f:=.own) K.r (.inr rfl) h1 h2;generalize rs.map (· % sp)=s0 at *;refine af (aB (v:=.lst .own (rows.map (cP .frz))) ?_ (by simp[PV.noLnt,PV.has,hn]) rfl) ?_
 ·simp only[de,bO,cr,cD,pI,getElem?_cons_zero,getElem?_cons_succ,dz,Res.ok_bind];have hdr':sC [o,.lst .own (iL rs),.box 99 [.bl al,.lst fl (iL ns)],.int 60]=.ok (.lst .own (rows.map (cP .frz))):=hdr;simp[h.lend,h.toBor,K.lb,hdr',aL,PV.has,hb]
 simp only[s0_,s1_];refine af (bR ?_ aG) ?_
 ·simp[lR];omega
 refine af (aB (v:=.lst .own (iL s0)) ?_ (by simp) rfl) ?_
 ·simp only[qR,cD,bO,cr,de,getElem?_cons_zero,getElem?_cons_succ,dz,Res.ok_bind,qB K.lb K.r.tb,K.r.rd];simp[p1,cQ,aT,K.r.tb,rd,aL]
 simp only[s0_,s1_];obtain⟨sts,hst⟩:∃sts,sts=s0::rows.map (·.2):=⟨_,rfl⟩
 have R1:=R.cur;have R2:=R.ats;rw[<- hst]at R1 R2;clear R;refine cw ?_;refine ku (fun k e=>k<=rows.length+1/\∃cs f x8 x9,e=[some (.lst fl (iL ns)),some td,some O,some (.lst .own (iL rs)),some (.bl al),some (.box 99 [.bl al,.lst fl (iL ns)]),some (.lst .own (rows.map (cP .frz))),some (.lst f (iL cs)),x8,x9]/\(Fc f\/f=.own)/\cs.length=n/\InS sp cs/\k<=rows.length/\sts[k]?=some cs) (fun out=>out=.ret (.bl true)) (bI (n:=rows.length+1) (by simp) (by omega)) ⟨by omega,s0,.own,none,none,rfl,.inr rfl,S0.1,S0.2,by omega,by rw[hst];rfl⟩ (fun j x e hx hP=>?_) (fun e hP=>?_)
 ·obtain⟨_,cs,f,x8,x9,rfl,hf,c1,c2,hj,hc⟩:=hP;obtain⟨_,rfl⟩:=eA hx;refine⟨_,cN rfl,?_⟩;simp only[s0_,s1_];have a1:=ca cs c1 c2;have mo:=iy (f:=.own) K.r (.inr rfl) c1 c2;have fc:=Fc.call hf;have q1:mBr (jo (eH (cC aE (aa 2) (ae (au (p1 cQ) (ae (aa 7) am)) am))) (mG (eH (au (aU h8) (ae (aa 1) (ae (aa 7) am)))))) (bL (mC (.bl false))) aZ [some (.lst fl (iL ns)),some td,some O,some (.lst .own (iL rs)),some (.bl al),some (.box 99 [.bl al,.lst fl (iL ns)]),some (.lst .own (rows.map (cP .frz))),some (.lst f (iL cs)),some (.int (0+(j:Int))),x9]=.next [some (.lst fl (iL ns)),some td,some O,some (.lst .own (iL rs)),some (.bl al),some (.box 99 [.bl al,.lst fl (iL ns)]),some (.lst .own (rows.map (cP .frz))),some (.lst f (iL cs)),some (.int (0+(j:Int))),x9]:=by
   refine bR ?_ aG;simp only[nW,z9,xc,qR,cD,bO,cr,de,getElem?_cons_zero,getElem?_cons_succ,dz,Res.ok_bind,qB K.lb K.r.tb];by_cases z:caR n ip D cs=true
   ·have:=rgt f.lend.toBor cs fc c1 c2 z;simp[p1,cQ,aT,a1,z,tle,ttb,this,aL]
   ·have z:caR n ip D cs=false:=by simpa using z
    simp[p1,cQ,aT,a1,z]
  have q2:aV 9 (cC av (aa 2) (ae (au (p1 cQ) (ae (aa 7) am)) am)) [some (.lst fl (iL ns)),some td,some O,some (.lst .own (iL rs)),some (.bl al),some (.box 99 [.bl al,.lst fl (iL ns)]),some (.lst .own (rows.map (cP .frz))),some (.lst f (iL cs)),some (.int (0+(j:Int))),x9]=.next [some (.lst fl (iL ns)),some td,some O,some (.lst .own (iL rs)),some (.bl al),some (.box 99 [.bl al,.lst fl (iL ns)]),some (.lst .own (rows.map (cP .frz))),some (.lst f (iL cs)),some (.int (0+(j:Int))),some (.lst .own (iL (mvR n D cs)))]:=by refine aB (v:=.lst .own (iL (mvR n D cs))) ?_ (by simp) rfl;simp only[qR,cD,bO,cr,de,getElem?_cons_zero,getElem?_cons_succ,dz,Res.ok_bind,qB K.lb K.r.tb,K.r.mv];simp[p1,cQ,aT,K.r.tb,mo,aL]
  have en:pEq (.lst .lnt (iL (mvR n D cs))) (.lst .own [])=.ok (.bl (decide (mvR n D cs=[]))):=sJ _ [] _ _;by_cases hjr:j<rows.length
  ·obtain⟨c,nm,h1,h2,h3,h4,hH,hN,e2⟩:=R2 j rows[j] (getElem?_eq_getElem hjr);rw[hc]at h1;cases h1;have hs1:sts[j+1]?=some (stR n D cs nm):=by rw[hst];simp[hjr,e2]
   obtain⟨t1,t2⟩:=u8 K.r c1 c2 nm;have ix:az (.lst .lnt (rows.map (cP .frz))) (.int (j:Int))=.ok (cP .frz (dnR n D cs nm,stR n D cs nm)):=iR rfl (by simp[hjr,e2]) (by simp[cP]);obtain⟨i0,i1⟩:=vw (dnR n D cs nm,stR n D cs nm);have ss:=Af hN.2.1 hN.1;have sl:=jE (f:=.own) nm (by
    have l1:nm.length=(dnR n D cs nm).length:=by rw[<- ss];exact(cO nm).length_eq.symm
    have l2:(dnR n D cs nm).length <=(mvR n D cs).length:=length_filter_le _ _;have l3:=nM (n:=n) (D:=D) (cs:=cs);omega)
   refine .inl ⟨_,.inl (af q1 (af q2 (af (bR ?_ aG) (af (bR ?_ aG) (aB (v:=.lst .frz (iL (stR n D cs nm))) (by simp[ix,i1]) (by simp) rfl))))),by omega,stR n D cs nm,.frz,_,_,rfl,.inl (.inr rfl),t1,t2,by omega,hs1⟩
   ·simp;omega
   ·simp only[h4,decide_false]at en;have e9:hR 5 99 pF (ae (aa 8) (ae (aa 9) am)) [some (.lst fl (iL ns)),some td,some O,some (.lst .own (iL rs)),some (.bl al),some (.box 99 [.bl al,.lst fl (iL ns)]),some (.lst .own (rows.map (cP .frz))),some (.lst f (iL cs)),some (.int (0+(j:Int))),some (.lst .own (iL (mvR n D cs)))]=.ok (.lst .own (iL nm)):=by unfold hR;simp[no,aL,h.toBor,hH .bor (.inl (.inl rfl))]
    simp only[C1,jv,eR,de,bO,cr,ib,e9];simp[en,ix,i0,sl,ss]
  ·obtain rfl:j=rows.length:=by omega
   rw[R1]at hc;cases hc;refine .inr (.inr (.inl ⟨.bl true,af q1 (af q2 (cw (fG (by simp) (bj (v:=.bl true) ?_ (by simp))))),rfl⟩));simp only[C2,eR,de,bO,cr,ib,cD,pI,getElem?_cons_zero,getElem?_cons_succ,dz,Res.ok_bind];rcases hend with e|e
   ·simp[e]
   ·simp[e]at en;simp[e,en]
 ·obtain⟨h1,cs,f,x8,x9,rfl,hf,c1,c2,hj,hc⟩:=hP;rw[a_]at hj;omega
end G
namespace G
open PySem L2 PR
def hb:yk pt.F:=⟨bn2,bn3,bn2,bn1,bn4,bn3,bn1,bn3,bn2,bn2,bn2,bn2,bn2,bn2,bn3,bn1,bn3,bn5,bn3,bn3,bn2,bn3,bn2,bn2,bn1,bn2,bn3,bn2,bn3,bn2,bn2,bn2,bn3,bn3,bn2,bn3,bn2,bn2,bn2,bn3,bn2,bn3,bn3,bn3,bn2,bn2,bn3,bn3,bn4,bn2,bn2,bn1,bn1,bn2,bn2,bn2,bn1,trivial⟩
def hs:pt.F.all scB=true:=by decide +kernel
def fin{l:PySem.W.OpenLaw}{w:World}{K:PySem.W.Frag}{mg:Str->Option Value}{fa:Addr}(t:Tx pt K mg)(hfa:mg "law"=some (.ref fa)) :
  ∃fd:FuncData,(∀(s:Shared) (u:Value),BindsTo s fd ⟨[u],[]⟩ [("_law_script",u)])/\∀base:Heap,K.In base->TG pt K mg base->cU l.prog w K mg base (CXP l.prog w) 11 fa fd ["_law_script"] (va K (pt.T hA K).tb):=by
 have e:=hfa.symm.trans (t.gl 56 rfl);cases e;refine⟨dAt K (pt.fa K 56),fun s u=>?_,fun base hB tg=>Co (T:=T K) (Cf t hB tg) law_true⟩;obtain⟨oc,od,kV,doc,pm,an,cdv,ct,osl,e,_⟩:=(t.fn 56).ex;rw[e];exact .of_eq rfl
end G
namespace PySem.W.Fast
theorem t:True:=trivial
def tw13600305362805948598:=t
def tw9656105116907873847:=t
def tw5925298034239699504:=t
def tw3496407949487619002:=t
def tw8259700117291390256:=t
def tw5219724085010751554:=t
def tw618013502913040976:=t
def tw9451546602022498830:=t
def tw8771386411612682046:=t
def tw8509732981644334465:=t
def tw18272484496050511383:=t
def tw11685578982420814533:=t
def tw18365011691082820541:=t
def tw8584267634682815976:=t
def tw4955379587199319968:=t
def tw4463059432658146187:=t
def tw16367731933098429109:=t
def tw9833646437227900482:=t
def tw15225806622808862369:=t
def tw11325277735420459640:=t
def tw15311590245294237846:=t
def tw13762940211881273937:=t
def tw2999436741393355333:=t
def tw5518370162141156395:=t
def tw13610712539963124424:=t
def tw16571172689923986133:=t
def tw18090951168335509280:=t
def tw9073694452606136541:=t
def tw15503443745162733969:=t
def tw14568304193143673754:=t
def tw3002401470800240954:=t
def tw15371061469521938266:=t
def tw14927453480462731874:=t
def tw15091150639570127402:=t
def tw6358156628181121287:=t
def tw70567794847696540:=t
def tw15277511080105824681:=t
def tw3384749270364182816:=t
def tw1338431918012705511:=t
def tw8720075638790805960:=t
def tw4282787850304113891:=t
def tw3703970870258398210:=t
def tw2237520643145054619:=t
def tw15686619890169265789:=t
def tw17724248021073306765:=t
def tw13755693419638957404:=t
def tw14931491747023138437:=t
def tw3446827530945693048:=t
def tw11885622180581593390:=t
def tw11560965837801371089:=t
def tw4920424196817843259:=t
def tw14510888458463639064:=t
def tw7764612968933805585:=t
def tw9069868981324992474:=t
def tw4849906784667587453:=t
def tw10163297555491063420:=t
def tw2466498132158432364:=t
def tw12033099139779665785:=t
def tw1850712709179477339:=t
def tw8683224431806418709:=t
def tw1488938513529046570:=t
def tw13386226170173506620:=t
def tw16849552382528237548:=t
def tw14904080342709098171:=t
def tw14395803482097181570:=t
def tw16627171275832095428:=t
def tw7997967003585319096:=t
def tw18189407591999188595:=t
def tw1383066109397473225:=t
def tw2074521790073019742:=t
def tw17648324012642383356:=t
def tw3272474406278221356:=t
def tw17831549621312283825:=t
def tw2895580692547622049:=t
def tw1516435728552186051:=t
def tw3598684383228028214:=t
def tw9322647082013907068:=t
def tw6656028274334504032:=t
def tw6292788922075134766:=t
def tw8376806766091810385:=t
def tw11198245860555985312:=t
def tw11982015162570463999:=t
def tw2168381825645067352:=t
def tw15497768026475956471:=t
def tw2251836079670891397:=t
def tw17215665172141225652:=t
def tw5414898972851113590:=t
def tw9937861142445300760:=t
def tw4522701034917418239:=t
def tw16446206001387865244:=t
def tw15810253741525545977:=t
def tw1479095871189418992:=t
def tw10793709499598802708:=t
def tw4434779595659349864:=t
def tw16439555975950162337:=t
def tw17942606980104514447:=t
def tw17416296649134775429:=t
def tw1368642231555085438:=t
def tw4743328061695470871:=t
def tw3767728203201902716:=t
def tw6403260988093109448:=t
def tw7254557911805885854:=t
def tw4264416771841980087:=t
def tw2452594788893801784:=t
def tw1694468078376652942:=t
def tw5963200719417112792:=t
def tw17184330385404739416:=t
def tw1725281574652199044:=t
def tw6702562022438393790:=t
def tw15975337883075585783:=t
def tw14565791040994712668:=t
def tw13645725285686422792:=t
def tw6972815520463752639:=t
def tw4623975136995331968:=t
def tw13637741865675362807:=t
def tw13108217586131874633:=t
def tw16164198365241417620:=t
def tw5119367874997169526:=t
def tw9645109732099722012:=t
def tw13338199050439345206:=t
def tw1455635048875580677:=t
def tw5126398859178812821:=t
def tw6326080248633103454:=t
def tw10996612518588370848:=t
def tw7808014453353186598:=t
def tw16096323765215797223:=t
def tw9607776053933889414:=t
def tw15603412952479273912:=t
def tw864652542146715401:=t
def tw1940806493759764447:=t
def tw7315287152465988698:=t
def tw11105459356974282512:=t
def tw5825502608416116583:=t
def tw11731909985275472979:=t
def tw5747832895995813959:=t
def tw265099358235574330:=t
def tw3494738340159974394:=t
def tw7818963628656599782:=t
def tw1679916838514945274:=t
def tw9341095512965400612:=t
def tw1385428735198848195:=t
def tw9653889046998434278:=t
def tw5597478333002723064:=t
def tw15202092960119327471:=t
def tw11785989543102746861:=t
def tw17216427061531495593:=t
def tw5265990404004352203:=t
def tw9631271592851818976:=t
def tw1475925541840291320:=t
def tw14836501531579099863:=t
def tw4271490229726808067:=t
def tw6868502975033117455:=t
def tw14045803490052906663:=t
def tw15692947526778399715:=t
def tw4611989188103560684:=t
def tw4855993707479308819:=t
def tw1033208365022677192:=t
def tw15685063141595200653:=t
def tw15748564137573545457:=t
def tw15774460996218700578:=t
def tw16003737186944260885:=t
def tw2099574891452519778:=t
def tw15671063551118765519:=t
def tw3914724500990083983:=t
def tw14679356516675447260:=t
def tw11109666141154231458:=t
def tw712135621657562873:=t
def tw2675162117142119560:=t
def tw5965789399378160324:=t
def tw13668862746155617942:=t
def tw14865703994893471533:=t
def tw7994747545607665259:=t
def tw5311511496244471577:=t
def tw16270987134871941850:=t
def tw9228104201668373069:=t
def tw4495967018058416092:=t
def tw14987652488892977479:=t
def tw6755283123375397307:=t
def tw13653300387591324757:=t
def tw6228670398884077870:=t
def tw200780773016454586:=t
def tw12502590237925854308:=t
def tw6459023790466371080:=t
def tw12429405994842141548:=t
def tw15722223358206057185:=t
def tw10261947723045493279:=t
def tw1770961235072368247:=t
def tw4277283043498389943:=t
def tw8000870428427455965:=t
def tw4364826461697203066:=t
def tw17772835613422542458:=t
def tw2214919472650827933:=t
def tw2201708164619844008:=t
def tw5876012852144823068:=t
def tw10576273701209401743:=t
def tw10495395260352921232:=t
def tw17873740739438977393:=t
def tw17505793753601844067:=t
def tw5052843447130076091:=t
def tw6825162070144027756:=t
def tw15684742614060654351:=t
def tw10748995731526251138:=t
def tw9474801119970642723:=t
def tw14905546838268061886:=t
def tw6847126727452778514:=t
def tw6519436035440067119:=t
def tw6819387788444439559:=t
def tw5382501052405383694:=t
def tw4319861296719995196:=t
def tw14518032214370198251:=t
def tw18038880974590941543:=t
def tw14306037667565494638:=t
def tw8380612355106533601:=t
def tw12308846162385672518:=t
def tw7040928532363199222:=t
def tw8657672021538590734:=t
def tw6098077415083056659:=t
def tw8105947107379141758:=t
def tw3896505745625151732:=t
def tw11294122721307170300:=t
def tw15553646409451990662:=t
def tw9071137685410684197:=t
def tw1686665615323328635:=t
def tw3305128074718182037:=t
def tw7391848072789856094:=t
def tw5703991535704377411:=t
def tw9709861482796653428:=t
def tw2261079499621283994:=t
def tw349996135425760958:=t
def tw14699054423034081723:=t
def tw14336828396283652409:=t
def tw9550691723118435696:=t
def tw5491288868351344009:=t
def tw5845452999355713870:=t
def tw222960424534419201:=t
def tw3390612676852813030:=t
def tw5535669034553605251:=t
def tw11215147377152207591:=t
def tw7574705333398706803:=t
def tw7234542303912664885:=t
def tw4451416833639554997:=t
def tw9557262814561444366:=t
def tw10184540634823553042:=t
def tw15573470691409642147:=t
def tw9297700272872485399:=t
def tw15901090540992665518:=t
def tw1075521262582360113:=t
def tw11858027541990803873:=t
def tw10427643371834709142:=t
def tw7282314219577887489:=t
def tw580612242728528004:=t
def tw8624553436307328898:=t
def tw8164932643330673260:=t
def tw10966571157918096095:=t
def tw10265363740061603399:=t
def tw13606965934233238321:=t
def tw3701272175836346015:=t
def tw3976131749888644378:=t
def tw13172465113857054967:=t
def tw18097275196400434045:=t
def tw1349808630077838775:=t
def tw1904476556931797913:=t
def tw8435729465344111217:=t
def tw7772343192507923576:=t
def tw1318541288132896410:=t
def tw15035502841118751026:=t
def tw18026447432134357870:=t
def tw16215180673430625066:=t
def tw14449560517669455939:=t
def tw11858218684059605659:=t
def tw14905975119031360959:=t
def tw3979055883622625725:=t
def tw3765732104468006920:=t
def tw13134288607424447977:=t
def tw8024301604924201680:=t
def tw14741712394525047679:=t
def tw12277157355965894676:=t
def tw15867604786329852006:=t
def tw6422818932114883558:=t
def tw2085015230542241572:=t
def tw5102857833881242112:=t
def tw1464466862803446003:=t
def tw4656425084556007476:=t
def tw8852607097739643634:=t
def tw14196645159302932511:=t
def tw9001323088909300975:=t
def tw17522232229285649672:=t
def tw773201972083150777:=t
def tw3319036569039281444:=t
def tw4220074362970873789:=t
def tw5502957129478096398:=t
def tw17379995787317379277:=t
def tw9250988724647613622:=t
def tw12848767039600443276:=t
def tw8360089733268739699:=t
def tw15258910886861967633:=t
def tw6762075322240632124:=t
def tw2811062300092477960:=t
def tw14182120558096180:=t
def tw2014046345307285360:=t
def tw11563543443974027295:=t
def tw10404321444575468694:=t
def tw830568937729241401:=t
def tw2273229103593448618:=t
def tw304512498506322033:=t
def tw12025992248410767759:=t
def tw9027638370839529840:=t
def tw3572350513160451190:=t
def tw11726864552149926261:=t
def tw10399550497720958690:=t
def tw10040281236588458176:=t
def tw5993418335213547817:=t
def tw18052705380868452648:=t
def tw17877018745954671233:=t
def tw153335935433316471:=t
def tw6724744076809786364:=t
def tw2013973217440843766:=t
def tw3514531070516479906:=t
def tw16280777734479481314:=t
def tw552096874543454864:=t
def tw5811561063800931916:=t
def tw590433425165601891:=t
def tw1675477746418055743:=t
def tw15669399477921345526:=t
def tw13449695937036638035:=t
def tw17689124676311448797:=t
def tw9771795335382647188:=t
def tw11955526463725187193:=t
def tw4282937199179977125:=t
def tw14582328789920418654:=t
def tw18393185488252293870:=t
def tw7293067876277982297:=t
def tw14459070102526684950:=t
def tw1074449710863823015:=t
def tw9531885533340531466:=t
def tw14700358229085599873:=t
def tw11537429914687345118:=t
def tw4067197469277953789:=t
def tw14381508025618910110:=t
def tw16366892689908558311:=t
def tw2144813989995891281:=t
def tw455374560177482747:=t
def tw5618067874340167057:=t
def tw8381663997080648447:=t
def tw16338962399125043806:=t
def tw1474185372077583051:=t
def tw5362894625087899111:=t
def tw1587648647585962001:=t
def tw12915816515679047811:=t
def tw9002301122290579408:=t
def tw3175773052821076163:=t
def tw1219045562032094852:=t
def tw9729250363576505837:=t
def tw4110346317328538729:=t
def tw6261752419218880888:=t
def tw8671457280365842916:=t
def tw14347305453950534302:=t
def tw16289376242034116281:=t
def tw7424659433837949839:=t
def tw9006044424527292195:=t
def tw1248694977456744670:=t
def tw17417709924784541078:=t
def tw11976623472634885957:=t
def tw12902085836328028268:=t
def tw3439672049842812736:=t
def tw6423605974752433185:=t
def tw2751306295477634941:=t
def tw14485024397771001088:=t
def tw17223309376190888944:=t
def tw11692132558036849914:=t
def tw2460496818781164142:=t
def tw5141517812210007549:=t
def tw426006254342722506:=t
def tw5853259111229984617:=t
def tw7200869134066653771:=t
def tw13102804129099508369:=t
def tw2001377174782551425:=t
def tw2313150708031871300:=t
def tw17527442733611941085:=t
def tw5464748463907475660:=t
def tw7338650900615460853:=t
def tw11563813267761314658:=t
def tw15450491026105555089:=t
def tw18276210404291850283:=t
def tw17903097916841111409:=t
def tw18037526783500743894:=t
def tw3136989817383435393:=t
def tw10971360776924884381:=t
def tw6563889893722619651:=t
def tw6950990013057388626:=t
def tw16014501835031555312:=t
def tw10071210305742296158:=t
def tw6384218042236158808:=t
def tw299608333999939635:=t
def tw12776481126513773701:=t
def tw10414119440324173671:=t
def tw7260709910276042600:=t
def tw13793902004282705952:=t
def tw9288583361862996666:=t
def tw201696943819601100:=t
def tw8561551333042134086:=t
def tw1614888339436297929:=t
def tw15901193864403523692:=t
def tw5470433726878050081:=t
def tw18057901425372001756:=t
def tw9288383450977616748:=t
def tw12354193183812449264:=t
def tw1028706960882270975:=t
def tw11072513355909092182:=t
def tw4233658125352728496:=t
def tw13259994689575286845:=t
def tw12359323586236561396:=t
def tw3417361320629101940:=t
def tw7870718120064750953:=t
def tw13352223215757229264:=t
def tw2828916633097123497:=t
def tw6013739725727792739:=t
def tw8004034898350335245:=t
def tw5635845155142428301:=t
def tw12615871973644623919:=t
def tw3863902495877601835:=t
def tw9978427678132594121:=t
def tw17076490450404021491:=t
def tw17650032473403988029:=t
end PySem.W.Fast
open PySem PySem.W PyProof.Rows
set_option maxRecDepth 100000 in
set_option maxHeartbeats 0 in
theorem PySem.Challenge.cw_calmring_k50_whole_calm_is_as_it_ought_t_holds : PySem.Challenge.rw_calmring_k50_whole_calm_is_as_it_ought_t.Holds := by
 w_on;o_law;k_head;(case hw=>w_witness2)
 k_fill
 refine PR.um _root_.G.pt _root_.G.hA (l:=PySem.Challenge.rw_calmring_k50_whole_calm_is_as_it_ought_t) (k:=11) (x := "_law_script") rfl rfl ⟨rfl,by decide,by decide⟩ (fun w h Y=>PySem.W.km_in_of Y) ?r ?G ?F
 (case r=>kernel_rfl)
 (case G=>exact fun w=>by kernel_rfl)
 case F =>
  intro w mg fa h KX G hmg
  refine' _root_.G.fin (_root_.PR.Tx.of KX G _root_.G.hb _root_.G.hs ?a ?b ?c ?d ?e ?f ?g) hmg
  (case a=>exact fun z=>nomatch z)
  (case b=>exact fun z=>nomatch z)
  (case c=>exact fun z=>nomatch z)
  (case d=>kernel_rfl)
  (case e=>kernel_rfl)
  (case f=>kernel_rfl)
  (case g=>kernel_rfl)
