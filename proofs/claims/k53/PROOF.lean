import PyProof.Rows.All
import Wide.All
import OpenK.AllK
import Wide.FinOn
import Lean
import PyProof.EqAt
import PyProof.EqKinds
import PyProof.TupleCall
import PySem.Challenge.RW_calmring_k53_whole_looked_through
abbrev td:=PySem.Value->PySem.Shared->Prop
abbrev Hz:=PySem.Str->Option PySem.Value
abbrev HA:=List (PySem.Addr×PySem.Obj)
abbrev HB:=PySem.Addr->Prop
abbrev HC:=List Int
abbrev HD:=List PySem.Value
abbrev HE:=List PySem.Addr
abbrev HF:=List PySem.Str
abbrev HG:=Option Int
abbrev HH:=Array PySem.Value
open List(range mem_filter mem_range filterMap_cons mem_cons_self mem_cons_of_mem mem_cons mem_append mem_append_left getElem?_set_self getElem?_set_ne mem_filterMap mem_append_right size_toArray length_cons map_cons length_map append_nil nodup_cons replicate length_take getElem?_append_right getElem?_replicate getElem?_append_left getElem?_map length_append length_drop length_set Pairwise nodup_nil nodup_append append_assoc Sublist all_cons any_cons any_eq_true drop_eq_getElem_cons drop_length mem_map all_eq_true cons_append getD_eq_getElem?_getD getElem?_eq_getElem getElem_mem not_mem_nil getElem?_cons_succ map_map take_of_length_le foldl_cons length_eq_zero_iff map_append length_pos_iff map_congr_left mem_singleton getElem?_cons_zero findIdx?_cons contains_iff_mem)
open PySem.W(instObj methodObj hideAll hideAll_get lookIn plainGet hasDictIn handedIn plainGet_of plainOver takerIn makesIn emptyDict callWith_K mroIn clsIn excIn specialIn readsIn findCls kitOne exmOne mg_of)
open PySem.Heap(lt_size SameBut get?_push_of_some get?_push_size size_push get?_update_other FlyingW ExtBut hide_ne)
open Nat(zero_le le_succ lt_succ_of_lt not_lt_zero toDigits)
open Bool(or_eq_false_iff and_eq_true false_eq_true not_eq_true' eq_false_iff)
open Option(isSome_iff_exists map_eq_some_iff map_some isNone)
open Int(toNat_natCast emod_nonneg emod_lt_of_pos emod_eq_of_lt toNat_of_nonneg)
open Array(all_toList)
open PyProof.Rows(firstMet step_dedup)
set_option Elab.async false
set_option linter.all false
set_option maxRecDepth 100000
noncomputable section
set_option genSizeOf false
set_option compiler.extract_closed false
set_option bootstrap.genMatcherCode false
namespace L2
open PySem PySem.Spec PyProof.Rows
abbrev Key:=Sum Int Str
def Bs:Key->Value->Bool
 |.inl k,v=>Value.isInt k v
 |.inr x,v=>Value.isStrOf x v
def Hd(w:World):Key->Int
 |.inl k=>hashInt k
 |.inr x=>hashStr w x
def bS:∀{k:Key}{v:Value},Bs k v=true->(∃i t,k=Sum.inl i/\v=Value.int i t)\/(∃x t,k=Sum.inr x/\v=Value.str x t)
 |.inl i,v,h=>by obtain⟨t,e⟩:=Value.isInt_shape (k:=i) (v:=v) h;exact .inl ⟨i,t,rfl,e⟩
 |.inr x,v,h=>by obtain⟨t,e⟩:=Value.isStrOf_shape (x:=x) (v:=v) h;exact .inr ⟨x,t,rfl,e⟩
def Do(a b:Int):decide ((Sum.inl a:Key)=Sum.inl b)=(a==b):=by
 by_cases e:a=b
 ·subst e;simp
 ·have h:¬(Sum.inl a:Key)=Sum.inl b:=fun q=>e (Sum.inl.inj q);rw[decide_eq_false h];exact(beq_eq_false_iff_ne.mpr e).symm
def Dl(a b:Str):decide ((Sum.inr a:Key)=Sum.inr b)=decide (a=b):=by
 by_cases e:a=b
 ·subst e;simp
 ·have h:¬(Sum.inr a:Key)=Sum.inr b:=fun q=>e (Sum.inr.inj q);rw[decide_eq_false h,decide_eq_false e]
def Dn(a:Int)(b:Str):decide ((Sum.inl a:Key)=Sum.inr b)=false:=decide_eq_false (fun q=>nomatch q)
def Dm(a:Str)(b:Int):decide ((Sum.inr a:Key)=Sum.inl b)=false:=decide_eq_false (fun q=>nomatch q)
def n5(prog:Program)(w:World):PySem.KeyKind prog w Key where
 is:=Bs
 hash:=Hd w
 inj:=fun v a b ha hb=>by
  rcases bS ha with⟨i,t,rfl,rfl⟩ |⟨x,t,rfl,rfl⟩
  ·rcases bS hb with⟨j,u,rfl,e⟩ |⟨y,u,rfl,e⟩
   ·injection e with e1 _;rw[e1]
   ·exact nomatch e
  ·rcases bS hb with⟨j,u,rfl,e⟩ |⟨y,u,rfl,e⟩
   ·exact nomatch e
   ·injection e with e1 _;rw[e1]
 byValue:=fun k v h=>by rcases bS h with⟨i,t,rfl,rfl⟩ |⟨x,t,rfl,rfl⟩<;>rfl
 pyHash:=fun hv h=>by
  rcases bS hv with⟨i,t,rfl,rfl⟩ |⟨x,t,rfl,rfl⟩
  ·exact wpAny_pyHash_int h
  ·exact wpAny_pyHash_str h
 eqBool:=fun hu hv h=>by
  rcases bS hu with⟨i,t,rfl,rfl⟩ |⟨x,t,rfl,rfl⟩
  ·rcases bS hv with⟨j,u,rfl,rfl⟩ |⟨y,u,rfl,rfl⟩
   ·rw[Do]at h;exact wpAny_eqBool_int h
   ·rw[Dn]at h;exact SeqAt.EqAt.int_str i t y u _ _ _ _ h
  ·rcases bS hv with⟨j,u,rfl,rfl⟩ |⟨y,u,rfl,rfl⟩
   ·rw[Dm]at h;exact SeqAt.EqAt.str_int x t j u _ _ _ _ h
   ·rw[Dl]at h;exact wpAny_eqBool_str h
 «strs»:=fun k x t v h=>by
  rcases bS h with⟨i,u,rfl,e⟩ |⟨y,u,rfl,e⟩
  ·exact nomatch e
  ·injection e with e1 _;subst e1;cases v<;>rfl
end L2
namespace L2
open PySem PySem.Spec PyProof.Rows
inductive V where
 |non|bl (b:Bool)|int (i:Int)|str (x:Str)|byt (b:Array UInt8)|flt (b:UInt64)|ref (a:Addr)|ty (n:String)
 deriving DecidableEq
abbrev HI:=List V
def bE:V->Value->Prop
 |.non,u=>u=Value.none
 |.bl b,u=>u=Value.bool b
 |.int i,u=>∃t,u=Value.int i t
 |.str x,u=>∃t,u=Value.str x t
 |.byt b,u=>∃t,u=Value.bytes b t
 |.flt b,u=>∃t,u=Value.float b t
 |.ref a,u=>u=Value.ref a
 |.ty n,u=>u=Value.type n
abbrev aK:HI->HD->Prop:=Paired bE
def aK.length{xs:HI}{us:HD}(r:aK xs us):xs.length=us.length:=Paired.length r
def aK.get:∀{xs:HI}{us:HD}{i:Nat}{x:V},aK xs us->xs[i]?=some x->∃u,us[i]?=some u/\bE x u
 |_,_,_,_,.nil,e=>by simp at e
 |_,_,0,_,.cons r _,e=>by simp at e;subst e;exact⟨_,rfl,r⟩
 |_,_,i+1,x,.cons _ t,e=>by obtain⟨u,h1,h2⟩:=aK.get (i:=i) (x:=x) t (by simpa using e);exact⟨u,by simpa using h1,h2⟩
def aK.set{x:V}{u:Value}(r:bE x u):∀{xs:HI}{us:HD} (i:Nat),aK xs us->aK (xs.set i x) (us.set i u)
 |_,_,_,.nil=>.nil
 |_,_,0,.cons _ t=>.cons r t
 |_,_,i+1,.cons q t=>.cons q (aK.set r i t)
def aK.append:∀{xs ys:HI}{us ws:HD},aK xs us->aK ys ws->aK (xs++ys) (us++ws)
 |_,_,_,_,.nil,s=>s
 |_,_,_,_,.cons r t,s=>.cons r (aK.append t s)
def aK.take:∀{xs:HI}{us:HD} (n:Nat),aK xs us->aK (xs.take n) (us.take n)
 |_,_,0,_|_,_,_+1,.nil=>.nil
 |_,_,n+1,.cons r t=>.cons r (aK.take n t)
def aK.drop:∀{xs:HI}{us:HD} (n:Nat),aK xs us->aK (xs.drop n) (us.drop n)
 |_,_,0,r=>r
 |_,_,_+1,.nil=>.nil
 |_,_,n+1,.cons _ t=>aK.drop n t
def my:Option V->Option Value->Prop
 |some v,some u=>bE v u
 |none,none=>True
 |_,_=>False
def KV{κ:Type}:List (κ×V)->List (κ×Value)->Prop:=Paired fun(p:κ×V) (q:κ×Value)=>p.1=q.1/\bE p.2 q.2
def kV:Key->V
 |.inl i=>.int i
 |.inr x=>.str x
inductive HO where
 |lst (xs:HI)
 |tup (xs:HI)
 |dK (kvs:List (Key×V))|dT (kvs:List (List Key×V))
 |set(S:Int->Bool) (n:Nat)
 |ins (C dx:Addr) (fs:List (Str×V))
 |own (x:Addr)
 |xd (fs:List (Str×V))
 |met (f x:Addr)
 |rng (lo hi:Int)
 |frz (o:Obj) (u:HO)
 |tbl (ps:HH)
 |ext (φ:Heap->Prop)
abbrev Hp:=Addr->Option HO
abbrev HJ:=Hp->Prop
def upd(H:Hp)(a:Addr)(o:HO):Hp:=fun b=>if b=a then some o else H b
def bA{H:Hp}{a:Addr}{o:HO}:upd H a o a=some o:=by unfold upd;rw[if_pos rfl]
def aG{H:Hp}{a b:Addr}{o:HO}(h:b≠a):upd H a o b=H b:=by unfold upd;rw[if_neg h]
def bM{H:Hp}{a b:Addr}{o:HO}(h:H a=some o)(h':H b=none):a≠b:=by intro e;subst e;rw[h]at h';cases h'
section
variable(P:Program)(w:World)
def Kp:HO->Prop
 |.tup _|.frz _ _=>True
 |_=>False
def Tab(H:Hp)(ps qs:HH):Prop:=qs=#[]\/ ∃l c q t0 c' oc u vs t,ps=#[l,c,.str q t0]/\qs=#[l,c,.ref c']/\H c'=some (.frz oc u)/\oc.data=.fields vs/\vs[1]?=some (.str q t)
def cY(H:Hp)(h:Heap)(a:Addr):HO->Prop
 |.lst xs=>xs.length<=sizeLine/\∃(its:HD) (n:Nat),aK xs its/\h.get? a=some {cls:=.type "list",data:=.seq its.toArray n}
 |.tup xs=>xs.length<=sizeLine/\∃its:HD,aK xs its/\IsTup h a its.toArray
 |.dK kvs=>kvs.length<=sizeLine/\(a==sysModules)=false/\∃vs,KV kvs vs/\h.DictOf (n5 P w) a vs
 |.dT kvs=>kvs.length<=sizeLine/\(a==sysModules)=false/\∃xs:List (List Key×Addr×Value),
   Paired (fun(p:List Key×V) (q:List Key×Addr×Value)=>p.1=q.1/\H q.2.1=some (.tup (p.1.map kV))/\bE p.2 q.2.2) kvs xs /\
   ∃o es ep,h.get? a=some o/\o.ExactDict/\o.data=.dict es ep/\es.toList=xs.map (entryOfKey (tupleKind (n5 P w)))/\(xs.map (·.1)).Nodup
 |.set S n=>h.SetOf (intKind P w) a S n
 |.ins C dx fs=>H dx=some (.own a)/\fs.length<=1000/\dx≠a/\h.get? a=some (instObj C dx)/\
   ∃mA,h.Ns1 dx mA/\(∀f,my (fs.lookup f) (mA f))/\PySem.Within mA (fs.map (·.1))
 |.own _=>∃o,h.get? a=some o
 |.xd fs=>∃mA,h.Ns1 a mA/\∀f,my (fs.lookup f) (mA f)
 |.rng lo hi=>∃t u v,h.get? a=some {cls:=.type "range",data:=.fields #[.int lo t,.int hi u,.int 1 v]}
 |.frz o u=>h.get? a=some o/\cY H h a u
 |.tbl ps=>∃qs,h.get? a=some {cls:=.none,data:=.fields qs}/\Tab H ps qs
 |.met f x=>h.get? a=some (methodObj (.ref f) (.ref x))
 |.ext φ=>φ h/\(∃o,h.get? a=some o)/\∀h1 h2:Heap,φ h1->(∀o,h1.get? a=some o->h2.get? a=some o)->φ h2
def HOk(H:Hp)(h:Heap):Prop:=∀a o,H a=some o->cY P w H h a o
end
section
variable{P:Program}{w:World}{H H':Hp}{h h':Heap}{a:Addr}{o:HO}
def cY.lt(x:cY P w H h a o):a<h.objs.size:=by
 cases o with
 |lst xs=>obtain⟨_,_,_,_,e⟩:=x;exact lt_size e
 |tup xs=>obtain⟨_,_,_,p⟩:=x;exact p.lt
 |dK kvs|dT kvs=>obtain⟨_,_,_,_,o,_,_,e,_⟩:=x;exact lt_size e
 |set S n=>obtain⟨o,_,_,_,e,_⟩:=x;exact lt_size e
 |ins C dx fs=>obtain⟨_,_,_,e,_⟩:=x;exact lt_size e
 |own y=>obtain⟨_,e⟩:=x;exact lt_size e
 |xd fs=>obtain⟨_,⟨_,_,_,e,_⟩,_⟩:=x;exact lt_size e
 |rng lo hi=>obtain⟨_,_,_,e⟩:=x;exact lt_size e
 |frz ob u=>obtain⟨e,_⟩:=x;exact lt_size e
 |tbl ps=>obtain⟨_,e,_⟩:=x;exact lt_size e
 |met f y=>exact lt_size (show h.get? a=some _ from x)
 |ext φ=>obtain⟨_,⟨_,e⟩,_⟩:=x;exact lt_size e
def Paired.mapP{α β:Type}{F G:α->β->Prop}:∀{l₁:List α}{l₂:List β},Paired F l₁ l₂->(∀a b,F a b->G a b)->Paired G l₁ l₂
 |_,_,.nil,_=>.nil
 |_,_,.cons r t,f=>.cons (f _ _ r) (Paired.mapP t f)
def cY.stay(x:cY P w H h a o)(k:∀b u,(b=a\/H b=some (.own a))->h.get? b=some u->h'.get? b=some u)
  (ho:∀b,H b=some (.own a)->H' b=some (.own a)) (ht:∀b u,Kp u->H b=some u->H' b=some u):cY P w H' h' a o:=by
 induction o with
 |lst xs=>obtain⟨z,its,n,r,e⟩:=x;exact⟨z,its,n,r,k _ _ (.inl rfl) e⟩
 |tup xs=>obtain⟨z,its,r,ob,e,c⟩:=x;exact⟨z,its,r,ob,k _ _ (.inl rfl) e,c⟩
 |dK kvs=>obtain⟨z,y,vs,r,ob,es,ep,e,c⟩:=x;exact⟨z,y,vs,r,ob,es,ep,k _ _ (.inl rfl) e,c⟩
 |dT kvs=>obtain⟨z,y,xs,r,ob,es,ep,e,c⟩:=x;exact⟨z,y,xs,Paired.mapP r fun p q z=>⟨z.1,ht _ _ True.intro z.2.1,z.2.2⟩,ob,es,ep,k _ _ (.inl rfl) e,c⟩
 |set S n=>obtain⟨ob,es,ep,t,e,c⟩:=x;exact⟨ob,es,ep,t,k _ _ (.inl rfl) e,c⟩
 |ins C dx fs=>obtain⟨d,z,ne,e,mA,⟨od,es,ep,e2,c⟩,r⟩:=x;exact⟨ho _ d,z,ne,k _ _ (.inl rfl) e,mA,⟨od,es,ep,k _ _ (.inr d) e2,c⟩,r⟩
 |own y=>obtain⟨ob,e⟩:=x;exact⟨ob,k _ _ (.inl rfl) e⟩
 |xd fs=>obtain⟨mA,⟨od,es,ep,e,c⟩,r⟩:=x;exact⟨mA,⟨od,es,ep,k _ _ (.inl rfl) e,c⟩,r⟩
 |rng lo hi=>obtain⟨t,u,v,e⟩:=x;exact⟨t,u,v,k _ _ (.inl rfl) e⟩
 |frz ob u ih=>obtain⟨e,q⟩:=x;exact⟨k _ _ (.inl rfl) e,ih q⟩
 |tbl ps=>obtain⟨qs,e,c⟩:=x;exact⟨qs,k a _ (.inl rfl) e,c.imp (fun z=>z) fun z=>by obtain⟨l,c,q,t0,c',oc,u,vs,t,e1,e2,e3,r⟩:=z;exact⟨l,c,q,t0,c',oc,u,vs,t,e1,e2,ht _ _ True.intro e3,r⟩⟩
 |met f y=>have e:h.get? a=some (methodObj (.ref f) (.ref y)):=x;show h'.get? a=some (methodObj (.ref f) (.ref y));exact k a _ (.inl rfl) e
 |ext φ=>obtain⟨p,⟨o,e⟩,st⟩:=x;exact⟨st _ _ p fun o q=>k _ _ (.inl rfl) q,⟨o,k _ _ (.inl rfl) e⟩,st⟩
def HOk.lt(x:HOk P w H h)(e:H a=some o):a<h.objs.size:=(x a o e).lt
def HOk.fresh(x:HOk P w H h)(e:h.objs.size<=a):H a=none:=by
 cases q:H a with
 |none=>rfl
 |some u=>exact absurd (Nat.lt_of_lt_of_le (x.lt q) e) (Nat.lt_irrefl _)
def HOk.kept(x:HOk P w H h)(k:∀b u,h.get? b=some u->h'.get? b=some u):HOk P w H h':=fun a o e=>
 (x a o e).stay (fun b u _ q=>k b u q) (fun _ q=>q) fun _ _ _ q=>q
def HOk.laid(x:HOk P w H h)(k:∀b u,h.get? b=some u->h'.get? b=some u)(hp:h.objs.size<=a)(new:cY P w (upd H a o) h' a o):HOk P w (upd H a o) h':=fun b u e=>by
 have hn:=x.fresh hp;by_cases hb:b=a
 ·subst hb;rw[bA]at e;cases e;exact new
 ·rw[aG hb]at e;exact(x b u e).stay (fun c v _ q=>k c v q) (fun c q=>by rw[aG (bM q hn)];exact q) fun c xs _ q=>by rw[aG (bM q hn)];exact q
end
def Rd(H:Hp)(a:Addr)(u:HO):Prop:=H a=some u\/∃o,H a=some (.frz o u)
def Rd.ok{P:Program}{w:World}{H:Hp}{h:Heap}{a:Addr}{u:HO}(r:Rd H a u)(x:HOk P w H h):cY P w H h a u:=by
 rcases r with r |⟨o,r⟩
 ·exact x a u r
 ·obtain⟨_,q⟩:=x a _ r;exact q
def Mut:Option HO->Prop
 |some (.lst _)|some (.dK _)|some (.dT _)|some (.set _ _)|some (.ins _ _ _)|some (.ext _)=>True
 |_=>False
section
variable{P:Program}{w:World}{H:Hp}{h h':Heap}{x e:Addr}{o':HO}
def HOk.write(ok:HOk P w H h)(mu:Mut (H x))(he:e=x\/H e=some (.own x))(k:∀b u,b≠e->h.get? b=some u->h'.get? b=some u)(heo:∃u,h'.get? e=some u)
  (new:cY P w (upd H x o') h' x o'):HOk P w (upd H x o') h':=fun b u q=>by
 have nown:∀c y,H c=some (.own y)->c≠x:=fun c y r z=>by subst z;rw[r]at mu;exact mu
 have ntup:∀c u,Kp u->H c=some u->c≠x:=fun c u h r z=>by subst z;rw[r]at mu;cases u<;>first|exact h|exact mu
 by_cases hb:b=x
 ·subst hb;rw[bA]at q;cases q;exact new
 ·rw[aG hb]at q;by_cases hbe:b=e
  ·have q':H b=some (.own x):=by
    rcases he with z|z
    ·exact absurd (hbe.trans z) hb
    ·rw[hbe];exact z
   rw[q]at q';cases q';obtain⟨v,hv⟩:=heo;exact⟨v,by rw[hbe];exact hv⟩
  ·refine(ok b u q).stay (fun c v hc r=>k c v ?_ r) (fun c r=>by rw[aG (nown c b r)];exact r) fun c xs h r=>by rw[aG (ntup c xs h r)];exact r
   rcases hc with rfl|hc
   ·exact hbe
   ·rintro rfl;rcases he with z|z
    ·exact nown c b hc z
    ·rw[hc]at z;cases z;exact hb rfl
end
structure Un(fs ex:HE)(H H':Hp)(h h':Heap):Prop where
 keep:∀b o,h.get? b=some o->H b=none->b∉fs->b∉ex->h'.get? b=some o
 slot:∀b o,h.get? b=some o->H b=none->b∈fs->b∉ex->∃sl,h'.get? b=some {o with slots:=sl}
 free:∀b o,h.get? b=some o->H b=none->b∉ex->H' b=none
 there:∀b o,h.get? b=some o->b∉ex->∃o',h'.get? b=some o'
 tups:∀b xs,H b=some (.tup xs)->H' b=some (.tup xs)
 frzs:∀b o u,H b=some (.frz o u)->H' b=some (.frz o u)
 tbls:∀b ps,H b=some (.tbl ps)->∃more,H' b=some (.tbl (ps++more))
section
variable{fs fs' ex ex':HE}{H H1 H2:Hp}{h h1 h2 h':Heap}{a x e:Addr}{o:HO}
def Un.any(u:Un fs ex H H1 h h1){b:Addr}{ob:Obj}(q:h.get? b=some ob)(n:H b=none)(hx:b∉ex):∃sl,h1.get? b=some {ob with slots:=sl}:=by
 by_cases hb:b∈fs
 ·exact u.slot b ob q n hb hx
 ·exact⟨ob.slots,u.keep b ob q n hb hx⟩
def Un.trans(a:Un fs ex H H1 h h1)(b:Un fs ex H1 H2 h1 h2):Un fs ex H H2 h h2 where
 keep:=fun c ob q n hc hx=>b.keep c ob (a.keep c ob q n hc hx) (a.free c ob q n hx) hc hx
 slot:=fun c ob q n hc hx=>by obtain⟨sl,e1⟩:=a.slot c ob q n hc hx;obtain⟨sl',e2⟩:=b.slot c _ e1 (a.free c ob q n hx) hc hx;exact⟨sl',e2⟩
 free:=fun c ob q n hx=>by obtain⟨o',e1⟩:=a.there c ob q hx;exact b.free c o' e1 (a.free c ob q n hx) hx
 there:=fun c ob q hx=>by obtain⟨o',e1⟩:=a.there c ob q hx;exact b.there c o' e1 hx
 tups:=fun c xs q=>b.tups c xs (a.tups c xs q)
 frzs:=fun c ob xs q=>b.frzs c ob xs (a.frzs c ob xs q)
 tbls:=fun c ps q=>by obtain⟨m1,e1⟩:=a.tbls c ps q;obtain⟨m2,e2⟩:=b.tbls c _ e1;exact⟨m1++m2,by rw[e2,Array.append_assoc]⟩
def Un.kept(k:∀b u,h.get? b=some u->h'.get? b=some u):Un fs ex H H h h':=
 ⟨fun b ob q _ _ _=>k b ob q,fun b ob q _ _ _=>⟨ob.slots,k b ob q⟩,fun _ _ _ n _=>n,fun b ob q _=>⟨ob,k b ob q⟩,fun _ _ q=>q,fun _ _ _ q=>q,fun _ ps q=>⟨#[],by rw[q];simp⟩⟩
def Un.refl:Un fs ex H H h h:=Un.kept fun _ _ q=>q
def Un.laid(k:∀b u,h.get? b=some u->h'.get? b=some u)(hp:h.objs.size<=a)(hn:H a=none):Un fs ex H (upd H a o) h h' where
 keep:=fun b u q _ _ _=>k b u q
 slot:=fun b u q _ _ _=>⟨u.slots,k b u q⟩
 free:=fun b u q n _=>by rw[aG (Nat.ne_of_lt (Nat.lt_of_lt_of_le (lt_size q) hp))];exact n
 there:=fun b u q _=>⟨u,k b u q⟩
 tups:=fun b xs q=>by rw[aG (bM q hn)];exact q
 frzs:=fun b u xs q=>by rw[aG (bM q hn)];exact q
 tbls:=fun b ps q=>⟨#[],by rw[aG (bM q hn),q];simp⟩
def Un.write(mu:Mut (H x))(he:e=x\/H e=some (.own x))(k:∀b u,b≠e->h.get? b=some u->h'.get? b=some u)(heo:∃u,h'.get? e=some u):Un fs ex H (upd H x o) h h':=by
 have hx:∀b,H b=none->b≠x:=fun b n z=>by subst z;rw[n]at mu;exact mu
 have hb:∀b,H b=none->b≠e:=fun b n z=>by
  subst z;rcases he with r|r
  ·exact hx b n r
  ·rw[n]at r;cases r
 have hm:∀b u,H b=some u->¬Mut (some u)->b≠x:=fun b u q nm z=>by subst z;rw[q]at mu;exact nm mu
 refine ⟨fun b u q n _ _=>k b u (hb b n) q,fun b u q n _ _=>⟨u.slots,k b u (hb b n) q⟩,fun b u q n _=>by rw [aG (hx b n)];exact n,fun b u q _=>?_,
  fun b xs q=>by rw[aG (hm b _ q fun z=>z)];exact q,fun b u xs q=>by rw[aG (hm b _ q fun z=>z)];exact q,fun b ps q=>⟨#[],by rw[aG (hm b _ q fun z=>z),q];simp⟩⟩
 by_cases hbe:b=e
 ·subst hbe;exact heo
 ·exact⟨u,k b u hbe q⟩
def Un.mono(u:Un fs ex H H1 h h1)(hs:∀b∈fs,b∈fs')(hx:∀b∈ex,b∈ex'):Un fs' ex' H H1 h h1:=
 ⟨fun b ob q n hb he=>u.keep b ob q n (fun z=>hb (hs b z)) fun z=>he (hx b z),fun _ _ q n _ he=>u.any q n fun z=>he (hx _ z),fun b ob q n he=>u.free b ob q n fun z=>he (hx b z),fun b ob q he=>u.there b ob q fun z=>he (hx b z),u.tups,u.frzs,u.tbls⟩
end
def trk(h:Heap)(H:Hp):HE:=(range h.objs.size).filter fun a=>(H a).isSome
def oi(h:Heap)(H:Hp):Heap:=hideAll h (trk h H)
def uG(h:Heap)(H:Hp):(oi h H).objs.size=h.objs.size:=PySem.W.hideAll_size _ _
def xp{h:Heap}{H:Hp}{b:Addr}{o:Obj}(e:h.get? b=some o)(n:H b=none):(oi h H).get? b=some o:=
 hideAll_get _ e fun hm=>by have q:(H b).isSome=true:=(mem_filter.mp hm).2;rw[n]at q;simp at q
def zG{h:Heap}{H:Hp}{b:Addr}{o:Obj}(e:(oi h H).get? b=some o):h.get? b=some o/\H b=none:=by
 have e':h.get? b=some o:=PySem.W.of_hideAll (trk h H) e;refine⟨e',?_⟩;cases q:H b with
 |none=>rfl
 |some x=>have hm:b∈trk h H:=mem_filter.mpr ⟨mem_range.mpr (lt_size e'),by simp[q]⟩;have z:(oi h H).get? b=none:=PySem.W.hideAll_none (trk h H) hm;rw[z]at e;cases e
def AM(g h:Heap)(L:Addr):HA:=(range h.objs.size).filterMap fun a=>if a=L \/(g.get? a).isSome=true then none else(h.get? a).map fun o=>(a,o)
def bF(g h:Heap)(L d:Addr):HA:=(AM g h L).filter fun p=>decide (p.1≠d)
end L2
namespace L2
open PySem PySem.Spec PyProof.Rows
structure Mod(K:PySem.W.Frag)(mg:Hz)(base:Heap):Prop where
 kin:K.In base
 glob:base.Ns mainGlobals mg
 blt:∃mb,base.Ns builtinsNs mb/\∀x:Str,x≠"__name__" -> mb x=bootBuiltins x
 nolimit:base.NoLimit
structure Cx where
 prog:Program
 w:World
 K:PySem.W.Frag
 mg:Hz
 base:Heap
 A:Around
 N:HF
 s₀:Shared
 H₀:Hp
 env:Env
 outer:List Env
 stack:List Env
 ex:HE
 fn:Str->Bool
 calm:Bool
 pn:HA
 xe:td
def frs(l:List Env):HE:=l.filterMap (·.frame)
abbrev Cx.fs(X:Cx):HE:=frs X.outer
def Vis(sc:Scope)(x:Str):Prop:=sc.names.lookup x=some .local\/sc.names.lookup x=some .cell\/sc.names.lookup x=some .free
def Loc(sc:Scope)(x:Str):Prop:=sc.names.lookup x=some .local\/sc.names.lookup x=some .cell
def Hn(env:Env)(h:Heap)(m:Hz)(x:Str)(u:Value):Prop:=
 (env.kindOf x=some .local/\m x=some u)\/((env.kindOf x=some .cell\/env.kindOf x=some .free)/\∃c,env.cells.lookup x=some c/\h.IsCell c (some u))
structure Cx.Ok(X:Cx):Prop where
 mod:Mod X.K X.mg X.base
 kind:X.env.scope.kind=.function
 glob:X.env.globals=mainGlobals
 blt:X.env.builtins=builtinsNs
 above:X.s₀.heap.objs.size<=X.env.locals
 inj:∀x y c,X.env.cells.lookup x=some c->X.env.cells.lookup y=some c->x=y
 has:∀x,(X.env.kindOf x=some .cell\/X.env.kindOf x=some .free)->∃c,X.env.cells.lookup x=some c
 cab:∀x c,X.fn x=true->X.env.cells.lookup x=some c->X.s₀.heap.objs.size<=c
 hd:X.calm=true->X.A.handled=none
 frames:X.A.frames=some X.stack
 stk:X.stack=X.outer \/(X.stack=X.env::X.outer/\X.env.frame=some X.env.locals)
 exf:∀b∈X.ex,b≠X.env.locals/\∀x c,X.env.cells.lookup x=some c->c≠b
 bs:∀b o,X.base.get? b=some o->X.s₀.heap.get? b=some o/\X.H₀ b=none
 bsz:X.base.objs.size<=X.s₀.heap.objs.size
 noex:∀b o,X.base.get? b=some o->b∉X.ex
 exfs:∀b∈X.ex,b∉X.fs
 funs:X.s₀.heap.FunFrames X.base X.outer
 frf:∀b∈X.fs,X.H₀ b=none
structure Inv(X:Cx)(gV:HA)(Y:List (Option V))(H:Hp)(s:Shared):Prop where
 ok:X.Ok
 os:s.os=X.s₀.os
 bare:AllBare s.gens
 base:Un X.fs X.ex X.H₀ H X.s₀.heap s.heap
 loc:∃m,s.heap.Ns X.env.locals m/\∀(i:Nat) (x:Str) (v:V),X.N[i]?=some x->Y[i]?=some (some v)->Vis X.env.scope x->∃u,bE v u/\Hn X.env s.heap m x u
 cell:∀x c,X.env.cells.lookup x=some c->∃v,s.heap.IsCell c v
 free:H X.env.locals=none
 freeC:∀x c,X.env.cells.lookup x=some c->H c=none\/X.fn x=false/\∃o u,H c=some (.frz o u)
 pin:∀p∈X.pn++gV,s.heap.get? p.1=some p.2/\H p.1=none/\p.1≠X.env.locals/\p.1∉X.fs/\∀v,p.2.data≠.cell v
 hok:HOk X.prog X.w H s.heap
 len:Y.length=X.N.length
section
variable{X:Cx}{gV:HA}{Y:List (Option V)}{H H':Hp}{s:Shared}{h':Heap}
def Cx.Ok.nofr(ok:X.Ok){b:Addr}{o:Obj}(e:X.base.get? b=some o):b∉X.fs:=fun hb=>by have:=(ok.funs.mem hb).1;rw[e]at this;cases this
def Inv.bs(I:Inv X gV Y H s):∀b o,X.base.get? b=some o->s.heap.get? b=some o/\H b=none:=fun b o e=>
 ⟨I.base.keep b o (I.ok.bs b o e).1 (I.ok.bs b o e).2 (I.ok.nofr e) (I.ok.noex b o e),I.base.free b o (I.ok.bs b o e).1 (I.ok.bs b o e).2 (I.ok.noex b o e)⟩
def Inv.bk(I:Inv X gV Y H s):∀b o,X.base.get? b=some o->s.heap.get? b=some o:=fun b o e=>(I.bs b o e).1
def Inv.mod(I:Inv X gV Y H s):Mod X.K X.mg X.base:=I.ok.mod
def Inv.kIn(I:Inv X gV Y H s):X.K.In s.heap:=I.ok.mod.kin.keeps I.bk
def Inv.lt(I:Inv X gV Y H s):X.env.locals<s.heap.objs.size:=let⟨_,hn,_⟩:=I.loc;hn.lt
def Inv.sz(I:Inv X gV Y H s):X.s₀.heap.objs.size<=s.heap.objs.size:=Nat.le_trans I.ok.above (Nat.le_of_lt I.lt)
def Inv.nofs(I:Inv X gV Y H s){a:Addr}(h:s.heap.objs.size<=a):a∉X.fs:=fun hb=>by obtain⟨_,o,ho,_⟩:=I.ok.funs.mem hb;exact absurd (Nat.lt_of_lt_of_le (lt_size ho) (Nat.le_trans I.sz h)) (Nat.lt_irrefl _)
def Inv.cne(I:Inv X gV Y H s):∀x c,X.env.cells.lookup x=some c->c≠X.env.locals:=fun x c e z=>by obtain⟨v,o,ho,hd⟩:=I.cell x c e;obtain⟨m,⟨o',es,ep,ho',hd',_⟩,_⟩:=I.loc;rw[z,ho']at ho;cases ho;rw[hd']at hd;cases hd
def Inv.funs(I:Inv X gV Y H s):s.heap.FunFrames X.base X.outer:=by
 have all:∀(l:List Env),(∀b∈frs l,b∈X.fs)->X.s₀.heap.FunFrames X.base l->s.heap.FunFrames X.base l:=by
  intro l
  induction l with
  |nil=>intro _ _;trivial
  |cons env r ih=>intro hs hl;obtain⟨hk,⟨L,o,hf,hn,ho,hd⟩,hr⟩:=hl;have hL:L∈X.fs:=hs L (by unfold frs;rw[filterMap_cons,hf];exact mem_cons_self);obtain⟨sl,e⟩:=I.base.slot L o ho (I.ok.frf L hL) hL fun z=>I.ok.exfs L z hL;exact⟨hk,⟨L,_,hf,hn,e,hd⟩,ih (fun b hb=>hs b (by unfold frs;rw[filterMap_cons,hf];exact mem_cons_of_mem _ hb)) hr⟩
 exact all X.outer (fun _ hb=>hb) I.ok.funs
def Inv.stack(I:Inv X gV Y H s):s.heap.FunFrames X.base X.stack:=by
 rcases I.ok.stk with e |⟨e,hf⟩
 ·rw[e];exact I.funs
 ·rw[e];obtain⟨m,hn,_⟩:=I.loc;refine .cons (by rw[I.ok.kind];decide) hf hn ?_ I.funs;exact Heap.get?_none_of_le (Nat.le_trans I.ok.bsz I.ok.above)
def Inv.stkSub(I:Inv X gV Y H s):∀b∈frs X.stack,b∈X.env.locals::X.fs:=fun b hb=>by
 rcases I.ok.stk with e |⟨e,hf⟩
 ·rw[e]at hb;exact mem_cons_of_mem _ hb
 ·rw[e]at hb;unfold frs at hb;rw[filterMap_cons,hf]at hb;exact hb
def Inv.stkFree(I:Inv X gV Y H s):∀b∈frs X.stack,H b=none:=fun b hb=>by
 rcases mem_cons.mp (I.stkSub b hb)with e|hb
 ·rw[e];exact I.free
 ·obtain⟨_,o,ho,_⟩:=I.ok.funs.mem hb;exact I.base.free b o ho (I.ok.frf b hb) fun z=>I.ok.exfs b z hb
def Inv.step{g':Array GenState}{t':Nat}{d':Drawn}{ch:HE}(I:Inv X gV Y H s)
  (hch:∀b∈ch,(b∈X.ex\/X.s₀.heap.objs.size<=b)/\b≠X.env.locals/\(∀x c,X.env.cells.lookup x=some c->c≠b)/\∀p∈X.pn++gV,p.1≠b)
  (keep:∀b o,b≠X.env.locals->b∉X.fs->b∉ch->s.heap.get? b=some o->H b=none->h'.get? b=some o)
  (slot:∀b o,b≠X.env.locals->b∈X.fs->b∉ch->s.heap.get? b=some o->H b=none->∃sl,h'.get? b=some {o with slots:=sl}) (free:∀b o,b∉ch->s.heap.get? b=some o->H b=none->H' b=none)
  (there:∀b o,b∉ch->s.heap.get? b=some o->∃o',h'.get? b=some o')
  (tups:∀b xs,H b=some (.tup xs)->H' b=some (.tup xs)) (frzs:∀b o u,H b=some (.frz o u)->H' b=some (.frz o u)) (tbls:∀b ps,H b=some (.tbl ps)->∃more,H' b=some (.tbl (ps++more)))
  (ns:∀m,s.heap.Ns X.env.locals m->h'.Ns X.env.locals m) (hok:HOk X.prog X.w H' h') (hg:AllBare g') :
  Inv X gV Y H' {s with heap:=h',gens:=g',drawn:=d',toks:=t'}:=by
 have neL:∀b o,X.s₀.heap.get? b=some o->b≠X.env.locals:=fun b o e=>Nat.ne_of_lt (Nat.lt_of_lt_of_le (lt_size e) I.ok.above);have neC:∀b o,X.s₀.heap.get? b=some o->b∉X.ex->b∉ch:=fun b o e hx hb=>by
  rcases(hch b hb).1 with z|z
  ·exact hx z
  ·exact absurd (Nat.lt_of_lt_of_le (lt_size e) z) (Nat.lt_irrefl _)
 have cellK:∀x c,X.env.cells.lookup x=some c->∀v,s.heap.IsCell c v->h'.IsCell c v:=fun x c e v hz1=>by
  obtain⟨o,ho,hd⟩:=hz1;have nch:c∉ch:=fun z=>(hch c z).2.2.1 x c e rfl;rcases I.freeC x c e with n |⟨_,o',u,q⟩
  ·by_cases hc:c∈X.fs
   ·obtain⟨sl,q⟩:=slot c o (I.cne x c e) hc nch ho n;exact⟨_,q,hd⟩
   ·exact⟨o,keep c o (I.cne x c e) hc nch ho n,hd⟩
  ·obtain⟨q1,_⟩:=I.hok c _ q;obtain⟨q2,_⟩:=hok c _ (frzs c o' u q);rw[ho]at q1;cases q1;exact⟨o,q2,hd⟩
 refine⟨I.ok,I.os,hg,⟨fun b o e n hb hx=>?_,fun b o e n hb hx=>?_,fun b o e n hx=>?_,fun b o e hx=>?_,fun b xs e=>tups b xs (I.base.tups b xs e),fun b o xs e=>frzs b o xs (I.base.frzs b o xs e),fun b ps e=>?_⟩,?_,fun x c e=>?_,?_,fun x c e=>?_,fun p hp=>?_,hok,I.len⟩
 ·exact keep b o (neL b o e) hb (neC b o e hx) (I.base.keep b o e n hb hx) (I.base.free b o e n hx)
 ·obtain⟨sl,e1⟩:=I.base.slot b o e n hb hx;obtain⟨sl',e2⟩:=slot b _ (neL b o e) hb (neC b o e hx) e1 (I.base.free b o e n hx);exact⟨sl',e2⟩
 ·obtain⟨o',e1⟩:=I.base.there b o e hx;exact free b o' (neC b o e hx) e1 (I.base.free b o e n hx)
 ·obtain⟨o',e1⟩:=I.base.there b o e hx;exact there b o' (neC b o e hx) e1
 ·obtain⟨m1,e1⟩:=I.base.tbls b ps e;obtain⟨m2,e2⟩:=tbls b _ e1;exact⟨m1++m2,by rw[e2,Array.append_assoc]⟩
 ·obtain⟨m,hn,hl⟩:=I.loc;refine⟨m,ns m hn,fun i x v e1 e2 e3=>?_⟩;obtain⟨u,r,l⟩:=hl i x v e1 e2 e3;refine⟨u,r,?_⟩;rcases l with l |⟨k,c,e,z⟩
  ·exact .inl l
  ·exact .inr ⟨k,c,e,cellK x c e _ z⟩
 ·obtain⟨v,z⟩:=I.cell x c e;exact⟨v,cellK x c e v z⟩
 ·obtain⟨m,⟨o,_,_,ho,_⟩,_⟩:=I.loc;exact free _ o (fun z=>(hch _ z).2.1 rfl) ho I.free
 ·obtain⟨v,o,ho,hd⟩:=I.cell x c e;rcases I.freeC x c e with n |⟨n,o',u,q⟩
  ·exact .inl (free c o (fun z=>(hch c z).2.2.1 x c e rfl) ho n)
  ·exact .inr ⟨n,o',u,frzs c o' u q⟩
 ·obtain⟨e,n,ne,nf,d⟩:=I.pin p hp;have nch:p.1∉ch:=fun z=>(hch p.1 z).2.2.2 p hp rfl;exact⟨keep p.1 p.2 ne nf nch e n,free p.1 p.2 nch e n,ne,nf,d⟩
def Inv.un{t':Nat}(I:Inv X gV Y H s)(u:Un X.fs [] H H' s.heap h')(hok:HOk X.prog X.w H' h'):Inv X gV Y H' {s with heap:=h',toks:=t'}:=by
 obtain⟨m,⟨o,es,ep,ho,r⟩,_⟩:=id I.loc;obtain⟨sl,hL⟩:=u.any ho I.free (by simp);exact I.step (g':=s.gens) (d':=s.drawn) (ch:=[]) (fun _ z=>nomatch z) (fun b o _ hb _ e n=>u.keep b o e n hb (by simp)) (fun b o _ hb _ e n=>u.slot b o e n hb (by simp)) (fun b o _ e n=>u.free b o e n (by simp)) (fun b o _ e=>u.there b o e (by simp)) u.tups u.frzs u.tbls (fun m' hm=>by
  obtain⟨o',es',ep',ho',r'⟩:=hm;rw[ho]at ho';cases ho';exact⟨_,es',ep',hL,r'⟩) hok I.bare
def Inv.call{g':Array GenState}{t':Nat}{d':Drawn}{ch:HE}(I:Inv X gV Y H s)(u:Un (frs X.stack) ch H H' s.heap h')(hok:HOk X.prog X.w H' h')(hg:AllBare g')
  (hch:∀b∈ch,(b∈X.ex\/X.s₀.heap.objs.size<=b)/\b≠X.env.locals/\(∀x c,X.env.cells.lookup x=some c->c≠b)/\∀p∈X.pn++gV,p.1≠b) :
  Inv X gV Y H' {s with heap:=h',gens:=g',drawn:=d',toks:=t'}:=by
 obtain⟨m,⟨o,es,ep,ho,r⟩,_⟩:=id I.loc;obtain⟨sl,hL⟩:=u.any ho I.free fun z=>(hch _ z).2.1 rfl;exact I.step (ch:=ch) hch (fun b o hL hb hc e n=>u.keep b o e n (fun z=>(mem_cons.mp (I.stkSub b z)).elim hL hb) hc) (fun b o _ _ hc e n=>u.any e n hc) (fun b o hc e n=>u.free b o e n hc) (fun b o hc e=>u.there b o e hc) u.tups u.frzs u.tbls (fun m' hm=>by
  obtain⟨o',es',ep',ho',r'⟩:=hm;rw[ho]at ho';cases ho';exact⟨_,es',ep',hL,r'⟩) hok hg
def Inv.turned{t':Nat}{it:Addr}(I:Inv X gV Y H s)(k:∀b o,b≠it->s.heap.get? b=some o->h'.get? b=some o)(hn:H it=none)(hL:it≠X.env.locals)
  (h1:it∈X.ex\/X.s₀.heap.objs.size<=it) (h2:∀x c,X.env.cells.lookup x=some c->c≠it) (h3:∀p∈X.pn++gV,p.1≠it):Inv X gV Y H {s with heap:=h',toks:=t'}:=by
 have nit:∀b u,H b=some u->b≠it:=fun b u e z=>by rw[z,hn]at e;cases e
 refine I.step (g':=s.gens) (d':=s.drawn) (ch:=[it]) (fun b hb=>?_) (fun b o _ _ hc e _=>k b o (fun z=>hc (by simp[z])) e) (fun b o _ _ hc e _=>⟨o.slots,k b o (fun z=>hc (by simp[z])) e⟩) (fun _ _ _ _ n=>n)
  (fun b o hc e=>⟨o,k b o (fun z=>hc (by simp[z])) e⟩) (fun _ _ e=>e) (fun _ _ _ e=>e) (fun b ps e=>⟨#[],by rw[e];simp⟩) (fun m hm=>?_) (fun b u e=>?_) I.bare
 ·have e:b=it:=by simpa using hb
  subst e;exact⟨h1,hL,h2,h3⟩
 ·obtain⟨o,es,ep,ho,r⟩:=hm;exact⟨o,es,ep,k _ o (Ne.symm hL) ho,r⟩
 ·refine(I.hok b u e).stay (fun c v hc q=>k c v ?_ q) (fun _ q=>q) fun _ _ _ q=>q;rcases hc with z|z
  ·rw[z];exact nit b u e
  ·exact nit c _ z
def Inv.tok(I:Inv X gV Y H s)(t:Nat):Inv X gV Y H {s with toks:=t}:=I.un (h':=s.heap) (t':=t) Un.refl I.hok
def Inv.kept{t':Nat}(I:Inv X gV Y H s)(k:∀b u,s.heap.get? b=some u->h'.get? b=some u):Inv X gV Y H {s with heap:=h',toks:=t'}:=I.un (Un.kept k) (I.hok.kept k)
def Inv.laid{a:Addr}{o:HO}{t':Nat}(I:Inv X gV Y H s)(k:∀b u,s.heap.get? b=some u->h'.get? b=some u)(hp:s.heap.objs.size<=a)(new:cY X.prog X.w (upd H a o) h' a o) :
  Inv X gV Y (upd H a o) {s with heap:=h',toks:=t'}:=I.un (Un.laid k hp (I.hok.fresh hp)) (I.hok.laid k hp new)
def Inv.write{x e:Addr}{o:HO}{t':Nat}(I:Inv X gV Y H s)(mu:Mut (H x))(he:e=x\/H e=some (.own x))(k:∀b u,b≠e->s.heap.get? b=some u->h'.get? b=some u)(heo:∃u,h'.get? e=some u)
  (new:cY X.prog X.w (upd H x o) h' x o):Inv X gV Y (upd H x o) {s with heap:=h',toks:=t'}:=I.un (Un.write mu he k heo) (I.hok.write mu he k heo new)
def Inv.pins_of{pins':HA}(I:Inv X gV Y H s)(h:∀p∈pins',s.heap.get? p.1=some p.2/\H p.1=none/\p.1≠X.env.locals/\p.1∉X.fs/\∀v,p.2.data≠.cell v):Inv X pins' Y H s:=
 ⟨I.ok,I.os,I.bare,I.base,I.loc,I.cell,I.free,I.freeC,fun p hp=>(mem_append.mp hp).elim (fun z=>I.pin p (mem_append_left _ z)) (h p),I.hok,I.len⟩
def pB{N:HF}(hN:N.Nodup){i j:Nat}{x:Str}(a:N[i]?=some x)(b:N[j]?=some x):i=j:=by obtain⟨h1,e1⟩:=List.getElem?_eq_some_iff.mp a;obtain⟨h2,e2⟩:=List.getElem?_eq_some_iff.mp b;exact(List.getElem_inj hN).mp (e1.trans e2.symm)
def mI{M:Model}{A:Around}{E:td}{i:Nat}{x:Str}{v:V}{u:Value}{Q:Unit->Shared->Prop}(I:Inv X gV Y H s)(hN:X.N.Nodup)(hi:X.N[i]?=some x)(hx:Loc X.env.scope x)(r:bE v u)
  (h:∀s',Inv X gV (Y.set i (some v)) H s'->(∃a,SameBut a s.heap s'.heap/\(a=X.env.locals\/X.env.cells.lookup x=some a))->Q () s') (hf:X.fn x=true\/X.env.scope.names.lookup x=some .local:=by first|exact .inl rfl|exact .inr rfl|assumption):wpAny M A (storeName X.env x u) Q E s:=by
 obtain⟨m,hn,hl⟩:=id I.loc;have hcls:(X.env.scope.kind==.class ||(X.env.scope.kind==.module&&X.env.locals != X.env.globals))=false:=by rw[I.ok.kind];rfl
 have hiσ:i<Y.length:=by rw[I.len];exact(List.getElem?_eq_some_iff.mp hi).1
 have cne:=I.cne;have tracked:∀{a:Addr}{h':Heap},(∃o,s.heap.get? a=some o/\H a=none)->SameBut a s.heap h'->HOk X.prog X.w H h':=fun {a h'} ha hs b ob e=>by
  obtain⟨_,_,hfree⟩:=ha;refine(I.hok b ob e).stay (fun c w' hc q=>(hs.2 c ?_).trans q) (fun _ q=>q) fun _ _ _ q=>q;rintro rfl;rcases hc with rfl|hc
  ·rw[hfree]at e;cases e
  ·rw[hfree]at hc;cases hc
 rcases hx with hk|hk
 ·refine wpAny_storeName_local hk hn (fun h' hn' hs=>?_) hcls;obtain⟨oL,_,_,hoL,_⟩:=id hn;refine h _ ⟨I.ok,I.os,I.bare,⟨fun b o e n hb hx=>?_,fun b o e n hb hx=>?_,I.base.free,fun b o e hx=>?_,I.base.tups,I.base.frzs,I.base.tbls⟩,⟨_,hn',fun j y v' e1 e2 e3=>?_⟩,fun y c e=>?_,I.free,I.freeC,fun p hp=>?_,tracked ⟨oL,hoL,I.free⟩ hs,by simpa using I.len⟩ ⟨_,hs,.inl rfl⟩
  ·exact(hs.2 b (Nat.ne_of_lt (Nat.lt_of_lt_of_le (lt_size e) I.ok.above))).trans (I.base.keep b o e n hb hx)
  ·obtain⟨sl,e1⟩:=I.base.slot b o e n hb hx;exact⟨sl,(hs.2 b (Nat.ne_of_lt (Nat.lt_of_lt_of_le (lt_size e) I.ok.above))).trans e1⟩
  ·obtain⟨o',e1⟩:=I.base.there b o e hx;exact⟨o',(hs.2 b (Nat.ne_of_lt (Nat.lt_of_lt_of_le (lt_size e) I.ok.above))).trans e1⟩
  ·by_cases hj:j=i
   ·subst hj;rw[hi]at e1;cases e1;rw[getElem?_set_self hiσ]at e2;cases e2;exact⟨u,r,.inl ⟨hk,by simp⟩⟩
   ·rw[getElem?_set_ne (Ne.symm hj)]at e2;obtain⟨u',r',q⟩:=hl j y v' e1 e2 e3;refine⟨u',r',?_⟩;rcases q with⟨k,e⟩ |⟨k,c,e,z⟩
    ·refine .inl ⟨k,?_⟩;have:y≠x:=fun e=>hj (pB hN e1 (e▸hi));simp[this,e]
    ·exact .inr ⟨k,c,e,z.sameBut hs (cne y c e)⟩
  ·obtain⟨w',z⟩:=I.cell y c e;exact⟨w',z.sameBut hs (cne y c e)⟩
  ·obtain⟨e,n,ne,nf,d⟩:=I.pin p hp;exact⟨(hs.2 p.1 ne).trans e,n,ne,nf,d⟩
 ·have hfn:X.fn x=true:=by
   rcases hf with z|z
   ·exact z
   ·rw[z]at hk;cases hk
  obtain⟨c,hc⟩:=I.ok.has x (.inl hk);obtain⟨w',z⟩:=I.cell x c hc;refine wpAny_storeName_cell I.ok.kind hk hc z (fun h' hc' hs=>?_);obtain⟨oc,hoc,hocd⟩:=id z;refine h {s with heap:=h'} ⟨I.ok,I.os,I.bare,⟨fun b o e n hb hx=>?_,fun b o e n hb hx=>?_,I.base.free,fun b o e hx=>?_,I.base.tups,I.base.frzs,I.base.tbls⟩,⟨m,hn.sameBut hs (Ne.symm (cne x c hc)),fun j y v' e1 e2 e3=>?_⟩,fun y c' e=>?_,I.free,I.freeC,fun p hp=>?_,tracked ⟨oc,hoc,(I.freeC x c hc).resolve_right fun q=>by rw[hfn]at q;cases q.1⟩ hs,by simpa using I.len⟩ ⟨c,hs,.inr hc⟩
  ·exact(hs.2 b (Nat.ne_of_lt (Nat.lt_of_lt_of_le (lt_size e) (I.ok.cab x c hfn hc)))).trans (I.base.keep b o e n hb hx)
  ·obtain⟨sl,e1⟩:=I.base.slot b o e n hb hx;exact⟨sl,(hs.2 b (Nat.ne_of_lt (Nat.lt_of_lt_of_le (lt_size e) (I.ok.cab x c hfn hc)))).trans e1⟩
  ·obtain⟨o',e1⟩:=I.base.there b o e hx;exact⟨o',(hs.2 b (Nat.ne_of_lt (Nat.lt_of_lt_of_le (lt_size e) (I.ok.cab x c hfn hc)))).trans e1⟩
  ·by_cases hj:j=i
   ·subst hj;rw[hi]at e1;cases e1;rw[getElem?_set_self hiσ]at e2;cases e2;exact⟨u,r,.inr ⟨.inl hk,c,hc,hc'⟩⟩
   ·rw[getElem?_set_ne (Ne.symm hj)]at e2;obtain⟨u',r',q⟩:=hl j y v' e1 e2 e3;refine⟨u',r',?_⟩;rcases q with q |⟨k,c',e,z'⟩
    ·exact .inl q
    ·refine .inr ⟨k,c',e,z'.sameBut hs ?_⟩;rintro rfl;exact hj (pB hN e1 (I.ok.inj _ _ _ e hc▸hi))
  ·by_cases hcc:c'=c
   ·subst hcc;exact⟨_,hc'⟩
   ·obtain⟨w2,z2⟩:=I.cell y c' e;exact⟨w2,z2.sameBut hs hcc⟩
  ·obtain⟨e,n,ne,nf,d⟩:=I.pin p hp;refine⟨(hs.2 p.1 ?_).trans e,n,ne,nf,d⟩;intro q;rw[q,hoc]at e;have q':oc=p.2:=Option.some.inj e;exact d w' (by rw[<- q'];exact hocd)
def kF{M:Model}{A:Around}{E:td}{i:Nat}{x:Str}{v:V}{u:Value}{Q:Unit->Shared->Prop}(I:Inv X gV Y H s)(hN:X.N.Nodup)(hi:X.N[i]?=some x)(hx:Loc X.env.scope x)(r:bE v u)
  (h:∀s',Inv X gV (Y.set i (some v)) H s'->Q () s') (hf:X.fn x=true\/X.env.scope.names.lookup x=some .local:=by first|exact .inl rfl|exact .inr rfl|assumption):wpAny M A (storeName X.env x u) Q E s:=
 mI I hN hi hx r (fun s' I' _=>h s' I') hf
def Inv.call'{s':Shared}{ch:HE}(I:Inv X gV Y H s)(ho:s'.os=s.os)(u:Un (frs X.stack) ch H H' s.heap s'.heap)(hok:HOk X.prog X.w H' s'.heap)(hg:AllBare s'.gens)
  (hch:∀b∈ch,(b∈X.ex\/X.s₀.heap.objs.size<=b)/\b≠X.env.locals/\(∀x c,X.env.cells.lookup x=some c->c≠b)/\∀p∈X.pn++gV,p.1≠b):Inv X gV Y H' s':=by
 obtain⟨h',g',d',t',o'⟩:=s';have e:o'=s.os:=ho;subst e;exact I.call (g':=g') (t':=t') (d':=d') u hok hg hch
end
abbrev XK:=Value->Option Addr->HJ
abbrev St:=List (Option V)
abbrev VK:=V->HJ
abbrev TE:=St->Hp->VK->Prop
abbrev TT:=St->Hp->(Bool->HJ)->Prop
abbrev TA:=St->Hp->(HI->HJ)->Prop
structure Ends where
 nx:St->HJ
 rt:VK
 bk:St->HJ:=fun _ _=>False
 ct:St->HJ:=fun _ _=>False
abbrev TS:=Ends->St->HJ
def EP(X:Cx)(gV:HA)(Y:St)(Q:VK)(u:Value)(s':Shared):Prop:=∃v H',Inv X gV Y H' s'/\bE v u/\Q v H'
def TP(X:Cx)(gV:HA)(Y:St)(Q:Bool->HJ)(b:Bool)(s':Shared):Prop:=∃H',Inv X gV Y H' s'/\Q b H'
def AP(X:Cx)(gV:HA)(Y:St)(Q:HI->HJ)(us:HD)(s':Shared):Prop:=∃vs H',Inv X gV Y H' s'/\aK vs us/\Q vs H'
def SP(X:Cx)(gV:HA)(D:Ends)(f:Flow)(s':Shared):Prop:=
 match f with
 |.next=>∃σ' H',Inv X gV σ' H' s'/\D.nx σ' H'
 |.brk=>∃σ' H',Inv X gV σ' H' s'/\D.bk σ' H'
 |.cont=>∃σ' H',Inv X gV σ' H' s'/\D.ct σ' H'
 |.ret u=>∃v σ' H',Inv X gV σ' H' s'/\bE v u/\D.rt v H'
def PE(X:Cx)(e:Expr)(t:TE):Prop:=
 ∀(gV:HA) (s:Shared) (Y:St) (H:Hp) (Q:VK),Inv X gV Y H s->t Y H Q->wpAny (model X.prog X.w) X.A (eval e X.env) (EP X gV Y Q) X.xe s
def PT(X:Cx)(e:Expr)(t:TT):Prop:=
 ∀(gV:HA) (s:Shared) (Y:St) (H:Hp) (Q:Bool->HJ),Inv X gV Y H s->t Y H Q->wpAny (model X.prog X.w) X.A (isTrue e X.env (eval e X.env)) (TP X gV Y Q) X.xe s
def PW(X:Cx)(e:Expr)(t:TT):Prop:=
 ∀(whole:Sem Value) (gV:HA) (s:Shared) (Y:St) (H:Hp) (Q:Bool->HJ),Inv X gV Y H s->t Y H Q->wpAny (model X.prog X.w) X.A (isTrue e X.env whole) (TP X gV Y Q) X.xe s
def PW.pt{X:Cx}{e:Expr}{t:TT}(h:PW X e t):PT X e t:=h _
def PA(X:Cx)(es:List Expr)(t:TA):Prop:=
 ∀(pos:Pos) (gV:HA) (s:Shared) (Y:St) (H:Hp) (Q:HI->HJ),Inv X gV Y H s->t Y H Q->wpAny (model X.prog X.w) X.A (spliced (backTo pos (starEach es X.env))) (AP X gV Y Q) X.xe s
def PS(X:Cx)(st:Stmt)(t:TS):Prop:=
 ∀(gV:HA) (s:Shared) (Y:St) (H:Hp) (D:Ends),Inv X gV Y H s->t D Y H->wpAny (model X.prog X.w) X.A (exec st X.env) (SP X gV D) X.xe s
def PSs(X:Cx)(st:List Stmt)(t:TS):Prop:=
 ∀(gV:HA) (s:Shared) (Y:St) (H:Hp) (D:Ends),Inv X gV Y H s->t D Y H->wpAny (model X.prog X.w) X.A (execs st X.env) (SP X gV D) X.xe s
def thn{α:Type}{t:Sem α}{Q Q':α->Shared->Prop}{M:Model}{A:Around}{E:td}{s:Shared}(h:wpAny M A t Q E s)(hQ:∀a s,Q a s->Q' a s):wpAny M A t Q' E s:=wpAny_mono h hQ fun _ _ x=>x
end L2
namespace L2
open PySem PySem.Spec PyProof.Rows
section
variable{X:Cx}
def yR(i:Nat):TE:=fun Y H Q=>∃v,Y[i]?=some (some v)/\Q v H
def tC(v:V):TE:=fun _ H Q=>Q v H
def fN{i:Nat}{x:Str}{pos:Pos}(hN:X.N[i]?=some x)(hv:Vis X.env.scope x)(hd:(x ==("__debug__":Str))=false:=by decide)(hcd:(x ==("__classdict__":Str))=false:=by decide):PE X (.Name x pos) (yR i):=by
 intro gV s Y H Q I h;obtain⟨v,e,h⟩:=h;obtain⟨m,hn,hl⟩:=I.loc;obtain⟨u,r,l⟩:=hl i x v hN e hv;have fin:EP X gV Y Q u s:=⟨v,H,I,r,h⟩
 rcases l with⟨hk,hm⟩ |⟨hk,c,hc,hcell⟩
 ·exact wpAny_Name (wpAny_loadName_local I.ok.kind hk hn hm fin) hd
 ·rcases hk with hk|hk
  ·exact wpAny_Name (wpAny_loadName_cell I.ok.kind hk hc hcell fin) hd
  ·exact wpAny_Name (wpAny_loadName_free I.ok.kind hk hc hcell fin hcd) hd
def Cu{i j pos}:PE X (.Constant (.int i) j pos) (tC (.int i)):=fun _ _ _ H _ I h=>wpAny_Constant_int ⟨.int i,H,I.tok _,⟨_,rfl⟩,h⟩
def Fz{b j pos}:PE X (.Constant (.bool b) j pos) (tC (.bl b)):=fun _ _ _ H _ I h=>Constant_bool ⟨.bl b,H,I,rfl,h⟩
def Cs{j pos}:PE X (.Constant .none j pos) (tC .non):=fun _ _ _ H _ I h=>Constant_none ⟨.non,H,I,rfl,h⟩
def wo{x j pos}:PE X (.Constant (.str x) j pos) (tC (.str x)):=fun _ _ _ H _ I h=>Calls.Constant_str ⟨.str x,H,I.tok _,⟨_,rfl⟩,h⟩
def Gl(X:Cx)(x:Str):Prop:=X.env.kindOf x=some .globalImplicit
def iQ{E:td}{gV:HA}{s:Shared}{Y:St}{H:Hp}{x:Str}{u:Value}{pos:Pos}{Q:td}(I:Inv X gV Y H s)(hg:Gl X x)(hm:X.mg x=some u)(h:Q u s)
  (hd:(x ==("__debug__":Str))=false:=by decide):wpAny (model X.prog X.w) X.A (eval (.Name x pos) X.env) Q E s:=
 Calls.Name_function_global I.ok.kind hg (Calls.loadGlobal_global (by rw[I.ok.glob];exact I.mod.glob.keeps I.bk) hm h) hd
def jF{E:td}{gV:HA}{s:Shared}{Y:St}{H:Hp}{x:Str}{u:Value}{pos:Pos}{Q:td}(I:Inv X gV Y H s)(hg:Gl X x)(hm:X.mg x=none)(hv:bootBuiltins x=some u)(h:Q u s)
  (hn:x≠"__name__":=by decide) (hd:(x ==("__debug__":Str))=false:=by decide):wpAny (model X.prog X.w) X.A (eval (.Name x pos) X.env) Q E s:=by
 obtain⟨mb,h1,h2⟩:=I.mod.blt;exact Calls.Name_function_global I.ok.kind hg (Calls.loadGlobal_builtin (by rw[I.ok.glob];exact I.mod.glob.keeps I.bk) hm (by rw[I.ok.blt];exact h1.keeps I.bk) ((h2 x hn).trans hv) h) hd
def gD{x:Str}{v:V}{u:Value}{pos:Pos}(hg:Gl X x)(hm:X.mg x=some u)(r:bE v u)(hd:(x ==("__debug__":Str))=false:=by decide):PE X (.Name x pos) (tC v):=
 fun _ _ _ H _ I h=>iQ I hg hm ⟨v,H,I,r,h⟩ hd
variable{a b:Expr}{ta tb:TE}{pos:Pos}
variable{tA tB':TT}{bF:List Expr}
def G5(t u:TT):TT:=fun Y H Q=>t Y H fun c H1=>if c=true then u Y H1 Q else Q false H1
def tOr(t u:TT):TT:=fun Y H Q=>t Y H fun c H1=>if c=true then Q true H1 else u Y H1 Q
def GZ(t:TT):TT:=fun Y H Q=>t Y H fun c H1=>Q (!c) H1
def zi(ha:PT X a tA):PW X (.BoolOp .And [a] pos) tA:=by
 intro wh gV s Y H Q I h;refine isTrue_and (thn (ha gV s Y H Q I h) fun c s1 e=>?_);cases c with
 |true=>exact isTrue_and_nil e
 |false=>exact e
def Cb(ha:PT X a tA):PW X (.BoolOp .Or [a] pos) tA:=by
 intro wh gV s Y H Q I h;refine isTrue_or (thn (ha gV s Y H Q I h) fun c s1 e=>?_);cases c with
 |false=>exact isTrue_or_nil e
 |true=>exact e
def Cc(ha:PT X a tA)(hb:PW X (.BoolOp .And (b::bF) pos) tB'):PW X (.BoolOp .And (a::b::bF) pos) (G5 tA tB'):=by
 intro wh gV s Y H Q I h;refine isTrue_and (thn (ha gV s Y H _ I h) fun c s1 ⟨H1,I1,q1⟩=>?_);cases c with
 |true=>exact hb wh gV s1 Y H1 Q I1 q1
 |false=>exact⟨H1,I1,q1⟩
def Fs(ha:PT X a tA)(hb:PW X (.BoolOp .Or (b::bF) pos) tB'):PW X (.BoolOp .Or (a::b::bF) pos) (tOr tA tB'):=by
 intro wh gV s Y H Q I h;refine isTrue_or (thn (ha gV s Y H _ I h) fun c s1 ⟨H1,I1,q1⟩=>?_);cases c with
 |true=>exact⟨H1,I1,q1⟩
 |false=>exact hb wh gV s1 Y H1 Q I1 q1
def Cd(ha:PT X a tA):PT X (.UnaryOp .Not a pos) (GZ tA):=by intro gV s Y H Q I h;exact isTrue_not (ha gV s Y H (fun c H1=>Q (!c) H1) I h)
def Fa(ta tb:TE):TE:=fun Y H Q=>ta Y H fun x H1=>∃c,x=.bl c/\if c=true then tb Y H1 Q else Q (.bl false) H1
def GY(ta tb:TE):TE:=fun Y H Q=>ta Y H fun x H1=>∃c,x=.bl c/\if c=true then Q (.bl true) H1 else tb Y H1 Q
def E5(ta:TE):TE:=fun Y H Q=>ta Y H fun x H1=>∃c,x=.bl c/\Q (.bl (!c)) H1
def Cq{op}{t:TE}(h:PE X a t):PE X (.BoolOp op [a] pos) t:=fun gV s Y H Q I hw=>BoolOp_one (h gV s Y H Q I hw)
def Cw(ha:PE X a ta)(hb:PE X (.BoolOp .And (b::bF) pos) tb):PE X (.BoolOp .And (a::b::bF) pos) (Fa ta tb):=by
 intro gV s Y H Q I h;refine BoolOp_and (thn (ha gV s Y H _ I h) fun v s1 zz=>?_);obtain⟨x,H1,I1,r1,q1⟩:=zz;obtain⟨c,rfl,q1⟩:=q1;cases r1;refine wpAny_truthy_bool ?_;cases c with
 |true=>exact hb gV s1 Y H1 Q I1 q1
 |false=>exact⟨.bl false,H1,I1,rfl,q1⟩
def Fx(ha:PE X a ta)(hb:PE X (.BoolOp .Or (b::bF) pos) tb):PE X (.BoolOp .Or (a::b::bF) pos) (GY ta tb):=by
 intro gV s Y H Q I h;refine BoolOp_or (thn (ha gV s Y H _ I h) fun v s1 zz=>?_);obtain⟨x,H1,I1,r1,q1⟩:=zz;obtain⟨c,rfl,q1⟩:=q1;cases r1;refine wpAny_truthy_bool ?_;cases c with
 |false=>exact hb gV s1 Y H1 Q I1 q1
 |true=>exact⟨.bl true,H1,I1,rfl,q1⟩
def Cr(ha:PE X a ta):PE X (.UnaryOp .Not a pos) (E5 ta):=by intro gV s Y H Q I h;refine UnaryOp_ (thn (ha gV s Y H _ I h) fun v s1 zz=>?_);obtain⟨x,H1,I1,r1,q1⟩:=zz;obtain⟨c,rfl,q1⟩:=q1;cases r1;exact not_of (wpAny_truthy_bool ⟨.bl (!c),H1,I1,rfl,q1⟩)
def tIf(t:TT)(ta tb:TE):TE:=fun Y H Q=>t Y H fun c H1=>if c=true then ta Y H1 Q else tb Y H1 Q
def wp{c:Expr}(hc:PT X c tA)(ha:PE X a ta)(hb:PE X b tb):PE X (.IfExp c a b pos) (tIf tA ta tb):=by
 intro gV s Y H Q I h;refine wpAny_IfExp (thn (hc gV s Y H _ I h) fun d s1 ⟨H1,I1,q1⟩=>?_);cases d with
 |true=>exact ha gV s1 Y H1 Q I1 q1
 |false=>exact hb gV s1 Y H1 Q I1 q1
end
end L2
namespace L2
open PySem PySem.Spec PyProof.Rows
def SqL(K:PySem.W.Frag)(H:Hp)(a:Addr)(xs:HI):Prop:=
 Rd H a (.lst xs)\/
  ∃(o:Obj) (its:HH) (n:Nat),K.lookup a=some o/\o.cls=.type "list" /\ o.dict=none/\o.data=.seq its n/\its.size<=sizeLine/\aK xs its.toList
def SqT(K:PySem.W.Frag)(H:Hp)(a:Addr)(xs:HI):Prop:=
 Rd H a (.tup xs)\/
  ∃(o:Obj) (its:HH) (n:Nat),K.lookup a=some o/\o.cls=.type "tuple" /\ o.data=.seq its n/\its.size<=sizeLine/\aK xs its.toList
def GB:Value->Option V
 |.none=>some .non
 |.bool b=>some (.bl b)
 |.int i _=>some (.int i)
 |.str x _=>some (.str x)
 |.bytes b _=>some (.byt b)
 |.float b _=>some (.flt b)
 |.ref a=>some (.ref a)
 |.type n=>some (.ty n)
 |_=>none
def bE.abs{x:V}{u:Value}(r:bE x u):GB u=some x:=by
 cases x with
 |non|bl _=>cases r;rfl
 |int _|str _|byt _|flt _=>obtain⟨t,rfl⟩:=r;rfl
 |ref _|ty _=>cases r;rfl
def bE.inj{x y:V}{u:Value}(r:bE x u)(q:bE y u):x=y:=Option.some.inj (r.abs.symm.trans q.abs)
def aK.inj:∀{xs ys:HI}{us:HD},aK xs us->aK ys us->xs=ys
 |_,_,_,.nil,.nil=>rfl
 |_,_,_,.cons r t,.cons r' t'=>by rw[r.inj r',aK.inj t t']
section
variable{X:Cx}{gV:HA}{Y:St}{H:Hp}{s:Shared}{a:Addr}{xs ys:HI}
def SqL.of{K:PySem.W.Frag}(h:H a=some (.lst xs)):SqL K H a xs:=.inl (.inl h)
def SqT.of{K:PySem.W.Frag}(h:H a=some (.tup xs)):SqT K H a xs:=.inl (.inl h)
def Inv.list(I:Inv X gV Y H s)(h:SqL X.K H a xs):∃its:HD,aK xs its/\PlainL s.heap a its.toArray/\xs.length<=sizeLine:=by
 rcases h with h |⟨o,its,n,hk,hc,hd,hs,hz,r⟩
 ·obtain⟨z,its,n,r,e⟩:=h.ok I.hok;exact⟨its,r,⟨_,n,e,rfl,rfl,rfl⟩,z⟩
 ·refine⟨its.toList,r,⟨o,n,I.kIn a o hk,hc,hd,by simpa using hs⟩,?_⟩;have e:=r.length;simp only[Array.length_toList]at e
  lia
def Inv.tuple(I:Inv X gV Y H s)(h:SqT X.K H a xs):∃its:HD,aK xs its/\IsTup s.heap a its.toArray/\xs.length<=sizeLine:=by
 rcases h with h |⟨o,its,n,hk,hc,hs,hz,r⟩
 ·obtain⟨z,its,r,p⟩:=h.ok I.hok;exact⟨its,r,p,z⟩
 ·refine⟨its.toList,r,⟨o,I.kIn a o hk,hc,n,by simpa using hs⟩,?_⟩;have e:=r.length;simp only[Array.length_toList]at e
  lia
def Inv.list_inj(I:Inv X gV Y H s)(h:SqL X.K H a xs)(h':SqL X.K H a ys):xs=ys:=by
 obtain⟨its,r,⟨o,n,e,_,_,d⟩,_⟩:=I.list h;obtain⟨its',r',⟨o',n',e',_,_,d'⟩,_⟩:=I.list h';rw[e]at e';cases e';rw[d]at d';injection d' with d1 _;have:its=its':=by simpa using congrArg Array.toList d1
 subst this;exact r.inj r'
def Inv.tuple_inj(I:Inv X gV Y H s)(h:SqT X.K H a xs)(h':SqT X.K H a ys):xs=ys:=by
 obtain⟨its,r,⟨o,e,_,n,d⟩,_⟩:=I.tuple h;obtain⟨its',r',⟨o',e',_,n',d'⟩,_⟩:=I.tuple h';rw[e]at e';cases e';rw[d]at d';injection d' with d1 _;have:its=its':=by simpa using congrArg Array.toList d1
 subst this;exact r.inj r'
end
section
variable{X:Cx}{st:Stmt}{bF:List Stmt}{t u:TS}{e:Expr}{te:TE}{pos:Pos}
def E6:TS:=fun D Y H=>D.nx Y H
def GW(t u:TS):TS:=fun D Y H=>t {D with nx:=u D} Y H
def zk:PSs X [] E6:=fun _ _ Y H _ I h=>wpAny_execs_nil ⟨Y,H,I,h⟩
def v_(h1:PS X st t)(h2:PSs X bF u):PSs X (st::bF) (GW t u):=by
 intro gV s Y H D I h;refine wpAny_execs_cons (thn (h1 gV s Y H {D with nx:=u D} I h) fun f s1 q=>?_);cases f with
 |next=>obtain⟨σ',H',I',q⟩:=q;exact h2 gV s1 σ' H' D I' q
 |ret v|brk|cont=>exact q
def zj(h1:PS X st t):PSs X [st] t:=by
 intro gV s Y H D I h;refine wpAny_execs_cons (thn (h1 gV s Y H D I h) fun f s1 q=>?_);cases f with
 |next=>exact wpAny_execs_nil q
 |ret v|brk|cont=>exact q
def BG:TS:=fun D Y H=>D.bk Y H
def wb:PS X (.Break pos) BG:=fun _ _ Y H _ I h=>wpAny_Break ⟨Y,H,I,h⟩
def Inv.quiet{gV:HA}{Y:St}{H:Hp}{s:Shared}(I:Inv X gV Y H s):interactive X.env=false:=by simp[interactive,I.ok.kind]
def E8(te:TE):TS:=fun D Y H=>te Y H fun _ H1=>D.nx Y H1
def nU(he:PE X e te)(hs:swapsWith e none pos.line X.env=pure false:=by rfl):PS X (.Expr e pos) (E8 te):=by intro gV s Y H D I h;exact wpAny_Expr_any (thn (he gV s Y H _ I h) fun v s1 ⟨x,H1,I1,r1,q1⟩=>⟨Y,H1,I1,q1⟩) I.quiet hs
def GX(te:TE):TS:=fun D Y H=>te Y H D.rt
def nS(he:PE X e te):PS X (.Return (some e) pos) (GX te):=by intro gV s Y H D I h;exact wpAny_Return_some (thn (he gV s Y H _ I h) fun v s1 ⟨x,H1,I1,r1,q1⟩=>⟨x,Y,H1,I1,r1,q1⟩)
def G2(c:TT)(t u:TS):TS:=fun D Y H=>c Y H fun b H1=>if b=true then t D Y H1 else u D Y H1
def Ft{c:Expr}{a b:List Stmt}{tc:TT}(hc:PT X c tc)(ha:PSs X a t)(hb:PSs X b u):PS X (.If c a b pos) (G2 tc t u):=by
 intro gV s Y H D I h;refine wpAny_If (thn (hc gV s Y H _ I h) fun d s1 ⟨H1,I1,q1⟩=>?_);cases d with
 |true=>exact ha gV s1 Y H1 D I1 q1
 |false=>exact hb gV s1 Y H1 D I1 q1
end
abbrev TG:=V->St->Hp->(St->HJ)->Prop
abbrev TGs:=HI->St->Hp->(St->HJ)->Prop
def PG(X:Cx)(target:Expr)(t:TG):Prop:=
 ∀(gV:HA) (s:Shared) (Y:St) (H:Hp) (v:V) (u:Value) (Q:St->HJ),Inv X gV Y H s->bE v u->t v Y H Q ->
  wpAny (model X.prog X.w) X.A (assign target X.env u) (fun _ s'=>∃σ' H',Inv X gV σ' H' s'/\Q σ' H') X.xe s
def PGs(X:Cx)(ts:List Expr)(t:TGs):Prop:=
 ∀(gV:HA) (s:Shared) (Y:St) (H:Hp) (vs:HI) (us:HD) (Q:St->HJ),Inv X gV Y H s->aK vs us->t vs Y H Q ->
  wpAny (model X.prog X.w) X.A (assignInOrder ((assignEach ts X.env).map (·.2)) us) (fun _ s'=>∃σ' H',Inv X gV σ' H' s'/\Q σ' H') X.xe s
abbrev Ex:=V->V->V->Hp->(HJ)->Prop
def GD(X:Cx)(t:Ex):Prop:=
 ∀(gV:HA) (s:Shared) (Y:St) (H:Hp) (o i v:V) (ov iv u:Value) (Q:HJ),Inv X gV Y H s->bE o ov->bE i iv->bE v u->t o i v H Q ->
  wpAny (model X.prog X.w) X.A (setItem ov iv u) (fun _ s'=>∃H',Inv X gV Y H' s'/\Q H') X.xe s
abbrev TIp:=V->V->Hp->VK->Prop
def PIp(X:Cx)(op:Operator)(t:TIp):Prop:=
 ∀(gV:HA) (s:Shared) (Y:St) (H:Hp) (x y:V) (v u:Value) (Q:VK),Inv X gV Y H s->bE x v->bE y u->t x y H Q ->
  wpAny (model X.prog X.w) X.A (inplaceOp op v u) (EP X gV Y Q) X.xe s
section
variable{X:Cx}{pos:Pos}
def Bv(i:Nat):TG:=fun v Y H Q=>Q (Y.set i (some v)) H
def r8{i:Nat}{x:Str}(hN:X.N.Nodup)(hi:X.N[i]?=some x)(hx:Loc X.env.scope x)(hf:X.fn x=true\/X.env.scope.names.lookup x=some .local:=by first|exact .inl rfl|exact .inr rfl|assumption):PG X (.Name x pos) (Bv i):=by intro gV s Y H v u Q I r h;exact wpAny_assign_Name (kF I hN hi hx r (fun s' I'=>⟨_,H,I',h⟩) hf)
def Hh:TGs:=fun vs Y H Q=>vs=[]/\Q Y H
def Gs(t:TG)(u:TGs):TGs:=fun vs Y H Q=>∃v r,vs=v::r/\t v Y H fun σ' H'=>u r σ' H' Q
def zq:PGs X [] Hh:=by intro gV s Y H vs us Q I r h;obtain⟨e,h⟩:=h;subst e;cases r;exact assignInOrder_nil ⟨Y,H,I,h⟩
def wm{e:Expr}{es:List Expr}{t:TG}{u:TGs}(h1:PG X e t)(h2:PGs X es u)
  (hs:(assignEach (e::es) X.env).map (·.2)=assign e X.env::(assignEach es X.env).map (·.2):=by rfl):PGs X (e::es) (Gs t u):=by
 intro gV s Y H vs us Q I r h;obtain⟨v,vr,e1,h⟩:=h;subst e1;cases r with
 |cons r rr=>rw[hs];refine assignInOrder_cons (thn (h1 gV s Y H _ _ _ I r h) fun _ s1 ⟨σ1,H1,I1,q1⟩=>?_);exact h2 gV s1 σ1 H1 _ _ Q I1 rr q1
def Hf(K:PySem.W.Frag)(n:Nat)(t:TGs):TG:=fun v Y H Q=>∃a xs,v=.ref a/\SqT K H a xs/\xs.length=n/\t xs Y H Q
def Co{es:List Expr}{k:Nat}{t:TGs}{n:Nat}(hc:X.calm=true)(h:PGs X es t)
  (hn:(assignEach es X.env).length=n:=by rfl) (hst:(assignEach es X.env).findIdx? (·.1)=none:=by rfl):PG X (.Tuple es k pos) (Hf X.K n t):=by
 intro gV s Y H v u Q I r hw;obtain⟨a,xs,e1,hq,hl,hw⟩:=hw;subst e1;cases r;obtain⟨its,rv,ht,hz⟩:=I.tuple hq;refine assign_Tuple_tuple (I.ok.hd hc) ht (by simp[hn,<- hl,rv.length]) hst fun h' hx=>?_;have I1:Inv X gV Y H {s with heap:=h'}:=I.kept (t':=s.toks) fun b o e=>hx b o (Nat.ne_of_lt (lt_size e)) e;exact h gV _ Y H xs _ Q I1 (by simpa using rv) hw
def Hg(to ti:TE)(t:Ex):TG:=fun v Y H Q=>to Y H fun o H1=>ti Y H1 fun i H2=>t o i v H2 fun H3=>Q Y H3
def Cp{o i:Expr}{to ti:TE}{t:Ex}(ho:PE X o to)(hi:PE X i ti)(hs:GD X t)
  (ha:∀ v,assign (.Subscript o i pos) X.env v=(do
   let ov <- holding [v] (eval o X.env)
   let iv <- holding [v,ov] (eval i X.env)
   standAt pos
   holding [v,ov,iv] (setItem ov iv v)
   release [v,ov,iv] []):=by intro _;rfl):PG X (.Subscript o i pos) (Hg to ti t):=by
 intro gV s Y H v u Q I r h;rw[ha];refine wpAny_bind (wpAny_holding (thn (ho gV s Y H _ I h) fun ov s1 zz=>?_));obtain⟨x,H1,I1,r1,q1⟩:=zz;refine wpAny_bind (wpAny_holding (thn (hi gV s1 Y H1 _ I1 q1) fun iv s2 zz=>?_));obtain⟨y,H2,I2,r2,q2⟩:=zz;refine wpAny_bind (wpAny_standAt (wpAny_bind (wpAny_holding (thn (hs gV s2 Y H2 x y v ov iv u _ I2 r1 r2 r q2) fun _ s3 ⟨H3,I3,q3⟩=>?_))));exact wpAny_release ⟨Y,H3,I3,q3⟩
def E_(te:TE)(g:TG):TS:=fun D Y H=>te Y H fun x H1=>g x Y H1 D.nx
def Cj{tg e:Expr}{te:TE}{g:TG}(he:PE X e te)(hg:PG X tg g)(hs:swapsWithSole [tg] e pos.line X.env=pure false:=by rfl)(hw:swappedStores [tg] e X.env=pure none:=by rfl)
  (h1:(assignEach [tg] X.env).map (·.2)=[assign tg X.env]:=by rfl):PS X (.Assign [tg] e pos) (E_ te g):=by
 intro gV s Y H D I h;refine wpAny_Assign_stores (thn (he gV s Y H _ I h) fun v s1 zz=>?_) hs hw;obtain⟨x,H1,I1,r1,q1⟩:=zz;rw[h1];exact thn (hg gV s1 Y H1 x v _ I1 r1 q1) fun _ s2 q=>q
def Cf{i:Nat}{x:Str}{e:Expr}{te:TE}{pos':Pos}(hN:X.N.Nodup)(hi:X.N[i]?=some x)(hx:Loc X.env.scope x)(he:PE X e te)(hs:swapsWith e (some (.Name x pos')) pos.line X.env=pure false:=by rfl)(hf:X.fn x=true\/X.env.scope.names.lookup x=some .local:=by first|exact .inl rfl|exact .inr rfl|assumption) :
  PS X (.Assign [.Name x pos'] e pos) (E_ te (Bv i)):=by
 intro gV s Y H D I h;refine wpAny_Assign_Name (thn (he gV s Y H _ I h) fun v s1 zz=>?_) hs;obtain⟨y,H1,I1,r1,q1⟩:=zz;exact kF I1 hN hi hx r1 (fun s2 I2=>⟨_,H1,I2,q1⟩) hf
def G4(i:Nat)(te:TE)(ti:TIp):TS:=fun D Y H=>∃x,Y[i]?=some (some x)/\te Y H fun y H1=>ti x y H1 fun z H2=>D.nx (Y.set i (some z)) H2
def Ci{i:Nat}{x:Str}{e:Expr}{te:TE}{op:Operator}{ti:TIp}{pos':Pos}(hN:X.N.Nodup)(hi:X.N[i]?=some x)(hx:Loc X.env.scope x)(he:PE X e te)(ho:PIp X op ti)(hf:X.fn x=true\/X.env.scope.names.lookup x=some .local:=by first|exact .inl rfl|exact .inr rfl|assumption) :
  PS X (.AugAssign (.Name x pos') op e pos) (G4 i te ti):=by
 intro gV s Y H D I h;obtain⟨v,e1,h⟩:=h;obtain⟨m,hn,hl⟩:=I.loc;have vis:Vis X.env.scope x:=by rcases hx with k|k;exact .inl k;exact .inr (.inl k)
 obtain⟨u,r,l⟩:=hl i x v hi e1 vis;refine wpAny_AugAssign_Name ?_;have go:wpAny (model X.prog X.w) X.A (eval e X.env) (fun w s₂=>wpAny (model X.prog X.w) X.A (inplaceOp op u w) (fun r s₃=>wpAny (model X.prog X.w) X.A (storeName X.env x r) (fun _=>SP X gV D .next) X.xe s₃) X.xe s₂) X.xe s:=by refine thn (he gV s Y H _ I h) fun w s1 hz1=>?_;obtain⟨y,H1,I1,r1,q1⟩:=hz1;refine thn (ho gV s1 Y H1 v y u w _ I1 r r1 q1) fun z s2 hz1=>?_;obtain⟨zv,H2,I2,r2,q2⟩:=hz1;exact kF I2 hN hi hx r2 (fun s3 I3=>⟨_,H2,I3,q2⟩) hf
 rcases l with⟨hk,hm⟩ |⟨hk,c,hc,hcell⟩
 ·exact wpAny_loadName_local I.ok.kind hk hn hm go
 ·rcases hk with hk|hk
  ·exact wpAny_loadName_cell I.ok.kind hk hc hcell go
  ·rcases hx with k|k
   ·have:X.env.scope.names.lookup x=some .free:=hk;rw[k]at this;cases this
   ·have:X.env.scope.names.lookup x=some .free:=hk;rw[k]at this;cases this
def BF(c:TT)(tb:TS):TS:=fun D Y H=>∃W:Nat->St->HJ,(∃m,W m Y H)/\∀m Y H,W m Y H ->
 c Y H fun b H1=>if b=true then ∃N:St->HJ,(∀σ' H',N σ' H'->∃m',m'<m/\W m' σ' H')/\tb {D with nx:=N,ct:=N,bk:=D.nx} Y H1 else D.nx Y H1
def wa{c:Expr}{body:List Stmt}{tc:TT}{tb:TS}(hp:PassesOwn (model X.prog X.w) X.A X.env X.xe)(hc:PT X c tc)(hb:PSs X body tb):PS X (.While c body [] pos) (BF tc tb):=by
 intro gV s Y H D I h;obtain⟨W,⟨m0,w0⟩,turn⟩:=h;refine wpAny_While (codeAny_whileLoop (fun n s'=>∃σ' H',Inv X gV σ' H' s'/\W n σ' H') ?_ m0 ⟨Y,H,I,w0⟩);rintro n s1 ⟨σ1,H1,I1,w1⟩;refine wpAny_passesOwn hp (thn (hc gV s1 σ1 H1 _ I1 (turn n σ1 H1 w1)) fun b s2 ⟨H2,I2,q2⟩=>?_);cases b with
 |true=>
  obtain⟨N,hN,q2⟩:=q2;rw[if_pos rfl];refine wpAny_passesOwn hp (thn (hb gV s2 σ1 H2 _ I2 q2) fun f s3 q3=>?_);cases f with
  |next=>obtain⟨σ3,H3,I3,n3⟩:=q3;obtain⟨m',hm,w3⟩:=hN σ3 H3 n3;exact⟨m',hm,σ3,H3,I3,w3⟩
  |cont=>obtain⟨σ3,H3,I3,n3⟩:=q3;obtain⟨m',hm,w3⟩:=hN σ3 H3 n3;exact⟨m',hm,σ3,H3,I3,w3⟩
  |brk|ret v=>exact q3
 |false=>rw[if_neg Bool.false_ne_true];exact wpAny_execs_nil ⟨σ1,H2,I2,q2⟩
end
structure It where
 go:Nat->HJ
 yld:Nat->Hp->V->HJ
 stop:Nat->HJ
def kh(X:Cx)(gV:HA)(H:Hp)(b:Addr):Prop:=
 H b=none/\b≠X.env.locals/\b∉X.fs/\(b∈X.ex\/X.s₀.heap.objs.size<=b)/\(∀x c,X.env.cells.lookup x=some c->c≠b)/\∀p∈X.pn++gV,p.1≠b
def Inv.fpOk{X:Cx}{gV:HA}{Y:St}{H H':Hp}{s:Shared}{b:Addr}(I:Inv X gV Y H s)(hb:s.heap.objs.size<=b)(hn:H' b=none):kh X gV H' b:=by
 refine⟨hn,Nat.ne_of_gt (Nat.lt_of_lt_of_le I.lt hb),I.nofs hb,.inr (Nat.le_trans I.sz hb),fun x c e z=>?_,fun p hp z=>?_⟩
 ·obtain⟨v,q⟩:=I.cell x c e;exact absurd (Nat.lt_of_lt_of_le q.lt (by rw[z];exact hb)) (Nat.lt_irrefl _)
 ·exact absurd (Nat.lt_of_lt_of_le (lt_size (I.pin p hp).1) (by rw[z];exact hb)) (Nat.lt_irrefl _)
structure uV(P:Program)(w:World)(K:PySem.W.Frag)(tg:Expr)(J:It)(fp:HE)(it:Addr)(tn:Nat->Heap->Prop):Prop where
 mem:it∈fp
 obj:∀i h,tn i h->∀b∈fp,∃o,h.get? b=some o/\∀v,o.data≠.cell v
 keep:∀i h h',tn i h->(∀b∈fp,∀o,h.get? b=some o->h'.get? b=some o)->tn i h'
 item:∀(X:Cx),X.prog=P->X.w=w->X.K=K->X.calm=true->∀(i:Nat) (gV:HA) (s:Shared) (Y:St) (H:Hp) (E:td),Inv X gV Y H s->(∀b∈fp,kh X gV H b)->tn i s.heap->J.go i H ->
  wpAny (model P w) X.A (pyNext (.ref it)) (fun r s1=>∃ u,r=some u /\
   wpAny (model P w) X.A (letOwnedTupleGo tg (.ref it) u) (fun _ s2=>∃x H',Inv X gV Y H' s2/\bE x u/\J.yld i H x H'/\tn (i+1) s2.heap/\∀b∈fp,H' b=none) E s1) E s
 done:∀(X:Cx),X.prog=P->X.w=w->X.K=K->X.calm=true->∀(i:Nat) (gV:HA) (s:Shared) (Y:St) (H:Hp) (E:td),Inv X gV Y H s->(∀b∈fp,kh X gV H b)->tn i s.heap->J.stop i H ->
  wpAny (model P w) X.A (pyNext (.ref it)) (fun r s1=>r=none/\Inv X gV Y H s1) E s
 self:∀(A:Around) (i:Nat) (s:Shared) (Q:td) (E:td),tn i s.heap->Q (.ref it) s->wpAny (model P w) A (pyIter (.ref it)) Q E s
abbrev TI:=St->Hp->(It->HJ)->Prop
def PIE(X:Cx)(gV:HA)(Y:St)(tg:Expr)(R:It->HJ)(itv:Value)(s2:Shared):Prop:=
 ∃(it:Addr) (fp:HE) (tn:Nat->Heap->Prop) (J:It) (H':Hp),itv=.ref it/\Inv X gV Y H' s2/\uV X.prog X.w X.K tg J fp it tn/\tn 0 s2.heap/\(∀b∈fp,kh X gV H' b)/\R J H'
def PI(X:Cx)(tg iter:Expr)(wi:TI):Prop:=
 ∀(gV:HA) (s:Shared) (Y:St) (H:Hp) (R:It->HJ),Inv X gV Y H s->wi Y H R ->
  wpAny (model X.prog X.w) X.A (eval iter X.env) (fun v s1=>wpAny (model X.prog X.w) X.A (pyIter v) (PIE X gV Y tg R) X.xe s1) X.xe s
def sF{M:Model}{A:Around}{E:td}{s:Shared}{tg:Expr}{it:Addr}{u:Value}{o:Obj}{n:String}{vs:HH}{Q:Unit->Shared->Prop}(ho:s.heap.get? it=some o)(hc:o.cls=.type n)(hd:o.data=.fields vs)
    (hn:["enumerate","zip","dict_itemiterator","dict_reverseitemiterator","odict_iterator","itertools.zip_longest","itertools.pairwise"].contains n=false) (hQ:Q () s):wpAny M A (letOwnedTupleGo tg (.ref it) u) Q E s:=by
  unfold letOwnedTupleGo;cases tg<;>first
    |exact wpAny_pure hQ
    | (cases u <;> first
        |exact wpAny_pure hQ
        | (refine wpAny_bind (wpAny_load ho ?_)
           rw[hc,hd];show wpAny M A (if(["enumerate","zip","dict_itemiterator","dict_reverseitemiterator","odict_iterator","itertools.zip_longest","itertools.pairwise"].contains n&&vs[0]?==some (rawInt _))=true then _ else _) Q E s;rw[if_neg (by intro h;rw[hn,Bool.false_and]at h;cases h)];exact wpAny_pure hQ))
def Itl(K:PySem.W.Frag)(a:Addr):It:=
 ⟨fun i H=>∃xs x,SqL K H a xs/\xs[i]?=some x,fun i H x H'=>H'=H/\∀xs,SqL K H a xs->xs[i]?=some x,fun i H=>∃xs,SqL K H a xs/\xs.length<=i⟩
def Itt(K:PySem.W.Frag)(a:Addr):It:=
 ⟨fun i H=>∃xs x,SqT K H a xs/\xs[i]?=some x,fun i H x H'=>H'=H/\∀xs,SqT K H a xs->xs[i]?=some x,fun i H=>∃xs,SqT K H a xs/\xs.length<=i⟩
def Itr(lo:Int)(n:Nat):It:=⟨fun i _=>i<n,fun i H x H'=>H'=H/\x=.int (lo+i),fun i _=>n<=i⟩
def tR{P:Program}{w:World}{K:PySem.W.Frag}{tg:Expr}(a it:Addr):uV P w K tg (Itl K a) [it] it (fun i h=>h.IsListIter it a i) where
 mem:=by simp
 obj:=fun i h st b hb=>by
  have e:b=it:=by simpa using hb
  subst e;obtain⟨o,e,c,d⟩:=st;exact⟨o,e,fun v z=>by rw[d]at z;cases z⟩
 keep:=fun i h h' st k=>st.at fun o e=>k it (by simp) o e
 item:=by intro X hP hw hK hc i gV s Y H E I hf st hg;subst hP hw hK;obtain⟨xs,x,hq,hx⟩:=hg;obtain⟨its,rv,p,hz⟩:=I.list hq;obtain⟨u,hu,ru⟩:=rv.get hx;obtain⟨f0,f1,f2,f3,f4,f5⟩:=hf it (by simp);refine wpAny_pyNext_list_item st p.isList (x:=u) (by simpa using hu) fun h' st' sb=>?_;have I1:Inv X gV Y H {s with heap:=h'}:=I.turned (t':=s.toks) (fun b o hb e=>(sb.2 b hb).trans e) f0 f1 f3 f4 f5;obtain⟨o,e,c,d⟩:=id st';exact⟨u,rfl,sF (s:={s with heap:=h'}) e c d (by decide) ⟨x,H,I1,ru,⟨rfl,fun ys hy=>by rw[I.list_inj hy hq];exact hx⟩,st',fun b hb=>(hf b hb).1⟩⟩
 done:=by intro X hP hw hK hc i gV s Y H E I hf st hg;subst hP hw hK;obtain⟨xs,hq,hx⟩:=hg;obtain⟨its,rv,p,hz⟩:=I.list hq;obtain⟨f0,f1,f2,f3,f4,f5⟩:=hf it (by simp);have hl:=rv.length;exact wpAny_pyNext_list_end (I.ok.hd hc) st p.isList (by simp;lia) fun h' eb=>⟨rfl,I.turned (t':=s.toks) (fun b o hb e=>eb b o hb e) f0 f1 f3 f4 f5⟩
 self:=fun _ _ _ _ _ st h=>wpAny_pyIter_listiter st h
def qb{P:Program}{w:World}{K:PySem.W.Frag}{tg:Expr}(a it:Addr):uV P w K tg (Itt K a) [it] it (fun i h=>h.IsTupleIter it a i) where
 mem:=by simp
 obj:=fun i h st b hb=>by
  have e:b=it:=by simpa using hb
  subst e;obtain⟨o,e,c,d⟩:=st;exact⟨o,e,fun v z=>by rw[d]at z;cases z⟩
 keep:=fun i h h' st k=>st.at fun o e=>k it (by simp) o e
 item:=by intro X hP hw hK hc i gV s Y H E I hf st hg;subst hP hw hK;obtain⟨xs,x,hq,hx⟩:=hg;obtain⟨its,rv,p,hz⟩:=I.tuple hq;obtain⟨u,hu,ru⟩:=rv.get hx;obtain⟨f0,f1,f2,f3,f4,f5⟩:=hf it (by simp);refine wpAny_pyNext_tuple_item st (show s.heap.IsTuple a its.toArray from p) (x:=u) (by simpa using hu) fun h' st' sb=>?_;have I1:Inv X gV Y H {s with heap:=h'}:=I.turned (t':=s.toks) (fun b o hb e=>(sb.2 b hb).trans e) f0 f1 f3 f4 f5;obtain⟨o,e,c,d⟩:=id st';exact⟨u,rfl,sF (s:={s with heap:=h'}) e c d (by decide) ⟨x,H,I1,ru,⟨rfl,fun ys hy=>by rw[I.tuple_inj hy hq];exact hx⟩,st',fun b hb=>(hf b hb).1⟩⟩
 done:=by intro X hP hw hK hc i gV s Y H E I hf st hg;subst hP hw hK;obtain⟨xs,hq,hx⟩:=hg;obtain⟨its,rv,p,hz⟩:=I.tuple hq;obtain⟨f0,f1,f2,f3,f4,f5⟩:=hf it (by simp);have hl:=rv.length;exact wpAny_pyNext_tuple_end (I.ok.hd hc) st (show s.heap.IsTuple a its.toArray from p) (by simp;lia) fun h' eb=>⟨rfl,I.turned (t':=s.toks) (fun b o hb e=>eb b o hb e) f0 f1 f3 f4 f5⟩
 self:=fun _ _ _ _ _ st h=>wpAny_pyIter_tupleiter st h
def qc{P:Program}{w:World}{K:PySem.W.Frag}{tg:Expr}(it:Addr)(lo:Int)(n:Nat):uV P w K tg (Itr lo n) [it] it (fun i h=>IsRangeIter h it (lo+(i:Nat)*1) ((n:Int)-(i:Nat)) 1) where
 mem:=by simp
 obj:=fun i h st b hb=>by
  have e:b=it:=by simpa using hb
  subst e;exact ⟨_,st,fun v z=>by
   have z':Data.fields _=Data.cell v:=z;cases z'⟩
 keep:=fun i h h' st k=>k it (by simp) _ st
 item:=by intro X hP hw hK hc i gV s Y H E I hf st hg;subst hP hw hK;obtain⟨f0,f1,f2,f3,f4,f5⟩:=hf it (by simp);have W:=Walks.range (prog:=X.prog) (w:=X.w) (I.ok.hd hc) it lo 1 n;refine W.item i s _ _ hg st fun v h' tk hv st' kk=>?_;obtain⟨t,rfl⟩:=hv;have I1:Inv X gV Y H {s with heap:=h',toks:=tk}:=I.turned (fun b o hb e=>kk b o (by simpa using hb) e) f0 f1 f3 f4 f5;refine⟨_,rfl,sF (s:={s with heap:=h',toks:=tk}) (n:="range_iterator") st' rfl rfl (by decide) ⟨.int (lo+i),H,I1,⟨t,?_⟩,⟨rfl,rfl⟩,st',fun b hb=>(hf b hb).1⟩⟩;rw[Int.mul_one]
 done:=by intro X hP hw hK hc i gV s Y H E I hf st hg;subst hP hw hK;obtain⟨f0,f1,f2,f3,f4,f5⟩:=hf it (by simp);exact wpAny_pyNext_range_end (I.ok.hd hc) st (by have:n<=i:=hg;lia) fun h' eb=>⟨rfl,I.turned (t':=s.toks) (fun b o hb e=>eb b o hb e) f0 f1 f3 f4 f5⟩
 self:=fun _ _ _ _ _ st h=>wpAny_pyIter_rangeiter st h
end L2
namespace L2
open PySem PySem.Spec PyProof.Rows
section
variable{X:Cx}{tg:Expr}
def v4{gV:HA}{Y:St}{H:Hp}{s:Shared}{R:It->HJ}{E:td}{lo hi:Int}{t u v:Tok}{tk:Nat}(I:Inv X gV Y H s)(h1:-(2 ^ 62)<= lo)(h2:lo<2 ^ 62)(h3:-(2 ^ 62)<= hi)(h4:hi<2 ^ 62)
  (q:R (Itr lo (hi-lo).toNat) H):wpAny (model X.prog X.w) X.A (pyIter (.ref s.heap.objs.size)) (PIE X gV Y tg R) E {s with heap:=s.heap.push {cls:=.type "range",data:=.fields #[.int lo t,.int hi u,.int 1 v]},toks:=tk}:=by
 refine wpAny_pyIter_range (IsRange.new ..) (small_one h1 h2 h3 h4) ?_;have I1:Inv X gV Y H {s with heap:=s.heap.push {cls:=.type "range",data:=.fields #[.int lo t,.int hi u,.int 1 v]},toks:=tk}:=I.kept fun b o e=>get?_push_of_some _ e;refine ⟨(s.heap.push { cls:=.type "range", data:=.fields #[.int lo t,.int hi u,.int 1 v] }).objs.size,[(s.heap.push { cls:=.type "range", data:=.fields #[.int lo t,.int hi u,.int 1 v] }).objs.size],_,_,H,rfl,
  I1.kept (t':=tk) fun b o e=>get?_push_of_some _ e,qc _ lo (hi-lo).toNat,?_,fun b hb=>?_,q⟩
 ·have e1:lo+((0:Nat):Int)*1=lo:=by simp
  have e2:(((hi-lo).toNat:Nat):Int)-((0:Nat):Int)=Builtin.Range.rangeSize lo hi 1:=by rw[rangeSize_one];split<;>lia
  show IsRangeIter _ _ (lo+((0:Nat):Int)*1) ((((hi-lo).toNat:Nat):Int)-((0:Nat):Int)) 1;rw[e1,e2];exact get?_push_size _ rfl
 ·have e:b=(s.heap.push {cls:=.type "range",data:=.fields #[.int lo t,.int hi u,.int 1 v]}).objs.size:=by simpa using hb
  subst e;exact I1.fpOk (Nat.le_refl _) (I1.hok.fresh (Nat.le_refl _))
def Gp(ta:TA):TI:=fun Y H R=>ta Y H fun vs H1=>∃j:Int,vs=[.int j]/\-(2 ^ 62)<= j/\j<2 ^ 62/\R (Itr 0 j.toNat) H1
def mQ{a:Expr}{ta:TA}{p pos:Pos}(hg:Gl X "range")(hm:X.mg "range"=none)(ha:PA X [a] ta)(hs:starEach [a] X.env=[(false,eval a X.env)]:=by rfl):PI X tg (.Call (.Name "range" p) [a] [] pos) (Gp ta):=by
 intro gV s Y H R I h;refine Call_ (jF I hg hm boot_range (PyProof.Rows.callWith_type1 (thn (ha pos gV s Y H _ I h) fun us s1 zz=>?_) hs rfl));obtain⟨vs,H1,I1,r1,q1⟩:=zz;obtain⟨j,e,q1,q2,q⟩:=q1;subst e;cases r1 with
 |cons r rr=>cases rr;obtain⟨t,rfl⟩:=r;exact call_range_1 (v4 I1 (by lia) (by lia) q1 q2 (by simpa using q))
def G3(wi:TI)(g:TG)(tb:TS):TS:=fun D Y H=>wi Y H fun J H1=>∃W:Nat->Nat->St->HJ,(∃m,W 0 m Y H1)/\∀i m Y H,W i m Y H ->
 (J.stop i H/\D.nx Y H)\/(J.go i H/\∃N:St->HJ,(∀σ' H',N σ' H'->∃m',m'<m/\W (i+1) m' σ' H')/\∀x H',J.yld i H x H'->g x Y H' fun σ2 H2=>tb {D with nx:=N,ct:=N,bk:=D.nx} σ2 H2)
def jv(fp:HE)(h:Heap):HA:=fp.filterMap fun b=>(h.get? b).map fun o=>(b,o)
def dE{fp:HE}{h:Heap}{b:Addr}{o:Obj}(hb:b∈fp)(e:h.get? b=some o):(b,o)∈ jv fp h:=mem_filterMap.mpr ⟨b,hb,by rw[e];rfl⟩
def uq{fp:HE}{h:Heap}{p:Addr×Obj}(hp:p∈jv fp h):p.1∈fp/\h.get? p.1=some p.2:=by
 obtain⟨b,hb,e⟩:=mem_filterMap.mp hp;cases q:h.get? b with
 |none=>rw[q]at e;cases e
 |some o=>rw[q]at e;have e':(b,o)=p:=Option.some.inj e;subst e';exact⟨hb,q⟩
def Inv.pinned{gV:HA}{Y:St}{H:Hp}{s:Shared}{fp:HE}(I:Inv X gV Y H s)(hf:∀b∈fp,kh X gV H b)(ho:∀b∈fp,∃o,s.heap.get? b=some o/\∀v,o.data≠.cell v):Inv X (gV++jv fp s.heap) Y H s:=
 I.pins_of fun p hp=>(mem_append.mp hp).elim (fun z=>I.pin p (mem_append_right _ z)) fun z=>by obtain⟨hb,e⟩:=uq z;obtain⟨f0,f1,f2,_⟩:=hf p.1 hb;obtain⟨o,e',d⟩:=ho p.1 hb;rw[e]at e';cases e';exact⟨e,f0,f1,f2,d⟩
def Inv.unpinned{gV pl:HA}{Y:St}{H:Hp}{s:Shared}(I:Inv X (gV++pl) Y H s):Inv X gV Y H s:=I.pins_of fun p hp=>I.pin p (mem_append_right _ (mem_append_left _ hp))
def Cg{iter:Expr}{body:List Stmt}{wi:TI}{g:TG}{tb:TS}{pos:Pos}(hp:PassesOwn (model X.prog X.w) X.A X.env X.xe)(hc:X.calm=true)(hi:PI X tg iter wi)(hg:PG X tg g)(hb:PSs X body tb)
  (hs:∀x,foldedSetIterable iter X.env x=pure x:=by intro _;rfl):PS X (.For tg iter body [] pos) (G3 wi g tb):=by
 intro gV s Y H D I h;refine wpAny_For (thn (hi gV s Y H _ I h) fun v s1 h1=>thn h1 fun itv s2 h2=>?_) hs;obtain⟨it,fp,tn,J,H2,e,I2,T,st2,f2,W,⟨m0,w0⟩,turn⟩:=h2;subst e;have stat:∀{H':Hp},(∀b∈fp,H' b=none)->∀b∈fp,kh X gV H' b:=fun hn b hb=>⟨hn b hb,(f2 b hb).2⟩
 refine codeAny_forLoop_any (fun n s'=>∃i σ' H',Inv X gV σ' H' s'/\tn i s'.heap/\(∀b∈fp,H' b=none)/\W i n σ' H') ?_ m0 ⟨0,Y,H2,I2,st2,fun b hb=>(f2 b hb).1,w0⟩;rintro n s3 ⟨i,σ3,H3,I3,st3,fr3,w3⟩;rcases turn i n σ3 H3 w3 with⟨stop,qn⟩ |⟨go,N,hN,step⟩
 ·refine wpAny_passesOwn hp (thn (T.done X rfl rfl rfl hc i gV s3 σ3 H3 X.xe I3 (stat fr3) st3 stop) fun r s4 ⟨hr,I4⟩=>?_);subst hr;exact wpAny_execs_nil ⟨σ3,H3,I4,qn⟩
 ·refine wpAny_passesOwn hp (thn (T.item X rfl rfl rfl hc i gV s3 σ3 H3 X.xe I3 (stat fr3) st3 go) fun r s4 ⟨u,hr,h4⟩=>?_);subst hr;refine wpAny_passesOwn hp (thn h4 fun _ s5 zz=>?_);obtain⟨x,H5,I5,r5,y5,st5,fr5⟩:=zz;have I5':=I5.pinned (stat fr5) (T.obj _ _ st5);refine wpAny_passesOwn hp (thn (hg _ s5 σ3 H5 x u _ I5' r5 (step x H5 y5)) fun _ s6 ⟨σ6,H6,I6,q6⟩=>?_);refine wpAny_passesOwn hp (thn (hb _ s6 σ6 H6 _ I6 q6) fun f s7 q7=>?_);have again:∀{σ7:St}{H7:Hp},Inv X (gV++jv fp s5.heap) σ7 H7 s7->N σ7 H7->∃m,m<n/\∃i σ' H',Inv X gV σ' H' s7/\tn i s7.heap/\(∀b∈fp,H' b=none)/\W i m σ' H':=fun {σ7 H7} I7 n7=>by obtain⟨m',hm,w7⟩:=hN σ7 H7 n7;refine⟨m',hm,i+1,σ7,H7,I7.unpinned,T.keep _ _ _ st5 fun b hb o e=>(I7.pin (b,o) (mem_append_right _ (mem_append_right _ (dE hb e)))).1,fun b hb=>?_,w7⟩;obtain⟨o,e,d⟩:=T.obj _ _ st5 b hb;exact(I7.pin (b,o) (mem_append_right _ (mem_append_right _ (dE hb e)))).2.1
  cases f with
  |next|cont=>obtain⟨σ7,H7,I7,n7⟩:=q7;exact again I7 n7
  |brk=>obtain⟨σ7,H7,I7,q7⟩:=q7;exact⟨σ7,H7,I7.unpinned,q7⟩
  |ret v=>obtain⟨x7,σ7,H7,I7,r7,q7⟩:=q7;exact⟨x7,σ7,H7,I7.unpinned,r7,q7⟩
end
end L2
namespace L2
open PySem PySem.Spec PyProof.Rows
abbrev R2:=V->V->Hp->VK->Prop
def OpR(X:Cx)(f:Value->Value->Sem Value)(r:R2):Prop:=
 ∀(gV:HA) (s:Shared) (Y:St) (H:Hp) (x y:V) (v u:Value) (Q:VK),Inv X gV Y H s->bE x v->bE y u->r x y H Q ->
  wpAny (model X.prog X.w) X.A (f v u) (EP X gV Y Q) X.xe s
def UnR(X:Cx)(f:Value->Sem Value)(r:V->Hp->VK->Prop):Prop:=
 ∀(gV:HA) (s:Shared) (Y:St) (H:Hp) (x:V) (v:Value) (Q:VK),Inv X gV Y H s->bE x v->r x H Q ->
  wpAny (model X.prog X.w) X.A (f v) (EP X gV Y Q) X.xe s
def eV(X:Cx)(f:Value)(r:HI->Hp->VK->Prop):Prop:=
 ∀(gV:HA) (s:Shared) (Y:St) (H:Hp) (xs:HI) (us:HD) (Q:VK),Inv X gV Y H s->aK xs us->r xs H Q ->
  wpAny (model X.prog X.w) X.A (call f us) (EP X gV Y Q) X.xe s
def Hk(X:Cx)(r:V->Hp->(Bool->HJ)->Prop):Prop:=
 ∀(gV:HA) (s:Shared) (Y:St) (H:Hp) (x:V) (v:Value) (Q:Bool->HJ),Inv X gV Y H s->bE x v->r x H Q ->
  wpAny (model X.prog X.w) X.A (truthy v) (TP X gV Y Q) X.xe s
def tOp(r:R2)(ta tb:TE):TE:=fun Y H Q=>ta Y H fun x H1=>tb Y H1 fun y H2=>r x y H2 Q
def tUn(r:V->Hp->VK->Prop)(ta:TE):TE:=fun Y H Q=>ta Y H fun x H1=>r x H1 Q
def rI(C:Int->Int->Prop)(g:Int->Int->V):R2:=fun x y H Q=>∃i j,x=.int i/\y=.int j/\C i j/\Q (g i j) H
def rI0(g:Int->Int->V):R2:=fun x y H Q=>∃i j,x=.int i/\y=.int j/\Q (g i j) H
def rU(g:Int->V):V->Hp->VK->Prop:=fun x H Q=>∃i,x=.int i/\Q (g i) H
section
variable{X:Cx}{a b c:Expr}{ta tb tc:TE}{pos:Pos}
def D2(ha:PE X a ta)(hb:PE X b tb){gV:HA}{s:Shared}{Y:St}{H:Hp}{R:V->V->HJ}(I:Inv X gV Y H s)
  (h:ta Y H fun x H1=>tb Y H1 fun y H2=>R x y H2) {Q:td}{f:Value->Value->Sem Value}
  (hf:∀v u s2 x y H2,Inv X gV Y H2 s2->bE x v->bE y u->R x y H2->wpAny (model X.prog X.w) X.A (f v u) Q X.xe s2) :
  wpAny (model X.prog X.w) X.A (eval a X.env) (fun v s₁=>wpAny (model X.prog X.w) X.A (eval b X.env) (fun u s₂=>wpAny (model X.prog X.w) X.A (f v u) Q X.xe s₂) X.xe s₁) X.xe s:=by
 refine thn (ha gV s Y H _ I h) fun v s1 hz1=>?_;obtain⟨x,H1,I1,r1,q1⟩:=hz1;refine thn (hb gV s1 Y H1 _ I1 q1) fun u s2 hz1=>?_;obtain⟨y,H2,I2,r2,q2⟩:=hz1;exact hf v u s2 x y H2 I2 r1 r2 q2
def Fy{op:Operator}{r:R2}(ho:OpR X (binaryOp op) r)(ha:PE X a ta)(hb:PE X b tb):PE X (.BinOp a op b pos) (tOp r ta tb):=by intro gV s Y H Q I h;exact wpAny_BinOp (D2 ha hb I h fun v u s2 x y H2 I2 rx ry q=>ho gV s2 Y H2 x y v u Q I2 rx ry q)
def Fv{op:UnaryOp}{r:V->Hp->VK->Prop}(ho:UnR X (unaryOp op) r)(ha:PE X a ta):PE X (.UnaryOp op a pos) (tUn r ta):=by intro gV s Y H Q I h;exact UnaryOp_ (thn (ha gV s Y H _ I h) fun v s1 ⟨x,H1,I1,r1,q1⟩=>ho gV s1 Y H1 x v Q I1 r1 q1)
def opI{f:Value->Value->Sem Value}{C:Int->Int->Prop}{g:Int->Int->Int}
  (rule:∀(i j:Int) (t u:Tok) (s:Shared) (Q:td) (E:td),C i j->Q (.int (g i j) s.toks) {s with toks:=s.toks+1}->wpAny (model X.prog X.w) X.A (f (.int i t) (.int j u)) Q E s) :
  OpR X f (rI C fun i j=>.int (g i j)):=by
 intro gV s Y H x y v u Q I rx ry h;obtain⟨i,j,rfl,rfl,hc,q⟩:=h;obtain⟨t,rfl⟩:=rx;obtain⟨t',rfl⟩:=ry;exact rule i j t t' s _ _ hc ⟨.int (g i j),H,I.tok _,⟨_,rfl⟩,q⟩
def zD{f:Value->Value->Sem Value}{g:Int->Int->Int}
  (rule:∀(i j:Int) (t u:Tok) (s:Shared) (Q:td) (E:td),Q (.int (g i j) s.toks) {s with toks:=s.toks+1}->wpAny (model X.prog X.w) X.A (f (.int i t) (.int j u)) Q E s) :
  OpR X f (rI0 fun i j=>.int (g i j)):=by
 intro gV s Y H x y v u Q I rx ry h;obtain⟨i,j,rfl,rfl,q⟩:=h;obtain⟨t,rfl⟩:=rx;obtain⟨t',rfl⟩:=ry;exact rule i j t t' s _ _ ⟨.int (g i j),H,I.tok _,⟨_,rfl⟩,q⟩
def zE{f:Value->Value->Sem Value}{g:Int->Int->Bool}
  (rule:∀(i j:Int) (t u:Tok) (s:Shared) (Q:td) (E:td),Q (.bool (g i j)) s->wpAny (model X.prog X.w) X.A (f (.int i t) (.int j u)) Q E s) :
  OpR X f (rI0 fun i j=>.bl (g i j)):=by
 intro gV s Y H x y v u Q I rx ry h;obtain⟨i,j,rfl,rfl,q⟩:=h;obtain⟨t,rfl⟩:=rx;obtain⟨t',rfl⟩:=ry;exact rule i j t t' s _ _ ⟨.bl (g i j),H,I,rfl,q⟩
def Hu(i j:Int):Prop:=0<j/\j<1073741824
def Ht(i j:Int):Prop:=0<=j/\j<=1000000/\i.natAbs<2 ^ 64
def EE(i j:Int):Prop:=(-(2 ^ 64)<i/\i<2 ^ 64)\/(-(2 ^ 64)<j/\j<2 ^ 64)
def EE.ok{i j:Int}(h:EE i j):IntMulOk i j:=by
 rcases h with⟨h1,h2⟩ |⟨h1,h2⟩
 ·exact .of_left (intBits_le_64 h1 h2)
 ·exact .of_right (intBits_le_64 h1 h2)
def qa(k:Nat):(0:Int)<= 2 ^ k:=by rw[two_pow_cast];exact Int.natCast_nonneg _
def CK:OpR X (binaryOp .Add) (rI0 fun i j=>.int (i+j)):=zD fun _ _ _ _ _ _ _ q=>add_int q
def Cz:OpR X (binaryOp .Sub) (rI0 fun i j=>.int (i-j)):=zD fun _ _ _ _ _ _ _ q=>sub_int q
def CD:OpR X (binaryOp .Mult) (rI EE fun i j=>.int (i*j)):=opI fun _ _ _ _ _ _ _ hc q=>mul_int q hc.ok
def zz:OpR X (binaryOp .FloorDiv) (rI Hu fun i j=>.int (i / j)):=opI fun i j _ _ _ _ _ hc q=>by have h1:(0:Int)<j:=hc.1;have h2:j<1073741824:=hc.2;exact floordiv_int (by lia) (by rw[Int.fdiv_eq_ediv_of_nonneg i (by lia)];exact q) (.inl (PyProof.noPylong_small (by lia)))
def CF:OpR X (binaryOp .Mod) (rI (fun _ j=>0<j) fun i j=>.int (i%j)):=opI fun i j _ _ _ _ _ hc q=>by have h1:(0:Int)<j:=hc;exact mod_int' (by lia) (by rw[Int.fmod_eq_emod_of_nonneg i (by lia)];exact q)
def CB:OpR X (binaryOp .Pow) (rI Ht fun i j=>.int (i ^ j.toNat)):=opI fun _ _ _ _ _ _ _ hc q=>pow_int_small hc.1 hc.2.1 hc.2.2 q
def CA:OpR X (binaryOp .RShift) (rI (fun _ j=>0<=j) fun i j=>.int (i / 2 ^ j.toNat)):=opI fun i j _ _ _ _ _ hc q=>
 rshift_int hc (by rw[Int.fdiv_eq_ediv_of_nonneg i (qa _)];exact q)
def CJ:OpR X (binaryOp .BitAnd) (rI0 fun i j=>.int (Builtin.bitAnd i j)):=zD fun _ _ _ _ _ _ _ q=>and_int q
def Ab:OpR X (inplaceOp .Add) (rI0 fun i j=>.int (i+j)):=zD fun _ _ _ _ _ _ _ q=>iadd_int q
def unI{f:Value->Sem Value}{g:Int->Int}
  (rule:∀(i:Int) (t:Tok) (s:Shared) (Q:td) (E:td),Q (.int (g i) s.toks) {s with toks:=s.toks+1}->wpAny (model X.prog X.w) X.A (f (.int i t)) Q E s) :
  UnR X f (rU fun i=>.int (g i)):=by
 intro gV s Y H x v Q I rx h;obtain⟨i,rfl,q⟩:=h;obtain⟨t,rfl⟩:=rx;exact rule i t s _ _ ⟨.int (g i),H,I.tok _,⟨_,rfl⟩,q⟩
def BB:UnR X (unaryOp .USub) (rU fun i=>.int (-i)):=unI fun _ _ _ _ _ q=>neg_int q
def xw{gV:HA}{Y:St}{H:Hp}{s:Shared}{Q:VK}{k k':Bool}(I:Inv X gV Y H s)(q:Q (.bl k) H)(e:k=k'):EP X gV Y Q (.bool k') s:=by subst e;exact⟨.bl k,H,I,rfl,q⟩
def Bb:OpR X (compareOp .Lt) (rI0 fun i j=>.bl (decide (i<j))):=zE fun _ _ _ _ _ _ _ q=>lt_int q
def Bc:OpR X (compareOp .LtE) (rI0 fun i j=>.bl (decide (i<=j))):=zE fun _ _ _ _ _ _ _ q=>le_int q
def Bd:OpR X (compareOp .Gt) (rI0 fun i j=>.bl (decide (j<i))):=zE fun _ _ _ _ _ _ _ q=>gt_int q
def FF:OpR X (compareOp .GtE) (rI0 fun i j=>.bl (decide (j<=i))):=zE fun _ _ _ _ _ _ _ q=>ge_int q
def uo:OpR X (compareOp .In) (fun x y H Q=>∃i j,x=.str i/\y=.str j/\Q (.bl (!(Builtin.Str.occurrences j i 0 j.length 1).isEmpty)) H):=by intro gV s Y H x y v u Q I rx ry h;obtain⟨i,j,rfl,rfl,q⟩:=h;obtain⟨t,rfl⟩:=rx;obtain⟨t',rfl⟩:=ry;exact in_str (xw I q rfl)
def CG:OpR X (compareOp .Is) (fun x y H Q=>y=.non/\Q (.bl (decide (x=.non))) H):=by
 intro gV s Y H x y v u Q I rx ry h;obtain⟨rfl,q⟩:=h;cases ry;refine is_none_gen (xw I q ?_);cases x<;>first
  |(cases rx;rfl)
  |(obtain⟨t,rfl⟩:=rx;rfl)
def OpR.or{f:Value->Value->Sem Value}{r r':R2}(h:OpR X f r)(h':OpR X f r'):OpR X f (fun x y H Q=>r x y H Q\/r' x y H Q):=by
 intro gV s Y H x y v u Q I rx ry q;rcases q with q|q
 ·exact h gV s Y H x y v u Q I rx ry q
 ·exact h' gV s Y H x y v u Q I rx ry q
def dZ(b:Expr){op:CmpOp}(h:op≠.In:=by decide)(h2:op≠.NotIn:=by decide):behindInMarks op b=false:=by
 have e1:(op==CmpOp.In)=false:=by cases op<;>first|rfl|exact absurd rfl h
 have e2:(op==CmpOp.NotIn)=false:=by cases op<;>first|rfl|exact absurd rfl h2
 cases b<;>simp[behindInMarks,e1,e2]
def zr{op:CmpOp}{r:R2}(ho:OpR X (compareOp op) r)(ha:PE X a ta)(hb:PE X b tb)(hm:behindInMarks op b=false):PE X (.Compare a [op] [b] pos) (tOp r ta tb):=by intro gV s Y H Q I h;exact wpAny_Compare1 (D2 ha hb I h fun v u s2 x y H2 I2 rx ry q=>ho gV s2 Y H2 x y v u Q I2 rx ry q) hm
def E3(t:TE):TT:=fun Y H Q=>t Y H fun x H'=>∃k,x=.bl k/\Q k H'
def nR{op:CmpOp}{r:R2}(ho:OpR X (compareOp op) r)(ha:PE X a ta)(hb:PE X b tb)(hm:behindInMarks op b=false):PT X (.Compare a [op] [b] pos) (E3 (tOp r ta tb)):=by
 intro gV s Y H Q I h;refine wpAny_isTrue_Compare1 (thn (ha gV s Y H _ I h) fun v s1 ⟨x,H1,I1,r1,q1⟩=>thn (hb gV s1 Y H1 _ I1 q1) fun u s2 ⟨y,H2,I2,r2,q2⟩=>
  thn (ho gV s2 Y H2 x y v u _ I2 r1 r2 q2) fun c s3 ⟨z,H3,I3,r3,k,e,q3⟩=>?_) hm
 subst e;cases r3;exact wpAny_truthy_bool ⟨H3,I3,q3⟩
def GC(K:PySem.W.Frag)(x:V)(H:Hp)(k:Bool):Prop:=
 match x with
 |.non=>k=false
 |.bl b=>k=b
 |.int i=>k=(i != 0)
 |.str y=>y.length<=sizeLine/\k=((y.length:Int) != 0)
 |.byt y=>y.size<=sizeLine/\k=((y.size:Int) != 0)
 |.ref p=>(∃xs,SqL K H p xs/\k=!xs.isEmpty)\/(∃xs,SqT K H p xs/\k=!xs.isEmpty)\/ ∃kvs,H p=some (.dK kvs)/\k=!kvs.isEmpty
 |_=>False
def qM{κ:Type}{kvs:List (κ×V)}{vs:List (κ×Value)}(r:KV kvs vs):(!vs.isEmpty)=!kvs.isEmpty:=by cases r<;>rfl
def lw{xs:HI}{its:HD}(r:aK xs its):(!its.toArray.isEmpty)=!xs.isEmpty:=by cases r<;>simp
def g0:(sizeLine:Nat)<2 ^ 63:=by rw[sizeLine_eq];decide
def BE:Hk X (fun x H Q=>∃k,GC X.K x H k/\Q k H):=by
 intro gV s Y H x v Q I rx h;obtain⟨k,e,q⟩:=h;have hl:=g0;have hs:sizeLine=16777216:=sizeLine_eq;cases x with
 |non=>cases rx;have e':k=false:=e;subst e';exact truthy_none ⟨H,I,q⟩
 |bl b=>cases rx;have e':k=b:=e;subst e';exact wpAny_truthy_bool ⟨H,I,q⟩
 |int i=>obtain⟨t,rfl⟩:=rx;have e':k=(i != 0):=e;subst e';exact PySem.P.truthy_int ⟨H,I,q⟩
 |str y=>obtain⟨t,rfl⟩:=rx;obtain⟨hy,e'⟩:y.length<=sizeLine/\k=((y.length:Int) != 0):=e;subst e';exact PySem.P.truthy_str (by lia) ⟨H,I.tok _,q⟩
 |byt y=>obtain⟨t,rfl⟩:=rx;obtain⟨hy,e'⟩:y.size<=sizeLine/\k=((y.size:Int) != 0):=e;subst e';exact PySem.W.truthy_bytes (by lia) ⟨H,I.tok _,q⟩
 |ref p=>
  cases rx;have e':(∃xs,SqL X.K H p xs/\k=!xs.isEmpty)\/(∃xs,SqT X.K H p xs/\k=!xs.isEmpty)\/ ∃kvs,H p=some (.dK kvs)/\k=!kvs.isEmpty:=e;rcases e' with⟨xs,hx,e'⟩ |⟨xs,hx,e'⟩ |⟨kvs,hx,e'⟩
  ·subst e';obtain⟨its,r,pl,hz⟩:=I.list hx;have hlen:=r.length;exact wpAny_truthy_list pl.isList (by simp only[size_toArray];lia) ⟨H,I.tok _,by rw[lw r];exact q⟩
  ·subst e';obtain⟨its,r,pl,hz⟩:=I.tuple hx;have hlen:=r.length;exact truthy_tuple pl (by simp only[size_toArray];lia) ⟨H,I.tok _,by rw[lw r];exact q⟩
  ·subst e';obtain⟨hz,hS,vs,r,m⟩:kvs.length<=sizeLine/\(p==sysModules)=false/\∃vs,KV kvs vs/\s.heap.DictOf (n5 X.prog X.w) p vs:=I.hok p _ hx;have hlen:kvs.length=vs.length:=Paired.length r;exact wpAny_truthy_dict hS m (by lia) ⟨H,I.tok _,by rw[qM r];exact q⟩
 |_=>exact(show False from e).elim
def v9(ha:PE X a ta)(he:∀whole,isTrue a X.env whole=(do let v <- whole;standAt a.pos;holding [v] (truthy v))) :
  PT X a (fun Y H Q=>ta Y H fun x H'=>∃k,GC X.K x H' k/\Q k H'):=by
 intro gV s Y H Q I h;exact isTrue_plain (thn (ha gV s Y H _ I h) fun v s1 ⟨x,H1,I1,r1,q1⟩=>BE gV s1 Y H1 x v Q I1 r1 q1) (he _)
def qv:OpR X (binaryOp .Add) (fun x y H Q=>∃i j,x=.str i/\y=.str j/\i.length+j.length<=sizeLine/\Q (.str (i++j)) H):=by intro gV s Y H x y v u Q I rx ry h;obtain⟨i,j,rfl,rfl,hz,q⟩:=h;obtain⟨t,rfl⟩:=rx;obtain⟨t',rfl⟩:=ry;exact add_str (fun t' tk=>⟨.str (i++j),H,I.tok _,⟨_,rfl⟩,q⟩) hz
def fV{x:V}{us:HD}(r:aK [x] us):∃u,us=[u]/\bE x u:=by
 cases r with
 |cons r1 r2=>cases r2;exact⟨_,rfl,r1⟩
def i6:eV X (.type "str") (fun xs H Q=>∃i,xs=[.int i]/\i.natAbs.log2<1920/\Q (.str (toString i)) H):=by intro gV s Y H xs us Q I r h;obtain⟨i,rfl,hz,q⟩:=h;obtain⟨u,rfl,t,rfl⟩:=fV r;exact PySem.P.str_of_int hz ⟨.str _,H,I.tok _,⟨_,rfl⟩,q⟩
end
end L2
namespace L2
open PySem PySem.Spec PyProof.Rows
structure q8(h:Heap)(x dx C:Addr)(mA:Hz):Prop where
 obj:h.get? x=some (instObj C dx)
 ns:h.Ns1 dx mA
 ne:dx≠x
def uz{h:Heap}{dx:Addr}{mA:Hz}(n:h.Ns1 dx mA):∃od,h.get? dx=some od/\∀name,lookIn name od=some (mA name):=by
 obtain⟨o,es,ep,ho,hd,hk,_,hm⟩:=n;refine⟨o,ho,fun name=>?_⟩;have e:=hm name;unfold nsFind findBy at e;rw[<- Array.find?_toList]at e;unfold lookIn;rw[hd];dsimp only;split
 ·rename_i y q
  rw[q]at e;exact congrArg some e
 ·rename_i q
  rw[q]at e;have a:es.toList.any (·.refKey)=false:=by rw[List.any_eq_false];intro y hy;obtain⟨z,t,hkey⟩:=hk y (Array.mem_toList_iff.mp hy);simp[DictEntry.refKey,hkey]
  have a':¬es.toList.any (·.refKey)=true:=by rw[a];exact Bool.false_ne_true
  rw[if_neg a'];exact congrArg some e
def q8.look{h:Heap}{x dx C:Addr}{mA:Hz}(I:q8 h x dx C mA):∃od,PySem.W.InstAt h x (instObj C dx) C (some od)/\∀name,lookIn name od=some (mA name):=
 let⟨od,ho,hl⟩:=uz I.ns
 ⟨od,⟨I.obj,rfl,rfl,ho⟩,hl⟩
section
variable{prog:Program}{w:World}{A:Around}{E:td}{s:Shared}{K:PySem.W.Frag}{x dx C f:Addr}{mA:Hz}{name:Str}{v:Value}
def Ag{expr:Bool}{Q:td}(X:K.In s.heap)(I:q8 s.heap x dx C mA)(hg:plainGet K C name=true)(hh:hasDictIn K C=true)
  (ha:PySem.W.findIn K (.ref C) name=some none) (hv:mA name=some v) (hv':handedIn v=true) (h:Q v {s with toks:=s.toks+1}) :
  wpAny (model prog w) A (getAttr (.ref x) name expr) Q E s:=by
 obtain⟨od,J,hl⟩:=I.look;exact PySem.W.get_value X J (plainGet_of hg).1 (PySem.W.findObj_own hh ha rfl (by rw[hl,hv])) hv' h
def xr{pl:Sem Bool}{Q:Value×HD->Shared->Prop}(X:K.In s.heap)(I:q8 s.heap x dx C mA)(hg:plainGet K C name=true)
  (hf:PySem.W.findIn K (.ref C) name=some (some (.ref f))) (ht:PySem.W.isFn K (.ref f)=true) (hv:mA name=none) (h:Q (.ref f,[.ref x]) s) :
  wpAny (model prog w) A (getMethod (.ref x) name pl) Q E s:=by
 obtain⟨od,J,hl⟩:=I.look;exact PySem.W.method_fn X J (plainGet_of hg).1 (plainGet_of hg).2 hf (beq_iff_eq.mp ht) (by show(lookIn name od).map (·.isSome)=some false;rw[hl,hv];rfl) h
def y2{ns:HF}{Q:Unit->Shared->Prop}(X:K.In s.heap)(I:q8 s.heap x dx C mA)
  (hs:PySem.W.findIn K (.ref C) "__setattr__"=some (some (.builtin "object.__setattr__"))) (hp:plainOver K C=true) (ht:takerIn K C name=some none) (hh:hasDictIn K C=true)
  (hw:PySem.Within mA ns) (hsz:ns.length<=sizeLine)
  (h:∀h',q8 h' x dx C (fun y=>if y=name then some v else mA y)->SameBut dx s.heap h'->Q () {s with heap:=h',toks:=s.toks+2}) :
  wpAny (model prog w) A (setAttr (.ref x) name v) Q E s:=by
 obtain⟨od,J,hl⟩:=I.look;refine PySem.W.set_plain X J hs (PySem.W.osa_open (s:={s with toks:=s.toks+1}) (r:=none) X J hp ht fun b=>?_);obtain⟨cd,hc,hd'⟩:=PySem.W.any_some hh;have hx:s.heap.get? x=some ⟨.ref C,some dx,.plain,#[]⟩:=I.obj;refine wpAny_bind (wpAny_pure (wpAny_bind (wpAny_bind (wpAny_loadPart hx (wpAny_bind (PySem.W.Looks.here (s:={s with toks:=s.toks+1}) (PySem.W.looks_clsIn X hc) ?_))))));rw[hd'];refine wpAny_pure (a:=some dx) (wpAny_bind (wpAny_pure (wpAny_bind ?_)));refine wpAny_nsSet1 (s:={s with toks:=s.toks+1}) I.ns fun h' hn2 hs2=>?_;obtain⟨oD,esD,epD,hoD,hdD,hcD⟩:=hn2.count (PySem.Within.cons name v hw);refine wpAny_bind (wpAny_lookBehind hoD (by rw[hdD];exact pastItsLine_dict (Nat.le_trans hcD (by rw[length_cons];lia))) ?_);exact wpAny_pure (h _ ⟨(hs2.2 _ (Ne.symm I.ne)).trans I.obj,hn2,I.ne⟩ hs2)
def wW{R:Result->Shared->Prop}{vs:HD}{kw:List (Str×Value)}(X:K.In s.heap)(hm:makesIn K C=true)
  (hi:PySem.W.findIn K (.ref C) "__init__"=some (some (.ref f))) (hf:PySem.W.typeIn K (.ref f)=some (.type "function"))
  (h:codeAny (model prog w) (A.under (.builtin "type.__call__" ⟨.ref C::vs,kw⟩)) (.call (.ref f) ⟨.ref (s.heap.objs.size+1)::vs,kw⟩) (PySem.W.InitBack (s.heap.objs.size+1) R)
   {s with heap:=(s.heap.push emptyDict).push (instObj C s.heap.objs.size)}) :
  codeAny (model prog w) A (.call (.ref C) ⟨vs,kw⟩) R s:=by
 obtain⟨hh,g,d,t,os⟩:=s;exact PySem.W.make_core (PySem.W.makes_of X hm) (PySem.W.looks_findIn X hi) (fun self=>PySem.W.bind_fn X self hf) (.inl rfl) h
end
def fL(f:Str)(v:V):List (Str×V)->List (Str×V)
 | []=>[(f,v)]
 |(g,x)::r=>if g=f then(g,v)::r else(g,x)::fL f v r
def j5(f g:Str)(v:V):∀fs:List (Str×V),(fL f v fs).lookup g=if g=f then some v else fs.lookup g
 | []=>by
  show List.lookup g [(f,v)]=_;by_cases h:g=f
  ·have hb:(g==f)=true:=beq_iff_eq.mpr h;simp only[List.lookup,hb,if_pos h]
  ·have hb:(g==f)=false:=beq_eq_false_iff_ne.mpr h;simp only[List.lookup,hb,if_neg h]
 |(k,x)::r=>by
  have ih:=j5 f g v r;rw[show fL f v ((k,x)::r)=(if k=f then(k,v)::r else(k,x)::fL f v r)from rfl];by_cases hk:k=f
  ·rw[if_pos hk];by_cases h:g=k
   ·have hb:(g==k)=true:=beq_iff_eq.mpr h;simp only[List.lookup,hb,if_pos (h.trans hk)]
   ·have hb:(g==k)=false:=beq_eq_false_iff_ne.mpr h;simp only[List.lookup,hb,if_neg (fun e:g=f=>h (e.trans hk.symm))]
  ·rw[if_neg hk];by_cases h:g=k
   ·have hb:(g==k)=true:=beq_iff_eq.mpr h;simp only[List.lookup,hb,if_neg (fun e:g=f=>hk (h.symm.trans e))]
   ·have hb:(g==k)=false:=beq_eq_false_iff_ne.mpr h;simp only[List.lookup,hb];exact ih
def jG(f:Str)(v:V):∀fs:List (Str×V),f ∈(fL f v fs).map (·.1)/\∀g,g∈fs.map (·.1)->g ∈(fL f v fs).map (·.1)
 | []=>⟨by simp[fL],fun g h=>by simp at h⟩
 |(k,x)::r=>by
  obtain⟨i1,i2⟩:=jG f v r;rw[show fL f v ((k,x)::r)=(if k=f then(k,v)::r else(k,x)::fL f v r)from rfl];by_cases hk:k=f
  ·rw[if_pos hk];subst hk;exact⟨by simp,fun g h=>by simpa using h⟩
  ·rw[if_neg hk];refine⟨?_,fun g h=>?_⟩
   ·rw[map_cons];exact mem_cons_of_mem _ i1
   ·rw[map_cons]at h ⊢;rcases mem_cons.mp h with e|e
    ·exact mem_cons.mpr (.inl e)
    ·exact mem_cons_of_mem _ (i2 g e)
def j7(f:Str)(v:V):∀fs:List (Str×V),(fL f v fs).length<=fs.length+1
 | []=>by simp[fL]
 |(k,x)::r=>by
  have ih:=j7 f v r;rw[show fL f v ((k,x)::r)=(if k=f then(k,v)::r else(k,x)::fL f v r)from rfl];by_cases hk:k=f
  ·rw[if_pos hk,length_cons,length_cons];lia
  ·rw[if_neg hk,length_cons,length_cons];lia
def my.some_of{v:V}{o:Option Value}(r:my (some v) o):∃u,o=some u/\bE v u:=by
 cases o with
 |none=>exact(show False from r).elim
 |some u=>exact⟨u,rfl,r⟩
def my.none_of{o:Option Value}(r:my none o):o=none:=by
 cases o with
 |none=>rfl
 |some u=>exact(show False from r).elim
def uH{v:V}{u:Value}(r:bE v u):handedIn u=true:=by
 cases v with
 |non=>cases(show u=Value.none from r);rfl
 |bl b=>cases(show u=Value.bool b from r);rfl
 |int i=>obtain⟨t,e⟩:=(show ∃t,u=Value.int i t from r);cases e;rfl
 |str x=>obtain⟨t,e⟩:=(show ∃t,u=Value.str x t from r);cases e;rfl
 |byt b=>obtain⟨t,e⟩:=(show ∃t,u=Value.bytes b t from r);cases e;rfl
 |flt b=>obtain⟨t,e⟩:=(show ∃t,u=Value.float b t from r);cases e;rfl
 |ref a=>cases(show u=Value.ref a from r);rfl
 |ty n=>cases(show u=Value.type n from r);rfl
section
variable{P:Program}{w:World}{H H':Hp}{h h':Heap}{a C dx:Addr}{fs fs':List (Str×V)}
def oh(hok:HOk P w H h)(e:H a=some (.ins C dx fs)):∃mA,q8 h a dx C mA/\(∀f,my (fs.lookup f) (mA f))/\PySem.Within mA (fs.map (·.1))/\fs.length<=1000/\H dx=some (.own a):=by
 obtain⟨d,z,ne,ob,mA,n,r,q⟩:=(show cY P w H h a (.ins C dx fs)from hok a _ e)
 exact⟨mA,⟨ob,n,ne⟩,r,q,z,d⟩
end
structure Cls(K:PySem.W.Frag)(C:Addr):Prop where
 pg:plainGet K C Str.empty=true
 hd:hasDictIn K C=true
 po:plainOver K C=true
 sa:PySem.W.findIn K (.ref C) "__setattr__"=some (some (.builtin "object.__setattr__"))
def Cls.get{K:PySem.W.Frag}{C:Addr}(c:Cls K C)(f:Str):plainGet K C f=true:=c.pg
def d4(K:PySem.W.Frag)(C:Addr)(f:Str):Prop:=PySem.W.findIn K (.ref C) f=some none
def d4.taker{K:PySem.W.Frag}{C:Addr}{f:Str}(n:d4 K C f):takerIn K C f=some none:=by unfold takerIn;rw[show PySem.W.findIn K (.ref C) f=some none from n];rfl
structure AO(K:PySem.W.Frag)(C:Addr)(m:Str)(f:Addr):Prop where
 at_:PySem.W.findIn K (.ref C) m=some (some (.ref f))
 fn:PySem.W.isFn K (.ref f)=true
 kp:PySem.W.keepIn K (.ref f)=true
section
variable{X:Cx}{gV:HA}{Y:St}{H:Hp}{s:Shared}{a C dx:Addr}{fs:List (Str×V)}{f:Str}{v:V}{A:Around}{E:td}
def qR{b:Bool}{Q:td}(I:Inv X gV Y H s)(e:H a=some (.ins C dx fs))(c:Cls X.K C)(n:d4 X.K C f)(l:fs.lookup f=some v)
  (h:∀u s',Inv X gV Y H s'->bE v u->Q u s'):wpAny (model X.prog X.w) A (getAttr (.ref a) f b) Q E s:=by
 obtain⟨mA,O,r,_,_,_⟩:=oh I.hok e;obtain⟨u,hu,ru⟩:=my.some_of (v:=v) (o:=mA f) (by rw[<- l];exact r f);exact Ag I.kIn O (c.get f) c.hd n hu (uH ru) (h u _ (I.tok _) ru)
def qQ{m:Str}{g:Addr}{pl:Sem Bool}{Q:Value×HD->Shared->Prop}(I:Inv X gV Y H s)(e:H a=some (.ins C dx fs))(c:Cls X.K C)(k:AO X.K C m g)(l:fs.lookup m=none)
  (h:Q (.ref g,[.ref a]) s):wpAny (model X.prog X.w) A (getMethod (.ref a) m pl) Q E s:=by
 obtain⟨mA,O,r,_,_,_⟩:=oh I.hok e;have hn:mA m=none:=my.none_of (by rw[<- l];exact r m);exact xr I.kIn O (c.get m) k.at_ k.fn hn h
def qk{y:V}{u:Value}{Q:Unit->Shared->Prop}(I:Inv X gV Y H s)(e:H a=some (.ins C dx fs))(c:Cls X.K C)(n:d4 X.K C f)(hl:fs.length<1000)(ry:bE y u)
  (h:∀s',Inv X gV Y (upd H a (.ins C dx (fL f y fs))) s'->Q () s'):wpAny (model X.prog X.w) A (setAttr (.ref a) f u) Q E s:=by
 obtain⟨mA,O,r,wi,_,ho⟩:=oh I.hok e;have hz:(fs.map (·.1)).length<=sizeLine:=by rw[length_map,sizeLine_eq];lia
 refine y2 I.kIn O c.sa c.po n.taker c.hd wi hz fun h' O' sb=>h _ ?_;have hd:∃o,h'.get? dx=some o:=let⟨o,_,_,e',_⟩:=O'.ns;⟨o,e'⟩
 refine I.write (x:=a) (e:=dx) (by rw[e];exact True.intro) (.inr ho) (fun b q hb z=>(sb.2 b hb).trans z) hd ?_;refine⟨by rw[aG O.ne];exact ho,?_,O.ne,O'.obj,_,O'.ns,fun g=>?_,fun g hg=>?_⟩
 ·have:=j7 f y fs;lia
 ·show my ((fL f y fs).lookup g) (if g=f then some u else mA g);rw[j5];by_cases q:g=f
  ·rw[if_pos q,if_pos q];exact ry
  ·rw[if_neg q,if_neg q];exact r g
 ·by_cases q:g=f
  ·rw[q];exact(jG f y fs).1
  ·refine(jG f y fs).2 g (wi g fun z=>hg ?_);show(if g=f then some u else mA g)=none;rw[if_neg q];exact z
def Inv.made(I:Inv X gV Y H s):Inv X gV Y (upd (upd H s.heap.objs.size (.own (s.heap.objs.size+1))) (s.heap.objs.size+1) (.ins C s.heap.objs.size []))
  {s with heap:=(s.heap.push emptyDict).push (instObj C s.heap.objs.size)}:=by
 have e1:(s.heap.push emptyDict).get? s.heap.objs.size=some emptyDict:=get?_push_size s.heap rfl;have e2:((s.heap.push emptyDict).push (instObj C s.heap.objs.size)).get? (s.heap.objs.size+1)=some (instObj C s.heap.objs.size):=by
  have:=get?_push_size (s.heap.push emptyDict) (o:=instObj C s.heap.objs.size) rfl
  rwa [size_push]at this
 have e3:(s.heap.push emptyDict).Ns s.heap.objs.size (fun _=>none):=⟨emptyDict,#[],_,e1,rfl,(fun e he=>absurd he (by simp)),fun _=>rfl⟩
 have I1:=I.laid (a:=s.heap.objs.size) (o:=.own (s.heap.objs.size+1)) (h':=s.heap.push emptyDict) (t':=s.toks) (fun b u q=>get?_push_of_some _ q) (Nat.le_refl _) ⟨_,e1⟩;refine I1.laid (a:=s.heap.objs.size+1) (o:=.ins C s.heap.objs.size []) (t':=s.toks) (fun b u q=>get?_push_of_some _ q) (Nat.le_of_eq (size_push _ _)) ?_;have ne:s.heap.objs.size≠s.heap.objs.size+1:=Nat.ne_of_lt (Nat.lt_succ_self _);refine⟨by rw[aG ne,bA],zero_le _,ne,e2,fun _=>none,(Heap.Ns1.of_empty e3).at fun o q=>get?_push_of_some _ q,fun _=>True.intro,fun y hy=>absurd rfl hy⟩
def AK{prog:Program}{w:World}{env:Env}{e:Expr}{f:Str}{pos:Pos}{s:Shared}{Q:td}(hb:attributeBase e f env (eval e env)=eval e env)
  (h:wpAny (model prog w) A (eval e env) (fun o s₁=>wpAny (model prog w) A (getAttr o f true) Q E s₁) E s):wpAny (model prog w) A (eval (.Attribute e f pos) env) Q E s:=
 Attribute_any_ h (by rw[arm_eval_Attribute,hb])
end
def E7(K:PySem.W.Frag)(ta:TE)(f:Str):TE:=fun Y H Q=>ta Y H fun x H1=>∃a C dx fs v,x=.ref a/\H1 a=some (.ins C dx fs)/\Cls K C/\d4 K C f/\fs.lookup f=some v/\Q v H1
def sFld(K:PySem.W.Frag)(ta tv:TE)(f:Str):TS:=fun D Y H=>tv Y H fun y H1=>ta Y H1 fun x H2=>∃a C dx fs,x=.ref a/\H2 a=some (.ins C dx fs)/\Cls K C/\d4 K C f/\fs.length<1000 /\
 D.nx Y (upd H2 a (.ins C dx (fL f y fs)))
section
variable{X:Cx}{o e value:Expr}{f:Str}{pos pos' tpos:Pos}{ta tv:TE}
def Cv(he:PE X e ta)(hb:attributeBase e f X.env (eval e X.env)=eval e X.env):PE X (.Attribute e f pos) (E7 X.K ta f):=by intro gV s Y H Q I h;refine AK hb (thn (he gV s Y H _ I h) fun u s1 zz=>?_);obtain⟨x,H1,I1,rx,a,C,dx,fs,v,ex,ea,c,n,l,q⟩:=zz;subst ex;obtain rfl:u=Value.ref a:=rx;exact qR I1 ea c n l fun u' s2 I2 ru=>⟨v,H1,I2,ru,q⟩
def Ch(ha:PE X o ta)(hv:PE X value tv)(hs:swapsWith value (some (.Attribute o f pos')) pos.line X.env=pure false):PS X (.Assign [.Attribute o f pos'] value pos) (sFld X.K ta tv f):=by intro gV s Y H D I h;refine plainObj_wpAny_Assign_Attribute (thn (hv gV s Y H _ I h) fun u s1 ⟨y,H1,I1,ry,q⟩=>thn (ha gV s1 Y H1 _ I1 q) fun ov s2 zz=>?_) hs;obtain⟨x,H2,I2,rx,a,C,dx,fs,ex,ea,c,n,l,q2⟩:=zz;subst ex;obtain rfl:ov=Value.ref a:=rx;exact qk I2 ea c n l ry fun s3 I3=>⟨Y,_,I3,q2⟩
end
end L2
namespace L2
open PySem PySem.Spec PyProof.Rows
structure c9(k:Nat)(A:Around):Prop where
 hd:A.handled=none
 dp:A.depth+3*k+5<recursionLimit
 un:A.units+16*k+200<cLine
def c9.mono{j k:Nat}{A:Around}(r:c9 k A)(h:j<=k):c9 j A:=⟨r.hd,by have:=r.dp;lia,by have:=r.un;lia⟩
def c9.deeper{k:Nat}{A:Around}(r:c9 (k+1) A)(env:Env):c9 k (A.deeper env):=
 ⟨r.hd,by have:=r.dp;show A.depth+1+3*k+5<_;lia,by have:=r.un;show A.units+3+16*k+200<_;lia⟩
def qF{A:Around}{C:Addr}{us:HD}{kw:List (Str×Value)}:(A.under (.builtin "type.__call__" ⟨.ref C::us,kw⟩)).depth=A.depth+1:=by
 first|rfl|simp[Around.under,Code.weight,Code.isCreation,Code.isGuard,Code.isCaller,Code.frames,Code.isFrame,guardIds]
def qE{A:Around}{C:Addr}{us:HD}{kw:List (Str×Value)}:(A.under (.builtin "type.__call__" ⟨.ref C::us,kw⟩)).units=A.units+1:=by
 first|rfl|simp[Around.under,Code.cUnits,Code.frames,Code.isFrame]
def c9.make{k:Nat}{A:Around}(r:c9 (k+1) A)(C:Addr)(us:HD)(kw:List (Str×Value)):c9 k (A.under (.builtin "type.__call__" ⟨.ref C::us,kw⟩)):=
 ⟨r.hd,by have:=r.dp;rw[qF];lia,by have:=r.un;rw[qE];lia⟩
def c9.depth{k:Nat}{A:Around}(r:c9 k A):A.depth<recursionLimit:=by have:=r.dp;lia
def c9.units{k:Nat}{A:Around}(r:c9 k A):A.units+64<cLine:=by have:=r.un;lia
def G0:TA:=fun _ H Q=>Q [] H
def E9(ta:TE)(tr:TA):TA:=fun Y H Q=>ta Y H fun x H1=>tr Y H1 fun xs H2=>Q (x::xs) H2
section
variable{X:Cx}{e:Expr}{es:List Expr}{te:TE}{t:TA}{pos:Pos}
def gX:PA X [] G0:=fun _ _ _ _ H Q I h=>Calls.spliced_nil ⟨[],H,I,.nil,h⟩
def dM(ha:PE X e te)(hr:PA X es t)(hs:starEach (e::es) X.env=(false,eval e X.env)::starEach es X.env:=by rfl):PA X (e::es) (E9 te t):=by intro pos gV s Y H Q I h;rw[hs];show wpAny _ _ (spliced ((false,eval e X.env)::backTo pos (starEach es X.env))) _ _ s;refine Calls.spliced_cons (thn (ha gV s Y H _ I h) fun u s1 zz=>?_);obtain⟨x,H1,I1,r1,q1⟩:=zz;exact thn (hr pos gV s1 Y H1 _ I1 q1) fun us s2 ⟨xs,H2,I2,r2,q2⟩=>⟨x::xs,H2,I2,.cons r1 r2,q2⟩
def GV(t:TA):TE:=fun Y H Q=>t Y H fun xs H1=>xs.length<=sizeLine/\∀p,H1 p=none->Q (.ref p) (upd H1 p (.tup xs))
def G1(t:TA):TE:=fun Y H Q=>t Y H fun xs H1=>xs.length<=sizeLine/\∀p,H1 p=none->Q (.ref p) (upd H1 p (.lst xs))
def qr{x1}(h:PA X es t):PE X (.Tuple es x1 pos) (GV t):=by intro gV s Y H Q I hq;refine wpAny_Tuple_spliced (thn (h pos gV s Y H _ I hq) fun us s1 ⟨xs,H1,I1,r,z,q⟩=>⟨by rw[<- r.length];exact z,?_⟩);have hf:H1 s1.heap.objs.size=none:=I1.hok.fresh (Nat.le_refl _);refine⟨.ref s1.heap.objs.size,upd H1 s1.heap.objs.size (.tup xs),I1.laid (t':=s1.toks) (fun b u e=>get?_push_of_some _ e) (Nat.le_refl _) ?_,rfl,q _ hf⟩;exact⟨z,us,r,⟨_,get?_push_size _ rfl,rfl,_,rfl⟩⟩
def Ct(h:PA X es t):PE X (.List es pos) (G1 t):=by intro gV s Y H Q I hq;refine wpAny_List_spliced (thn (h pos gV s Y H _ I hq) fun us s1 ⟨xs,H1,I1,r,z,q⟩=>⟨by rw[<- r.length];exact z,?_⟩);have hf:H1 s1.heap.objs.size=none:=I1.hok.fresh (Nat.le_refl _);refine⟨.ref s1.heap.objs.size,upd H1 s1.heap.objs.size (.lst xs),I1.laid (t':=s1.toks) (fun b u e=>get?_push_of_some _ e) (Nat.le_refl _) ?_,rfl,q _ hf⟩;exact⟨z,us,0,r,get?_push_size _ rfl⟩
end
abbrev Sp:=HI->Hp->VK->XK->Prop
abbrev CXT:=List Env->Hp->Shared->XK->td
structure rg(P:Program)(w:World)(K:PySem.W.Frag)(mg:Hz)(base:Heap)(A:Around)(outer:List Env)(s:Shared)(H:Hp):Prop where
 frames:A.frames=some outer
 mod:Mod K mg base
 bs:∀b o,base.get? b=some o->s.heap.get? b=some o/\H b=none
 bsz:base.objs.size<=s.heap.objs.size
 funs:s.heap.FunFrames base outer
 frf:∀b∈frs outer,H b=none
 hok:HOk P w H s.heap
 bare:AllBare s.gens
def CE(outer:List Env)(P:Program)(w:World)(H:Hp)(s:Shared)(Q:VK)(u:Value)(s':Shared):Prop:=
 ∃v H',s'.os=s.os/\AllBare s'.gens/\Un (frs outer) [] H H' s.heap s'.heap/\HOk P w H' s'.heap/\bE v u/\Q v H'
def CR(CX:CXT)(outer:List Env)(P:Program)(w:World)(H:Hp)(s:Shared)(Q:VK)(E:XK)(r:Result)(s':Shared):Prop:=
 match r with
 |.ok (.ret u)=>CE outer P w H s Q u s'
 |.ok _=>False
 |.error e=>CX outer H s E e s'
structure b9(P:Program)(w:World)(K:PySem.W.Frag)(mg:Hz)(base:Heap)(CX:CXT)(k:Nat)(f:Addr)(fd:FuncData)(ps:HF)(sp:Sp):Prop where
 len:∀vs H Q E,sp vs H Q E->vs.length=ps.length
 run:∀(A:Around) (outer:List Env) (s:Shared) (H:Hp) (args:Args) (us:HD) (vs:HI) (Q:VK) (E:XK),c9 k A->rg P w K mg base A outer s H->BindsTo s fd args (ps.zip us)->aK vs us->sp vs H Q E ->
  codeAny (model P w) A (.call (.ref f) args) (CR CX outer P w H s Q E) s
def b9.mono{P:Program}{w:World}{K:PySem.W.Frag}{mg:Hz}{base:Heap}{CX:CXT}{j k:Nat}{f:Addr}{fd:FuncData}{ps:HF}{sp:Sp}(F:b9 P w K mg base CX j f fd ps sp)(h:j<=k) :
  b9 P w K mg base CX k f fd ps sp:=⟨F.len,fun A outer s H args us vs Q E hr=>F.run A outer s H args us vs Q E (hr.mono h)⟩
def b9.imp{P:Program}{w:World}{K:PySem.W.Frag}{mg:Hz}{base:Heap}{CX:CXT}{k:Nat}{f:Addr}{fd:FuncData}{ps:HF}{sp sp':Sp}(F:b9 P w K mg base CX k f fd ps sp)
  (h:∀vs H Q E,sp' vs H Q E->sp vs H Q E):b9 P w K mg base CX k f fd ps sp':=
 ⟨fun vs H Q E q=>F.len vs H Q E (h _ _ _ _ q),fun A outer s H args us vs Q E hr he hb hv hs=>F.run A outer s H args us vs Q E hr he hb hv (h _ _ _ _ hs)⟩
def rg.make{P:Program}{w:World}{K:PySem.W.Frag}{mg:Hz}{base:Heap}{A:Around}{outer:List Env}{s:Shared}{H:Hp}(e:rg P w K mg base A outer s H)(C:Addr)(us:HD)(kw:List (Str×Value)) :
  rg P w K mg base (A.under (.builtin "type.__call__" ⟨.ref C::us,kw⟩)) outer s H:=⟨by first|exact e.frames |(simpa[Around.under,Code.envs,Code.isFrame,pushEnvs]using e.frames),e.mod,e.bs,e.bsz,e.funs,e.frf,e.hok,e.bare⟩
section
variable{X:Cx}{gV:HA}{Y:St}{H:Hp}{s s':Shared}
def Inv.env0(I:Inv X gV Y H s):rg X.prog X.w X.K X.mg X.base X.A X.stack s H:=
 ⟨I.ok.frames,I.ok.mod,I.bs,Nat.le_trans I.ok.bsz I.sz,I.stack,I.stkFree,I.hok,I.bare⟩
def Inv.after{Q:VK}{u:Value}(I:Inv X gV Y H s)(h:CE X.stack X.prog X.w H s Q u s'):EP X gV Y Q u s':=by obtain⟨v,H',os,bare,un,hok,r,q⟩:=h;obtain⟨hh,g,d,t,os'⟩:=s';obtain rfl:os'=s.os:=os;exact⟨v,H',I.call (h':=hh) (g':=g) (d':=d) (t':=t) (ch:=[]) un hok bare (fun b z=>absurd z (by simp)),r,q⟩
end
def dy(K:PySem.W.Frag)(fd:FuncData)(ps:HF)(ds:HD):Prop:=
 ∀(s:Shared) (us:HD),K.In s.heap->(us++ds).length=ps.length->BindsTo s fd ⟨us,[]⟩ (ps.zip (us++ds))
def dy.all{K:PySem.W.Frag}{fd:FuncData}{ps:HF}(h:∀us:HD,us.length=ps.length->bindArgs fd ⟨us,[]⟩=pure (ps.zip us)):dy K fd ps []:=fun s us _ hl=>by rw[append_nil]at hl ⊢;exact .of_eq (h us hl)
section
variable{X:Cx}{CX:CXT}{k:Nat}{f C:Addr}{fd:FuncData}{ps:HF}{sp:Sp}{dvs:HI}{ds:HD}{E:XK}{x m:Str}{p pos apos:Pos}{e o:Expr}{es:List Expr}{ta:TE}{t:TA}
structure Mk(K:PySem.W.Frag)(C f:Addr):Prop where
 makes:makesIn K C=true
 init:PySem.W.findIn K (.ref C) "__init__"=some (some (.ref f))
 fn:PySem.W.isFn K (.ref f)=true
 kp:PySem.W.keepIn K (.ref C)=true
end
structure cG(N P:HF)(sc:Scope):Prop where
 kind:sc.kind=.function
 co:sc.isCoroutine=false
 gen:sc.isGenerator=false
 nd:N.Nodup
 pre:N.take P.length=P
 par:∀x∈P,sc.names.lookup x=some .local\/sc.names.lookup x=some .cell
 nofree:∀y∈sc.names,y.2≠.free
def ng{kindOf:Str->Option NameKind}{x:Str}:∀{binds:List (Str×Value)}{m:Hz},(∀v,(x,v)∉ binds)->bindL kindOf binds m x=m x
 | [],_,_=>rfl
 |(n,v)::r,m,h=>by
  unfold bindL;rw[ng fun w hw=>h w (mem_cons_of_mem _ hw)];split
  ·have:x≠n:=by rintro rfl;exact h v mem_cons_self
   simp[this]
  ·rfl
def nq{kindOf:Str->Option NameKind}{x:Str}:∀{binds:List (Str×Value)}{m:Hz},(∀v,(x,v)∉ binds)->bindC kindOf binds m x=m x
 | [],_,_=>rfl
 |(n,v)::r,m,h=>by
  unfold bindC;rw[nq fun w hw=>h w (mem_cons_of_mem _ hw)];split
  ·rfl
  ·have:x≠n:=by rintro rfl;exact h v mem_cons_self
   simp[this]
def nh{kindOf:Str->Option NameKind}{x:Str}{v:Value}:∀{P:HF}{vs:HD}{i:Nat}{m:Hz},P.Nodup->P[i]?=some x->vs[i]?=some v->kindOf x=some .local ->
  bindL kindOf (P.zip vs) m x=some v
 | [],_,_,_,_,h,_,_|_::_,[],_,_,_,_,h,_=>by simp at h
 |p::P,w::vs,0,m,nd,h1,h2,hk=>by simp at h1 h2;subst h1;subst h2;show bindL kindOf ((p,w)::P.zip vs) m p=_;unfold bindL;rw[ng fun v hv=>(nodup_cons.mp nd).1 (List.of_mem_zip hv).1,if_pos hk];simp
 |p::P,w::vs,i+1,m,nd,h1,h2,hk=>by show bindL kindOf ((p,w)::P.zip vs) m x=_;unfold bindL;exact nh (i:=i) (nodup_cons.mp nd).2 (by simpa using h1) (by simpa using h2) hk
def nr{kindOf:Str->Option NameKind}{x:Str}{v:Value}:∀{P:HF}{vs:HD}{i:Nat}{m:Hz},P.Nodup->P[i]?=some x->vs[i]?=some v->kindOf x≠some .local ->
  bindC kindOf (P.zip vs) m x=some v
 | [],_,_,_,_,h,_,_|_::_,[],_,_,_,_,h,_=>by simp at h
 |p::P,w::vs,0,m,nd,h1,h2,hk=>by simp at h1 h2;subst h1;subst h2;show bindC kindOf ((p,w)::P.zip vs) m p=_;unfold bindC;rw[nq fun v hv=>(nodup_cons.mp nd).1 (List.of_mem_zip hv).1,if_neg hk];simp
 |p::P,w::vs,i+1,m,nd,h1,h2,hk=>by show bindC kindOf ((p,w)::P.zip vs) m x=_;unfold bindC;exact nr (i:=i) (nodup_cons.mp nd).2 (by simpa using h1) (by simpa using h2) hk
def fW(N:HF)(vs:HI):St:=vs.map some++replicate (N.length-vs.length) none
def dv(CX:CXT)(P:Program)(w:World)(K:PySem.W.Frag)(mg:Hz)(base:Heap)(N:HF)(qual:Str)(scope:Scope)(f:Addr)(cd:Value)(A:Around)(outer:List Env)(s:Shared)(H:Hp)(E:XK):Cx where
 prog:=P
 w:=w
 K:=K
 mg:=mg
 base:=base
 A:=A.deeper (envOfC qual scope s.heap.objs.size f cd)
 N:=N
 s₀:=s
 H₀:=H
 env:=envOfC qual scope s.heap.objs.size f cd
 outer:=outer
 stack:=envOfC qual scope s.heap.objs.size f cd::outer
 ex:=[]
 calm:=true
 fn:=fun _=>true
 pn:=[]
 xe:=fun e s'=>wpAny (model P w) (A.deeper (envOfC qual scope s.heap.objs.size f cd)) (leaving (envOfC qual scope s.heap.objs.size f cd) e) (fun _ s''=>CX outer H s E e s'') (fun e' s''=>CX outer H s E e' s'') s'
def pZ{sc:Scope}{n:Nat}{x:Str}(h:sc.names.lookup x=some .cell):∃c,(cellsFrom n sc.names []).lookup x=some c:=by have q:=PySem.W.cellsFrom_some sc.names n [] (.inl h);exact isSome_iff_exists.mp q
def uE{CX:CXT}{P:Program}{w:World}{K:PySem.W.Frag}{mg:Hz}{base:Heap}{N ps:HF}{qual:Str}{scope:Scope}{f:Addr}{cd:Value}{A:Around}{outer:List Env}{s s1:Shared}{H:Hp}{E:XK}{us:HD}{vs:HI}
  (S:cG N ps scope) (hd:A.handled=none) (e0:rg P w K mg base A outer s H) (hl:vs.length=ps.length) (r:aK vs us)
  (x:InCallC s s.heap.objs.size (bindL (envOfC qual scope s.heap.objs.size f cd).kindOf (ps.zip us) fun _=>none) (cellsFrom (s.heap.objs.size+1) scope.names []) (bindC (envOfC qual scope s.heap.objs.size f cd).kindOf (ps.zip us) fun _=>none) s1) :
  Inv (dv CX P w K mg base N qual scope f cd A outer s H E) [] (fW N vs) H s1:=by
 have hpl:ps.length<=N.length:=by have:=congrArg List.length S.pre;rw[length_take]at this;lia
 obtain⟨h1,tk,rfl,hk⟩:=x.done;have noA:∀b:Addr,b ∉(dv CX P w K mg base N qual scope f cd A outer s H E).ex:=fun b z=>absurd (show b ∈([]:HE)from z) (by simp);refine ⟨⟨e0.mod,S.kind,rfl,rfl,Nat.le_refl _,fun y z c h1 h2=>?_,fun y hy=>?_,fun y c _ h=>?_,fun _=>hd,Around.frames_deeper e0.frames,.inr ⟨rfl,rfl⟩,fun b z=>absurd z (noA b),e0.bs,e0.bsz,fun b _ _=>noA b,fun b z=>absurd z (noA b),e0.funs,e0.frf⟩,
  rfl,e0.bare,Un.kept hk,⟨_,x.toInCall.ns,fun i y v h1 h2 h3=>?_⟩,fun y c h=>⟨_,x.cell y c h⟩,e0.hok.fresh (Nat.le_refl _),fun y c h=>?_,fun p hp=>absurd (show p ∈([]:HA)from hp) (by simp),e0.hok.kept hk,?_⟩
 ·exact name_of_addr x.apart (PySem.mem_of_lookup h1) (PySem.mem_of_lookup h2)
 ·have hy:scope.names.lookup y=some .cell\/scope.names.lookup y=some .free:=hy;rcases hy with hy|hy
  ·exact pZ hy
  ·exact absurd rfl (S.nofree _ (PySem.mem_of_lookup hy))
 ·exact Nat.le_of_lt (x.above y c (PySem.mem_of_lookup h))
 ·have hi:i<vs.length:=by
   unfold fW at h2;by_cases hi:i<vs.length
   ·exact hi
   ·rw[getElem?_append_right (by simpa using hi)]at h2;rw[getElem?_replicate]at h2;split at h2<;>cases h2
  have ha:vs[i]?=some v:=by
   unfold fW at h2;rw[getElem?_append_left (by simpa using hi),getElem?_map]at h2;cases e:vs[i]? with
   |none=>rw[e]at h2;cases h2
   |some a=>rw[e]at h2;cases h2;rfl
  obtain⟨u,hu,rv⟩:=r.get ha;have hp:ps[i]?=some y:=by rw[<- S.pre,List.getElem?_take_of_lt (by lia)];exact h1
  have ndP:ps.Nodup:=by rw[<- S.pre];exact S.nd.sublist (List.take_sublist _ _)
  refine⟨u,rv,?_⟩;rcases S.par y (List.mem_of_getElem? hp)with k|k
  ·exact .inl ⟨k,nh ndP hp hu k⟩
  ·obtain⟨c,e⟩:=pZ (n:=s.heap.objs.size+1) k;refine .inr ⟨.inl k,c,e,?_⟩;have q:=x.cell y c e;rw[nr ndP hp hu (by show scope.names.lookup y≠_;rw[k];decide)]at q;exact q
 ·exact .inl (e0.hok.fresh (Nat.le_of_lt (x.above y c (PySem.mem_of_lookup h))))
 ·unfold fW;show _=N.length;rw[length_append,length_map,List.length_replicate]
  lia
def Cx.low(X:Cx)(g:Str->Bool):Cx:={X with fn:=g}
def Hl(g:Str->Bool)(X:Cx)(st:List Stmt)(t:TS):Prop:=
 ∀(gV:HA) (s:Shared) (Y:St) (H:Hp) (D:Ends),Inv X gV Y H s->t D Y H->wpAny (model X.prog X.w) X.A (execs st X.env) (SP (X.low g) gV D) X.xe s
def DD(g:Str->Bool){CX:CXT}{P:Program}{w:World}{K:PySem.W.Frag}{mg:Hz}{base:Heap}{k:Nat}{f:Addr}{name qual:Str}{params:Arguments}{body:List Stmt}{scope:Scope}{dV kV doc pm cdv ct oc:Value}{an od:Option Addr}
  {osl:Array (Option Value)}{N ps:HF}{sp:Sp} (lk:K.lookup f=some ⟨oc,od,.func (PySem.W.fnOf name qual params body scope dV kV doc pm an cdv ct),osl⟩) (hcd:PySem.W.codeIn K cdv qual=true) (S:cG N ps scope)
  (len:∀vs H Q E,sp vs H Q E->vs.length=ps.length)
  (hbody:∀ (A:Around) (outer:List Env) (s:Shared) (H:Hp) (vs:HI) (Q:VK) (E:XK),c9 k (A.deeper (envOfC qual scope s.heap.objs.size f cdv))->sp vs H Q E ->
   ∃t,Hl g (dv CX P w K mg base N qual scope f cdv A outer s H E) body t/\t {nx:=fun _ H'=>Q .non H',rt:=Q} (fW N vs) H) :
  b9 P w K mg base CX (k+1) f (PySem.W.fnOf name qual params body scope dV kV doc pm an cdv ct) ps sp:=by
 refine⟨len,fun A outer s H args us vs Q E hr e0 hb r hsp=>?_⟩;have hl:=len _ _ _ _ hsp;have KX:K.In s.heap:=e0.mod.kin.keeps fun b o e=>(e0.bs b o e).1;have lim:s.heap.NoLimit:=e0.mod.nolimit.keeps fun b o e=>(e0.bs b o e).1;have hkind:∀y∈ps.zip us,scope.names.lookup y.1=some .local \/(scope.names.lookup y.1=some .cell/\((cellsFrom (s.heap.objs.size+1) scope.names []).lookup y.1).isSome=true):=fun hz1 hy=>by
  obtain⟨n,v⟩:=hz1;rcases S.par n (List.of_mem_zip hy).1 with q|q
  ·exact .inl q
  ·exact .inr ⟨q,PySem.W.cellsFrom_some _ _ _ (.inl q)⟩
 refine codeAny_call_function hr.depth (KX _ _ lk) rfl S.co S.gen rfl (PySem.W.codeRec_of KX hcd) (hb _ _ _ _ ?_);refine wpAny_newFunctionEnv_cells S.kind hkind fun env he s1 x=>?_;subst he;refine⟨lim.keeps x.toInCall.keep,codeAny_func ?_⟩;obtain⟨t,ht,hq⟩:=hbody A outer s H vs Q E (hr.deeper _) hsp;have I:Inv (dv CX P w K mg base N qual scope f cdv A outer s H E) [] (fW N vs) H s1:=uE S hr.hd e0 hl r x;refine wpAny_mono (ht [] s1 (fW N vs) H _ I hq) (fun fl s' hs=>?_) fun e s' hs=>hs;have fin:∀{σ':St}{H':Hp}{v:V}{u:Value},Inv ((dv CX P w K mg base N qual scope f cdv A outer s H E).low g) [] σ' H' s'->bE v u->Q v H'->CE outer P w H s Q u s':=
  fun {σ' H' v u} J rv q=>⟨v,H',J.os,J.bare,J.base,J.hok,rv,q⟩
 cases fl with
 |ret u=>obtain⟨v,σ',H',J,rv,q⟩:=hs;exact fin J rv q
 |next=>obtain⟨σ',H',J,q⟩:=hs;exact fin (v:=V.non) (u:=Value.none) J rfl q
 |brk=>obtain⟨_,_,_,q⟩:=hs;exact False.elim q
 |cont=>obtain⟨_,_,_,q⟩:=hs;exact False.elim q
def xu{CX:CXT}{P:Program}{w:World}{K:PySem.W.Frag}{mg:Hz}{base:Heap}{k:Nat}{f:Addr}{name qual:Str}{params:Arguments}{body:List Stmt}{scope:Scope}{dV kV doc pm cdv ct oc:Value}{an od:Option Addr}
  {osl:Array (Option Value)}{N ps:HF}{sp:Sp} (lk:K.lookup f=some ⟨oc,od,.func (PySem.W.fnOf name qual params body scope dV kV doc pm an cdv ct),osl⟩) (hcd:PySem.W.codeIn K cdv qual=true) (S:cG N ps scope)
  (len:∀vs H Q E,sp vs H Q E->vs.length=ps.length)
  (hbody:∀ (A:Around) (outer:List Env) (s:Shared) (H:Hp) (vs:HI) (Q:VK) (E:XK),c9 k (A.deeper (envOfC qual scope s.heap.objs.size f cdv))->sp vs H Q E ->
   ∃t,PSs (dv CX P w K mg base N qual scope f cdv A outer s H E) body t/\t {nx:=fun _ H'=>Q .non H',rt:=Q} (fW N vs) H) :
  b9 P w K mg base CX (k+1) f (PySem.W.fnOf name qual params body scope dV kV doc pm an cdv ct) ps sp:=DD (fun _=>true) lk hcd S len hbody
end L2
namespace L2
open PySem PySem.Spec PyProof.Rows
section
variable{X:Cx}{x:Str}{p pos:Pos}{e:Expr}{es:List Expr}{t:TA}{id T:String}{r:HI->Hp->VK->Prop}
def tCB(r:HI->Hp->VK->Prop)(t:TA):TE:=fun Y H Q=>t Y H fun vs H1=>r vs H1 Q
def pb(hc:eV X (.builtin id) r)(hg:Gl X x)(hm:X.mg x=none)(hv:bootBuiltins x=some (.builtin id))(ha:PA X (e::es) t)(hn:x≠"__name__":=by decide)(hdb:(x ==("__debug__":Str))=false:=by decide)
  (he:starEach (e::es) X.env=(false,eval e X.env)::starEach es X.env:=by rfl) (hpl:(backTo pos (starEach es X.env)).any (·.1)=false:=by rfl):PE X (.Call (.Name x p) (e::es) [] pos) (tCB r t):=by
 intro gV s Y H Q I h;refine wpAny_Call_Name_kw (jF I hg hm hv ?_ hn hdb);exact PyProof.Rows.callWith_builtin1 (thn (ha pos gV s Y H _ I h) fun us s1 ⟨vs,H1,I1,r1,q1⟩=>hc gV s1 Y H1 vs us Q I1 r1 q1) he hpl
def mR(hc:eV X (.type T) r)(hg:Gl X x)(hm:X.mg x=none)(hv:bootBuiltins x=some (.type T))(ha:PA X (e::es) t)(hn:x≠"__name__":=by decide)(hdb:(x ==("__debug__":Str))=false:=by decide)
  (he:starEach (e::es) X.env=(false,eval e X.env)::starEach es X.env:=by rfl) (hpl:(backTo pos (starEach es X.env)).any (·.1)=false:=by rfl):PE X (.Call (.Name x p) (e::es) [] pos) (tCB r t):=by
 intro gV s Y H Q I h;refine wpAny_Call_Name_kw (jF I hg hm hv ?_ hn hdb);exact PyProof.Rows.callWith_type1 (thn (ha pos gV s Y H _ I h) fun us s1 ⟨vs,H1,I1,r1,q1⟩=>hc gV s1 Y H1 vs us Q I1 r1 q1) he hpl
end
end L2
namespace HT
open PySem PyProof.Rows
section
variable{prog:Program}{w:World}{A:Around}{E:td}{s:Shared}
def sIx(n d:Nat):HG->Nat
 |none=>d
 |some v=>if v<0 then(v+(n:Int)).toNat else min v.toNat n
def sIx_none(n d:Nat):sIx n d none=d:=rfl
def sIx_nat(n d k:Nat):sIx n d (some (k:Int))=min k n:=by show(if(k:Int)<0 then((k:Int)+(n:Int)).toNat else min (k:Int).toNat n)=min k n;rw[if_neg (by lia),toNat_natCast]
end
end HT
namespace L2
open PySem PySem.Spec PyProof.Rows
abbrev TO:=St->Hp->(HG->HJ)->Prop
def PO(X:Cx)(e:Option Expr)(t:TO):Prop:=
 ∀(gV:HA) (s:Shared) (Y:St) (H:Hp) (Q:HG->HJ),Inv X gV Y H s->t Y H Q ->
  wpAny (model X.prog X.w) X.A (evalPart e X.env) (fun u s'=>∃o H',Inv X gV Y H' s'/\IsPart u o/\Q o H') X.xe s
def yS:TO:=fun _ H Q=>Q none H
def E4(t:TE):TO:=fun Y H Q=>t Y H fun x H1=>∃i,x=.int i/\Q (some i) H1
section
variable{X:Cx}{e:Expr}{te:TE}{lo hi:Option Expr}{tl th:TO}{pos p2:Pos}
def zm:PO X none yS:=by intro gV s Y H Q I h;rw[evalPart_none];exact wpAny_pure ⟨none,H,I,.none,h⟩
def zl(h:PE X e te):PO X (some e) (E4 te):=by intro gV s Y H Q I hw;rw[evalPart_some];refine thn (h gV s Y H _ I hw) fun u s1 hz1=>?_;obtain⟨x,H1,I1,r1,q1⟩:=hz1;obtain⟨i,rfl,q⟩:=q1;obtain⟨t,rfl⟩:=r1;exact⟨some i,H1,I1,.int i t,q⟩
def SlR(X:Cx)(r:V->HG->HG->Hp->VK->Prop):Prop:=
 ∀(gV:HA) (s:Shared) (Y:St) (H:Hp) (x:V) (v vl vu:Value) (lo hi:HG) (sl:Addr) (Q:VK),Inv X gV Y H s->bE x v->s.heap.IsSliceOf sl vl vu .none->IsPart vl lo->IsPart vu hi->r x lo hi H Q ->
  ∃T id,typeLookup (.type T) "__getitem__"=pure (some (.builtin id))/\s.TypeIs v T/\wpAny (model X.prog X.w) X.A (getItem v (.ref sl)) (EP X gV Y Q) X.xe s
def tSl(r:V->HG->HG->Hp->VK->Prop)(te:TE)(tl th:TO):TE:=fun Y H Q=>te Y H fun x H1=>tl Y H1 fun l H2=>th Y H2 fun u H3=>r x l u H3 Q
def o_{r:V->HG->HG->Hp->VK->Prop}(hr:SlR X r)(he:PE X e te)(hl:PO X lo tl)(hu:PO X hi th):PE X (.Subscript e (.Slice lo hi none p2) pos) (tSl r te tl th):=by intro gV s Y H Q I h;refine Subscript_ (thn (he gV s Y H _ I h) fun v s1 zz=>?_);obtain⟨x,H1,I1,r1,q1⟩:=zz;refine wpAny_Slice (thn (hl gV s1 Y H1 _ I1 q1) fun vl s2 ⟨l,H2,I2,pl,q2⟩=>thn (hu gV s2 Y H2 _ I2 q2) fun vu s3 zz=>?_);obtain⟨u,H3,I3,pu,q3⟩:=zz;rw[evalPart_none];refine wpAny_pure ?_;have I4:Inv X gV Y H3 {s3 with heap:=s3.heap.push {cls:=.type "slice",data:=.fields #[vl,vu,.none]}}:=I3.kept (t':=s3.toks) fun b ob q=>get?_push_of_some _ q;obtain⟨T,id,hT,ht,hg⟩:=hr gV {s3 with heap:=s3.heap.push {cls:=.type "slice",data:=.fields #[vl,vu,.none]}} Y H3 x v vl vu l u s3.heap.objs.size Q I4 r1 (Heap.IsSliceOf.new ..) pl pu q3;show wpAny (model X.prog X.w) X.A (subscriptTail e (.Slice lo hi none p2) v (.ref s3.heap.objs.size)) (EP X gV Y Q) X.xe {s3 with heap:=s3.heap.push {cls:=.type "slice",data:=.fields #[vl,vu,.none]}};exact tail_any (ops:=[.ref s3.heap.objs.size,v]) ht hT hg (by with_unfolding_all rfl)
def xW(xs:HI)(lo hi:HG):HI:=(xs.drop (HT.sIx xs.length 0 lo)).take (HT.sIx xs.length xs.length hi-HT.sIx xs.length 0 lo)
def pY(xs:HI)(lo hi:HG):(xW xs lo hi).length<=xs.length:=by
 unfold xW;rw[length_take,length_drop]
 lia
end
end L2
namespace L2
open PySem PySem.Spec PyProof.Rows
def ixN(n:Nat)(i:Int):Option Nat:=if 0<=i then(if i<n then some i.toNat else none)else if -(n:Int)<= i then some (i+n).toNat else none
def atI{α:Type}(xs:List α)(i:Int):Option α:=(ixN xs.length i).bind fun j=>xs[j]?
def sy{n:Nat}{i:Int}{j:Nat}(h:ixN n i=some j):seqIndex? i n=some j/\j<n/\-(n:Int)<= i/\i<n:=by
 unfold ixN at h;by_cases h0:0<=i
 ·rw[if_pos h0]at h;by_cases h1:i<n
  ·rw[if_pos h1]at h;have e:i.toNat=j:=Option.some.inj h;exact⟨by rw[seqIndex_of h0 h1,e],by lia,by lia,h1⟩
  ·rw[if_neg h1]at h;cases h
 ·rw[if_neg h0]at h;by_cases h1:-(n:Int)<= i
  ·rw[if_pos h1]at h;have e:(i+n).toNat=j:=Option.some.inj h;exact⟨by rw[seqIndex_neg (by lia) h1,e],by lia,h1,by lia⟩
  ·rw[if_neg h1]at h;cases h
def oG{α:Type}{xs:List α}{i:Int}{v:α}(h:atI xs i=some v):∃j,seqIndex? i xs.length=some j/\xs[j]?=some v/\j<xs.length/\-(xs.length:Int)<= i/\i<xs.length:=by
 unfold atI at h;cases e:ixN xs.length i with
 |none=>rw[e]at h;cases h
 |some j=>rw[e]at h;obtain⟨h1,h2,h3,h4⟩:=sy e;exact⟨j,h1,h,h2,h3,h4⟩
def ja(b:Expr):Prop:=∀o i,subscripted b false o i=operate [o,i] (getItem o i)
def IxR(X:Cx)(r:R2):Prop:=
 ∀(value slice:Expr) (gV:HA) (s:Shared) (Y:St) (H:Hp) (x y:V) (v u:Value) (Q:VK),Inv X gV Y H s->bE x v->bE y u->r x y H Q ->
  subscripted slice false v u=operate [v,u] (getItem v u)->wpAny (model X.prog X.w) X.A (subscriptTail value slice v u) (EP X gV Y Q) X.xe s
def MtR(X:Cx)(id:String)(r:V->HI->Hp->VK->Prop):Prop:=
 ∀(gV:HA) (s:Shared) (Y:St) (H:Hp) (x:V) (xs:HI) (v:Value) (us:HD) (Q:VK),Inv X gV Y H s->bE x v->aK xs us->r x xs H Q ->
  wpAny (model X.prog X.w) X.A (call (.builtin id) (v::us)) (EP X gV Y Q) X.xe s
section
variable{X:Cx}{a b:Expr}{ta tb:TE}{pos:Pos}
def IxR.or{r r':R2}(h:IxR X r)(h':IxR X r'):IxR X (fun x y H Q=>r x y H Q\/r' x y H Q):=by
 intro value slice gV s Y H x y v u Q I rx ry q hs;rcases q with q|q
 ·exact h value slice gV s Y H x y v u Q I rx ry q hs
 ·exact h' value slice gV s Y H x y v u Q I rx ry q hs
def A_{r:R2}(hr:IxR X r)(ha:PE X a ta)(hb:PE X b tb)(hs:ja b):PE X (.Subscript a b pos) (tOp r ta tb):=by intro gV s Y H Q I h;exact Subscript_ (D2 ha hb I h fun v u s2 x y H2 I2 rx ry q=>hr a b gV s2 Y H2 x y v u Q I2 rx ry q (hs _ _))
def B9(K:PySem.W.Frag):R2:=fun x y H Q=>∃p xs i v,x=.ref p/\y=.int i/\SqL K H p xs/\atI xs i=some v/\Q v H
def B7(K:PySem.W.Frag):R2:=fun x y H Q=>∃p xs i v,x=.ref p/\y=.int i/\SqT K H p xs/\atI xs i=some v/\Q v H
def B8:R2:=fun x y H Q=>∃z i c,x=.str z/\y=.int i/\z.length<=sizeLine/\atI z.cps.toList i=some c/\Q (.str ⟨#[c]⟩) H
def z8:IxR X (B9 X.K):=by
 intro value slice gV s Y H x y v u Q I rx ry h hs;obtain⟨p,xs,i,z,rfl,rfl,hq,he,q⟩:=h;cases rx;obtain⟨t,rfl⟩:=ry;obtain⟨its,r,pl,hz⟩:=I.list hq;obtain⟨j,h1,h2,h3,h4,h5⟩:=oG he;obtain⟨w,ew,rw'⟩:=r.get h2;have hl:=r.length;have hn:=g0;have fin:EP X gV Y Q w s:=⟨z,H,I,rw',q⟩
 by_cases h0:0<=i
 ·have hj:i.toNat=j:=by rw[seqIndex_of h0 h5]at h1;exact Option.some.inj h1
  exact item_listR pl.isList h0 (by lia) (by rw[hj];simpa using ew) fin hs
 ·have hj:(i+(its.toArray.size:Int)).toNat=j:=by rw[seqIndex_neg (by lia) h4]at h1;rw[size_toArray,<- hl];exact Option.some.inj h1
  exact subscriptTail_builtinR (x:=w) pl.isList.typeIs slot_list_getitem.lookup
   (wpAny_getItem_list_neg (Q:=fun r s'=>r=w/\EP X gV Y Q r s') pl.isList (by lia) (by rw[size_toArray]<;>lia) (by lia) (by rw[hj];simpa using ew) ⟨rfl,fin⟩) hs
def Dq:IxR X (B7 X.K):=by
 intro value slice gV s Y H x y v u Q I rx ry h hs;obtain⟨p,xs,i,z,rfl,rfl,hq,he,q⟩:=h;cases rx;obtain⟨t,rfl⟩:=ry;obtain⟨its,r,pl,hz⟩:=I.tuple hq;obtain⟨j,h1,h2,h3,h4,h5⟩:=oG he;obtain⟨w,ew,rw'⟩:=r.get h2;have hl:=r.length;have hn:=g0;have fin:EP X gV Y Q w s:=⟨z,H,I,rw',q⟩
 exact subscriptTail_builtinR (x:=w) pl.typeIs slot_tuple_getitem.lookup
  (getItem_tuple (j:=j) (Q:=fun r s'=>r=w/\EP X gV Y Q r s') pl (by lia) (by lia) (by rw[size_toArray,<- hl];exact h1) (by simpa using ew) ⟨rfl,fin⟩) hs
def Dr:IxR X B8:=by
 intro value slice gV s Y H x y v u Q I rx ry h hs;obtain⟨z,i,c,rfl,rfl,hz,he,q⟩:=h;obtain⟨t,rfl⟩:=rx;obtain⟨t',rfl⟩:=ry;obtain⟨j,h1,h2,h3,h4,h5⟩:=oG he;have hl:z.cps.toList.length=z.length:=by simp[Str.length]
 rw[hl]at h1 h4 h5;have hn:=g0;exact tail_any (typeIs_str s z t) slot_str_getitem.lookup (getItem_str (c:=c) (by
  have e1:decide (i < -(2 ^ 63:Int))=false:=decide_eq_false (by lia);have e2:decide (i >= 2 ^ 63)=false:=decide_eq_false (by lia);rw[e1,e2,Bool.or_false]) (by rw[h1];simpa using h2) ⟨.str ⟨#[c]⟩,H,I.tok _,⟨_,rfl⟩,q⟩) hs
def rIx(K:PySem.W.Frag):R2:=fun x y H Q=>B9 K x y H Q\/B7 K x y H Q\/B8 x y H Q
def Ds:IxR X (rIx X.K):=z8.or (Dq.or Dr)
def qD(its:HD)(n j:Nat)(u:Value):Obj.mapSeq (·.setIfInBounds j u) {cls:=.type "list",data:=.seq its.toArray n}={cls:=.type "list",data:=.seq (its.set j u).toArray n}:=by simp[Obj.mapSeq]
def Inv.lst{gV:HA}{Y:St}{H:Hp}{s:Shared}{p:Addr}{xs:HI}(I:Inv X gV Y H s)(h:H p=some (.lst xs)) :
  ∃(its:HD) (n:Nat),aK xs its/\s.heap.get? p=some {cls:=.type "list",data:=.seq its.toArray n}/\xs.length<=sizeLine:=by
 obtain⟨z,its,n,r,e⟩:=I.hok p _ h;exact⟨its,n,r,e,z⟩
def Inv.lstUpd{gV:HA}{Y:St}{H:Hp}{s:Shared}{p:Addr}{xs ys:HI}{its its':HD}{n n':Nat}{f:Obj->Obj}(I:Inv X gV Y H s)(h:H p=some (.lst xs))
  (ho:s.heap.get? p=some {cls:=.type "list",data:=.seq its.toArray n}) (hf:f {cls:=.type "list",data:=.seq its.toArray n}={cls:=.type "list",data:=.seq its'.toArray n'}) (r:aK ys its') (hz:ys.length<=sizeLine) (t:Nat) :
  Inv X gV Y (upd H p (.lst ys)) {s with heap:=s.heap.update p f,toks:=t}:=by
 have e:(s.heap.update p f).get? p=some {cls:=.type "list",data:=.seq its'.toArray n'}:=by rw[Heap.get?_update_self f ho (by rw[hf]<;>rfl),hf]
 refine I.write (x:=p) (e:=p) (by rw[h];trivial) (.inl rfl) (fun b u hb q=>(get?_update_other _ _ (Ne.symm hb)).trans q) ⟨_,e⟩ ?_;exact⟨hz,its',n',r,e⟩
def Fp:V->V->V->Hp->(HJ)->Prop:=fun o i v H Q=>∃p xs k j,o=.ref p/\i=.int k/\H p=some (.lst xs)/\ixN xs.length k=some j/\Q (upd H p (.lst (xs.set j v)))
def vK:GD X Fp:=by
 intro gV s Y H o i v ov iv u Q I ro ri rv h;obtain⟨p,xs,k,j,rfl,rfl,hp,hj,q⟩:=h;cases ro;obtain⟨t,rfl⟩:=ri;obtain⟨its,n,r,ho,hz⟩:=I.lst hp;obtain⟨h1,h2,h3,h4⟩:=sy hj;have hl:=r.length;have hn:=g0;have I':Inv X gV Y (upd H p (.lst (xs.set j v))) {s with heap:=s.heap.update p (Obj.mapSeq (·.setIfInBounds j u))}:=
  I.lstUpd hp ho (qD its n j u) (r.set rv j) (by rw[length_set];exact hz) s.toks
 by_cases h0:0<=k
 ·have hk:k.toNat=j:=by rw[seqIndex_of h0 h4]at h1;exact Option.some.inj h1
  exact PySem.W.ki_setAt ho h0 (by lia) (by rw[size_toArray,<- hl];exact h4) (by rw[hk];exact⟨_,I',q⟩)
 ·have hk:(k+(its.toArray.size:Int)).toNat=j:=by rw[seqIndex_neg (by lia) h3]at h1;rw[size_toArray,<- hl];exact Option.some.inj h1
  exact PySem.W.ki_setBack ho (by lia) (by rw[size_toArray,<- hl];exact h3) (by lia) (by rw[hk];exact⟨_,I',q⟩)
def nD(lo hi:HG)(n:Nat):(sliceBounds lo hi none n).1=((HT.sIx n 0 lo:Nat):Int)/\(sliceBounds lo hi none n).2.1=((HT.sIx n n hi:Nat):Int)/\(sliceBounds lo hi none n).2.2=1:=by
 refine⟨?_,?_,rfl⟩
 ·cases lo with
  |none=>simp[sliceBounds,HT.sIx]
  |some i=>
   simp only[sliceBounds,HT.sIx,Option.getD_none,show(1:Int)>0 by decide,if_true];by_cases h:i<0
   ·simp only[h,if_true]<;>lia
   ·simp only[h,if_false]<;>lia
 ·cases hi with
  |none=>simp[sliceBounds,HT.sIx]
  |some i=>
   simp only[sliceBounds,HT.sIx,Option.getD_none,show(1:Int)>0 by decide,if_true];by_cases h:i<0
   ·simp only[h,if_true]<;>lia
   ·simp only[h,if_false]<;>lia
def l8(its:HD)(lo hi:HG):slicePick its.toArray lo hi none=((its.drop (HT.sIx its.length 0 lo)).take (HT.sIx its.length its.length hi-HT.sIx its.length 0 lo)).toArray:=by obtain⟨h1,h2,h3⟩:=nD lo hi its.toArray.size;unfold slicePick;rw[h1,h2,h3];simp only[sliceRange_one,pick_run,size_toArray]<;>rfl
def G_(K:PySem.W.Frag):V->HG->HG->Hp->VK->Prop:=fun x lo hi H Q=>∃a xs,x=.ref a/\SqL K H a xs/\∀p,H p=none->Q (.ref p) (upd H p (.lst (xW xs lo hi)))
def yY:SlR X (G_ X.K):=by intro gV s Y H x v vl vu lo hi sl Q I rx hs pl pu h;obtain⟨a,xs,rfl,hx,q⟩:=h;cases rx;obtain⟨its,r,ht,hz⟩:=I.list hx;have hlen:=r.length;refine⟨"list",_,slot_list_getitem.lookup,ht.isList.typeIs,?_⟩;refine wpAny_getItem_list_slice ht.isList hs pl pu .none (by simp) ?_ (by rw[size_toArray]<;>lia);rw[l8,<- hlen];refine⟨.ref s.heap.objs.size,_,I.laid (t':=s.toks) (o:=.lst (xW xs lo hi)) (fun b ob q=>get?_push_of_some _ q) (Nat.le_refl _) ?_,rfl,q _ (I.hok.fresh (Nat.le_refl _))⟩;exact⟨Nat.le_trans (pY xs lo hi) hz,_,0,(r.drop (HT.sIx xs.length 0 lo)).take (HT.sIx xs.length xs.length hi-HT.sIx xs.length 0 lo),get?_push_size _ rfl⟩
def oA:eV X (.builtin "len") (fun xs H Q=>∃p ys,xs=[.ref p]/\(SqL X.K H p ys\/SqT X.K H p ys)/\Q (.int ys.length) H):=by
 intro gV s Y H xs us Q I r h;obtain⟨p,ys,rfl,hq,q⟩:=h;obtain⟨u,rfl,rx⟩:=fV r;cases rx;have hn:=g0;rcases hq with hq|hq
 ·obtain⟨its,r',pl,hz⟩:=I.list hq;have hlen:=r'.length;exact Calls.call_len_list pl.isList (by simp only[size_toArray]<;>lia) ⟨.int ys.length,H,I.tok _,⟨s.toks+1,by rw[size_toArray,hlen]⟩,q⟩
 ·obtain⟨its,r',pl,hz⟩:=I.tuple hq;have hlen:=r'.length;exact len_tuple pl (by simp only[size_toArray]<;>lia) ⟨.int ys.length,H,I.tok _,⟨s.toks+1,by rw[size_toArray,hlen]⟩,q⟩
def oz:eV X (.builtin "len") (fun xs H Q=>∃z,xs=[.str z]/\z.length<=sizeLine/\Q (.int z.length) H):=by intro gV s Y H xs us Q I r h;obtain⟨z,rfl,hz,q⟩:=h;obtain⟨u,rfl,t,rfl⟩:=fV r;have hn:=g0;exact len_str (by lia) ⟨.int z.length,H,I.tok _,⟨_,rfl⟩,q⟩
def mr:eV X (.type "tuple") (fun xs H Q=>∃p ys,xs=[.ref p]/\((SqL X.K H p ys/\∀l,H l=none->Q (.ref l) (upd H l (.tup ys)))\/(SqT X.K H p ys/\Q (.ref p) H))):=by
 intro gV s Y H xs us Q I r h;obtain⟨p,ys,rfl,h⟩:=h;obtain⟨u,rfl,rx⟩:=fV r;cases rx;rcases h with⟨hq,q⟩ |⟨hq,q⟩
 ·obtain⟨its,r',pl,hz⟩:=I.list hq;have hlen:=r'.length;refine call_tuple_list pl.isList (fun h' kp=>?_) (by simp only[size_toArray]<;>lia);have I1:Inv X gV Y H {s with heap:=h'}:=I.kept (t':=s.toks) kp;have I2:Inv X gV Y (upd H h'.objs.size (.tup ys)) {s with heap:=h'.push {cls:=.type "tuple",data:=.seq its.toArray}}:=
   I1.laid (t':=s.toks) (fun b o e=>get?_push_of_some _ e) (Nat.le_refl _) (show cY X.prog X.w _ _ _ (.tup ys)from⟨hz,its,r',IsTup.new _ _⟩)
  exact⟨.ref h'.objs.size,_,I2,rfl,q _ (I1.hok.fresh (Nat.le_refl _))⟩
 ·obtain⟨its,r',pl,hz⟩:=I.tuple hq;exact call_tuple_same pl ⟨.ref p,H,I,rfl,q⟩
def tyV(K:PySem.W.Frag)(T:String)(x:V)(H:Hp):Prop:=match x with
 |.str _=>T="str"
 |.int _=>T="int"
 |.ref p=>(T="list" /\ ∃xs,SqL K H p xs)\/(T="tuple" /\ ∃o,K.lookup p=some o/\o.cls=.type "tuple" /\ o.dict=none)\/
   (T="dict" /\((∃kvs,H p=some (.dK kvs))\/ ∃kvs,H p=some (.dT kvs)))\/(T="set" /\ ∃S n,H p=some (.set S n))
 |_=>False
def BC{gV:HA}{Y:St}{H:Hp}{s:Shared}{T:String}{x:V}{v:Value}(I:Inv X gV Y H s)(r:bE x v)(ty:tyV X.K T x H) :
  s.TypeIs v T/\∀a,v=.ref a->∃ob,s.heap.get? a=some ob/\ob.dict=none:=by
 cases x with
 |str z=>obtain⟨t,rfl⟩:=r;cases(show T="str" from ty);exact⟨typeIs_str s z t,fun _ e=>nomatch e⟩
 |int i=>obtain⟨t,rfl⟩:=r;cases(show T="int" from ty);exact⟨typeIs_int s i t,fun _ e=>nomatch e⟩
 |ref p=>
  cases r;rcases ty with⟨rfl,xs,hq⟩ |⟨rfl,o,hk,hc,hd⟩ |⟨rfl,hk⟩ |⟨rfl,S,n,hk⟩
  ·obtain⟨its,_,pl,_⟩:=I.list hq;refine⟨pl.isList.typeIs,fun a e=>?_⟩;cases e;obtain⟨o,n,e,c,hd,_⟩:=pl;exact⟨o,e,hd⟩
  ·refine⟨⟨o,I.kIn p o hk,hc⟩,fun a e=>?_⟩;cases e;exact⟨o,I.kIn _ o hk,hd⟩
  ·have z:∃o,s.heap.get? p=some o/\o.ExactDict:=by
    rcases hk with⟨kvs,hk⟩ |⟨kvs,hk⟩
    ·obtain⟨_,_,_,_,o,_,_,e,ex,_⟩:=I.hok p _ hk;exact⟨o,e,ex⟩
    ·obtain⟨_,_,_,_,o,_,_,e,ex,_⟩:=I.hok p _ hk;exact⟨o,e,ex⟩
   obtain⟨o,e,ex⟩:=z;refine⟨⟨o,e,ex.1⟩,fun a e2=>?_⟩;cases e2;exact⟨o,e,ex.2.1⟩
  ·obtain⟨o,_,_,_,e,ex,_⟩:=I.hok p _ hk;refine⟨⟨o,e,ex.1⟩,fun a e2=>?_⟩;cases e2;exact⟨o,e,ex.2.1⟩
 |_=>exact False.elim ty
def tBM(K:PySem.W.Frag)(T:String)(r:V->HI->Hp->VK->Prop)(to:TE)(t:TA):TE:=fun Y H Q=>to Y H fun x H1=>tyV K T x H1/\t Y H1 fun xs H2=>r x xs H2 Q
variable{o e:Expr}{es:List Expr}{to:TE}{t:TA}{name:Str}{apos cpos:Pos}{T id:String}{r:V->HI->Hp->VK->Prop}
def r9(pa:PlainAttrs T)(slot:Slot T name id)(hty:typeOf (.builtin id)=pure (.type "method_descriptor"))(hm:MtR X id r)(ho:PE X o to)(ha:PA X (e::es) t)
  (hbase:attributeBase o name X.env (eval o X.env)=eval o X.env:=by rfl)
  (hfew:((backTo cpos (starEach (e::es) X.env)).all (fun x=>!x.1) && (backToKw cpos (keywordEach [] X.env)).all (fun x=>x.1.isSome)
   && decide ((e::es).length+([]:List Keyword).length+(if([]:List Keyword).isEmpty then 0 else 1)<30))=true:=by rfl)
  (hline:(apos.endLine==cpos.line)=true:=by rfl) (hs:starEach (e::es) X.env=(false,eval e X.env)::starEach es X.env:=by rfl) (hplain:(backTo cpos (starEach es X.env)).any (·.1)=false:=by rfl) :
  PE X (.Call (.Attribute o name apos) (e::es) [] cpos) (tBM X.K T r to t):=by
 intro gV s Y H Q I h;refine wpAny_Call_method_late hbase hfew hline rfl (thn (ho gV s Y H _ I h) fun v s1 zz=>?_);obtain⟨x,H1,I1,r1,ty,q1⟩:=zz;obtain⟨h1,h2⟩:=BC I1 r1 ty;refine⟨T,id,pa,slot,hty,h1,h2,?_⟩;have hA:=ha cpos gV s1 Y H1 _ I1 q1;rw[hs]at hA ⊢;refine Calls.callWith_builtin (by show(false ||(backTo cpos (starEach es X.env)).any (·.1))=false;rw[hplain]<;>rfl) (Calls.evalArgs_plain ?_);exact thn hA fun us s2 ⟨vs,H2,I2,r2,q2⟩=>hm gV s2 Y H2 x vs v us Q I2 r1 r2 q2
end
end L2
namespace L2
open PySem PySem.Spec PyProof.Rows
def MtM(X:Cx)(id:String)(r:V->HI->Hp->VK->Prop):Prop:=
 ∀(gV:HA) (s:Shared) (Y:St) (H:Hp) (x:V) (xs:HI) (v:Value) (us:HD) (Q:VK),Inv X gV Y H s->bE x v->aK xs us->r x xs H Q ->
  wpAny (model X.prog X.w) X.A (call (.builtin id) (v::us)) (EP X gV Y Q) X.xe s
def aK.one:∀{x:V}{us:HD},aK [x] us->∃u,us=[u]/\bE x u
 |_,_,.cons r .nil=>⟨_,rfl,r⟩
section
variable{X:Cx}{gV:HA}{Y:St}{H:Hp}{s:Shared}{l b:Addr}{xs ys zs:HI}
def Inv.lset{its its':HD}{n:Nat}{f:HH->HH}{t':Nat}(I:Inv X gV Y H s)(hH:H l=some (.lst xs))
  (e:s.heap.get? l=some {cls:=.type "list",data:=.seq its.toArray n}) (hf:f its.toArray=its'.toArray) (hv:aK ys its') (hz:ys.length<=sizeLine) :
  Inv X gV Y (upd H l (.lst ys)) {s with heap:=s.heap.update l (Obj.mapSeq f),toks:=t'}:=by
 have q:=PySem.IsL.update e f;rw[hf]at q;refine I.write (x:=l) (e:=l) (by rw[hH];exact trivial) (.inl rfl) (fun b' u hb hu=>(get?_update_other s.heap (Obj.mapSeq f) (Ne.symm hb)).trans hu) ⟨_,q⟩ ?_;exact⟨hz,its',_,hv,q⟩
def Inv.lnew{its:HD}{t':Nat}(I:Inv X gV Y H s)(hv:aK ys its)(hz:ys.length<=sizeLine) :
  Inv X gV Y (upd H s.heap.objs.size (.lst ys)) {s with heap:=s.heap.push {cls:=.type "list",data:=.seq its.toArray},toks:=t'}:=
 I.laid (fun _ _ q=>get?_push_of_some _ q) (Nat.le_refl _) ⟨hz,its,0,hv,get?_push_size _ rfl⟩
def Inv.fresh(I:Inv X gV Y H s):H s.heap.objs.size=none:=I.hok.fresh (Nat.le_refl _)
def Inv.lstM(I:Inv X gV Y H s)(hH:H l=some (.lst xs)):xs.length<=sizeLine/\∃(its:HD) (n:Nat),aK xs its/\xs.length=its.length/\s.heap.get? l=some {cls:=.type "list",data:=.seq its.toArray n}:=by obtain⟨z,its,n,r,e⟩:=I.hok l _ hH;exact⟨z,its,n,r,r.length,e⟩
end
section
variable{X:Cx}
def zh:V->HI->Hp->VK->Prop:=fun x vs H Q=>∃l xs y,x=.ref l/\vs=[y]/\H l=some (.lst xs)/\xs.length<sizeLine/\Q .non (upd H l (.lst (xs++[y])))
def jC:MtM X "list.append" zh:=by
 intro gV s Y H x vs v us Q I rx rv h;obtain⟨l,xs,y,rfl,rfl,hH,hz,q⟩:=h;cases rx;obtain⟨u,rfl,ru⟩:=rv.one;obtain⟨z,its,n,r,hl,e⟩:=I.lstM hH;refine call_meets F.slot_list_append ⟨_,e,rfl⟩ F.entry_list_append (F.args_list_append_2 _ _) (PySem.list_append l its.toArray n u (by rw[size_toArray];lia)) ⟨e,?_⟩;refine⟨.non,_,I.lset (its':=its++[u]) hH e (by simp) (r.append (.cons ru .nil)) ?_,rfl,q⟩;rw[length_append,List.length_singleton]
 lia
end
end L2
namespace Att
open PySem PySem.W PySem.Calls PyProof.Rows
def kg{P:Params}{h:Heap}:∀(ns:HC) (vs:HD),WellAll P h vs (ns.map WData.int)->IntsAre vs ns:=by
 intro ns
 induction ns with
 |nil=>intro vs w;rw[List.map_nil]at w;cases w;exact .nil
 |cons n ns ih=>
  intro vs w;rw[map_cons]at w;cases w with
  |cons a b=>cases a;exact .cons _ _ (ih _ b)
def ua{l:OpenLaw}{n:Nat}(hn:l.most=some n){P:Params}{h:Heap}{args:List WData}{vals:HD}
  (hpre:l.row.toRowW.claim.pre args=true) (hwl:WellAll P h vals args) :
  ∃a vs ns,vals=[Value.ref a]/\args=[WData.list (ns.map WData.int)]/\h.get? a=some {cls:=.type "list",data:=.seq vs.toArray}/\IntsAre vs ns/\ns.length<=n:=by
 have hsh:WShape.hasAll [] args [.list .int]=true:=(pre_splitW hpre).1;have hc:l.pre.holds [] {args:=args}=true:=(pre_splitW hpre).2;obtain⟨d,r,rfl,h1,h2⟩:=hasAllW_cons hsh;obtain rfl:=hasAllW_nil h2;obtain⟨xs,rfl,h3⟩:=hasW_list h1;obtain⟨ns,rfl⟩:=items_int h3;have hlen:ns.length<=n:=by
  unfold OpenLaw.pre at hc;have h4:(WTm.not (.lt (.lit (.int (n:Int))) (.len (.arg 0)))).holds [] {args:=[.list (ns.map .int)]}=true:=by have h4:=(holds_andW hc).1;rw[hn]at h4;exact h4
  have h5:=condW_of h4 (w_not (w_lt w_lit (w_len_list (w_arg rfl))));rw[length_map]at h5;refine Nat.le_of_not_lt fun q=>?_;have q':(n:Int) <((ns.length:Nat):Int):=by lia
  first
   |(rw[decide_eq_true q']at h5;exact absurd h5 (by decide))
   |(simp at h5;lia)
 cases hwl with
 |cons w1 w2=>
  cases w2;cases w1 with
  |list ho hall=>exact⟨_,_,ns,rfl,rfl,ho,kg ns _ hall,hlen⟩
def ue(l:OpenLaw)(args:List WData):l.row.toRowW.claim.post args (.bool true) args=true:=
 postW_of (r:=l.row.toRowW) (X:=(true==true))
  (show WShape.has [] (.bool true) .bool=true by first|rfl|decide|simp[WShape.has,WShape.arms,WShape.armsAll])
  (show(WTm.eq .res (.lit (.bool true))).value [] {args:=args,res:=some (.bool true),after:=args}=some (.bool (true==true))from w_eq_bool (w_res rfl) w_lit) rfl
def attach_call{l:OpenLaw}{n:Nat}{q:Program}{loose:HF}{XP:(Hz)->Heap->Prop}{YP:World->Heap->Prop}{d:DefRec}
  (hn:l.most=some n) (hdf:d.params.defaults=[])
  (call:∀ (w:World) (s₀ s₁:Shared) (mg mb:Hz) (fa:Addr) (o:Obj) (pm cd doc:Value) (a:Addr) (vs:HD) (ns:HC),
   Ground q loose [] XP w s₀ mg mb s₁.heap->YP w s₁.heap ->
   s₁.heap.get? fa=some o->o.data=.func (docDef d.name d.params d.body d.scope pm cd doc)->s₁.heap.CodeRec cd d.name->mg d.name=some (.ref fa)->
   s₁.heap.get? a=some {cls:=.type "list",data:=.seq vs.toArray}->IntsAre vs ns->ns.length<=n->s₁.gens=#[]->
   codeAny (model l.prog w) callerA (.call (.ref fa) ⟨[.ref a],[]⟩) (fun r s'=>r=.ok (.ret (.bool true))/\OldK s₁.heap s'.heap/\s'.os=s₁.os/\AllBare s'.gens) s₁) :
  WalkO q loose XP YP l.row.toRowW d [] (fun f vs=>PySem.call f vs):=by
 intro w s₀ s₁ mg mb G js fa o pm cd doc dV kV ho hd hcd hD hmg hg args vals as hpre hlay hrd hwl hlo;obtain rfl:dV=.none:=Dflts.none hD hdf;obtain rfl:kV=.none:=Dflts.noKw hD;obtain⟨a,vs,ns,rfl,rfl,hobj,hints,hlen⟩:=ua hn hpre hwl;refine enter_call (codeAny_mono (call w s₀ s₁ mg mb fa o pm cd doc a vs ns G js ho (fd_plain hd) hcd hmg hobj hints hlen hg) fun r s' hq=>?_);obtain⟨rfl,h2,h3,h4⟩:=hq;exact⟨.inl ⟨.bool true,.bool true,[],rfl,fun _=>rfl,.bool true,ue l _,fun _=>⟨Pairwise.nil,fun _ hm=>(nomatch hm)⟩⟩,h2,h3,h4⟩
end Att
namespace L2
open PySem PySem.Spec PyProof.Rows
def mB:∀{vs:HD}{ns:HC},IntsAre vs ns->aK (ns.map V.int) vs
 |_,_,.nil=>.nil
 |_,_,.cons n t h=>.cons ⟨t,rfl⟩ (mB h)
def EA(H:Hp):Prop:=∀b,H b=none\/∃o xs,H b=some (.frz o (.lst xs))
def xh{P:Program}{w:World}{K:PySem.W.Frag}{mg mb:Hz}{CX:CXT}{k:Nat}{fa a:Addr}{fd:FuncData}{x:Str}{sp:Sp}{s₁:Shared}{vs:HD}{ns:HC}
  (KX:K.In s₁.heap) (hns:s₁.heap.Ns mainGlobals mg) (hb:s₁.heap.Ns builtinsNs mb) (hbb:∀x:Str,x≠"__name__" -> mb x=bootBuiltins x) (hlim:s₁.heap.NoLimit) (hg:s₁.gens=#[])
  (ha:s₁.heap.get? a=some {cls:=.type "list",data:=.seq vs.toArray}) (hi:IntsAre vs ns) (hl:ns.length<=sizeLine) (hr:c9 k callerA)
  (F:∀base:Heap,K.In base->base.Ns mainGlobals mg->b9 P w K mg base CX k fa fd [x] sp) (hbind:∀(s:Shared) (u:Value),BindsTo s fd ⟨[u],[]⟩ [(x,u)])
  (hsp:∀H:Hp,EA H->SqL K H a (ns.map V.int)->sp [.ref a] H (fun v _=>v=.bl true) fun _ _ _=>False)
  (hCX:∀H e s',CX [] H s₁ (fun _ _ _=>False) e s'->False) :
  codeAny (model P w) callerA (.call (.ref fa) ⟨[.ref a],[]⟩) (fun r s'=>r=.ok (.ret (.bool true))/\OldK s₁.heap s'.heap/\s'.os=s₁.os/\AllBare s'.gens) s₁:=by
 have rv:=mB hi;have lenV:=hi.length;have core:∀H:Hp,EA H->SqL K H a (ns.map V.int)->HOk P w H s₁.heap->(∀b,H b≠none->b=a)->(H a≠none->K.lookup a=none)->
   codeAny (model P w) callerA (.call (.ref fa) ⟨[.ref a],[]⟩) (fun r s'=>r=.ok (.ret (.bool true))/\OldK s₁.heap s'.heap/\s'.os=s₁.os/\AllBare s'.gens) s₁:=by
  intro H hO hS hok hA hK;have base_of:∀{b:Addr}{o:Obj},s₁.heap.get? b=some o->H b=none->(oi s₁.heap H).get? b=some o:=fun e n=>xp e n;have noA:∀{b:Addr}{o:Obj}{es:Array DictEntry}{ep:Nat},s₁.heap.get? b=some o->o.data=.dict es ep->H b=none:=fun {b o es ep} e d=>by
   cases q:H b with
   |none=>rfl
   |some u=>have e':b=a:=hA b (by rw[q];simp);subst e';rw[ha]at e;cases e;have d':Data.seq vs.toArray _=Data.dict es ep:=d;cases d'
  have nsK:∀{b:Addr}{m:Hz},s₁.heap.Ns b m->(oi s₁.heap H).Ns b m:=fun {b m} ⟨o,es,ep,e,d,r⟩=>⟨o,es,ep,base_of e (noA e d),d,r⟩
  have hKb:K.In (oi s₁.heap H):=fun b o e=>base_of (KX b o e) (by
   cases q:H b with
   |none=>rfl
   |some u=>
    have e':b=a:=hA b (by rw[q];simp);subst e';rw[hK (by rw[q];simp)]at e;cases e)
  have hM:Mod K mg (oi s₁.heap H):=⟨hKb,nsK hns,⟨mb,nsK hb,hbb⟩,let⟨mc,h1,h2⟩:=hlim;⟨mc,nsK h1,h2⟩⟩
  have e0:rg P w K mg (oi s₁.heap H) callerA [] s₁ H:=⟨rfl,hM,fun b o e=>zG e,Nat.le_of_eq (uG _ _),trivial,fun b hb=>absurd (show b ∈([]:HE)from hb) (by simp),hok,.of_eq hg⟩
  refine codeAny_mono ((F _ hKb (nsK hns)).run callerA [] s₁ H ⟨[.ref a],[]⟩ [.ref a] [.ref a] _ _ hr e0 (hbind s₁ (.ref a)) (.cons rfl .nil) (hsp H hO hS)) fun r s' h=>?_;cases r with
  |error e=>exact(hCX H e s' h).elim
  |ok fl=>
   cases fl with
   |next|brk|cont=>exact False.elim h
   |ret u=>
    obtain⟨v,H',os,bare,un,hok',r',q⟩:=h;have q':v=.bl true:=q;subst q';obtain rfl:u=Value.bool true:=r';refine⟨rfl,OldK.of_keep fun b o e=>?_,os,bare⟩;cases q:H b with
    |none=>exact un.keep b o e q (by intro z;exact absurd (show b ∈([]:HE)from z) (by simp)) (by simp)
    |some u=>
     rcases hO b with z |⟨ob,xs,z⟩
     ·rw[q]at z;cases z
     ·have z2:=un.frzs b ob _ z;obtain⟨e1,_⟩:=hok b _ z;obtain⟨e2,_⟩:=hok' b _ z2;rw[e]at e1;cases e1;exact e2
 cases hk:K.lookup a with
 |some o=>have e:=KX a o hk;rw[ha]at e;cases e;refine core (fun _=>none) (fun _=>.inl rfl) (.inr ⟨_,vs.toArray,_,hk,rfl,rfl,rfl,by rw[size_toArray,lenV];exact hl,by simpa using rv⟩) (fun b u z=>by have z':(none:Option HO)=some u:=z;cases z') (fun b z=>absurd rfl z) fun z=>absurd rfl z
 |none=>
  refine core (fun b=>if b=a then some (.frz {cls:=.type "list",data:=.seq vs.toArray} (.lst (ns.map V.int)))else none) (fun b=>?_) (.inl (.inr ⟨{cls:=.type "list",data:=.seq vs.toArray},if_pos rfl⟩)) (fun b u z=>?_) (fun b z=>?_) fun _=>hk
  ·by_cases hb:b=a
   ·exact .inr ⟨_,_,if_pos hb⟩
   ·exact .inl (if_neg hb)
  ·by_cases hb:b=a
   ·have z':=(if_pos hb).symm.trans z;cases z';subst hb;exact⟨ha,by rw[length_map];exact hl,vs,_,rv,ha⟩
   ·have z':=(if_neg hb).symm.trans z;cases z'
  ·by_cases hb:b=a
   ·exact hb
   ·exact absurd (if_neg hb) z
end L2
namespace L2
open PySem PySem.Spec PyProof.Rows
def yP{l:PySem.W.OpenLaw}{n k:Nat}{q:Program}{loose:HF}{XP:(Hz)->Heap->Prop}{YP:World->Heap->Prop}{d:DefRec}{K:Params->PySem.W.Frag}{CX:World->CXT}{sp:World->Sp}{x:Str}
  (hn:l.most=some n) (hn2:n<=sizeLine) (hdf:d.params.defaults=[]) (hr:c9 k callerA)
  (hY:∀(w:World) (h:Heap),YP w h->(K w.params).In h)
  (F:∀ (w:World) (mg:Hz) (fa:Addr) (h:Heap),(K w.params).In h->h.Ns mainGlobals mg->mg d.name=some (.ref fa) ->
   ∃fd:FuncData,(∀(s:Shared) (u:Value),BindsTo s fd ⟨[u],[]⟩ [(x,u)])/\
    ∀base:Heap,(K w.params).In base->base.Ns mainGlobals mg->b9 l.prog w (K w.params) mg base (CX w) k fa fd [x] (sp w))
  (hsp:∀(w:World) (H:Hp) (a:Addr) (ns:HC),ns.length<=n->EA H->SqL (K w.params) H a (ns.map V.int)->sp w [.ref a] H (fun v _=>v=.bl true) fun _ _ _=>False)
  (hCX:∀(w:World) (H:Hp) (s:Shared) (e:Value) (s':Shared),CX w [] H s (fun _ _ _=>False) e s'->False) :
  PySem.W.WalkO q loose XP YP l.row.toRowW d [] (fun f vs=>PySem.call f vs):=by
 refine Att.attach_call hn hdf fun w s₀ s₁ mg mb fa o pm cd doc a vs ns G js ho hd hcd hmg hobj hints hlen hg=>?_;have KX:=hY w _ js;obtain⟨fd,hb,hF⟩:=F w mg fa _ KX G.T.g hmg;exact xh KX G.T.g G.T.b G.T.builtins G.T.nolimit hg hobj hints (Nat.le_trans hlen hn2) hr hF hb (fun H hO hS=>hsp w H a ns hlen hO hS) fun H e s'=>hCX w H s₁ e s'
end L2
namespace L2
open PySem PySem.Spec PyProof.Rows
def Ac(s:Stmt)(j:Nat):Stmt:=match s with
 |.ClassDef _ _ _ body _ _ _ _ _ _ _=>body.getD j (.Pass ⟨0,0,0,0⟩)
 |_=>.Pass ⟨0,0,0,0⟩
def bW(s:Stmt):Arguments:=match s with
 |.FunctionDef _ a _ _ _ _ _ _ _ _=>a
 |_=>{posonlyargs:=[],args:=[],vararg:=none,kwonlyargs:=[],kw_defaults:=[],kwarg:=none,defaults:=[]}
def bc(s:Stmt):List Stmt:=match s with
 |.FunctionDef _ _ b _ _ _ _ _ _ _=>b
 |_=>[]
def az(s:Stmt):Scope:=match s with
 |.FunctionDef _ _ _ _ _ _ sc _ _ _=>sc
 |_=>{kind:=.function,names:=[],isGenerator:=false,isCoroutine:=false}
structure Fun(K:PySem.W.Frag)(x qual:Str)(st:Stmt)(f:Addr)(fd:FuncData):Prop where
 ex:∃(oc:Value) (od:Option Addr) (kV doc pm:Value) (an:Option Addr) (cdv ct:Value) (osl:Array (Option Value)),
  fd=PySem.W.fnOf x qual (bW st) (bc st) (az st) .none kV doc pm an cdv ct/\K.lookup f=some ⟨oc,od,.func fd,osl⟩/\PySem.W.codeIn K cdv qual=true
 kp:PySem.W.keepIn K (.ref f)=true
section
variable{P:Program}{w:World}{K:PySem.W.Frag}{mg:Hz}{base:Heap}
def Fun.binds{x qual:Str}{st:Stmt}{f:Addr}{fd:FuncData}{ps:HF}(F:Fun K x qual st f fd)
  (h:∀(kV doc pm:Value) (an:Option Addr) (cdv ct:Value) (us:HD),us.length=ps.length->bindArgs (PySem.W.fnOf x qual (bW st) (bc st) (az st) .none kV doc pm an cdv ct) ⟨us,[]⟩=pure (ps.zip us)):dy K fd ps []:=by
 obtain⟨oc,od,kV,doc,pm,an,cdv,ct,osl,rfl,lk,hcd⟩:=F.ex;exact .all (h kV doc pm an cdv ct)
end
end L2
set_option maxHeartbeats 4000000
namespace PR
open PySem
inductive Fl where
 |own|frz|bor|lnt|mod
 deriving DecidableEq
inductive PV where
 |non
 |bl (b:Bool)
 |int (i:Int)
 |str (x:Str)
 |lst (f:Fl) (xs:List PV)
 |tup (xs:List PV)
 |obj (f:Fl) (c:Nat) (ks:List Nat) (vs:List PV)
 |exc (c:Nat)
 |box (k:Nat) (xs:List PV)
abbrev HK:=List PV
mutual
def PV.HW(g:Fl->Fl):PV->PV
 |.non=>.non
 |.bl b=>.bl b
 |.int i=>.int i
 |.str x=>.str x
 |.lst f xs=>.lst (g f) (mapL g xs)
 |.tup xs=>.tup (mapL g xs)
 |.obj f c ks vs=>.obj (g f) c ks (mapL g vs)
 |.exc c=>.exc c
 |.box k xs=>.box k (mapL g xs)
def mapL(g:Fl->Fl):HK->HK
 | []=>[]
 |x::xs=>x.HW g::mapL g xs
end
mutual
def PV.has(p:Fl->Bool):PV->Bool
 |.non|.bl _|.int _|.str _=>false
 |.lst f xs=>p f||hasL p xs
 |.tup xs=>hasL p xs
 |.obj f _ _ vs=>p f||hasL p vs
 |.exc _=>false
 |.box _ xs=>hasL p xs
def hasL(p:Fl->Bool):HK->Bool
 | []=>false
 |x::xs=>x.has p||hasL p xs
end
def Fl.HS:Fl->Bool
 |.lnt=>true
 |_=>false
def Fl.HU:Fl->Bool
 |.bor=>true
 |_=>false
def Fl.HM:Fl->Fl
 |.own=>.lnt
 |f=>f
def Fl.HP:Fl->Fl
 |.own=>.frz
 |f=>f
def Fl.HN:Fl->Fl
 |.lnt=>.bor
 |f=>f
inductive Res(α:Type) where
 |ok (a:α)
 |exc (c:Nat)
 |stuck
abbrev HL:=Res PV
noncomputable def Res.bind{α β:Type}:Res α->(α->Res β)->Res β
 |.ok a,k=>k a
 |.exc c,_=>.exc c
 |.stuck,_=>.stuck
@[simp] def Res.HY{α β:Type}(a:α)(k:α->Res β):(Res.ok a).bind k=k a:=by simp only[Res.bind]
@[simp] def Res.exc_bind{α β:Type}(c:Nat)(k:α->Res β):(Res.exc c:Res α).bind k=.exc c:=rfl
@[simp] def Res.stuck_bind{α β:Type}(k:α->Res β):(Res.stuck:Res α).bind k=.stuck:=rfl
abbrev En:=List (Option PV)
abbrev ME:=En->HL
abbrev MT:=En->Res Bool
abbrev MA:=En->Res (HK)
inductive Out where
 |next (e:En)
 |ret (v:PV)
 |brk (e:En)
 |cont (e:En)
 |exc (c:Nat) (e:En)
 |stuck
abbrev MS:=En->Out
def mC(v:PV):ME:=fun _=>.ok v
abbrev HZ(i:Int):ME:=mC (.int i)
def ad(i:Nat):ME:=fun env=>match env[i]? with
 |some (some v)=>.ok (v.HW Fl.HM)
 |_=>.stuck
def ak:MA:=fun _=>.ok []
def ae(a:ME)(r:MA):MA:=fun env=>(a env).bind fun x=>(r env).bind fun xs=>.ok (x::xs)
def mUn(f:PV->HL)(a:ME):ME:=fun env=>(a env).bind f
def mOp(f:PV->PV->HL)(a b:ME):ME:=fun env=>(a env).bind fun x=>(b env).bind fun y=>f x y
def iy(g:Int->Int->PV):PV->PV->HL
 |.int i,.int j=>.ok (g i j)
 |_,_=>.stuck
def dY(C:Int->Int->Bool)(g:Int->Int->PV):PV->PV->HL
 |.int i,.int j=>if C i j then .ok (g i j)else .stuck
 |_,_=>.stuck
def nW:PV->Res Bool
 |.non=>.ok false
 |.bl b=>.ok b
 |.int i=>.ok (i != 0)
 |.lst _ xs|.tup xs=>.ok (!xs.isEmpty)
 |_=>.stuck
def aA(a:ME):MT:=fun env=>(a env).bind fun
 |.bl b=>.ok b
 |_=>.stuck
def aY(a:ME):MT:=fun env=>(a env).bind nW
def iM(a:MT):MT:=fun env=>(a env).bind fun b=>.ok (!b)
def d6(a b:MT):MT:=fun env=>(a env).bind fun x=>if x then b env else .ok false
def n9(a b:MT):MT:=fun env=>(a env).bind fun x=>if x then .ok true else b env
def f6(c:MT)(a b:ME):ME:=fun env=>(c env).bind fun x=>if x then a env else b env
def aI:MS:=.next
def au(a b:MS):MS:=fun env=>match a env with
 |.next e=>b e
 |o=>o
def mBr(c:MT)(a b:MS):MS:=fun env=>match c env with
 |.ok true=>a env
 |.ok false=>b env
 |.exc k=>.exc k env
 |.stuck=>.stuck
def PV.HV(v:PV):Bool:=!v.has Fl.HS
def b7(env:List (Option PV)):Bool:=match env[0]? with
 |some (some (PV.obj _ _ _ _))=>true
 |_=>false
def aQ(i:Nat)(env:En):Bool:=if i=0 then !b7 env else true
def aH(i:Nat)(e:ME):MS:=fun env=>match e env with
 |.ok v=>if v.HV&&aQ i env then .next (env.set i (some v))else .stuck
 |.exc k=>.exc k env
 |.stuck=>.stuck
def bh(e:ME):MS:=fun env=>match e env with
 |.ok v=>if v.HV then .ret v else .stuck
 |.exc k=>.exc k env
 |.stuck=>.stuck
def fZ(i:Nat):MS:=fun env=>match env[i]? with
 |some (some v)=>.ret v
 |_=>.stuck
def fB(e:ME):MS:=fun env=>match e env with
 |.ok _=>.next env
 |.exc k=>.exc k env
 |.stuck=>.stuck
def gH(i:Nat):MS:=fun env=>match env[i]? with
 |some (some v)=>.next (env.set i (some (v.HW Fl.HP)))
 |_=>.stuck
def l_(body:PV->MS):HK->En->Out
 | [],env=>.next env
 |x::xs,env=>match body x env with
  |.next e|.cont e=>l_ body xs e
  |.brk e=>.next e
  |o=>o
end PR
namespace PR
open PySem PySem.Spec L2
structure Tb where
 K:PySem.W.Frag
 nc:Nat
 cls:Nat->Addr
 att:Nat->Str
 inj:∀i j,att i=att j->i=j
 xcl:Nat->Addr
 dk:Nat->HF:=fun _=>[]
 bx:Nat->Hp->Addr->HI->Prop:=fun k H a vs=>∃o,H a=some (.frz o (.dK (((dk k).map Sum.inr).zip vs)))/\(dk k).length=vs.length
 bxs:∀k (H H':Hp) a vs,(∀b o u,H b=some (.frz o u)->H' b=some (.frz o u))->bx k H a vs->bx k H' a vs:=by exact fun _ _ _ _ _ h ⟨o,q,l⟩=>⟨o,h _ _ _ q,l⟩
 tb:Addr->Option (HH):=fun _=>none
def Hq(C a:Addr):HO:=.ext fun h=>∃o,h.get? a=some o/\o.cls=.ref C
def KL(K:PySem.W.Frag)(a:Addr)(xs:HI):Prop:=∃(o:Obj) (its:HH) (n:Nat),K.lookup a=some o/\o.cls=.type "list" /\ o.dict=none/\o.data=.seq its n/\its.size<=sizeLine/\aK xs its.toList
def p7:Fl->Addr->HE->HE->Prop
 |.own,a,fp',fp=>fp=a::fp'
 |_,_,fp',fp=>fp'=[]/\fp=[]
def ED(F B L:HB):Fl->HB
 |.own,_=>True
 |.frz,a=>F a
 |.bor,a=>B a
 |.lnt,a=>L a
 |.mod,_=>False
def lY(T:Tb)(F B L:HB)(H:Hp):Fl->Addr->HI->Prop
 |.own,a,vs=>H a=some (.lst vs)
 |.lnt,a,vs=>L a/\H a=some (.lst vs)
 |.frz,a,vs=>F a/\Rd H a (.lst vs)
 |.bor,a,vs=>B a/\Rd H a (.lst vs)
 |.mod,a,vs=>KL T.K a vs
def lY.sq(h:lY T F B L H f a vs):SqL T.K H a vs:=by
 cases f with
 |own=>exact SqL.of h
 |lnt=>exact SqL.of h.2
 |frz|bor=>exact .inl h.2
 |mod=>exact .inr h
mutual
def Rel(T:Tb)(F B L:HB)(H:Hp):PV->V->HE->Prop
 |.non,v,fp=>v=.non/\fp=[]
 |.bl b,v,fp=>v=.bl b/\fp=[]
 |.int i,v,fp=>v=.int i/\fp=[]
 |.str x,v,fp=>v=.str x/\fp=[]
 |.lst f xs,v,fp=>∃a vs fp',v=.ref a/\lY T F B L H f a vs/\RelL T F B L H xs vs fp'/\p7 f a fp' fp
 |.tup xs,v,fp=>∃a vs,v=.ref a/\SqT T.K H a vs/\RelL T F B L H xs vs fp
 |.obj f c ks xs,v,fp=>∃a dx vs fp',v=.ref a/\H a=some (.ins (T.cls c) dx ((ks.map T.att).zip vs))/\(ks.length=xs.length/\c<T.nc)/\RelL T F B L H xs vs fp'/\p7 f a fp' fp/\ED F B L f a
 |.exc c,v,fp=>∃a,v=.ref a/\H a=some (Hq (T.xcl c) a)/\fp=[]
 |.box k xs,v,fp=>∃a vs,v=.ref a/\T.bx k H a vs/\RelL T F B L H xs vs fp
def RelL(T:Tb)(F B L:HB)(H:Hp):HK->HI->HE->Prop
 | [],vs,fp=>vs=[]/\fp=[]
 |x::xs,vs,fp=>∃v ws f1 f2,vs=v::ws/\Rel T F B L H x v f1/\RelL T F B L H xs ws f2/\fp=f1++f2
end
def gP:HO->Prop
 |.tup _|.frz _ _|.ext _=>True
 |_=>False
section
variable{T:Tb}{F F' B B' L L':HB}{H H':Hp}
def Rd.tr(h:∀o,H a=some o->H' a=some o)(q:Rd H a u):Rd H' a u:=by
 rcases q with q |⟨o,q⟩
 ·exact .inl (h _ q)
 ·exact .inr ⟨o,h _ q⟩
def SqT.tr(h:∀o,H a=some o->gP o->H' a=some o)(q:SqT K H a vs):SqT K H' a vs:=by
 rcases q with(q |⟨o,q⟩)|q
 ·exact .inl (.inl (h _ q True.intro))
 ·exact .inl (.inr ⟨o,h _ q True.intro⟩)
 ·exact .inr q
def RelL.length:∀{xs:HK}{vs:HI}{fp:HE},RelL T F B L H xs vs fp->xs.length=vs.length
 | [],_,_,h=>by unfold RelL at h;rw[h.1];rfl
 |x::xs,_,_,h=>by unfold RelL at h;obtain⟨v,ws,f1,f2,rfl,_,h2,_⟩:=h;simp[RelL.length h2]
def p7.all{P:HB}(h:p7 f a fp' fp)(hp:∀b∈fp,P b):(f=.own->P a)/\∀b∈fp',P b:=by
 cases f with
 |own=>
  obtain rfl:fp=a::fp':=h
  grind
 |_=>exact⟨fun z=>(nomatch z),by rw[h.1];exact fun _ z=>nomatch z⟩
structure Mp(T:Tb)(g:Fl->Fl)(p:Fl->Bool)(E:HE->HE)(C F B L:HB)(H:Hp)(F' B' L':HB)(H':Hp):Prop where
 hl:∀f a vs,p f=false->(f=.own->C a)->lY T F B L H f a vs->lY T F' B' L' H' (g f) a vs
 hb:∀f a,p f=false->(f=.own->C a)->ED F B L f a->ED F' B' L' (g f) a/\∀o,H a=some o->H' a=some o
 hf:∀f a x y,p7 f a x y->p7 (g f) a (E x) (E y)
 he:E []=[]
 ha:∀x y,E (x++y)=E x++E y
 hx:∀a o,H a=some o->gP o->H' a=some o
mutual
def Mp.rel(M:Mp T g p E C F B L H F' B' L' H') :
  ∀{x:PV}{v:V}{fp:HE},x.has p=false->(∀a∈fp,C a)->Rel T F B L H x v fp->Rel T F' B' L' H' (x.HW g) v (E fp)
 |.non,_,_,_,_,h|.bl _,_,_,_,_,h|.int _,_,_,_,_,h|.str _,_,_,_,_,h=>by unfold Rel at h;simp only[PV.HW];unfold Rel;exact⟨h.1,by rw[h.2,M.he]⟩
 |.lst f xs,_,fp,hp,hc,h=>by unfold Rel at h;obtain⟨a,vs,fp',e,h1,h2,h3⟩:=h;simp only[PV.has,or_eq_false_iff]at hp;obtain⟨c1,c2⟩:=h3.all hc;simp only[PV.HW];unfold Rel;exact⟨a,vs,E fp',e,M.hl f a vs hp.1 c1 h1,Mp.rels M hp.2 c2 h2,M.hf f a fp' fp h3⟩
 |.tup xs,_,fp,hp,hc,h=>by unfold Rel at h;obtain⟨a,vs,e,h1,h2⟩:=h;simp only[PV.HW];unfold Rel;exact⟨a,vs,e,SqT.tr (fun o q z=>M.hx a o q z) h1,Mp.rels M hp hc h2⟩
 |.obj f c ks xs,_,fp,hp,hc,h=>by unfold Rel at h;obtain⟨a,dx,vs,fp',e,h1,hk,h2,h3,h4⟩:=h;simp only[PV.has,or_eq_false_iff]at hp;obtain⟨c1,c2⟩:=h3.all hc;obtain⟨q1,q2⟩:=M.hb f a hp.1 c1 h4;simp only[PV.HW];unfold Rel;have r:=Mp.rels M hp.2 c2 h2;exact⟨a,dx,vs,E fp',e,q2 _ h1,⟨by rw[r.length,hk.1,h2.length],hk.2⟩,r,M.hf f a fp' fp h3,q1⟩
 |.exc c,_,fp,_,_,h=>by unfold Rel at h;obtain⟨a,e,h1,rfl⟩:=h;simp only[PV.HW];unfold Rel;exact⟨a,e,M.hx a _ h1 True.intro,M.he⟩
 |.box k xs,_,fp,hp,hc,h=>by unfold Rel at h;obtain⟨a,vs,e,h1,h2⟩:=h;simp only[PV.HW];unfold Rel;exact⟨a,vs,e,T.bxs k H H' a vs (fun b o u q=>M.hx b _ q True.intro) h1,Mp.rels M hp hc h2⟩
def Mp.rels(M:Mp T g p E C F B L H F' B' L' H') :
  ∀{xs:HK}{vs:HI}{fp:HE},hasL p xs=false->(∀a∈fp,C a)->RelL T F B L H xs vs fp->RelL T F' B' L' H' (mapL g xs) vs (E fp)
 | [],_,_,_,_,h=>by unfold RelL at h;simp only[mapL];unfold RelL;exact⟨h.1,by rw[h.2,M.he]⟩
 |x::xs,_,fp,hp,hc,h=>by unfold RelL at h;obtain⟨v,ws,f1,f2,e,h1,h2,rfl⟩:=h;simp only[hasL,or_eq_false_iff]at hp;simp only[mapL];unfold RelL;exact⟨v,ws,E f1,E f2,e,Mp.rel M hp.1 (fun b hb=>hc b (mem_append_left _ hb)) h1,Mp.rels M hp.2 (fun b hb=>hc b (mem_append_right _ hb)) h2,M.ha f1 f2⟩
end
mutual
def kr:∀x:PV,x.HW (fun f=>f)=x
 |.non|.bl _|.int _|.str _|.exc _=>rfl
 |.lst f xs|.tup xs|.obj f c ks xs|.box k xs=>by simp only[PV.HW,mapL_id xs]
def mapL_id:∀xs:HK,mapL (fun f=>f) xs=xs
 | []=>rfl
 |x::xs=>by simp only[mapL,kr x,mapL_id xs]
end
mutual
def lA:∀x:PV,x.has (fun _=>false)=false
 |.non|.bl _|.int _|.str _|.exc _=>rfl
 |.lst f xs=>by simp only[PV.has,has_noL xs,Bool.or_false]
 |.tup xs=>by simp only[PV.has,has_noL xs]
 |.obj f c ks xs=>by simp only[PV.has,has_noL xs,Bool.or_false]
 |.box k xs=>by simp only[PV.has,has_noL xs]
def has_noL:∀xs:HK,hasL (fun _=>false) xs=false
 | []=>rfl
 |x::xs=>by simp only[hasL,lA x,has_noL xs,Bool.or_false]
end
def Br(hF:∀a,F a->F' a)(hB:∀a,B a->B' a)(hL:∀a,L a->L' a)(hx:∀a o,H a=some o->(F a\/B a\/L a\/gP o)->H' a=some o):Mp T (fun f=>f) (fun _=>false) (fun x=>x) (fun a=>∀o,H a=some o->H' a=some o) F B L H F' B' L' H':=
 ⟨fun f a vs _ c h=>by
  cases f with
  |own=>exact c rfl _ h
  |frz=>exact⟨hF a h.1,Rd.tr (fun o q=>hx a o q (.inl h.1)) h.2⟩
  |bor=>exact⟨hB a h.1,Rd.tr (fun o q=>hx a o q (.inr (.inl h.1))) h.2⟩
  |lnt=>exact⟨hL a h.1,hx a _ h.2 (.inr (.inr (.inl h.1)))⟩
  |mod=>exact h,fun f a _ c h=>by
  cases f with
  |own=>exact⟨True.intro,c rfl⟩
  |frz=>exact⟨hF a h,fun o q=>hx a o q (.inl h)⟩
  |bor=>exact⟨hB a h,fun o q=>hx a o q (.inr (.inl h))⟩
  |lnt=>exact⟨hL a h,fun o q=>hx a o q (.inr (.inr (.inl h)))⟩
  |mod=>exact h.elim,fun _ _ _ _ h=>h,rfl,fun _ _=>rfl,fun a o q z=>hx a o q (.inr (.inr (.inr z)))⟩
def Rel.tr(hF:∀a,F a->F' a)(hB:∀a,B a->B' a)(hL:∀a,L a->L' a)(hx:∀a o,H a=some o->(F a\/B a\/L a\/gP o)->H' a=some o)(hp:∀a∈fp,∀o,H a=some o->H' a=some o)(h:Rel T F B L H x v fp):Rel T F' B' L' H' x v fp:=by
 have:=(Br hF hB hL hx).rel (lA x) hp h
 rwa [kr]at this
def RelL.tr(hF:∀a,F a->F' a)(hB:∀a,B a->B' a)(hL:∀a,L a->L' a)(hx:∀a o,H a=some o->(F a\/B a\/L a\/gP o)->H' a=some o)(hp:∀a∈fp,∀o,H a=some o->H' a=some o)(h:RelL T F B L H x v fp):RelL T F' B' L' H' x v fp:=by
 have:=(Br hF hB hL hx).rels (has_noL x) hp h
 rwa [mapL_id]at this
def Ext(H H':Hp):Prop:=∀a o,H a=some o->H' a=some o
def Ext.refl:Ext H H:=fun _ _ h=>h
def Ext.trans(a:Ext H H1)(b:Ext H1 H2):Ext H H2:=fun c o h=>b c o (a c o h)
def Ext.upd(h:H a=none):Ext H (L2.upd H a o):=fun b u e=>by rw[aG (bM e h)];exact e
def Ext.free(x:Ext H H')(h:H' a=none):H a=none:=by
 cases e:H a with
 |none=>rfl
 |some o=>rw[x a o e]at h;cases h
def Rel.ext(e:Ext H H')(hF:∀a,F a->F' a)(h:Rel T F B L H x v fp):Rel T F' B L H' x v fp:=
 Rel.tr hF (fun _ h=>h) (fun _ h=>h) (fun a o q _=>e a o q) (fun a _ o q=>e a o q) h
def RelL.ext(e:Ext H H')(hF:∀a,F a->F' a)(h:RelL T F B L H xs vs fp):RelL T F' B L H' xs vs fp:=
 RelL.tr hF (fun _ h=>h) (fun _ h=>h) (fun a o q _=>e a o q) (fun a _ o q=>e a o q) h
def Chg:HO->Prop
 |.lst _|.ins _ _ _=>True
 |_=>False
mutual
def Rel.chg:∀{x:PV}{v:V}{fp:HE},Rel T F B L H x v fp->∀a∈fp,∃o,H a=some o/\Chg o
 |.non,_,_,h|.bl _,_,_,h|.int _,_,_,h|.str _,_,_,h=>by unfold Rel at h;rw[h.2];exact fun _ z=>nomatch z
 |.lst f xs,_,fp,h=>by
  unfold Rel at h;obtain⟨a,vs,fp',e,hl,hr,hf⟩:=h;cases f with
  |own=>
   obtain rfl:fp=a::fp':=hf;intro b hb;rcases mem_cons.mp hb with rfl|hb
   ·exact⟨_,hl,True.intro⟩
   ·exact RelL.chg hr b hb
  |frz|bor|lnt|mod=>obtain⟨rfl,rfl⟩:=hf;exact fun _ z=>nomatch z
 |.tup xs,_,fp,h=>by unfold Rel at h;obtain⟨a,vs,e,hl,hr⟩:=h;exact RelL.chg hr
 |.obj f c ks xs,_,fp,h=>by
  unfold Rel at h;obtain⟨a,dx,vs,fp',e,hl,hk,hr,hf,ha⟩:=h;cases f with
  |own=>
   obtain rfl:fp=a::fp':=hf;intro b hb;rcases mem_cons.mp hb with rfl|hb
   ·exact⟨_,hl,True.intro⟩
   ·exact RelL.chg hr b hb
  |frz|bor|lnt|mod=>obtain⟨rfl,rfl⟩:=hf;exact fun _ z=>nomatch z
 |.exc c,_,fp,h=>by unfold Rel at h;obtain⟨a,e,hl,rfl⟩:=h;exact fun _ z=>nomatch z
 |.box k xs,_,fp,h=>by unfold Rel at h;obtain⟨a,vs,e,hl,hr⟩:=h;exact RelL.chg hr
def RelL.chg:∀{xs:HK}{vs:HI}{fp:HE},RelL T F B L H xs vs fp->∀a∈fp,∃o,H a=some o/\Chg o
 | [],_,_,h=>by unfold RelL at h;rw[h.2];exact fun _ z=>nomatch z
 |x::xs,_,_,h=>by
  unfold RelL at h;obtain⟨v,ws,f1,f2,_,h1,h2,rfl⟩:=h;intro b hb;rcases mem_append.mp hb with hb|hb
  ·exact Rel.chg h1 b hb
  ·exact RelL.chg h2 b hb
end
def Rel.there(h:Rel T F B L H x v fp)(a:Addr)(ha:a∈fp):∃o,H a=some o:=let⟨o,q,_⟩:=h.chg a ha;⟨o,q⟩
def RelL.there(h:RelL T F B L H xs vs fp)(a:Addr)(ha:a∈fp):∃o,H a=some o:=let⟨o,q,_⟩:=h.chg a ha;⟨o,q⟩
def zO:Mp T Fl.HM (fun _=>false) (fun _=>[]) L F B L H F B L H:=
 ⟨fun f a vs _ c h=>by
  cases f with
  |own=>exact⟨c rfl,h⟩
  | _=>exact h,fun f a _ c h=>⟨by
  cases f with
  |own=>exact c rfl
  |_=>exact h,fun _ q=>q⟩,fun f a x y h=>by cases f<;>exact⟨rfl,rfl⟩,rfl,fun _ _=>rfl,fun _ _ q _=>q⟩
def Rel.HM(hp:∀a∈fp,L a)(h:Rel T F B L H x v fp):Rel T F B L H (x.HW Fl.HM) v []:=zO.rel (lA x) hp h
end
end PR
namespace L2
open PySem PySem.Spec
def PE.wk(h:PE X e t)(w:∀Y H Q,t' Y H Q->t Y H Q):PE X e t':=fun gV s Y H Q I q=>h gV s Y H Q I (w Y H Q q)
def PA.wk(h:PA X e t)(w:∀Y H Q,t' Y H Q->t Y H Q):PA X e t':=fun pos gV s Y H Q I q=>h pos gV s Y H Q I (w Y H Q q)
def PT.wk(h:PT X e t)(w:∀Y H Q,t' Y H Q->t Y H Q):PT X e t':=fun gV s Y H Q I q=>h gV s Y H Q I (w Y H Q q)
def PW.wk(h:PW X e t)(w:∀Y H Q,t' Y H Q->t Y H Q):PW X e t':=fun wh gV s Y H Q I q=>h wh gV s Y H Q I (w Y H Q q)
def PS.wk(h:PS X e t)(w:∀D Y H,t' D Y H->t D Y H):PS X e t':=fun gV s Y H D I q=>h gV s Y H D I (w D Y H q)
def PSs.wk(h:PSs X e t)(w:∀D Y H,t' D Y H->t D Y H):PSs X e t':=fun gV s Y H D I q=>h gV s Y H D I (w D Y H q)
end L2
namespace PR
open PySem PySem.Spec L2
structure Zn where
 H0:Hp
 F0:HB
 fp0:HB
 B:HB
 pin:Option V:=none
abbrev NoL:HB:=fun _=>False
def AN(T:Tb)(H:Hp)(f:HB):Prop:=∀a ps,T.tb a=some ps->H a=some (.tbl ps)/\¬f a
structure bT(T:Tb)(Z:Zn)(F:HB)(H:Hp):Prop where
 bo:(∀a,Z.B a->(∃o,Z.H0 a=some o)/\¬Z.fp0 a)/\AN T Z.H0 Z.fp0
 keep:∀a o,Z.H0 a=some o->¬Z.fp0 a->H a=some o
 f0:∀a,Z.F0 a->F a
 fn:∀a,F a->Z.F0 a\/Z.H0 a=none\/Z.fp0 a
 ft:∀a,F a->∃o,H a=some o
structure aw(T:Tb)(Z:Zn)(F:HB)(H:Hp)(Y:St)(env:En)(fp:Nat->HE):Prop where
 hp:bT T Z F H
 len:Y.length=env.length
 rel:∀(i:Nat) (pv:PV),env[i]?=some (some pv)->∃v,Y[i]?=some (some v)/\Rel T F Z.B NoL H pv v (fp i)
 nd:∀i,(fp i).Nodup
 dj:∀i j,i≠j->∀a∈fp i,a∉fp j
 dis:∀i,∀a∈fp i,¬F a/\∃o,H a=some o
 new:∀i,∀a∈fp i,Z.H0 a=none\/Z.fp0 a
 ch:∀i,∀a∈fp i,∃o,H a=some o/\Chg o
 pn:∀v,Z.pin=some v->Y[0]?=some (some v)/\b7 env=true
def Own(fp:Nat->HE):HB:=fun a=>∃i,a∈fp i
structure Gr(F:HB)(H:Hp)(F':HB)(H':Hp):Prop where
 ext:Ext H H'
 mono:∀a,F a->F' a
 only:∀a,F' a->F a\/H a=none
 dom:∀a,F' a->∃o,H' a=some o
def Gr.refl(h:∀a,F a->∃o,H a=some o):Gr F H F H:=⟨Ext.refl,fun _ h=>h,fun _ h=>.inl h,h⟩
def Gr.trans(a:Gr F H F1 H1)(b:Gr F1 H1 F2 H2):Gr F H F2 H2:=
 ⟨a.ext.trans b.ext,fun c h=>b.mono c (a.mono c h),fun c h=>(b.only c h).elim (a.only c) fun z=>.inr (a.ext.free z),b.dom⟩
def Gr.same(h:∀a,F a->∃o,H a=some o)(e:Ext H H'):Gr F H F H':=⟨e,fun _ h=>h,fun _ h=>.inl h,fun a q=>let⟨o,z⟩:=h a q;⟨o,e a o z⟩⟩
section
variable{T:Tb}{Z:Zn}{F F':HB}{H H':Hp}{Y:St}{env:En}{fp:Nat->HE}
def bT.tb(S:bT T Z F H)(h:T.tb a=some ps):H a=some (.tbl ps):=let⟨h1,h2⟩:=S.bo.2 a ps h;S.keep a _ h1 h2
def aw.tbo(S:aw T Z F H Y env fp)(e:Ext H H')(hn:∀ a,f a->H a=none \/ Own fp a):AN T H' f:=fun a ps h=>⟨e a _ (S.hp.tb h),fun z=>by
 have q:=S.hp.tb h;rcases hn a z with n |⟨i,hi⟩
 ·rw[q]at n;cases n
 ·obtain⟨o,h1,h2⟩:=S.ch i a hi;rw[q]at h1;cases h1;exact h2⟩
def bT.grow(S:bT T Z F H)(g:Gr F H F' H'):bT T Z F' H':=
 ⟨S.bo,fun a o h n=>g.ext a o (S.keep a o h n),fun a h=>g.mono a (S.f0 a h),fun a h=>by
  rcases g.only a h with z|z
  ·exact S.fn a z
  ·refine .inr ?_;by_cases q:Z.fp0 a
   ·exact .inr q
   ·refine .inl ?_;cases w:Z.H0 a with
    |none=>rfl
    |some o=>rw[S.keep a o w q]at z;exact(nomatch z),g.dom⟩
def aw.grow(S:aw T Z F H Y env fp)(g:Gr F H F' H'):aw T Z F' H' Y env fp:=
 ⟨S.hp.grow g,S.len,fun i pv h=>let ⟨v,q1,q2⟩:=S.rel i pv h;⟨v,q1,q2.ext g.ext g.mono⟩,S.nd,S.dj,fun i a h=>by
  obtain⟨n,o,q⟩:=S.dis i a h;refine⟨fun z=>?_,o,g.ext a o q⟩;rcases g.only a z with z|z
  ·exact n z
  ·rw[q]at z;exact(nomatch z),S.new,fun i a h=>let⟨o,q,c⟩:=S.ch i a h;⟨o,g.ext a o q,c⟩,S.pn⟩
end
def GE(T:Tb)(W:Nat->St->HJ)(B F L:HB)(Y:St)(H:Hp)(Q:VK):HL->Prop
 |.ok pv=>∀v H' F' f,Gr F H F' H'->Rel T F' B L H' pv v f->(∀a∈f,¬F' a)->f.Nodup->(∀a∈f,H a=none)->Q v H'
 |.exc c=>∀H',Ext H H'->W c Y H'
 |.stuck=>False
def GA(T:Tb)(W:Nat->St->HJ)(B F L:HB)(Y:St)(H:Hp)(Q:HI->HJ):Res (HK)->Prop
 |.ok pvs=>∀vs H' F' f,Gr F H F' H'->RelL T F' B L H' pvs vs f->(∀a∈f,¬F' a)->f.Nodup->(∀a∈f,H a=none)->Q vs H'
 |.exc c=>∀H',Ext H H'->W c Y H'
 |.stuck=>False
def GT(W:Nat->St->HJ)(F:HB)(Y:St)(H:Hp)(Q:Bool->HJ):Res Bool->Prop
 |.ok b=>∀H' F',Gr F H F' H'->Q b H'
 |.exc c=>∀H',Ext H H'->W c Y H'
 |.stuck=>False
def tE(T:Tb)(W:Nat->St->HJ)(m:ME):TE:=fun Y H Q=>∃Z F env fp,aw T Z F H Y env fp/\GE T W Z.B F (Own fp) Y H Q (m env)
def tA(T:Tb)(W:Nat->St->HJ)(m:MA):TA:=fun Y H Q=>∃Z F env fp,aw T Z F H Y env fp/\GA T W Z.B F (Own fp) Y H Q (m env)
def tT(T:Tb)(W:Nat->St->HJ)(m:MT):TT:=fun Y H Q=>∃Z F env fp,aw T Z F H Y env fp/\GT W F Y H Q (m env)
abbrev SE(X:Cx)(T:Tb)(W:Nat->St->HJ)(e:Expr)(m:ME):Prop:=PE X e (tE T W m)
abbrev SA(X:Cx)(T:Tb)(W:Nat->St->HJ)(es:List Expr)(m:MA):Prop:=PA X es (tA T W m)
abbrev ST(X:Cx)(T:Tb)(W:Nat->St->HJ)(e:Expr)(m:MT):Prop:=PT X e (tT T W m)
section
variable{X:Cx}{T:Tb}{W:Nat->St->HJ}{Z:Zn}{F F' B L:HB}{H H':Hp}{Y:St}{env:En}{fp:Nat->HE}
def GE.scal{Q:VK}{pv:PV}{v:V}(q:GE T W B F L Y H Q (.ok pv))(g:Gr F H F' H')(r:Rel T F' B L H' pv v []):Q v H':=
 q v H' F' [] g r (fun _ z=>(nomatch z)) nodup_nil (fun _ z=>(nomatch z))
def gU{v:V}{pv:PV}(h:PE X e (tC v))(r:∀F B L H,Rel T F B L H pv v []):SE X T W e (mC pv):=PE.wk h fun Y H Q ⟨Z,F,env,fp,S,q⟩=>q.scal (Gr.refl S.hp.ft) (r _ _ _ _)
def ai{i j pos}:SE X T W (.Constant (.int i) j pos) (mC (.int i)):=gU Cu fun _ _ _ _=>by unfold Rel;exact⟨rfl,rfl⟩
def gL{b j pos}:SE X T W (.Constant (.bool b) j pos) (mC (.bl b)):=gU Fz fun _ _ _ _=>by unfold Rel;exact⟨rfl,rfl⟩
def fb{j pos}:SE X T W (.Constant .none j pos) (mC .non):=gU Cs fun _ _ _ _=>by unfold Rel;exact⟨rfl,rfl⟩
def ap{x j pos}:SE X T W (.Constant (.str x) j pos) (mC (.str x)):=gU wo fun _ _ _ _=>by unfold Rel;exact⟨rfl,rfl⟩
def BQ(hN:X.N[i]?=some x)(hv:Vis X.env.scope x)(hd:(x ==("__debug__":Str))=false:=by decide)(hcd:(x ==("__classdict__":Str))=false:=by decide):SE X T W (.Name x pos) (ad i):=
 PE.wk (fN hN hv hd hcd) fun Y H Q hz1=>by
  obtain⟨Z,F,env,fp,S,q⟩:=hz1;unfold ad at q;split at q
  ·rename_i pv e
   obtain⟨v,e1,r⟩:=S.rel i pv e;refine⟨v,e1,q.scal (Gr.refl S.hp.ft) ?_⟩;exact Rel.HM (fun a h=>⟨i,h⟩) (Rel.tr (fun _ h=>h) (fun _ h=>h) (fun _ h=>h.elim) (fun a o q _=>q) (fun a _ o q=>q) r)
  ·exact q.elim
def tE.bind(S:aw T Z F H Y env fp)(hx:∀c,m env=.exc c->∀H',Ext H H'->W c Y H')(hs:m env≠.stuck)
  (k:∀pv v H' F' f,m env=.ok pv->Gr F H F' H'->Rel T F' Z.B (Own fp) H' pv v f->(∀a∈f,¬F' a)->f.Nodup->(∀a∈f,H a=none)->Q v H'):tE T W m Y H Q:=by
 refine⟨Z,F,env,fp,S,?_⟩;cases e:m env with
 |ok pv=>exact fun v H' F' f g r h1 h2 h3=>k pv v H' F' f e g r h1 h2 h3
 |exc c=>exact hx c e
 |stuck=>exact hs e
def tE.bq(S:aw T Z F H Y env fp)(k:∀pv v H' F' f,m env=.ok pv->Gr F H F' H'->Rel T F' Z.B (Own fp) H' pv v f->(∀a∈f,¬F' a)->f.Nodup->(∀a∈f,H a=none)->Q v H')(hx:∀c,m env=.exc c->∀H',Ext H H'->W c Y H':=by exact fun c e=>by rw[e]at q;exact q)(hs:m env≠.stuck:=by exact fun e=>by rw[e]at q;exact q):tE T W m Y H Q:=tE.bind S hx hs k
def tA.bind(S:aw T Z F H Y env fp)(hx:∀c,m env=.exc c->∀H',Ext H H'->W c Y H')(hs:m env≠.stuck)
  (k:∀pvs vs H' F' f,m env=.ok pvs->Gr F H F' H'->RelL T F' Z.B (Own fp) H' pvs vs f->(∀a∈f,¬F' a)->f.Nodup->(∀a∈f,H a=none)->Q vs H'):tA T W m Y H Q:=by
 refine⟨Z,F,env,fp,S,?_⟩;cases e:m env with
 |ok pv=>exact fun v H' F' f g r h1 h2 h3=>k pv v H' F' f e g r h1 h2 h3
 |exc c=>exact hx c e
 |stuck=>exact hs e
def tT.bind(S:aw T Z F H Y env fp)(hx:∀c,m env=.exc c->∀H',Ext H H'->W c Y H')(hs:m env≠.stuck)
  (k:∀b H' F',m env=.ok b->Gr F H F' H'->Q b H'):tT T W m Y H Q:=by
 refine⟨Z,F,env,fp,S,?_⟩;cases e:m env with
 |ok pv=>exact fun H' F' g=>k pv H' F' e g
 |exc c=>exact hx c e
 |stuck=>exact hs e
def ah:SA X T W [] ak:=PA.wk gX fun Y H Q ⟨Z,F,env,fp,S,q⟩=>q [] H F [] (Gr.refl S.hp.ft) (by unfold RelL;exact⟨rfl,rfl⟩) (fun _ z=>(nomatch z)) nodup_nil (fun _ z=>(nomatch z))
def aa(ha:SE X T W e m)(hr:SA X T W es ms)(hs:starEach (e::es) X.env=(false,eval e X.env)::starEach es X.env:=by rfl):SA X T W (e::es) (ae m ms):=
 PA.wk (dM ha hr hs) fun Y H Q hz1=>by
  obtain⟨Z,F,env,fp,S,q⟩:=hz1;unfold ae at q;refine tE.bq S fun x v H1 F1 f1 e1 g1 r1 n1 d1 w1=>?_;rw[e1]at q;simp only[Res.HY]at q;refine tA.bind (S.grow g1) (fun c e=>by rw[e]at q;exact fun H' x=>q H' (g1.ext.trans x)) (fun e=>by rw[e]at q;exact q) fun xs vs H2 F2 f2 e2 g2 r2 n2 d2 w2=>?_;rw[e2]at q;simp only[Res.HY]at q;have new1:∀a∈f1,¬F2 a:=fun a ha z=>by
   rcases g2.only a z with z|z
   ·exact n1 a ha z
   ·obtain⟨o,ho⟩:=r1.there a ha;rw[ho]at z;cases z
  refine q (v::vs) H2 F2 (f1++f2) (g1.trans g2) (by unfold RelL;exact⟨v,vs,f1,f2,rfl,r1.ext g2.ext g2.mono,r2,rfl⟩) (fun a ha=>?_) ?_ (fun a ha=>?_)
  ·rcases mem_append.mp ha with ha|ha
   ·exact new1 a ha
   ·exact n2 a ha
  ·refine nodup_append.mpr ⟨d1,d2,fun a ha b hb z=>?_⟩;subst z;obtain⟨o,ho⟩:=r1.there a ha;rw[w2 a hb]at ho;cases ho
  ·rcases mem_append.mp ha with ha|ha
   ·exact w1 a ha
   ·exact g1.ext.free (w2 a ha)
def ao(f:HK->HL)(ms:MA):ME:=fun env=>(ms env).bind f
def Mir(T:Tb)(W:Nat->St->HJ)(f:HK->HL)(r:HI->Hp->VK->Prop):Prop:=
 ∀(B F L:HB) (Y:St) (H:Hp) (Q:VK) (F':HB) (H':Hp) (xs:HK) (vs:HI) (fx:HE),Gr F H F' H'->RelL T F' B L H' xs vs fx->(∀a∈fx,¬F' a)->fx.Nodup->(∀a∈fx,H a=none)->
  GE T W B F L Y H Q (f xs)->r vs H' Q
def tA.mir(hm:Mir T W f r)(h:tE T W (ao f ms) Y H Q):tA T W ms Y H fun vs H1=>r vs H1 Q:=by obtain⟨Z,F,env,fp,S,q⟩:=h;unfold ao at q;refine tA.bind S (fun c e=>by rw[e]at q;exact q) (fun e=>by rw[e]at q;exact q) fun xs vs H1 F1 f1 e1 g1 r1 n1 d1 w1=>?_;rw[e1]at q;exact hm Z.B F (Own fp) Y H Q F1 H1 xs vs f1 g1 r1 n1 d1 w1 q
def ie{id:String}{x:Str}{es:List Expr}{f:HK->HL}{r:HI->Hp->VK->Prop}(hc:eV X (.builtin id) r)(hmir:Mir T W f r)(hg:Gl X x)(hm:X.mg x=none)(hv:bootBuiltins x=some (.builtin id))(ha:SA X T W (e::es) ms)
  (hn:x≠"__name__":=by decide) (hdb:(x ==("__debug__":Str))=false:=by decide)
  (he:starEach (e::es) X.env=(false,eval e X.env)::starEach es X.env:=by rfl) (hpl:(backTo pos (starEach es X.env)).any (·.1)=false:=by rfl):SE X T W (.Call (.Name x p) (e::es) [] pos) (ao f ms):=
 PE.wk (pb hc hg hm hv ha hn hdb he hpl) fun Y H Q h=>tA.mir hmir h
def fq{id:String}{x:Str}{es:List Expr}{f:HK->HL}{r:HI->Hp->VK->Prop}(hc:eV X (.type id) r)(hmir:Mir T W f r)(hg:Gl X x)(hm:X.mg x=none)(hv:bootBuiltins x=some (.type id))(ha:SA X T W (e::es) ms)
  (hn:x≠"__name__":=by decide) (hdb:(x ==("__debug__":Str))=false:=by decide)
  (he:starEach (e::es) X.env=(false,eval e X.env)::starEach es X.env:=by rfl) (hpl:(backTo pos (starEach es X.env)).any (·.1)=false:=by rfl):SE X T W (.Call (.Name x p) (e::es) [] pos) (ao f ms):=
 PE.wk (mR hc hg hm hv ha hn hdb he hpl) fun Y H Q h=>tA.mir hmir h
def jb(T:Tb)(W:Nat->St->HJ)(f:PV->PV->HL)(r:R2):Prop:=
 ∀(B F L:HB) (Y:St) (H:Hp) (Q:VK) (F':HB) (H':Hp) (x y:PV) (v u:V) (fx fy:HE),Gr F H F' H'->Rel T F' B L H' x v fx->Rel T F' B L H' y u fy->(∀a∈fx++fy,¬F' a)->(fx++fy).Nodup->(∀a∈fx++fy,H a=none)->
  GE T W B F L Y H Q (f x y)->r v u H' Q
def tE.mir2(hm:jb T W f r)(h:tE T W (mOp f ma mb) Y H Q):tOp r (tE T W ma) (tE T W mb) Y H Q:=by
 obtain⟨Z,F,env,fp,S,q⟩:=h;unfold mOp at q;refine tE.bq S fun x v H1 F1 f1 e1 g1 r1 n1 d1 w1=>?_;rw[e1]at q;simp only[Res.HY]at q;refine tE.bind (S.grow g1) (fun c e=>by rw[e]at q;exact fun H' x=>q H' (g1.ext.trans x)) (fun e=>by rw[e]at q;exact q) fun y u H2 F2 f2 e2 g2 r2 n2 d2 w2=>?_;rw[e2]at q;simp only[Res.HY]at q;have new1:∀a∈f1,¬F2 a:=fun a ha z=>by
  rcases g2.only a z with z|z
  ·exact n1 a ha z
  ·obtain⟨o,ho⟩:=r1.there a ha;rw[ho]at z;cases z
 refine hm Z.B F (Own fp) Y H Q F2 H2 x y v u f1 f2 (g1.trans g2) (r1.ext g2.ext g2.mono) r2 (fun a ha=>?_) ?_ (fun a ha=>?_) q
 ·rcases mem_append.mp ha with ha|ha
  ·exact new1 a ha
  ·exact n2 a ha
 ·refine nodup_append.mpr ⟨d1,d2,fun a ha b hb z=>?_⟩;subst z;obtain⟨o,ho⟩:=r1.there a ha;rw[w2 a hb]at ho;cases ho
 ·rcases mem_append.mp ha with ha|ha
  ·exact w1 a ha
  ·exact g1.ext.free (w2 a ha)
def gK(ho:OpR X (binaryOp op) r)(hm:jb T W f r)(ha:SE X T W a ma)(hb:SE X T W b mb):SE X T W (.BinOp a op b pos) (mOp f ma mb):=
 PE.wk (Fy (pos:=pos) ho ha hb) fun Y H Q h=>tE.mir2 hm h
def jo(ho:OpR X (compareOp op) r)(hm:jb T W f r)(ha:SE X T W a ma)(hb:SE X T W b mb)(hk:behindInMarks op b=false):SE X T W (.Compare a [op] [b] pos) (mOp f ma mb):=
 PE.wk (zr (pos:=pos) ho ha hb hk) fun Y H Q h=>tE.mir2 hm h
def Fk(hr:IxR X r)(hm:jb T W f r)(ha:SE X T W a ma)(hb:SE X T W b mb)(hs:ja b):SE X T W (.Subscript a b pos) (mOp f ma mb):=
 PE.wk (A_ (pos:=pos) hr ha hb hs) fun Y H Q h=>tE.mir2 hm h
def fR(hg:∀i j F B L H,Rel T F B L H (g' i j) (g i j) []):jb T W (iy g') (rI0 g):=by
  intro B F L Y H Q F' H' x y v u fx fy gr rx ry _ _ _ q;cases x<;>cases y<;>first
    |exact q.elim
    | (unfold Rel at rx ry
       exact⟨_,_,rx.1,ry.1,q.scal gr (hg _ _ _ _ _ _)⟩)
def pF(hc:∀i j,C' i j=true->C i j)(hg:∀i j F B L H,Rel T F B L H (g' i j) (g i j) []):jb T W (dY C' g') (rI C g):=by
  intro B F L Y H Q F' H' x y v u fx fy gr rx ry _ _ _ q;cases x<;>cases y<;>first
    |exact q.elim
    | (unfold Rel at rx ry
       simp only[dY]at q;split at q
       . rename_i hh
         exact⟨_,_,rx.1,ry.1,hc _ _ hh,q.scal gr (hg _ _ _ _ _ _)⟩
       . exact q.elim)
def dW:Rel T F B L H (.int i) (.int i) []:=by unfold Rel;exact⟨rfl,rfl⟩
def fK:Rel T F B L H (.bl i) (.bl i) []:=by unfold Rel;exact⟨rfl,rfl⟩
def Fo:Rel T F B L H .non .non []:=by unfold Rel;exact⟨rfl,rfl⟩
def ug:PV->PV->HL:=iy fun i j=>.int (i-j)
def cT:PV->PV->HL:=dY (fun i j=>decide ((-(2 ^ 64)<i/\i<2 ^ 64)\/(-(2 ^ 64)<j/\j<2 ^ 64))) fun i j=>.int (i*j)
def df:PV->PV->HL:=dY (fun _ j=>decide (0<j)) fun i j=>.int (i%j)
def iz:PV->PV->HL:=dY (fun _ j=>decide (0<j/\j<1073741824)) fun i j=>.int (i / j)
def nX:PV->PV->HL:=dY (fun i j=>decide (0<=j/\j<=1000000/\i.natAbs<2 ^ 64)) fun i j=>.int (i ^ j.toNat)
def pLt:PV->PV->HL:=iy fun i j=>.bl (decide (i<j))
def pLe:PV->PV->HL:=iy fun i j=>.bl (decide (i<=j))
def pGt:PV->PV->HL:=iy fun i j=>.bl (decide (j<i))
def pGe:PV->PV->HL:=iy fun i j=>.bl (decide (j<=i))
variable{a b:Expr}{ma mb:ME}{pos:Pos}
def nJ(ha:SE X T W a ma)(hb:SE X T W b mb):SE X T W (.BinOp a .Sub b pos) (mOp ug ma mb):=gK Cz (fR fun _ _ _ _ _ _=>dW) ha hb
def cR(ha:SE X T W a ma)(hb:SE X T W b mb):SE X T W (.BinOp a .Mult b pos) (mOp cT ma mb):=gK CD (pF (fun i j h=>(by simpa using h:(-(2 ^ 64)<i/\i<2 ^ 64)\/(-(2 ^ 64)<j/\j<2 ^ 64))) fun _ _ _ _ _ _=>dW) ha hb
def cb(ha:SE X T W a ma)(hb:SE X T W b mb):SE X T W (.BinOp a .Mod b pos) (mOp df ma mb):=gK CF (pF (fun _ _ h=>of_decide_eq_true h) fun _ _ _ _ _ _=>dW) ha hb
def gc(ha:SE X T W a ma)(hb:SE X T W b mb):SE X T W (.BinOp a .FloorDiv b pos) (mOp iz ma mb):=gK zz (pF (fun i j h=>(by simpa using h:0<j/\j<1073741824)) fun _ _ _ _ _ _=>dW) ha hb
def ql(ha:SE X T W a ma)(hb:SE X T W b mb):SE X T W (.BinOp a .Pow b pos) (mOp nX ma mb):=gK CB (pF (fun i j h=>(by simpa using h:0<=j/\j<=1000000/\i.natAbs<2 ^ 64)) fun _ _ _ _ _ _=>dW) ha hb
def Fj(ha:SE X T W a ma)(hb:SE X T W b mb):SE X T W (.Compare a [.Lt] [b] pos) (mOp pLt ma mb):=jo Bb (fR fun _ _ _ _ _ _=>fK) ha hb (dZ _)
def A3(ha:SE X T W a ma)(hb:SE X T W b mb):SE X T W (.Compare a [.LtE] [b] pos) (mOp pLe ma mb):=jo Bc (fR fun _ _ _ _ _ _=>fK) ha hb (dZ _)
def Fm(ha:SE X T W a ma)(hb:SE X T W b mb):SE X T W (.Compare a [.Gt] [b] pos) (mOp pGt ma mb):=jo Bd (fR fun _ _ _ _ _ _=>fK) ha hb (dZ _)
end
def GS(T:Tb)(W:Nat->St->HJ)(Z:Zn)(D:Ends):Out->Prop
 |.next e=>∀F H Y fp,aw T Z F H Y e fp->D.nx Y H
 |.ret pv=>∀F H v f,bT T Z F H->Rel T F Z.B NoL H pv v f->f.Nodup->(∀a∈f,¬F a)->(∀a∈f,Z.H0 a=none\/Z.fp0 a)->D.rt v H
 |.brk e=>∀F H Y fp,aw T Z F H Y e fp->D.bk Y H
 |.cont e=>∀F H Y fp,aw T Z F H Y e fp->D.ct Y H
 |.exc c e=>∀F H Y fp,aw T Z F H Y e fp->W c Y H
 |.stuck=>False
def tS(T:Tb)(W:Nat->St->HJ)(m:MS):TS:=fun D Y H=>∃Z F env fp,aw T Z F H Y env fp/\GS T W Z D (m env)
abbrev SS(X:Cx)(T:Tb)(W:Nat->St->HJ)(st:Stmt)(m:MS):Prop:=PS X st (tS T W m)
abbrev SSs(X:Cx)(T:Tb)(W:Nat->St->HJ)(sts:List Stmt)(m:MS):Prop:=PSs X sts (tS T W m)
def wN{p:Fl->Bool}(hL:p .lnt=false->∀a,L a->L' a)(hB:p .bor=false->∀a,B a->B' a):Mp T (fun f=>f) p (fun x=>x) (fun _=>True) F B L H F B' L' H:=
 ⟨fun f a vs q _ h=>by
  cases f with
  |lnt=>exact⟨hL q a h.1,h.2⟩
  |bor=>exact⟨hB q a h.1,h.2⟩
  | _=>exact h,fun f a q _ h=>⟨by
  cases f with
  |lnt=>exact hL q a h
  |bor=>exact hB q a h
  |_=>exact h,fun _ q=>q⟩,fun _ _ _ _ h=>h,rfl,fun _ _=>rfl,fun _ _ q _=>q⟩
def Rel.noL(hp:x.has Fl.HS=false)(h:Rel T F B L H x v fo):Rel T F B L' H x v fo:=by
 have:=(wN (p:=Fl.HS) (L':=L') (fun z=>(nomatch z)) (fun _ _ q=>q)).rel hp (fun _ _=>True.intro) h
 rwa [kr]at this
def RelL.noL(hp:hasL Fl.HS x=false)(h:RelL T F B L H x v fo):RelL T F B L' H x v fo:=by
 have:=(wN (p:=Fl.HS) (L':=L') (fun z=>(nomatch z)) (fun _ _ q=>q)).rels hp (fun _ _=>True.intro) h
 rwa [mapL_id]at this
section
variable{X:Cx}{T:Tb}{W:Nat->St->HJ}{Z:Zn}{F F' B L:HB}{H H':Hp}{Y:St}{env:En}{fp:Nat->HE}{D:Ends}
def bV(fp:Nat->HE)(i:Nat)(f:HE):Nat->HE:=fun j=>if j=i then f else fp j
def aw.put(S:aw T Z F H Y env fp){i:Nat}{pv:PV}{v:V}{f:HE}(r:Rel T F Z.B NoL H pv v f)(nd:f.Nodup)(nf:∀a∈f,¬F a)(new:∀a∈f,Z.H0 a=none\/Z.fp0 a)(dj:∀a∈f,∀j,j≠i->a∉fp j)(ho:aQ i env=true) :
  aw T Z F H (Y.set i (some v)) (env.set i (some pv)) (bV fp i f):=by
 refine⟨S.hp,by rw[length_set,length_set,S.len],fun j pv' e=>?_,fun j=>?_,fun j k hjk a ha=>?_,fun j a ha=>?_,fun j a ha=>?_,fun j a ha=>?_,fun w hw=>?_⟩
 ·grind[bV,aw,bT,Gr]
 ·unfold bV;split
  ·exact nd
  ·exact S.nd j
 ·grind[bV,aw,bT,Gr]
 ·unfold bV at ha;by_cases h1:j=i
  ·rw[if_pos h1]at ha;exact⟨nf a ha,r.there a ha⟩
  ·rw[if_neg h1]at ha;exact S.dis j a ha
 ·unfold bV at ha;by_cases h1:j=i
  ·rw[if_pos h1]at ha;exact new a ha
  ·rw[if_neg h1]at ha;exact S.new j a ha
 ·unfold bV at ha;by_cases h1:j=i
  ·rw[if_pos h1]at ha;exact r.chg a ha
  ·rw[if_neg h1]at ha;exact S.ch j a ha
 ·obtain⟨h1,h2⟩:=S.pn w hw;have hi:i≠0:=fun z=>by rw[z]at ho;simp[aQ,h2]at ho
  refine⟨by rw[getElem?_set_ne hi];exact h1,?_⟩;unfold b7 at h2 ⊢;rw[getElem?_set_ne hi];exact h2
def aw.putN(S:aw T Z F H Y env fp)(g:Gr F H F' H'){i:Nat}{pv:PV}{v:V}{f:HE}(ho:aQ i env=true)(r:Rel T F' Z.B L H' pv v f)(hl:pv.HV=true)(nf:∀a∈f,¬F' a)(nd:f.Nodup)(w:∀a∈f,H a=none) :
  aw T Z F' H' (Y.set i (some v)) (env.set i (some pv)) (bV fp i f):=by
 refine(S.grow g).put (Rel.noL (by simpa[PV.HV]using hl) r) nd nf (fun a ha=>?_) (fun a ha j _ hj=>?_) ho
 ·by_cases q:Z.fp0 a
  ·exact .inr q
  ·refine .inl ?_;cases e:Z.H0 a with
   |none=>rfl
   |some o=>have:=S.hp.keep a o e q;rw[w a ha]at this;cases this
 ·obtain⟨_,o,ho⟩:=S.dis j a hj;rw[w a ha]at ho;cases ho
def aD:SSs X T W [] aI:=PSs.wk zk fun D Y H ⟨Z,F,env,fp,S,q⟩=>q F H Y fp S
def ag{bF:List Stmt}(h1:SS X T W st a)(h2:SSs X T W bF b):SSs X T W (st::bF) (au a b):=
 PSs.wk (v_ h1 h2) fun D Y H hz1=>by
  obtain⟨Z,F,env,fp,S,q⟩:=hz1;refine⟨Z,F,env,fp,S,?_⟩;unfold au at q;cases e:a env with
  |next e'=>rw[e]at q;exact fun F' H' σ' fp' S'=>⟨Z,F',e',fp',S',q⟩
  |ret v|brk e'|cont e'|exc c e'|stuck=>rw[e]at q;exact q
def aj(h1:SS X T W st a):SSs X T W [st] a:=zj h1
def wY:MS:=.brk
def vB:SS X T W (.Break pos) wY:=PS.wk wb fun D Y H ⟨Z,F,env,fp,S,q⟩=>q F H Y fp S
def aN(hc:ST X T W c mc)(ha:SSs X T W a ma)(hb:SSs X T W b mb):SS X T W (.If c a b pos) (mBr mc ma mb):=
 PS.wk (Ft (pos:=pos) hc ha hb) fun D Y H hz1=>by
  obtain⟨Z,F,env,fp,S,q⟩:=hz1;unfold mBr at q;refine tT.bind S (fun c e H' x=>?_) (fun e=>by rw[e]at q;exact q) fun b H' F' e g=>?_
  ·rw[e]at q;exact q F H' Y fp (S.grow (Gr.same S.hp.ft x))
  ·cases b with
   |true=>rw[e]at q;exact(if_pos rfl).mpr ⟨Z,F',env,fp,S.grow g,q⟩
   |false=>rw[e]at q;exact(if_neg (by decide)).mpr ⟨Z,F',env,fp,S.grow g,q⟩
def BJ(hN:X.N.Nodup)(hi:X.N[i]?=some x)(hx:Loc X.env.scope x)(he:SE X T W e m)(hs:swapsWith e (some (.Name x pos')) pos.line X.env=pure false:=by rfl)
  (hf:X.fn x=true\/X.env.scope.names.lookup x=some .local:=by first|exact .inl rfl|exact .inr rfl|assumption):SS X T W (.Assign [.Name x pos'] e pos) (aH i m):=
 PS.wk (Cf (pos:=pos) hN hi hx he hs hf) fun D Y H hz1=>by
  obtain⟨Z,F,env,fp,S,q⟩:=hz1;unfold aH at q;refine tE.bind S (fun c e H' x=>?_) (fun e=>by rw[e]at q;exact q) fun pv v H1 F1 f e g r h1 h2 h3=>?_
  ·rw[e]at q;exact q F H' Y fp (S.grow (Gr.same S.hp.ft x))
  ·rw[e]at q;simp only at q;split at q
   ·rename_i hl
    rw[and_eq_true]at hl;exact q F1 H1 _ _ (S.putN g hl.2 r hl.1 h1 h2 h3)
   ·exact q.elim
def bT.newE(S:bT T Z F H){f:HE}(w:∀a∈f,H a=none):∀a∈f,Z.H0 a=none\/Z.fp0 a:=fun a ha=>by
 by_cases q:Z.fp0 a
 ·exact .inr q
 ·refine .inl ?_;cases e:Z.H0 a with
  |none=>rfl
  |some o=>have:=S.keep a o e q;rw[w a ha]at this;cases this
def aC(he:SE X T W e m):SS X T W (.Return (some e) pos) (bh m):=
 PS.wk (nS (pos:=pos) he) fun D Y H hz1=>by
  obtain⟨Z,F,env,fp,S,q⟩:=hz1;unfold bh at q;refine tE.bind S (fun c e H' x=>?_) (fun e=>by rw[e]at q;exact q) fun pv v H1 F1 f e g r h1 h2 h3=>?_
  ·rw[e]at q;exact q F H' Y fp (S.grow (Gr.same S.hp.ft x))
  ·rw[e]at q;simp only at q;split at q
   ·rename_i hl
    exact q F1 H1 v f (S.hp.grow g) (Rel.noL (by simpa[PV.HV]using hl) r) h2 h1 (S.hp.newE h3)
   ·exact q.elim
def eW(hN:X.N[i]?=some x)(hv:Vis X.env.scope x)(hd:(x ==("__debug__":Str))=false:=by decide)(hcd:(x ==("__classdict__":Str))=false:=by decide):SS X T W (.Return (some (.Name x pos')) pos) (fZ i):=
 PS.wk (nS (pos:=pos) (fN hN hv hd hcd)) fun D Y H hz1=>by
  obtain⟨Z,F,env,fp,S,q⟩:=hz1;unfold fZ at q;split at q
  ·rename_i pv e
   obtain⟨v,e1,r⟩:=S.rel i pv e;exact⟨v,e1,q F H v (fp i) S.hp r (S.nd i) (fun a ha=>(S.dis i a ha).1) (S.new i)⟩
  ·exact q.elim
def d8(he:SE X T W e m)(hs:swapsWith e none pos.line X.env=pure false:=by rfl):SS X T W (.Expr e pos) (fB m):=
 PS.wk (nU (pos:=pos) he hs) fun D Y H hz1=>by
  obtain⟨Z,F,env,fp,S,q⟩:=hz1;unfold fB at q;refine tE.bind S (fun c e H' x=>?_) (fun e=>by rw[e]at q;exact q) fun pv v H1 F1 f e g r h1 h2 h3=>?_
  ·rw[e]at q;exact q F H' Y fp (S.grow (Gr.same S.hp.ft x))
  ·rw[e]at q;exact q F1 H1 Y fp (S.grow g)
def ut(hF:∀a,F a->F' a):Mp T Fl.HP (fun _=>false) (fun _=>[]) F' F B L H F' B L H:=
 ⟨fun f a vs _ c h=>by
  cases f with
  |own=>exact⟨c rfl,.inl h⟩
  |frz=>exact⟨hF a h.1,h.2⟩
  | _=>exact h,fun f a _ c h=>⟨by
  cases f with
  |own=>exact c rfl
  |frz=>exact hF a h
  |_=>exact h,fun _ q=>q⟩,fun f a x y h=>by cases f<;>exact⟨rfl,rfl⟩,rfl,fun _ _=>rfl,fun _ _ q _=>q⟩
def Rel.HP(hF:∀a,F a->F' a)(hp:∀a∈fo,F' a)(h:Rel T F B L H x v fo):Rel T F' B L H (x.HW Fl.HP) v []:=(ut hF).rel (lA x) hp h
def aw.frz(S:aw T Z F H Y env fp){i:Nat}{pv:PV}(e:env[i]?=some (some pv)):aw T Z (fun a=>F a\/a∈fp i) H Y (env.set i (some (pv.HW Fl.HP))) (bV fp i []):=by
 have hi:i<env.length:=(List.getElem?_eq_some_iff.mp e).1;refine⟨⟨S.hp.bo,S.hp.keep,fun a h=>.inl (S.hp.f0 a h),fun a h=>h.elim (S.hp.fn a) fun z=>.inr (S.new i a z),fun a h=>h.elim (S.hp.ft a) fun z=>(S.dis i a z).2⟩,by rw[length_set,S.len],fun j pv' e'=>?_,fun j=>?_,fun j k hjk a ha=>?_,fun j a ha=>?_,fun j a ha=>?_,fun j a ha=>?_,fun w hw=>?_⟩
 ·by_cases hj:j=i
  ·subst hj;rw[getElem?_set_self hi]at e';cases e';obtain⟨v,h1,h2⟩:=S.rel j pv e;refine⟨v,h1,?_⟩;unfold bV;rw[if_pos rfl];exact Rel.HP (fun _ h=>.inl h) (fun a h=>.inr h) h2
  ·rw[getElem?_set_ne (Ne.symm hj)]at e';obtain⟨w,h1,h2⟩:=S.rel j pv' e';refine⟨w,h1,?_⟩;unfold bV;rw[if_neg hj];exact h2.ext Ext.refl fun _ h=>.inl h
 ·unfold bV;split
  ·exact nodup_nil
  ·exact S.nd j
 ·grind[bV,aw,bT,Gr]
 ·unfold bV at ha;by_cases h1:j=i
  ·rw[if_pos h1]at ha;cases ha
  ·rw[if_neg h1]at ha;exact⟨fun z=>z.elim (S.dis j a ha).1 fun z=>S.dj j i h1 a ha z,(S.dis j a ha).2⟩
 ·unfold bV at ha;by_cases h1:j=i
  ·rw[if_pos h1]at ha;cases ha
  ·rw[if_neg h1]at ha;exact S.new j a ha
 ·unfold bV at ha;by_cases h1:j=i
  ·rw[if_pos h1]at ha;cases ha
  ·rw[if_neg h1]at ha;exact S.ch j a ha
 ·obtain⟨h1,h2⟩:=S.pn w hw;refine⟨h1,?_⟩;unfold b7 at h2 ⊢;by_cases hi0:i=0
  ·subst hi0;rw[e]at h2;rw[getElem?_set_self hi];cases pv<;>first|exact h2 |(cases h2;done)|rfl
  ·rw[getElem?_set_ne hi0];exact h2
def fI{i:Nat}{sts:List Stmt}(h:SSs X T W sts m):SSs X T W sts (au (gH i) m):=PSs.wk h fun D Y H hz1=>by
 obtain⟨Z,F,env,fp,S,q⟩:=hz1;cases e:env[i]? with
 |none=>simp[au,gH,e]at q;exact q.elim
 |some w=>
  cases w with
  |none=>simp[au,gH,e]at q;exact q.elim
  |some pv=>simp only[au,gH,e]at q;exact⟨Z,_,_,_,S.frz e,q⟩
def Zn.re(Z:Zn)(F:HB)(H:Hp)(fp:Nat->HE):Zn:=⟨H,F,Own fp,Z.B,Z.pin⟩
def aw.enter(S:aw T Z F H Y env fp):aw T (Z.re F H fp) F H Y env fp:=
 ⟨⟨⟨fun a h=>by
   obtain⟨⟨o,h1⟩,h2⟩:=S.hp.bo.1 a h;refine⟨⟨o,S.hp.keep a o h1 h2⟩,fun⟨i,hi⟩=>?_⟩;rcases S.new i a hi with z|z
   ·rw[h1]at z;cases z
   ·exact h2 z,S.tbo Ext.refl fun _ z=>.inr z⟩,fun _ _ h _=>h,fun _ h=>h,fun _ h=>.inl h,S.hp.ft⟩,S.len,S.rel,S.nd,S.dj,S.dis,fun i a ha=>.inr ⟨i,ha⟩,S.ch,S.pn⟩
def bT.leave(S:aw T Z F H Y env fp)(S':bT T (Z.re F H fp) F' H'):bT T Z F' H':=
 ⟨S.hp.bo,fun a o h n=>S'.keep a o (S.hp.keep a o h n) fun hz1=>by
   obtain⟨i,hi⟩:=hz1;rcases S.new i a hi with z|z
   ·rw[h]at z;cases z
   ·exact n z,fun a h=>S'.f0 a (S.hp.f0 a h),fun a h=>by
  rcases S'.fn a h with z|z |⟨i,hi⟩
  ·exact S.hp.fn a z
  ·refine .inr ?_;by_cases q:Z.fp0 a
   ·exact .inr q
   ·refine .inl ?_;cases w:Z.H0 a with
    |none=>rfl
    |some o=>have z':H a=none:=z;rw[S.hp.keep a o w q]at z';cases z'
  ·exact .inr (S.new i a hi),S'.ft⟩
def aw.newL(S:aw T Z F H Y env fp)(h:(Z.re F H fp).H0 a=none \/(Z.re F H fp).fp0 a):Z.H0 a=none\/Z.fp0 a:=by
 rcases h with z |⟨i,hi⟩
 ·by_cases q:Z.fp0 a
  ·exact .inr q
  ·refine .inl ?_;cases w:Z.H0 a with
   |none=>rfl
   |some o=>have z':H a=none:=z;rw[S.hp.keep a o w q]at z';cases z'
 ·exact S.new i a hi
def aw.leave(S:aw T Z F H Y env fp)(S':aw T (Z.re F H fp) F' H' σ' env' fp'):aw T Z F' H' σ' env' fp':=
 ⟨bT.leave S S'.hp,S'.len,S'.rel,S'.nd,S'.dj,S'.dis,fun i a ha=>S.newL (S'.new i a ha),S'.ch,S'.pn⟩
abbrev SW(X:Cx)(T:Tb)(W:Nat->St->HJ)(e:Expr)(m:MT):Prop:=PW X e (tT T W m)
def tT.test(h:tT T W (aA m) Y H Q):tE T W m Y H fun x H'=>∃k,x=.bl k/\Q k H':=by
 obtain⟨Z,F,env,fp,S,q⟩:=h;unfold aA at q;refine tE.bq S fun x v H1 F1 f1 e1 g1 r1 n1 d1 w1=>?_;rw[e1]at q;cases x with
 |bl b=>unfold Rel at r1;exact⟨b,r1.1,q H1 F1 g1⟩
 |_=>exact q.elim
def fH(ho:OpR X (compareOp op) r)(hm:jb T W f r)(ha:SE X T W a ma)(hb:SE X T W b mb)(hk:behindInMarks op b=false):ST X T W (.Compare a [op] [b] pos) (aA (mOp f ma mb)):=
 PT.wk (nR (pos:=pos) ho ha hb hk) fun Y H Q h=>by obtain⟨Z,F,env,fp,S,q⟩:=tT.test h;exact tE.mir2 hm ⟨Z,F,env,fp,S,q⟩
def kH(h:ST X T W a m):ST X T W (.UnaryOp .Not a pos) (iM m):=PT.wk (Cd (pos:=pos) h) fun Y H Q hz1=>by obtain⟨Z,F,env,fp,S,q⟩:=hz1;unfold iM at q;refine tT.bind S (fun c e=>by rw[e]at q;exact q) (fun e=>by rw[e]at q;exact q) fun b H1 F1 e1 g1=>?_;rw[e1]at q;exact q H1 F1 g1
def c_(h:ST X T W a m):SW X T W (.BoolOp .And [a] pos) m:=zi h
def jg(h:ST X T W a m):SW X T W (.BoolOp .Or [a] pos) m:=Cb h
def eE{bF:List Expr}(h:ST X T W a m)(h2:SW X T W (.BoolOp .And (b::bF) pos) n):SW X T W (.BoolOp .And (a::b::bF) pos) (d6 m n):=PW.wk (Cc h h2) fun Y H Q hz1=>by
 obtain⟨Z,F,env,fp,S,q⟩:=hz1;unfold d6 at q;refine tT.bind S (fun c e=>by rw[e]at q;exact q) (fun e=>by rw[e]at q;exact q) fun b H1 F1 e1 g1=>?_;rw[e1]at q;cases b with
 |true=>
  refine(if_pos rfl).mpr ⟨Z,F1,env,fp,S.grow g1,?_⟩;simp only[Res.HY,if_true]at q;cases e2:n env with
  |ok b=>rw[e2]at q;exact fun H2 F2 g2=>q H2 F2 (g1.trans g2)
  |exc c=>rw[e2]at q;exact fun H' x=>q H' (g1.ext.trans x)
  |stuck=>rw[e2]at q;exact q
 |false=>exact(if_neg (by decide)).mpr (q H1 F1 g1)
def mH{bF:List Expr}(h:ST X T W a m)(h2:SW X T W (.BoolOp .Or (b::bF) pos) n):SW X T W (.BoolOp .Or (a::b::bF) pos) (n9 m n):=PW.wk (Fs h h2) fun Y H Q hz1=>by
 obtain⟨Z,F,env,fp,S,q⟩:=hz1;unfold n9 at q;refine tT.bind S (fun c e=>by rw[e]at q;exact q) (fun e=>by rw[e]at q;exact q) fun b H1 F1 e1 g1=>?_;rw[e1]at q;cases b with
 |false=>
  refine(if_neg (by decide)).mpr ⟨Z,F1,env,fp,S.grow g1,?_⟩;simp only[Res.HY,false_eq_true,if_false]at q;cases e2:n env with
  |ok b=>rw[e2]at q;exact fun H2 F2 g2=>q H2 F2 (g1.trans g2)
  |exc c=>rw[e2]at q;exact fun H' x=>q H' (g1.ext.trans x)
  |stuck=>rw[e2]at q;exact q
 |true=>exact(if_pos rfl).mpr (q H1 F1 g1)
def SW.st(h:SW X T W e m):ST X T W e m:=PW.pt h
def br(hK:X.K=T.K)(h:SE X T W a m)(he:∀whole,isTrue a X.env whole=(do let v <- whole;standAt a.pos;holding [v] (truthy v)):=by intro _;rfl):ST X T W a (aY m):=PT.wk (v9 h he) fun Y H Q hz1=>by
 obtain⟨Z,F,env,fp,S,q⟩:=hz1;unfold aY at q;refine tE.bq S fun x v H1 F1 f1 e1 g1 r1 n1 d1 w1=>?_;rw[e1]at q;rw[hK];cases x with
 |non=>unfold Rel at r1;rw[r1.1];exact⟨false,rfl,q H1 F1 g1⟩
 |bl b=>unfold Rel at r1;rw[r1.1];exact⟨b,rfl,q H1 F1 g1⟩
 |int i=>unfold Rel at r1;rw[r1.1];exact⟨_,rfl,q H1 F1 g1⟩
 |str i=>exact q.elim
 |lst f xs=>
  unfold Rel at r1;obtain⟨a,vs,fp',rfl,hl,hr,_⟩:=r1;have hl':SqL T.K H1 a vs:=hl.sq;have e:(!xs.isEmpty)=!vs.isEmpty:=by have:=hr.length;cases xs<;>cases vs<;>simp_all
  exact⟨_,.inl ⟨vs,hl',rfl⟩,by rw[<- e];exact q H1 F1 g1⟩
 |tup xs=>
  unfold Rel at r1;obtain⟨a,vs,rfl,hl,hr⟩:=r1;have e:(!xs.isEmpty)=!vs.isEmpty:=by have:=hr.length;cases xs<;>cases vs<;>simp_all
  exact⟨_,.inr (.inl ⟨vs,hl,rfl⟩),by rw[<- e];exact q H1 F1 g1⟩
 |obj f c ks xs|exc c|box k xs=>exact q.elim
def db(hc:ST X T W c mc)(ha:SE X T W a ma)(hb:SE X T W b mb):SE X T W (.IfExp c a b pos) (f6 mc ma mb):=PE.wk (wp (pos:=pos) hc ha hb) fun Y H Q hz1=>by
 obtain⟨Z,F,env,fp,S,q⟩:=hz1;unfold f6 at q;refine tT.bind S (fun c e=>by rw[e]at q;exact q) (fun e=>by rw[e]at q;exact q) fun b H1 F1 e1 g1=>?_;rw[e1]at q;have lift:∀m:ME,GE T W Z.B F (Own fp) Y H Q (m env)->tE T W m Y H1 Q:=fun m q=>by
  refine⟨Z,F1,env,fp,S.grow g1,?_⟩;cases e2:m env with
  |ok b=>rw[e2]at q;exact fun v H2 F2 f g2 r n d w=>q v H2 F2 f (g1.trans g2) r n d fun a ha=>g1.ext.free (w a ha)
  |exc c=>rw[e2]at q;exact fun H' x=>q H' (g1.ext.trans x)
  |stuck=>rw[e2]at q;exact q
 cases b with
 |true=>exact(if_pos rfl).mpr (lift ma q)
 |false=>exact(if_neg (by decide)).mpr (lift mb q)
def pI(a:ME):ME:=fun env=>(a env).bind fun
 |.bl b=>.ok (.bl (!b))
 |_=>.stuck
def iO(a b:ME):ME:=fun env=>(a env).bind fun
 |.bl true=>b env
 |.bl false=>.ok (.bl false)
 |_=>.stuck
def qH(a b:ME):ME:=fun env=>(a env).bind fun
 |.bl false=>b env
 |.bl true=>.ok (.bl true)
 |_=>.stuck
def BT(ha:SE X T W a ma):SE X T W (.UnaryOp .Not a pos) (pI ma):=PE.wk (Cr (pos:=pos) ha) fun Y H Q hz1=>by
 obtain⟨Z,F,env,fp,S,q⟩:=hz1;unfold pI at q;refine tE.bq S fun x v H1 F1 f1 e1 g1 r1 n1 d1 w1=>?_;rw[e1]at q;cases x with
 |bl b=>unfold Rel at r1;exact⟨b,r1.1,q.scal g1 fK⟩
 |_=>exact q.elim
def kQ(ha:SE X T W a ma):SE X T W (.BoolOp op [a] pos) ma:=Cq ha
def tE.later(S:aw T Z F H Y env fp)(g1:Gr F H F' H')(q:GE T W Z.B F (Own fp) Y H Q (m env)):tE T W m Y H' Q:=by
 refine⟨Z,F',env,fp,S.grow g1,?_⟩;cases e2:m env with
 |ok b=>rw[e2]at q;exact fun v H2 F2 f g2 r n d w=>q v H2 F2 f (g1.trans g2) r n d fun a ha=>g1.ext.free (w a ha)
 |exc c=>rw[e2]at q;exact fun H' x=>q H' (g1.ext.trans x)
 |stuck=>rw[e2]at q;exact q
def nM{bF:List Expr}(ha:SE X T W a ma)(hb:SE X T W (.BoolOp .And (b::bF) pos) mb):SE X T W (.BoolOp .And (a::b::bF) pos) (iO ma mb):=PE.wk (Cw ha hb) fun Y H Q hz1=>by
 obtain⟨Z,F,env,fp,S,q⟩:=hz1;unfold iO at q;refine tE.bq S fun x v H1 F1 f1 e1 g1 r1 n1 d1 w1=>?_;rw[e1]at q;cases x with
 |bl b=>
  unfold Rel at r1;refine⟨b,r1.1,?_⟩;cases b with
  |true=>exact(if_pos rfl).mpr (tE.later S g1 q)
  |false=>exact(if_neg (by decide)).mpr (q.scal g1 fK)
 |_=>exact q.elim
def AZ{bF:List Expr}(ha:SE X T W a ma)(hb:SE X T W (.BoolOp .Or (b::bF) pos) mb):SE X T W (.BoolOp .Or (a::b::bF) pos) (qH ma mb):=PE.wk (Fx ha hb) fun Y H Q hz1=>by
 obtain⟨Z,F,env,fp,S,q⟩:=hz1;unfold qH at q;refine tE.bq S fun x v H1 F1 f1 e1 g1 r1 n1 d1 w1=>?_;rw[e1]at q;cases x with
 |bl b=>
  unfold Rel at r1;refine⟨b,r1.1,?_⟩;cases b with
  |false=>exact(if_neg (by decide)).mpr (tE.later S g1 q)
  |true=>exact(if_pos rfl).mpr (q.scal g1 fK)
 |_=>exact q.elim
def yF(T:Tb)(W:Nat->St->HJ)(f:PV->HL)(r:V->Hp->VK->Prop):Prop:=
 ∀(B F L:HB) (Y:St) (H:Hp) (Q:VK) (F':HB) (H':Hp) (x:PV) (v:V) (fx:HE),Gr F H F' H'->Rel T F' B L H' x v fx->(∀a∈fx,¬F' a)->fx.Nodup->(∀a∈fx,H a=none)->GE T W B F L Y H Q (f x)->r v H' Q
def tE.mir1(hm:yF T W f r)(h:tE T W (mUn f m) Y H Q):tUn r (tE T W m) Y H Q:=by obtain⟨Z,F,env,fp,S,q⟩:=h;unfold mUn at q;refine tE.bq S fun x v H1 F1 f1 e1 g1 r1 n1 d1 w1=>?_;rw[e1]at q;exact hm Z.B F (Own fp) Y H Q F1 H1 x v f1 g1 r1 n1 d1 w1 q
def kT:PV->HL
 |.int i=>.ok (.int (-i))
 |_=>.stuck
def gW(ha:SE X T W a m):SE X T W (.UnaryOp .USub a pos) (mUn kT m):=PE.wk (Fv (pos:=pos) BB ha) fun Y H Q h=>tE.mir1 (fun B F L Y H Q F' H' x v fx g r _ _ _ q=>by
 cases x with
 |int i=>unfold Rel at r;exact⟨i,r.1,q.scal g dW⟩
 |_=>exact q.elim) h
def dG(k:Nat):List Nat->HK->Option PV
 |j::ks,v::vs=>if j=k then some v else dG k ks vs
 |_,_=>none
def Fl.HR:Fl->Bool
 |.own=>true
 |_=>false
def aW(k:Nat):PV->HL
 |.obj f _ ks vs=>match dG k ks vs with
  |some v=>if f.HR&&v.has Fl.HR then .stuck else .ok v
  |none=>.stuck
 |_=>.stuck
mutual
def Rel.HX:∀{x:PV}{v:V}{fp:HE},x.has Fl.HR=false->Rel T F B L H x v fp->fp=[]
 |.non,_,_,_,h|.bl _,_,_,_,h|.int _,_,_,_,h|.str _,_,_,_,h=>by unfold Rel at h;exact h.2
 |.lst f xs,_,fp,hp,h=>by
  unfold Rel at h;simp only[PV.has,or_eq_false_iff]at hp;obtain⟨a,vs,fp',e,hl,hr,hf⟩:=h;cases f with
  |own=>exact absurd hp.1 (by decide)
  |frz|bor|lnt|mod=>exact hf.2
 |.tup xs,_,fp,hp,h=>by unfold Rel at h;simp only[PV.has]at hp;obtain⟨a,vs,e,hl,hr⟩:=h;exact RelL.HX hp hr
 |.obj f c ks xs,_,fp,hp,h=>by
  unfold Rel at h;simp only[PV.has,or_eq_false_iff]at hp;obtain⟨a,dx,vs,fp',e,hl,hk,hr,hf,ha⟩:=h;cases f with
  |own=>exact absurd hp.1 (by decide)
  |frz|bor|lnt|mod=>exact hf.2
 |.exc c,_,fp,hp,h=>by unfold Rel at h;obtain⟨a,_,_,e⟩:=h;exact e
 |.box k xs,_,fp,hp,h=>by unfold Rel at h;obtain⟨a,vs,e,hl,hr⟩:=h;exact RelL.HX hp hr
def RelL.HX:∀{xs:HK}{vs:HI}{fp:HE},hasL Fl.HR xs=false->RelL T F B L H xs vs fp->fp=[]
 | [],_,_,_,h=>by unfold RelL at h;exact h.2
 |x::xs,_,fp,hp,h=>by unfold RelL at h;simp only[hasL,or_eq_false_iff]at hp;obtain⟨v,ws,f1,f2,e,h1,h2,rfl⟩:=h;rw[Rel.HX hp.1 h1,RelL.HX hp.2 h2];rfl
end
def RelL.get:∀{xs:HK}{vs:HI}{fp:HE}{i:Nat}{x:PV},RelL T F B L H xs vs fp->xs[i]?=some x->∃v f,vs[i]?=some v/\Rel T F B L H x v f/\f.Sublist fp
 | [],_,_,_,_,_,e=>by simp at e
 |y::xs,_,fp,0,x,h,e=>by
  unfold RelL at h
  grind
 |y::xs,_,fp,i+1,x,h,e=>by unfold RelL at h;obtain⟨v,ws,f1,f2,rfl,h1,h2,rfl⟩:=h;obtain⟨w,f,e1,r,s⟩:=RelL.get (i:=i) h2 (by simpa using e);exact⟨w,f,by simpa using e1,r,s.trans (List.sublist_append_right _ _)⟩
def pR:∀{ks:List Nat}{xs:HK}{vs:HI}{fp:HE}{x:PV},RelL T F B L H xs vs fp->dG k ks xs=some x->∃v f,((ks.map T.att).zip vs).lookup (T.att k)=some v/\Rel T F B L H x v f/\f.Sublist fp
 | [],_,_,_,_,_,e|j::ks,[],_,_,_,_,e=>by simp[dG]at e
 |j::ks,y::xs,_,fp,x,h,e=>by
  unfold RelL at h;obtain⟨v,ws,f1,f2,rfl,h1,h2,rfl⟩:=h;unfold dG at e;by_cases hj:j=k
  ·rw[if_pos hj]at e;cases e;subst hj;exact⟨v,f1,by simp,h1,List.sublist_append_left _ _⟩
  ·rw[if_neg hj]at e;obtain⟨w,f,e1,r,s⟩:=pR (ks:=ks) h2 e;refine⟨w,f,?_,r,s.trans (List.sublist_append_right _ _)⟩;have:(T.att k==T.att j)=false:=by rw[beq_eq_false_iff_ne];exact fun z=>hj (T.inj _ _ z).symm
   rw[map_cons,List.zip_cons_cons,List.lookup_cons,this];exact e1
def yT(hK:X.K=T.K)(hf:T.att k=f)(hc:∀c<T.nc,Cls T.K (T.cls c))(hn:∀c<T.nc,d4 T.K (T.cls c) f)(h:tE T W (mUn (aW k) m) Y H Q):E7 X.K (tE T W m) f Y H Q:=by
 obtain⟨Z,F,env,fp,S,q⟩:=h;unfold mUn at q;refine tE.bq S fun x v H1 F1 f1 e1 g1 r1 n1 d1 w1=>?_;rw[e1]at q;cases x with
 |obj fl c ks xs=>
  simp only[Res.HY,aW]at q;cases e2:dG k ks xs with
  |none=>rw[e2]at q;exact q.elim
  |some y=>
   rw[e2]at q;dsimp only at q;unfold Rel at r1;obtain⟨a,dx,vs,fp',rfl,hl,hk,hr,hfl,_⟩:=r1;obtain⟨w,f',l1,l2,l3⟩:=pR hr e2;have e0:f'=[]:=by
    cases fl with
    |own=>
     simp only[Fl.HR,Bool.true_and]at q;by_cases ho:y.has Fl.HR=true
     ·rw[if_pos ho]at q;exact q.elim
     ·exact Rel.HX (by simpa using ho) l2
    |frz|bor|lnt|mod=>obtain⟨rfl,_⟩:=hfl;exact List.sublist_nil.mp l3
   subst e0;by_cases hb:(fl.HR&&y.has Fl.HR)=true
   ·rw[if_pos hb]at q;exact q.elim
   ·rw[if_neg hb]at q;rw[hK];exact⟨a,_,dx,_,w,rfl,hl,hc c hk.2,hn c hk.2,by rw[<- hf];exact l1,q.scal g1 l2⟩
 |_=>exact q.elim
def za(hK:X.K=T.K)(hf:T.att k=f)(hc:∀c<T.nc,Cls T.K (T.cls c))(hn:∀c<T.nc,d4 T.K (T.cls c) f)(he:SE X T W e m)(hb:attributeBase e f X.env (eval e X.env)=eval e X.env:=by rfl) :
  SE X T W (.Attribute e f pos) (mUn (aW k) m):=PE.wk (Cv (pos:=pos) he hb) fun Y H Q h=>yT hK hf hc hn h
end
end PR
namespace L2
open PySem PySem.Spec
def cY.there(x:cY P w H h a o):∃u,h.get? a=some u:=by
 cases o with
 |lst xs=>obtain⟨_,_,_,_,e⟩:=x;exact⟨_,e⟩
 |tup xs=>obtain⟨_,_,_,o,e,_⟩:=x;exact⟨_,e⟩
 |dK kvs|dT kvs=>obtain⟨_,_,_,_,o,_,_,e,_⟩:=x;exact⟨_,e⟩
 |set S n=>obtain⟨o,_,_,_,e,_⟩:=x;exact⟨_,e⟩
 |ins C dx fs=>obtain⟨_,_,_,e,_⟩:=x;exact⟨_,e⟩
 |own y=>exact x
 |xd fs=>obtain⟨_,⟨_,_,_,e,_⟩,_⟩:=x;exact⟨_,e⟩
 |rng lo hi=>obtain⟨_,_,_,e⟩:=x;exact⟨_,e⟩
 |frz ob u=>obtain⟨e,_⟩:=x;exact⟨_,e⟩
 |tbl ps=>obtain⟨_,e,_⟩:=x;exact⟨_,e⟩
 |met f y=>exact⟨_,(show h.get? a=some _ from x)⟩
 |ext φ=>obtain⟨_,q,_⟩:=x;exact q
end L2
namespace PR
open PySem PySem.Spec L2
structure Fly(P:Program)(w:World)(outer:List Env)(H:Hp)(s:Shared)(cls:Value)(H':Hp)(e:Value)(s':Shared):Prop where
 os:s'.os=s.os
 bare:PyProof.Rows.AllBare s'.gens
 un:Un (frs outer) [] H H' s.heap s'.heap
 hok:HOk P w H' s'.heap
 fly:∃x a0 Bh,e=.ref x/\FlyingW Bh outer x cls a0 s'.heap/\(∀b o u,H' b=some u->s'.heap.get? b=some o->Bh.get? b=some o)/\
  (∀b o o',s'.heap.get? b=some o->s.heap.get? b=some o'->b∉frs outer->Bh.get? b=some o)
def CXP(P:Program)(w:World):CXT:=fun outer H s E e s'=>∃cls H',Fly P w outer H s cls H' e s'/\E cls none H'
def XF(X:Cx)(T:Tb)(W:Nat->St->HJ):Prop:=∀(gV:HA) (Y:St) (H:Hp) (s:Shared) (c:Nat) (H':Hp) (e:Value) (s':Shared),L2.Inv X gV Y H s->Fly X.prog X.w X.stack H s (.ref (T.xcl c)) H' e s'->W c Y H'->X.xe e s'
def XM(X:Cx)(T:Tb)(W:Nat->St->HJ):Prop:=∀(gV:HA) (Y:St) (H:Hp) (s:Shared) (c:Nat) (h':Heap) (e:Addr) (vs:HD),L2.Inv X gV Y H s->Heap.MadeExcOf s.heap h' e (.ref (T.xcl c)) vs->W c Y H->X.xe (.ref e) {s with heap:=h'}
section
variable{P:Program}{w:World}{K:PySem.W.Frag}{mg:Hz}{base:Heap}{N:HF}{qual:Str}{scope:Scope}{f:Addr}{cd:Value}{A:Around}{outer:List Env}{s:Shared}{H:Hp}{E:XK}
def sH{H:Hp}{h h' Bh:Heap}(ok:HOk P w H h)(k:∀b o u,H b=some u->h.get? b=some o->Bh.get? b=some o)(st:Bh.StaysIn h'):HOk P w H h':=fun a o e=>
 (ok a o e).stay (fun b u hb q=>by
  rcases hb with rfl|hb
  ·exact st _ _ (k b u _ e q)
  ·exact st _ _ (k b u _ hb q)) (fun _ q=>q) fun _ _ _ q=>q
def jJ(I:L2.Inv X gV Y H1 s1)(hst:X.stack=X.env::X.outer)(hex:X.ex=[])(hfrm:X.env.frame=some X.env.locals)
  (hos:os2=s1.os) (hb:PyProof.Rows.AllBare g2) (u2:Un (frs X.stack) [] H1 H2 s1.heap h2) (ok:HOk X.prog X.w H2 h2) (tr:∀b o u,H2 b=some u->h2.get? b=some o->Bh.get? b=some o)
  (ol:∀b o o',h2.get? b=some o->s1.heap.get? b=some o'->b∉frs X.stack->Bh.get? b=some o) (fl:FlyingW Bh X.outer x cls a0 h') (up:h2.UpToSlots h') :
  Fly X.prog X.w X.outer X.H₀ X.s₀ cls H2 (.ref x) ⟨h',g2,d2,t2,os2⟩:=by
 have u1:=I.base;rw[hex]at u1;have hfs:frs X.stack=X.env.locals::frs X.outer:=by rw[hst];show List.filterMap _ _=_;rw[filterMap_cons,hfrm];rfl
 have u:Un (frs X.stack) [] X.H₀ H2 X.s₀.heap h2:=(u1.mono (fun b hb=>by rw[hfs];exact mem_cons_of_mem _ hb) fun _ z=>z).trans u2;have neL:∀b o,X.s₀.heap.get? b=some o->b≠X.env.locals:=fun b o e=>Nat.ne_of_lt (Nat.lt_of_lt_of_le (lt_size e) I.ok.above);have nst:∀b o,X.s₀.heap.get? b=some o->b∉frs X.outer->b∉frs X.stack:=fun b o e hn hb=>by
  rw[hfs]at hb;rcases mem_cons.mp hb with z|z
  ·exact neL b o e z
  ·exact hn z
 have data:∀b o,X.s₀.heap.get? b=some o->b∈frs X.outer->∀vs,o.data≠.fields vs:=fun b o e hb vs z=>by obtain⟨_,o',ho',hd'⟩:=I.ok.funs.mem hb;rw[e]at ho';cases ho';exact hd' vs z
 refine⟨hos.trans I.os,hb,⟨fun b o e n hf _=>?_,fun b o e n hf _=>?_,u.free,fun b o e _=>?_,u.tups,u.frzs,u.tbls⟩,sH ok tr fl.1,⟨x,a0,Bh,rfl,fl,fun b o v e q=>?_,fun b o o' e q hf=>?_⟩⟩
 ·have q:=u.keep b o e n (nst b o e hf) (by simp);obtain⟨o1,e1⟩:=u1.there b o e (by simp);exact fl.1 b o (ol b o o1 q e1 (nst b o e hf))
 ·obtain⟨sl,q⟩:=u.slot b o e n (by rw[hfs];exact mem_cons_of_mem _ hf) (by simp);obtain⟨sl',q'⟩:=up b _ q (data b o e hf);exact⟨sl',q'⟩
 ·by_cases hf:b∈frs X.outer
  ·obtain⟨_,o2,ho2,_⟩:=fl.2.2.1.mem hf;exact⟨o2,ho2⟩
  ·obtain⟨o1,e1⟩:=u1.there b o e (by simp);obtain⟨o2,e2⟩:=u2.there b o1 e1 (by simp);exact⟨o2,fl.1 b o2 (ol b o2 o1 e2 e1 (nst b o e hf))⟩
 ·have hlt:=ok.lt e;obtain⟨o2,e2⟩:∃o2,h2.get? b=some o2:=by have x:=ok b v e;exact cY.there x
  have:=fl.1 b o2 (tr b o2 v e e2);rw[q]at this;cases this;exact tr b o v e e2
 ·obtain⟨o1,e1⟩:=u1.there b o' q (by simp);obtain⟨o2,e2⟩:=u2.there b o1 e1 (by simp);have hB:=ol b o2 o1 e2 e1 (nst b o' q hf);have:=fl.1 b o2 hB;rw[e]at this;cases this;exact hB
end
section
variable{P:Program}{w:World}{K:PySem.W.Frag}{mg:Hz}{base:Heap}{N:HF}{qual:Str}{scope:Scope}{f:Addr}{cd:Value}{A:Around}{outer:List Env}{s:Shared}{H:Hp}{E:XK}{T:Tb}
abbrev WD(T:Tb)(E:XK):Nat->St->HJ:=fun c _ H=>E (.ref (T.xcl c)) none H
def BA:XF (dv (CXP P w) P w K mg base N qual scope f cd A outer s H E) T (WD T E):=by intro gV Y H1 s1 c H2 e s2 I fl hW;obtain⟨x,a0,Bh,rfl,fly,tr,ol⟩:=fl.fly;refine wpAny_leaves_onW (L:=s.heap.objs.size) I.ok.frames rfl fly fun h' fly' up=>?_;obtain⟨h2,g2,d2,t2,os2⟩:=s2;exact⟨_,H2,jJ I rfl rfl rfl fl.os fl.bare fl.un fl.hok tr ol fly' up,hW⟩
def bK:XM (dv (CXP P w) P w K mg base N qual scope f cd A outer s H E) T (WD T E):=by
 intro gV Y H1 s1 c h2 e vs I mx hW;have hin:∀env ∈(dv (CXP P w) P w K mg base N qual scope f cd A outer s H E).stack,∀b,env.frame=some b->b∈frs (dv (CXP P w) P w K mg base N qual scope f cd A outer s H E).stack:=fun env he b hb=>mem_filterMap.mpr ⟨env,he,hb⟩;refine wpAny_leaves_madeW (base:=hideAll s1.heap (frs (dv (CXP P w) P w K mg base N qual scope f cd A outer s H E).stack)) (h:=s1.heap) (L:=s.heap.objs.size) I.ok.frames rfl (fun b o q=>PySem.W.of_hideAll _ q) (PySem.W.funFrames_hide I.stack hin) mx fun h' t fly' _ _ up=>?_;obtain⟨h1,g1,d1,t1,os1⟩:=s1;have fresh:∀b o,h1.get? b=some o->h2.get? b=some o:=mx.keeps;have nfr:∀b u,H1 b=some u->b∉frs (dv (CXP P w) P w K mg base N qual scope f cd A outer s H E).stack:=fun b u e hb=>by rw[I.stkFree b hb]at e;cases e
 refine⟨_,H1,jJ I rfl rfl rfl rfl I.bare (h2:=h2) (Bh:=hideAll h1 (frs (dv (CXP P w) P w K mg base N qual scope f cd A outer s H E).stack)) (Un.kept fresh) (I.hok.kept fresh) (fun b o u e q=>?_) (fun b o o' e q hb=>?_) fly' up,hW⟩
 ·obtain⟨o1,e1⟩:=cY.there (I.hok b u e);have:=fresh b o1 e1;rw[q]at this;cases this;exact hideAll_get _ e1 (nfr b u e)
 ·have:=fresh b o' q;rw[e]at this;cases this;exact hideAll_get _ q hb
end
structure Hm(X:Cx)(x:Str)(C:Addr):Prop where
 bm:X.mg x=some (.ref C)
 obj:∃bm N nm q bs hdct sn sub ab col dd k0 k1 k2 k3 k5 mN,X.base.get? C=some (excClassObj nm q C N bs bm hdct sn sub ab col dd k0 k1 k2 k3 k5 "ValueError.__new__")/\X.base.Ns N mN/\mN "__init__"=none /\
  OwnTail X.base [.type "ValueError",.type "Exception",.type "BaseException",.type "object"] bm
section
variable{X:Cx}{T:Tb}{W:Nat->St->HJ}
def vA(O:Hm X x (T.xcl c))(hx:XM X T W)(hc:X.calm=true)(hg:Gl X x)(ha:SA X T W (e::es) ms)(hne:∀env pvs,ms env=.ok pvs->pvs.length<=100)(hd:(x ==("__debug__":Str))=false:=by decide)
  (he:starEach (e::es) X.env=(false,eval e X.env)::starEach es X.env:=by rfl) (hpl:(backTo cpos (starEach es X.env)).any (·.1)=false:=by rfl) :
  SS X T W (.Raise (some (.Call (.Name x np) (e::es) [] cpos)) none pos) (fun env=>match ms env with
   |.ok _=>.exc c env
   |.exc k=>.exc k env
   |.stuck=>.stuck):=by
 intro gV s Y H D I h;obtain⟨Z,F,env,fp,S,q⟩:=h;dsimp only at q;obtain⟨tl,N,nm,qn,bs,hdct,sn,sub,ab,col,dd,k0,k1,k2,k3,k5,mN,hC,hN,hni,TL⟩:=O.obj;refine wpAny_Raise_call_subT (C:=T.xcl c) (nm:=nm) (q:=qn) (N:=N) (bs:=bs) (bm:=tl) (hdct:=hdct) (sn:=sn) (sub:=sub) (ab:=ab) (col:=col) (dd:=dd) (k0:=k0) (k1:=k1) (k2:=k2) (k3:=k3) (k5:=k5)
  PySem.F.excBase_ValueError (mN:=mN) (TL.hasType PySem.F.excBase_ValueError.hasBase) (I.ok.hd hc) (by rw[he];show(false ||(backTo cpos (starEach es X.env)).any (·.1))=false;rw[hpl];rfl) hni (iQ I hg O.bm ⟨rfl,?_⟩ hd)
 have h2:=ha cpos gV s Y H (fun vs H'=>vs.length <= 100/\W c Y H') I (tA.bind S (fun k e H' x=>by rw [e] at q;exact q F H' Y fp (S.grow (Gr.same S.hp.ft x))) (fun e=>by rw [e] at q;exact q) fun pvs vs H' F' f e g r _ _ _=>by
  rw[e]at q;exact⟨by rw[<- r.length];exact hne env pvs e,q F' H' Y fp (S.grow g)⟩)
 rw[he]at h2 ⊢;refine Calls.evalArgs_plain (wpAny_mono h2 (fun vs s₂ h₂=>?_) fun _ _ y=>y);obtain⟨vs',H',I2,rv,hl,hw⟩:=h₂;refine⟨rfl,?_,I2.bk _ _ hC,hN.keeps I2.bk,TL.keeps I2.bk,fun h' e' mx=>hx gV Y H' s₂ c h' e' vs I2 mx hw⟩;rw[<- rv.length,sizeLine_eq]
 lia
end
def ax(m:HK->HL)(xs:HK):HL:=match m (mapL Fl.HN xs)with
 |.ok v=>if v.has Fl.HU then .stuck else .ok v
 |.exc c=>.exc c
 |.stuck=>.stuck
def bj(n:Nat)(m:MS)(args:HK):HL:=match m (args.map some++replicate (n-args.length) none)with
 |.next _=>.ok .non
 |.ret v=>.ok v
 |.exc c _=>.exc c
 |_=>.stuck
def GF(T:Tb)(Z:Zn)(Q:VK)(E:XK):HL->Prop
 |.ok pv=>∀F H v f,bT T Z F H->Rel T F Z.B NoL H pv v f->f.Nodup->(∀a∈f,¬F a)->(∀a∈f,Z.H0 a=none\/Z.fp0 a)->Q v H
 |.exc c=>∀H,(∀a o,Z.H0 a=some o->¬Z.fp0 a->H a=some o)->E (.ref (T.xcl c)) none H
 |.stuck=>False
structure uX(T:Tb)(F B:HB)(H:Hp)(pvs:HK)(vs:HI)(f:HE):Prop where
 rel:RelL T F B NoL H pvs vs f
 nd:f.Nodup
 nf:∀a∈f,¬F a
 bo:(∀a,B a->(∃o,H a=some o)/\a∉f)/\AN T H (·∈f)
 ft:∀a,F a->∃o,H a=some o
def spM(T:Tb)(n:Nat)(m:HK->HL):Sp:=fun vs H Q E=>vs.length=n/\∃pvs F B f,uX T F B H pvs vs f/\GF T ⟨H,F,(·∈f),B,none⟩ Q E (m pvs)
def RelL.split:∀{xs:HK}{vs:HI}{f:HE},RelL T F B L H xs vs f->f.Nodup ->
  ∃g:Nat->HE,(∀(i:Nat) x v,xs[i]?=some x->vs[i]?=some v->Rel T F B L H x v (g i))/\(∀i,(g i).Nodup)/\(∀i j,i≠j->∀a∈g i,a∉g j)/\∀i a,a∈g i->a∈f
 | [],_,_,_,_=>⟨fun _=>[],fun i x v e=>by simp at e,fun _=>nodup_nil,fun _ _ _ _ z=>(nomatch z),fun _ _ z=>(nomatch z)⟩
 |x::xs,_,_,h,nd=>by
  unfold RelL at h;obtain⟨v,ws,f1,f2,rfl,h1,h2,rfl⟩:=h;obtain⟨n1,n2,n3⟩:=nodup_append.mp nd;obtain⟨g,g1,g2,g3,g4⟩:=RelL.split h2 n2;refine⟨fun i=>match i with|0=>f1|j+1=>g j,fun i y u e1 e2=>?_,fun i=>?_,fun i j hij a ha=>?_,fun i a ha=>?_⟩
  ·cases i with
   |zero=>simp at e1 e2;subst e1 e2;exact h1
   |succ i=>exact g1 i y u (by simpa using e1) (by simpa using e2)
  ·cases i with
   |zero=>exact n1
   |succ i=>exact g2 i
  ·grind
  grind
section
variable{P:Program}{w:World}{K:PySem.W.Frag}{mg:Hz}{base:Heap}{T:Tb}
def jT(N:HF)(R:uX T F B H pvs vs f)(pin:Option V)(hpin:∀v,pin=some v->vs[0]?=some v/\∃fl c ks xs,pvs[0]?=some (.obj fl c ks xs)) :
  ∃fp,aw T ⟨H,F,(·∈f),B,pin⟩ F H (L2.fW N vs) (pvs.map some++replicate (N.length-pvs.length) none) fp:=by
 obtain⟨g,g1,g2,g3,g4⟩:=R.rel.split R.nd;have hl:=R.rel.length;refine⟨g,⟨R.bo,fun _ _ h _=>h,fun _ h=>h,fun _ h=>.inl h,R.ft⟩,?_,fun i pv e=>?_,g2,g3,fun i a ha=>⟨R.nf a (g4 i a ha),R.rel.there a (g4 i a ha)⟩,fun i a ha=>.inr (g4 i a ha),fun i a ha=>R.rel.chg a (g4 i a ha),fun v hv=>?_⟩
 ·unfold L2.fW;simp[hl]
 ·by_cases hi:i<pvs.length
  ·rw[getElem?_append_left (by simpa using hi),getElem?_map]at e;obtain⟨x,e1,e2⟩:=map_eq_some_iff.mp e;cases e2;obtain⟨v,_,ev,_⟩:=R.rel.get e1;refine⟨v,?_,g1 i pv v e1 ev⟩;unfold L2.fW;rw[getElem?_append_left (by simpa[<- hl]using hi),getElem?_map,ev];rfl
  ·rw[getElem?_append_right (by simpa using hi),getElem?_replicate]at e;split at e<;>cases e
 ·obtain⟨h1,fl,c,ks,xs,h2⟩:=hpin v hv;have hl0:0<vs.length:=(List.getElem?_eq_some_iff.mp h1).1;have hp0:0<pvs.length:=(List.getElem?_eq_some_iff.mp h2).1;unfold L2.fW b7;rw[getElem?_append_left (by simpa using hl0),getElem?_append_left (by simpa using hp0),getElem?_map,getElem?_map,h1,h2];exact⟨rfl,rfl⟩
def Gv(F:Fun K x qual st f fd)(S:cG N ps (az st))
  (body:∀ (cdv:Value) (A:Around) (outer:List Env) (s:Shared) (H:Hp) (E:XK),c9 k (A.deeper (PyProof.Rows.envOfC qual (az st) s.heap.objs.size f cdv)) ->
   SSs (dv (CXP P w) P w K mg base N qual (az st) f cdv A outer s H E) T (WD T E) (bc st) m):b9 P w K mg base (CXP P w) (k+1) f fd ps (spM T ps.length (bj N.length m)):=by
 obtain⟨oc,od,kV,doc,pm,an,cdv,ct,osl,rfl,lk,hcd⟩:=F.ex;refine xu lk hcd S (fun vs H Q E h=>h.1) fun A outer s H vs Q E hr hsp=>⟨_,body cdv A outer s H E hr,?_⟩
 obtain⟨_,pvs,F,B,fl,R,q⟩:=hsp;obtain⟨fp,S0⟩:=jT N R none (fun _ h=>nomatch h);refine⟨_,F,_,fp,S0,?_⟩;unfold bj at q;cases e:m (pvs.map some++replicate (N.length-pvs.length) none)with
 |next e'=>rw[e]at q;exact fun F' H' σ' fp' S'=>q F' H' .non [] S'.hp Fo nodup_nil (fun _ z=>(nomatch z)) (fun _ z=>(nomatch z))
 |ret v=>rw[e]at q;exact q
 |brk e'|cont e'=>rw[e]at q;exact q.elim
 |exc c e'=>rw[e]at q;exact fun F' H' σ' fp' S'=>q H' S'.hp.keep
 |stuck=>rw[e]at q;exact q.elim
end
def wM(hB:∀a,B a->B' a)(hL:∀a,L a->B' a):Mp T Fl.HN (fun _=>false) (fun x=>x) (fun _=>True) F B L H F B' L' H:=
 ⟨fun f a vs _ c h=>by
  cases f with
  |bor=>exact⟨hB a h.1,h.2⟩
  |lnt=>exact⟨hL a h.1,.inl h.2⟩
  | _=>exact h,fun f a _ c h=>⟨by
  cases f with
  |bor=>exact hB a h
  |lnt=>exact hL a h
  |_=>exact h,fun _ q=>q⟩,fun f a x y h=>by cases f<;>exact h,rfl,fun _ _=>rfl,fun _ _ q _=>q⟩
def RelL.HN(hB:∀a,B a->B' a)(hL:∀a,L a->B' a)(h:RelL T F B L H x v fo):RelL T F B' L' H (mapL Fl.HN x) v fo:=(wM hB hL).rels (has_noL x) (fun _ _=>True.intro) h
def Rel.noB(hp:x.has Fl.HU=false)(h:Rel T F B L H x v fo):Rel T F B' L H x v fo:=by
 have:=(wN (p:=Fl.HU) (B':=B') (fun _ _ q=>q) (fun z=>(nomatch z))).rel hp (fun _ _=>True.intro) h
 rwa [kr]at this
def RelL.append:∀{xs ys:HK}{vs us:HI}{f g:HE},RelL T F B L H xs vs f->RelL T F B L H ys us g->RelL T F B L H (xs++ys) (vs++us) (f++g)
 | [],_,_,_,_,_,h,r=>by unfold RelL at h;obtain⟨rfl,rfl⟩:=h;exact r
 |x::xs,_,_,_,_,_,h,r=>by unfold RelL at h;obtain⟨v,ws,f1,f2,rfl,h1,h2,rfl⟩:=h;show RelL T F B L H (x::(xs++_)) (v::(ws++_)) _;unfold RelL;exact⟨v,_,f1,_,rfl,h1,RelL.append h2 r,by rw[append_assoc]⟩
section
variable{X:Cx}{T:Tb}{W:Nat->St->HJ}{Z:Zn}{F F1:HB}{H H1:Hp}{Y:St}{env:En}{fp:Nat->HE}
def A4
  (G:b9 X.prog X.w X.K X.mg X.base (CXP X.prog X.w) k f fd ps (spM T ps.length m)) (hr:c9 k X.A) (hb:dy X.K fd ps ds) (hd:aK dvs ds) (hdp:∀F B L H,RelL T F B L H dps dvs []) (hx:XF X T W)
  (S:aw T Z F H Y env fp) (g:Gr F H F1 H1) (r:RelL T F1 Z.B (Own fp) H1 xs vs fx) (nf:∀a∈fx,¬F1 a) (nd:fx.Nodup) (new:∀a∈fx,H a=none) (q:GE T W Z.B F (Own fp) Y H Q (ax m (xs++dps)))
  (I1:L2.Inv X gV Y H1 s1) (rv:aK vs us) (hlen:vs.length+dvs.length=ps.length):wpAny (model X.prog X.w) X.A (call (.ref f) us) (EP X gV Y Q) X.xe s1:=by
 have r2:aK (vs++dvs) (us++ds):=rv.append hd;have hl:(us++ds).length=ps.length:=by rw[<- r2.length,length_append];exact hlen
 have rr:RelL T F1 Z.B (Own fp) H1 (xs++dps) (vs++dvs) fx:=by
  have:=RelL.append r (hdp F1 Z.B (Own fp) H1)
  rwa [append_nil]at this
 have hBo:∀a,Z.B a->(∃o,H1 a=some o)/\a∉fx:=fun a h=>by obtain⟨⟨o,h1⟩,h2⟩:=S.hp.bo.1 a h;have h3:=S.hp.keep a o h1 h2;exact⟨⟨o,g.ext a o h3⟩,fun z=>by rw[new a z]at h3;cases h3⟩
 have hOw:∀a,Own fp a->(∃o,H1 a=some o)/\a∉fx:=fun a hz1=>by obtain⟨i,hi⟩:=hz1;obtain⟨_,o,ho⟩:=S.dis i a hi;exact⟨⟨o,g.ext a o ho⟩,fun z=>by rw[new a z]at ho;cases ho⟩
 have R:uX T F1 (fun a=>(∃o,H1 a=some o)/\a∉fx) H1 (mapL Fl.HN (xs++dps)) (vs++dvs) fx:=⟨RelL.HN hBo hOw rr,nd,nf,⟨fun a h=>h,S.tbo g.ext fun a z=>.inl (new a z)⟩,g.dom⟩
 refine wpAny_call (codeAny_mono (G.run X.A X.stack s1 H1 ⟨us,[]⟩ (us ++ ds) (vs ++ dvs) Q (fun cls _ H'=>∃ c,cls=.ref (T.xcl c)/\W c Y H') hr I1.env0 (hb s1 us I1.kIn hl) r2
  ⟨by rw[r2.length,hl],_,F1,_,fx,R,?_⟩) fun rs s' hq=>?_)
 ·unfold ax at q;cases e:m (mapL Fl.HN (xs++dps))with
  |ok v=>
   rw[e]at q;dsimp only at q;intro F2 H2 u f2 hp2 r3 nd2 nf2 new2;by_cases hbr:v.has Fl.HU=true
   ·rw[if_pos hbr]at q;exact q.elim
   ·rw[if_neg hbr]at q;have hbr':v.has Fl.HU=false:=by simpa using hbr
    refine q u H2 F2 f2 ⟨fun a o h=>hp2.keep a o (g.ext a o h) fun z=>(by rw[new a z]at h;cases h),fun a h=>hp2.f0 a (g.mono a h),fun a h=>?_,hp2.ft⟩ ?_ nf2 nd2 fun a ha=>?_
    ·rcases hp2.fn a h with z|z|z
     ·exact g.only a z
     ·exact .inr (g.ext.free z)
     ·exact .inr (new a z)
    ·exact Rel.tr (fun _ h=>h) (fun _ h=>h) (fun _ h=>h.elim) (fun _ _ h _=>h) (fun _ _ _ h=>h) (Rel.noB (B':=Z.B) hbr' r3)
    ·rcases new2 a ha with z|z
     ·exact g.ext.free z
     ·exact new a z
  |exc c=>rw[e]at q;exact fun H' h=>⟨c,rfl,q H' fun a o z=>h a o (g.ext a o z) fun z'=>by rw[new a z']at z;cases z⟩
  |stuck=>rw[e]at q;exact q.elim
 ·cases rs with
  |error e=>obtain⟨cls,H',fl,c,rfl,hw⟩:=hq;exact hx gV Y H1 s1 c H' e s' I1 fl hw
  |ok fl=>
   cases fl with
   |ret u=>exact I1.after hq
   |next|brk|cont=>exact False.elim hq
def rW
  (G:b9 X.prog X.w X.K X.mg X.base (CXP X.prog X.w) k f fd ps (spM T ps.length m)) (hr:c9 k X.A) (hg:Gl X x) (hm:X.mg x=some (.ref f)) (hk:PySem.W.keepIn X.K (.ref f)=true) (hb:dy X.K fd ps ds) (hd:aK dvs ds) (hdp:∀F B L H,RelL T F B L H dps dvs []) (hx:XF X T W)
  (hn:∀env xs,ms env=.ok xs->xs.length+dvs.length=ps.length) (ha:SA X T W (e::es) ms)
  (hdb:(x ==("__debug__":Str))=false:=by decide) (he:starEach (e::es) X.env=(false,eval e X.env)::starEach es X.env:=by rfl) (hpl:(backTo pos (starEach es X.env)).any (·.1)=false:=by rfl) :
  SE X T W (.Call (.Name x p) (e::es) [] pos) (ao (fun xs=>ax m (xs++dps)) ms):=by
 intro gV s Y H Q I h;obtain⟨Z,F,env,fp,S,q⟩:=h;unfold ao at q;refine wpAny_Call_Name_kw (iQ I hg hm ?_ hdb);refine callWith_K (h₀:=X.base) I.ok.mod.kin hk (thn (ha pos gV s Y H (fun vs H1=>∀ us s1,L2.Inv X gV Y H1 s1->aK vs us->wpAny (model X.prog X.w) X.A (call (.ref f) us) (EP X gV Y Q) X.xe s1) I
  (tA.bind S (fun c e=>by rw[e]at q;exact q) (fun e=>by rw[e]at q;exact q) fun xs vs H1 F1 f1 e1 g1 r1 n1 d1 w1 us s1 I1 rv=>?_)) fun us s1 ⟨vs,H1,I1,r,q1⟩=>⟨I1.kIn,q1 us s1 I1 r⟩) he hpl
 rw[e1]at q;exact A4 G hr hb hd hdp hx S g1 r1 n1 d1 w1 q I1 rv (by rw[<- r1.length];exact hn env xs e1)
def mz(X:Cx)(T:Tb)(k:Nat)(mn:Str)(ps:HF)(ds:HD)(disp:Nat->Option (HK->HL)):Prop:=
 ∀c m,c<T.nc->disp c=some m->∃f fd,AO X.K (T.cls c) mn f/\dy X.K fd ps ds/\b9 X.prog X.w X.K X.mg X.base (CXP X.prog X.w) k f fd ps (spM T ps.length m)
def sr(disp:Nat->Option (HK->HL))(dps:HK)(o:ME)(ms:MA):ME:=fun env=>(o env).bind fun ov=>match ov with
 |.obj _ c _ _=>match disp c with
  |some m=>(ms env).bind fun xs=>ax m ((ov::xs)++ dps)
  |none=>.stuck
 |_=>.stuck
def j6(hm:∀k,T.att k≠mn):∀(ks:List Nat) (vs:HI),((ks.map T.att).zip vs).lookup mn=none
 | [],_|j::ks,[]=>rfl
 |j::ks,v::vs=>by rw[map_cons,List.zip_cons_cons,List.lookup_cons,show(mn==T.att j)=false by rw[beq_eq_false_iff_ne];exact(hm j).symm];exact j6 hm ks vs
def zT
  (hK:X.K=T.K) (hc:∀c<T.nc,Cls T.K (T.cls c)) (hm:∀k,T.att k≠mn) (D:mz X T k mn ps ds disp) (e:disp c=some m) (r:Rel T F1 B L H1 (.obj fl c ks xs) v f1) (I1:L2.Inv X gV Y H1 s1) (ru:bE v u)
  (h:∀a f fd,u=.ref a->PySem.W.keepIn X.K (.ref f)=true->dy X.K fd ps ds->b9 X.prog X.w X.K X.mg X.base (CXP X.prog X.w) k f fd ps (spM T ps.length m)->Q (.ref f,[.ref a]) s1) :
  wpAny (model X.prog X.w) X.A (getMethod u mn pl) Q X.xe s1:=by
 unfold Rel at r;obtain⟨a,dx,vs,fp',rfl,hl,hk,hr,_,_⟩:=r;obtain⟨f,fd,M,hb,G⟩:=D c m hk.2 e;obtain rfl:u=Value.ref a:=ru;refine qQ I1 hl (by rw[hK];exact hc c hk.2) M (j6 hm _ _) (h a f fd rfl M.kp hb G)
def y7
  (hK:X.K=T.K) (hc:∀c<T.nc,Cls T.K (T.cls c)) (hm:∀k,T.att k≠mn) (D:mz X T k mn ps ds disp) (hr:c9 k X.A) (hd:aK dvs ds) (hdp:∀F B L H,RelL T F B L H dps dvs []) (hx:XF X T W)
  (hn:∀env xs,ms env=.ok xs->xs.length+1+dvs.length=ps.length) (ho:SE X T W o mo) (ha:SA X T W (e::es) ms)
  (hst:starEach (e::es) X.env=(false,eval e X.env)::starEach es X.env:=by rfl) (hpl:(backTo pos (starEach es X.env)).any (·.1)=false:=by rfl)
  (ht:eval (.Call (.Attribute o mn apos) (e::es) [] pos) X.env=(do
   let ov <- eval o X.env
   standAt apos.atName
   let(f,first) <- holding [ov] (getMethod ov mn pl)
   callWith pos f first (backTo pos (starEach (e::es) X.env)) (backToKw pos (keywordEach [] X.env))):=by rfl) :
  SE X T W (.Call (.Attribute o mn apos) (e::es) [] pos) (sr disp dps mo ms):=by
 intro gV s Y H Q I h;obtain⟨Z,F,env,fp,S,q⟩:=h;unfold sr at q;refine PySem.W.methodCall_KW (pl:=pl) (thn (ho gV s Y H (fun v H1=>∃ ov F1 f1,mo env=.ok ov/\Gr F H F1 H1/\Rel T F1 Z.B (Own fp) H1 ov v f1/\(∀ a ∈ f1,¬ F1 a)/\f1.Nodup/\∀ a ∈ f1,H a=none) I
  (tE.bq S fun ov v H1 F1 f1 e1 g1 r1 n1 d1 w1=>⟨ov,F1,f1,e1,g1,r1,n1,d1,w1⟩)) fun u s1 zz=>?_) ht
 obtain⟨v,H1,I1,ru,ov,F1,f1,e1,g1,r1,n1,d1,w1⟩:=zz;rw[e1]at q;simp only[Res.HY]at q;by_cases hobj:∃fl c ks xs m,ov=.obj fl c ks xs/\disp c=some m
 ·obtain⟨fl,c,ks,ys,m,rfl,em⟩:=hobj;dsimp only at q;rw[em]at q;dsimp only at q;refine zT hK hc hm D em r1 I1 ru fun a f fd eu hkp hb G=>?_;subst eu;refine callWith_K (first:=[.ref a]) (h₀:=X.base) I.ok.mod.kin hkp (thn (ha pos gV s1 Y H1 (fun vs H2=>∀ us s2,L2.Inv X gV Y H2 s2->aK vs us->wpAny (model X.prog X.w) X.A (call (.ref f) (.ref a::us)) (EP X gV Y Q) X.xe s2) I1
   (tA.bind (S.grow g1) (fun c e=>by rw[e]at q;exact fun H' x=>q H' (g1.ext.trans x)) (fun e=>by rw[e]at q;exact q) fun xs vs H2 F2 f2 e2 g2 r2 n2 d2 w2 us s2 I2 rv=>?_)) fun us s2 ⟨vs,H2,I2,r,q2⟩=>⟨I2.kIn,q2 us s2 I2 r⟩) hst hpl
  rw[e2]at q;simp only[Res.HY]at q;have nn:∀b∈f1,¬F2 b:=fun b hb z=>by
   rcases g2.only b z with z|z
   ·exact n1 b hb z
   ·obtain⟨oo,hoo⟩:=r1.there b hb;rw[hoo]at z;cases z
  refine A4 (xs:=.obj fl c ks ys::xs) (vs:=v::vs) (us:=.ref a::us) (fx:=f1++f2) G hr hb hd hdp hx S (g1.trans g2) (by unfold RelL;exact⟨v,vs,f1,f2,rfl,r1.ext g2.ext g2.mono,r2,rfl⟩) (fun b hb=>?_) ?_ (fun b hb=>?_) q I2 (.cons ru rv) ?_
  ·rcases mem_append.mp hb with hb|hb
   ·exact nn b hb
   ·exact n2 b hb
  ·refine nodup_append.mpr ⟨d1,d2,fun b hb c hc z=>?_⟩;subst z;obtain⟨oo,hoo⟩:=r1.there b hb;rw[w2 b hc]at hoo;cases hoo
  ·rcases mem_append.mp hb with hb|hb
   ·exact w1 b hb
   ·exact g1.ext.free (w2 b hb)
  ·have:=hn env xs e2;rw[length_cons,<- r2.length];exact this
 ·exfalso;cases ov with
  |obj fl c ks ys=>
   cases em:disp c with
   |none=>simp only[em]at q;exact q
   |some m=>exact hobj ⟨fl,c,ks,ys,m,rfl,em⟩
  |_=>exact q
end
def fk(ms:MA)(n:Nat):Prop:=∀env xs,ms env=.ok xs->xs.length=n
def dq:fk ak 0:=fun _ _ h=>by cases h;rfl
def cF(h:fk ms n):fk (ae m ms) (n+1):=fun env xs e=>by
 unfold ae at e;cases e1:m env with
 |ok x=>
  rw[e1]at e;simp only[Res.HY]at e;cases e2:ms env with
  |ok ys=>rw[e2]at e;simp only[Res.HY]at e;cases e;rw[length_cons,h env ys e2]
  |exc c|stuck=>rw[e2]at e;cases e
 |exc c|stuck=>rw[e1]at e;cases e
def bB:PV->Option (HK)
 |.lst _ xs|.tup xs=>some xs
 |_=>none
section
variable{X:Cx}{T:Tb}{W:Nat->St->HJ}{Z:Zn}{F F1 B L:HB}{H H1:Hp}{Y:St}{env:En}{fp:Nat->HE}{D:Ends}
def Rel.seq(r:Rel T F B L H x v fx)(e:bB x=some xs):∃a vs fx',v=.ref a/\(SqL T.K H a vs\/SqT T.K H a vs)/\RelL T F B L H xs vs fx'/\fx'.Sublist fx:=by
 cases x with
 |lst f ys=>
  cases e;unfold Rel at r;obtain⟨a,vs,fp',rfl,hl,hr,hf⟩:=r;refine⟨a,vs,fp',rfl,.inl hl.sq,hr,?_⟩;cases f with
  |own=>obtain rfl:fx=a::fp':=hf;exact List.sublist_cons_self _ _
  |frz|bor|lnt|mod=>obtain⟨rfl,rfl⟩:=hf;exact Sublist.refl _
 |tup ys=>cases e;unfold Rel at r;obtain⟨a,vs,rfl,hl,hr⟩:=r;exact⟨a,vs,fx,rfl,.inr hl,hr,Sublist.refl _⟩
 |_=>cases e
def GE.newL(q:GE T W B F L Y H Q (.ok (.lst .own ys)))(g:Gr F H F1 H1)(r:RelL T F1 B L H1 ys vs fx)(nf:∀a∈fx,¬F1 a)(nd:fx.Nodup)(new:∀a∈fx,H a=none) :
  ∀p,H1 p=none->Q (.ref p) (upd H1 p (.lst vs)):=fun p hp=>by
 refine q (.ref p) (upd H1 p (.lst vs)) F1 (p::fx) (g.trans (Gr.same g.dom (Ext.upd hp))) ?_ (fun a ha=>?_) ?_ (fun a ha=>?_)
 ·unfold Rel;exact⟨p,vs,fx,rfl,bA,r.ext (Ext.upd hp) fun _ h=>h,rfl⟩
 ·grind[bV,aw,bT,Gr]
 ·refine nodup_cons.mpr ⟨fun z=>?_,nd⟩;obtain⟨o,ho⟩:=r.there p z;rw[hp]at ho;cases ho
 ·rcases mem_cons.mp ha with rfl|ha
  ·exact g.ext.free hp
  ·exact new a ha
def GE.newT(q:GE T W B F L Y H Q (.ok (.tup ys)))(g:Gr F H F1 H1)(r:RelL T F1 B L H1 ys vs fx)(nf:∀a∈fx,¬F1 a)(nd:fx.Nodup)(new:∀a∈fx,H a=none) :
  ∀p,H1 p=none->Q (.ref p) (upd H1 p (.tup vs)):=fun p hp=>by
 refine q (.ref p) (upd H1 p (.tup vs)) F1 fx (g.trans (Gr.same g.dom (Ext.upd hp))) ?_ nf nd new;unfold Rel;exact⟨p,vs,rfl,SqT.of bA,r.ext (Ext.upd hp) fun _ h=>h⟩
def rK(h:n<=1000):n<=sizeLine:=by rw[sizeLine_eq];lia
def bU(ms:MA):ME:=fun env=>(ms env).bind fun xs=>.ok (.lst .own xs)
def iJ(ms:MA):ME:=fun env=>(ms env).bind fun xs=>.ok (.tup xs)
def BW(ha:SA X T W es ms)(hn:fk ms n)(hs:n<=1000:=by decide):SE X T W (.List es pos) (bU ms):=PE.wk (Ct (pos:=pos) ha) fun Y H Q hz1=>by obtain⟨Z,F,env,fp,S,q⟩:=hz1;unfold bU at q;refine tA.bind S (fun c e=>by rw[e]at q;exact q) (fun e=>by rw[e]at q;exact q) fun xs vs H1 F1 f1 e1 g1 r1 n1 d1 w1=>?_;rw[e1]at q;exact⟨rK (by rw[<- r1.length,hn env xs e1];exact hs),GE.newL q g1 r1 n1 d1 w1⟩
def BR{x1}(ha:SA X T W es ms)(hn:fk ms n)(hs:n<=1000:=by decide):SE X T W (.Tuple es x1 pos) (iJ ms):=PE.wk (qr (pos:=pos) ha) fun Y H Q hz1=>by obtain⟨Z,F,env,fp,S,q⟩:=hz1;unfold iJ at q;refine tA.bind S (fun c e=>by rw[e]at q;exact q) (fun e=>by rw[e]at q;exact q) fun xs vs H1 F1 f1 e1 g1 r1 n1 d1 w1=>?_;rw[e1]at q;exact⟨rK (by rw[<- r1.length,hn env xs e1];exact hs),GE.newT q g1 r1 n1 d1 w1⟩
def p1(f:PV->HL):HK->HL
 | [x]=>f x
 |_=>.stuck
def RelL.one(r:RelL T F B L H [x] vs f):∃v,vs=[v]/\Rel T F B L H x v f:=by unfold RelL at r;obtain⟨v,ws,f1,f2,rfl,h1,h2,rfl⟩:=r;unfold RelL at h2;obtain⟨rfl,rfl⟩:=h2;exact⟨v,rfl,by rwa [append_nil]⟩
def fP:PV->HL:=fun x=>match bB x with
 |some xs=>.ok (.int xs.length)
 |none=>.stuck
def zP(hK:X.K=T.K):Mir T W (p1 fP) (fun xs H Q=>∃p ys,xs=[.ref p]/\(SqL X.K H p ys\/SqT X.K H p ys)/\Q (.int ys.length) H):=by
 intro B F L Y H Q F' H' xs vs fx g r _ _ _ q
 match xs,r,q with
 | [x],r,q=>
  obtain⟨v,rfl,r1⟩:=r.one;simp only[p1,fP]at q;cases e:bB x with
  |none=>rw[e]at q;exact q.elim
  |some ys=>rw[e]at q;obtain⟨a,ws,fx',rfl,hs,hr,_⟩:=r1.seq e;exact⟨a,ws,rfl,by rw[hK];exact hs,q.scal g (by rw[<- hr.length];exact dW)⟩
 | [],_,q|_::_::_,_,q=>exact q.elim
def dD(hK:X.K=T.K)(hg:Gl X "len")(hm:X.mg "len"=none)(ha:SE X T W e m)(he:starEach [e] X.env=[(false,eval e X.env)]:=by rfl):SE X T W (.Call (.Name "len" p) [e] [] pos) (ao (p1 fP) (ae m ak)):=
 ie oA (zP hK) hg hm PySem.boot_len (aa ha ah he) (he:=he)
def fO:PV->HL:=fun x=>match bB x with
 |some xs=>.ok (.tup xs)
 |none=>.stuck
def uv(hK:X.K=T.K):Mir T W (p1 fO) (fun xs H Q=>∃p ys,xs=[.ref p]/\((SqL X.K H p ys/\∀l,H l=none->Q (.ref l) (upd H l (.tup ys)))\/(SqT X.K H p ys/\Q (.ref p) H))):=by
 intro B F L Y H Q F' H' xs vs fx g r nf nd new q
 match xs,r,q with
 | [x],r,q=>
  obtain⟨v,rfl,r1⟩:=r.one;simp only[p1,fO]at q;cases x with
  |lst f ys=>
   simp only[bB]at q;unfold Rel at r1;obtain⟨a,ws,fp',rfl,hl,hr,hf⟩:=r1;have sl:fp'.Sublist fx:=by
    cases f with
    |own=>obtain rfl:fx=a::fp':=hf;exact List.sublist_cons_self _ _
    |frz|bor|lnt|mod=>obtain⟨rfl,rfl⟩:=hf;exact Sublist.refl _
   exact⟨a,ws,rfl,.inl ⟨by rw[hK];exact hl.sq,GE.newT q g hr (fun b hb=>nf b (sl.subset hb)) (nd.sublist sl) (fun b hb=>new b (sl.subset hb))⟩⟩
  |tup ys=>simp only[bB]at q;have r2:=r1;unfold Rel at r2;obtain⟨a,ws,rfl,hs,hr⟩:=r2;exact⟨a,ws,rfl,.inr ⟨by rw[hK];exact hs,q _ _ _ fx g r1 nf nd new⟩⟩
  |_=>exact q.elim
 | [],_,q|_::_::_,_,q=>exact q.elim
def kP(hK:X.K=T.K)(hg:Gl X "tuple")(hm:X.mg "tuple"=none)(hv:bootBuiltins "tuple"=some (.type "tuple"))(ha:SE X T W e m)(he:starEach [e] X.env=[(false,eval e X.env)]:=by rfl):SE X T W (.Call (.Name "tuple" p) [e] [] pos) (ao (p1 fO) (ae m ak)):=
 fq mr (uv hK) hg hm hv (aa ha ah he) (he:=he)
def aq:PV->PV->HL
 |x,.int i=>match bB x with
  |some xs=>match atI xs i with
   |some y=>if x.has Fl.HR&&y.has Fl.HR then .stuck else .ok y
   |none=>.stuck
  |none=>.stuck
 |_,_=>.stuck
def AL(r:RelL T F B L H xs vs f)(e:atI xs i=some y):∃v f',atI vs i=some v/\Rel T F B L H y v f'/\f'.Sublist f:=by
 unfold atI at e ⊢;rw[<- r.length];cases e1:ixN xs.length i with
 |none=>rw[e1]at e;cases e
 |some j=>rw[e1]at e;exact r.get e
def zR(hK:X.K=T.K):jb T W aq (fun x y H Q=>B9 X.K x y H Q \/(B7 X.K x y H Q\/B8 x y H Q)):=by
 intro B F L Y H Q F' H' x y v u fx fy g rx ry nf nd new q;cases y with
 |int i=>
  unfold Rel at ry;obtain⟨rfl,rfl⟩:=ry;simp only[aq]at q;cases e:bB x with
  |none=>rw[e]at q;exact q.elim
  |some xs=>
   rw[e]at q;dsimp only at q;obtain⟨a,ws,fx',rfl,hs,hr,sl⟩:=rx.seq e;cases e2:atI xs i with
   |none=>rw[e2]at q;exact q.elim
   |some z=>
    rw[e2]at q;dsimp only at q;obtain⟨w,f',h1,h2,h3⟩:=AL hr e2;have e0:f'=[]:=by
     by_cases ho:x.has Fl.HR=true
     ·by_cases hz:z.has Fl.HR=true
      ·rw[ho,hz]at q;exact q.elim
      ·exact Rel.HX (by simpa using hz) h2
     ·have:=Rel.HX (by simpa using ho) rx;subst this;exact List.sublist_nil.mp (h3.trans sl)
    subst e0;by_cases hb:(x.has Fl.HR&&z.has Fl.HR)=true
    ·rw[if_pos hb]at q;exact q.elim
    ·rw[if_neg hb]at q;rcases hs with hs|hs
     ·exact .inl ⟨a,ws,i,w,rfl,rfl,by rw[hK];exact hs,h1,q.scal g h2⟩
     ·exact .inr (.inl ⟨a,ws,i,w,rfl,rfl,by rw[hK];exact hs,h1,q.scal g h2⟩)
 |_=>exact q.elim
def BY(hK:X.K=T.K)(ha:SE X T W a ma)(hb:SE X T W b mb)(hs:ja b):SE X T W (.Subscript a b pos) (mOp aq ma mb):=
 Fk Ds (zR hK) ha hb hs
abbrev MO:=En->Res (HG)
def b6:MO:=fun _=>.ok none
def dw(m:ME):MO:=fun env=>(m env).bind fun
 |.int i=>.ok (some i)
 |_=>.stuck
def f7(xs:HK)(lo hi:HG):HK:=(xs.drop (HT.sIx xs.length 0 lo)).take (HT.sIx xs.length xs.length hi-HT.sIx xs.length 0 lo)
def cU(o:ME)(lo hi:MO):ME:=fun env=>(o env).bind fun x=>(lo env).bind fun l=>(hi env).bind fun h=>match x with
 |.lst _ xs=>.ok (.lst .own (f7 xs l h))
 |_=>.stuck
def RelL.drop:∀{xs:HK}{vs:HI}{f:HE} (n:Nat),RelL T F B L H xs vs f->∃f',RelL T F B L H (xs.drop n) (vs.drop n) f'/\f'.Sublist f
 |xs,vs,f,0,h=>⟨f,h,Sublist.refl _⟩
 | [],vs,f,n+1,h=>by unfold RelL at h;obtain⟨rfl,rfl⟩:=h;exact⟨[],by simp[RelL],Sublist.refl _⟩
 |x::xs,_,_,n+1,h=>by unfold RelL at h;obtain⟨v,ws,f1,f2,rfl,h1,h2,rfl⟩:=h;obtain⟨f',r,s⟩:=RelL.drop n h2;exact⟨f',by simpa using r,s.trans (List.sublist_append_right _ _)⟩
def RelL.take:∀{xs:HK}{vs:HI}{f:HE} (n:Nat),RelL T F B L H xs vs f->∃f',RelL T F B L H (xs.take n) (vs.take n) f'/\f'.Sublist f
 |xs,vs,f,0,h=>⟨[],by simp[RelL],List.nil_sublist _⟩
 | [],vs,f,n+1,h=>by unfold RelL at h;obtain⟨rfl,rfl⟩:=h;exact⟨[],by simp[RelL],Sublist.refl _⟩
 |x::xs,_,_,n+1,h=>by unfold RelL at h;obtain⟨v,ws,f1,f2,rfl,h1,h2,rfl⟩:=h;obtain⟨f',r,s⟩:=RelL.take n h2;refine⟨f1++f',?_,Sublist.append (Sublist.refl _) s⟩;rw[List.take_succ_cons,List.take_succ_cons];unfold RelL;exact⟨v,_,f1,f',rfl,h1,r,rfl⟩
def tO(T:Tb)(W:Nat->St->HJ)(m:MO):TO:=fun Y H Q=>∃Z F env fp,aw T Z F H Y env fp/\match m env with
 |.ok o=>∀H' F',Gr F H F' H'->Q o H'
 |.exc c=>∀H',Ext H H'->W c Y H'
 |.stuck=>False
abbrev SO(X:Cx)(T:Tb)(W:Nat->St->HJ)(e:Option Expr)(m:MO):Prop:=PO X e (tO T W m)
def dI:SO X T W none b6:=fun gV s Y H Q I ⟨Z,F,env,fp,S,q⟩=>zm gV s Y H Q I (q H F (Gr.refl S.hp.ft))
def cN(h:SE X T W e m):SO X T W (some e) (dw m):=fun gV s Y H Q I ⟨Z,F,env,fp,S,q⟩=>zl h gV s Y H Q I (by
 unfold dw at q;refine tE.bq S fun x v H1 F1 f1 e1 g1 r1 n1 d1 w1=>?_;rw[e1]at q;cases x with
 |int i=>unfold Rel at r1;exact⟨i,r1.1,q H1 F1 g1⟩
 |_=>exact q.elim)
def cL(hK:X.K=T.K)(he:SE X T W e m)(hl:SO X T W lo ml)(hu:SO X T W hi mh):SE X T W (.Subscript e (.Slice lo hi none p2) pos) (cU m ml mh):=
 PE.wk (o_ (pos:=pos) (p2:=p2) yY he hl hu) fun Y H Q hz1=>by
  obtain⟨Z,F,env,fp,S,q⟩:=hz1;unfold cU at q;refine tE.bq S fun x v H1 F1 f1 e1 g1 r1 n1 d1 w1=>?_;rw[e1]at q;simp only[Res.HY]at q;refine⟨Z,F1,env,fp,S.grow g1,?_⟩;cases e2:ml env with
  |exc c=>rw[e2]at q;exact fun H' x=>q H' (g1.ext.trans x)
  |stuck=>rw[e2]at q;exact q
  |ok l=>
   rw[e2]at q;intro H2 F2 g2;refine⟨Z,F2,env,fp,(S.grow g1).grow g2,?_⟩;simp only[Res.HY]at q;cases e3:mh env with
   |exc c=>rw[e3]at q;exact fun H' x=>q H' ((g1.ext.trans g2.ext).trans x)
   |stuck=>rw[e3]at q;exact q
   |ok h=>
    rw[e3]at q;intro H3 F3 g3;simp only[Res.HY]at q;cases x with
    |lst f xs=>
     have g:=(g1.trans g2).trans g3;have r3:=(r1.ext (g2.trans g3).ext (g2.trans g3).mono)
     have nf3:∀a∈f1,¬F3 a:=fun a ha z=>by
      rcases(g2.trans g3).only a z with z|z
      ·exact n1 a ha z
      ·obtain⟨o,ho⟩:=r1.there a ha;rw[ho]at z;cases z
     unfold Rel at r3;obtain⟨a,ws,fp',rfl,hll,hr,hf⟩:=r3;have sl:fp'.Sublist f1:=by
      cases f with
      |own=>obtain rfl:f1=a::fp':=hf;exact List.sublist_cons_self _ _
      |frz|bor|lnt|mod=>obtain⟨rfl,rfl⟩:=hf;exact Sublist.refl _
     obtain⟨f4,h4,s4⟩:=RelL.drop (HT.sIx xs.length 0 l) hr;obtain⟨f5,h5,s5⟩:=RelL.take (HT.sIx xs.length xs.length h-HT.sIx xs.length 0 l) h4;have sl2:=(s5.trans s4).trans sl;refine⟨a,ws,rfl,by rw[hK];exact hll.sq,?_⟩;unfold xW;rw[<- hr.length];exact GE.newL q g h5 (fun b hb=>nf3 b (sl2.subset hb)) (d1.sublist sl2) (fun b hb=>w1 b (sl2.subset hb))
    |_=>exact q.elim
def A7(K:PySem.W.Frag):R2:=fun x y H Q=>∃l b xs zs,x=.ref l/\y=.ref b/\Rd H l (.lst xs)/\Rd H b (.lst zs)/\xs.length+zs.length<=sizeLine/\∀p,H p=none->Q (.ref p) (upd H p (.lst (xs++zs)))
def zA:OpR X (binaryOp .Add) (A7 K):=by
 intro gV s Y H x y v u Q I rx ry h;obtain⟨l,b,xs,zs,rfl,rfl,hH,hB,hz,q⟩:=h;cases rx;cases ry;obtain⟨z,its,n,r,e⟩:=hH.ok I.hok;obtain⟨z2,its2,n2,r2,e2⟩:=hB.ok I.hok;have hl:=r.length;have hl2:=r2.length;refine PySem.P.add_list e e2 ?_ (by rw[size_toArray,size_toArray];lia);have ea:its.toArray++its2.toArray=(its++its2).toArray:=by simp
 rw[ea];exact⟨.ref _,_,I.lnew (t':=s.toks) (r.append r2) (by rw[length_append];lia),rfl,q _ I.fresh⟩
def bz:PV->PV->HL
 |.int i,.int j=>.ok (.int (i+j))
 |.lst f xs,.lst g ys=>if f=.mod\/g=.mod\/¬xs.length+ys.length<=10000000 then .stuck else .ok (.lst .own (xs++ys))
 |_,_=>.stuck
def lY.rd(h:lY T F B L H f a vs)(n:f≠.mod):Rd H a (.lst vs):=by
 cases f with
 |own=>exact .inl h
 |lnt=>exact .inl h.2
 |frz|bor=>exact h.2
 |mod=>exact absurd rfl n
def p7.sub(hf:p7 f a fp' fx):fp'.Sublist fx:=by
 cases f with
 |own=>obtain rfl:fx=a::fp':=hf;exact List.sublist_cons_self _ _
 |frz|bor|lnt|mod=>obtain⟨rfl,rfl⟩:=hf;exact Sublist.refl _
def wP:jb T W bz (fun x y H Q=>(rI0 fun i j=>.int (i+j)) x y H Q\/A7 T.K x y H Q):=by
 intro B F L Y H Q F' H' x y v u fx fy g rx ry nf nd new q;cases x with
 |int i=>
  cases y with
  |int j=>unfold Rel at rx ry;exact .inl ⟨i,j,rx.1,ry.1,q.scal g dW⟩
  |_=>exact q.elim
 |lst f xs=>
  cases y with
  |lst f' ys=>
   simp only[bz]at q;by_cases hc:f=.mod\/f'=.mod\/¬xs.length+ys.length<=10000000
   ·rw[if_pos hc]at q;exact q.elim
   ·rw[if_neg hc]at q;unfold Rel at rx ry;obtain⟨a,vs,fp1,rfl,hl1,hr1,hf1⟩:=rx;obtain⟨b,us,fp2,rfl,hl2,hr2,hf2⟩:=ry;have sl:=Sublist.append hf1.sub hf2.sub;have h3:xs.length+ys.length<=10000000:=by
     rcases Nat.lt_or_ge 10000000 (xs.length+ys.length)with z|z
     ·exact absurd (.inr (.inr (by lia))) hc
     ·exact z
    refine .inr ⟨a,b,vs,us,rfl,rfl,hl1.rd fun z=>hc (.inl z),hl2.rd fun z=>hc (.inr (.inl z)),by rw[<- hr1.length,<- hr2.length,sizeLine_eq];lia,?_⟩;exact GE.newL q g (RelL.append hr1 hr2) (fun b hb=>nf b (sl.subset hb)) (nd.sublist sl) (fun b hb=>new b (sl.subset hb))
  |_=>exact q.elim
 |_=>exact q.elim
def OpR.or(h:OpR X f r)(h':OpR X f r'):OpR X f (fun x y H Q=>r x y H Q\/r' x y H Q):=by
 intro gV s Y H x y v u Q I rx ry q;rcases q with q|q
 ·exact h gV s Y H x y v u Q I rx ry q
 ·exact h' gV s Y H x y v u Q I rx ry q
def bY(ha:SE X T W a ma)(hb:SE X T W b mb):SE X T W (.BinOp a .Add b pos) (mOp bz ma mb):=gK (OpR.or CK zA) wP ha hb
end
mutual
def PV.data:PV->PyData
 |.non=>.none
 |.bl b=>.bool b
 |.int i=>.int i
 |.str x=>.str x
 |.lst _ xs=>.list (dataL xs)
 |.tup xs=>.tuple (dataL xs)
 |.obj _ _ _ _|.exc _|.box _ _=>.dict []
def dataL:HK->List PyData
 | []=>[]
 |x::xs=>x.data::dataL xs
end
def shp(x:PV):Bool:=SeqAt.shaped x.data
section
variable{X:Cx}{T:Tb}{W:Nat->St->HJ}{Z:Zn}{F F1 B L:HB}{H H1:Hp}{Y:St}{env:En}{fp:Nat->HE}{D:Ends}{gV:HA}{s:Shared}
mutual
def Rel.reads(hK:X.K=T.K)(I:L2.Inv X gV Y H s):∀{x:PV}{v:V}{f:HE}{u:Value},Rel T F B L H x v f->bE v u->x.data.canLay0=true->∃as,Reads s.heap u x.data as
 |.non,_,_,_,r,ru,_=>by unfold Rel at r;obtain⟨rfl,_⟩:=r;cases ru;exact⟨[],.none⟩
 |.bl b,_,_,_,r,ru,_=>by unfold Rel at r;obtain⟨rfl,_⟩:=r;cases ru;exact⟨[],.bool b⟩
 |.int i,_,_,_,r,ru,_=>by unfold Rel at r;obtain⟨rfl,_⟩:=r;obtain⟨t,rfl⟩:=ru;exact⟨[],.int i t⟩
 |.str x,_,_,_,r,ru,_=>by unfold Rel at r;obtain⟨rfl,_⟩:=r;obtain⟨t,rfl⟩:=ru;exact⟨[],.str x t⟩
 |.lst f xs,_,_,_,r,ru,hc=>by unfold Rel at r;obtain⟨a,vs,fp',rfl,hl,hr,_⟩:=r;cases ru;obtain⟨its,rv,⟨o,n,ho,hcl,_,hd⟩,_⟩:=I.list (by rw[hK];exact hl.sq);obtain⟨as,ra⟩:=RelL.reads hK I hr rv (by simpa[PV.data,PyData.canLay0]using hc);exact⟨_,.list ho hcl hd (by simpa using ra)⟩
 |.tup xs,_,_,_,r,ru,hc=>by unfold Rel at r;obtain⟨a,vs,rfl,hl,hr⟩:=r;cases ru;obtain⟨its,rv,⟨o,ho,hcl,n,hd⟩,_⟩:=I.tuple (by rw[hK];exact hl);obtain⟨as,ra⟩:=RelL.reads hK I hr rv (by simpa[PV.data,PyData.canLay0]using hc);exact⟨_,.tuple ho hcl hd (by simpa using ra)⟩
 |.obj _ _ _ _,_,_,_,_,_,hc|.exc _,_,_,_,_,_,hc|.box _ _,_,_,_,_,_,hc=>by simp[PV.data,PyData.canLay0]at hc
def RelL.reads(hK:X.K=T.K)(I:L2.Inv X gV Y H s):∀{xs:HK}{vs:HI}{f:HE}{us:HD},RelL T F B L H xs vs f->aK vs us->PyData.canLayAll0 (dataL xs)=true->∃as,ReadsAll s.heap us (dataL xs) as
 | [],_,_,_,r,ru,_=>by unfold RelL at r;obtain⟨rfl,_⟩:=r;cases ru;exact⟨[],.nil⟩
 |x::xs,_,_,_,r,ru,hc=>by
  unfold RelL at r;obtain⟨v,ws,f1,f2,rfl,h1,h2,_⟩:=r;cases ru with
  |cons r1 r2=>simp only[dataL,PyData.canLayAll0,and_eq_true]at hc;obtain⟨as,ra⟩:=Rel.reads hK I h1 r1 hc.1;obtain⟨bs,rb⟩:=RelL.reads hK I h2 r2 hc.2;exact⟨_,.cons ra rb⟩
end
def pEq:PV->PV->HL:=fun x y=>if shp x&&shp y then .ok (.bl (PyData.eqv x.data y.data))else .stuck
def pNe:PV->PV->HL:=fun x y=>if shp x&&shp y then .ok (.bl (!PyData.eqv x.data y.data))else .stuck
def v6(X:Cx)(T:Tb)(g:PyData->PyData->Bool):R2:=fun v u H Q=>∃x y F B L fx fy,Rel T F B L H x v fx/\Rel T F B L H y u fy/\shp x=true/\shp y=true/\Q (.bl (g x.data y.data)) H
def wx(hK:X.K=T.K)(hu:X.A.units+64<cLine):OpR X (compareOp .Eq) (v6 X T fun a b=>PyData.eqv a b):=by intro gV s Y H v u v' u' Q I rv ru h;obtain⟨x,y,F,B,L,fx,fy,rx,ry,hx,hy,q⟩:=h;obtain⟨as,ra⟩:=rx.reads hK I rv (SeqAt.canLay_of_shaped hx);obtain⟨bs,rb⟩:=ry.reads hK I ru (SeqAt.canLay_of_shaped hy);exact PyProof.Rows.eq_dataH ra rb hx hy hu ⟨.bl _,H,I,rfl,q⟩
def wv(hK:X.K=T.K)(hu:X.A.units+64<cLine):OpR X (compareOp .NotEq) (v6 X T fun a b=>!PyData.eqv a b):=by intro gV s Y H v u v' u' Q I rv ru h;obtain⟨x,y,F,B,L,fx,fy,rx,ry,hx,hy,q⟩:=h;obtain⟨as,ra⟩:=rx.reads hK I rv (SeqAt.canLay_of_shaped hx);obtain⟨bs,rb⟩:=ry.reads hK I ru (SeqAt.canLay_of_shaped hy);exact PyProof.Rows.ne_dataH ra rb hx hy hu ⟨.bl _,H,I,rfl,q⟩
def iG:jb T W (fun x y=>if shp x&&shp y then .ok (.bl (g x.data y.data))else .stuck) (v6 X T g):=by
 intro B F L Y H Q F' H' x y v u fx fy gr rx ry nf nd new q;dsimp only at q;by_cases hc:(shp x&&shp y)=true
 ·rw[if_pos hc]at q;rw[and_eq_true]at hc;exact⟨x,y,F',B,L,fx,fy,rx,ry,hc.1,hc.2,q.scal gr fK⟩
 ·rw[if_neg hc]at q;exact q.elim
variable{a b:Expr}{ma mb:ME}{pos:Pos}
def jW(hK:X.K=T.K)(hu:X.A.units+64<cLine)(ha:SE X T W a ma)(hb:SE X T W b mb):SE X T W (.Compare a [.Eq] [b] pos) (mOp pEq ma mb):=jo (wx hK hu) iG ha hb (dZ _)
def Fh(hK:X.K=T.K)(hu:X.A.units+64<cLine)(ha:SE X T W a ma)(hb:SE X T W b mb):SE X T W (.Compare a [.NotEq] [b] pos) (mOp pNe ma mb):=jo (wv hK hu) (iG (g:=fun a b=>!PyData.eqv a b)) ha hb (dZ _)
def bX(hK:X.K=T.K)(hu:X.A.units+64<cLine)(ha:SE X T W a ma)(hb:SE X T W b mb):ST X T W (.Compare a [.Eq] [b] pos) (aA (mOp pEq ma mb)):=fH (wx hK hu) iG ha hb (dZ _)
def fX(hK:X.K=T.K)(hu:X.A.units+64<cLine)(ha:SE X T W a ma)(hb:SE X T W b mb):ST X T W (.Compare a [.NotEq] [b] pos) (aA (mOp pNe ma mb)):=fH (wv hK hu) (iG (g:=fun a b=>!PyData.eqv a b)) ha hb (dZ _)
def oP(ha:SE X T W a ma)(hb:SE X T W b mb):ST X T W (.Compare a [.Lt] [b] pos) (aA (mOp pLt ma mb)):=fH Bb (fR fun _ _ _ _ _ _=>fK) ha hb (dZ _)
def Fb(ha:SE X T W a ma)(hb:SE X T W b mb):ST X T W (.Compare a [.LtE] [b] pos) (aA (mOp pLe ma mb)):=fH Bc (fR fun _ _ _ _ _ _=>fK) ha hb (dZ _)
def kI(ha:SE X T W a ma)(hb:SE X T W b mb):ST X T W (.Compare a [.Gt] [b] pos) (aA (mOp pGt ma mb)):=fH Bd (fR fun _ _ _ _ _ _=>fK) ha hb (dZ _)
def AU(ha:SE X T W a ma)(hb:SE X T W b mb):ST X T W (.Compare a [.GtE] [b] pos) (aA (mOp pGe ma mb)):=fH FF (fR fun _ _ _ _ _ _=>fK) ha hb (dZ _)
def inL(x:PV)(ys:HK):Bool:=ys.any fun y=>PyData.eqv y.data x.data
def pIn:PV->PV->HL:=fun x y=>match bB y with
 |some ys=>if shp x&&ys.all shp then .ok (.bl (inL x ys))else .stuck
 |none=>.stuck
def cy:PV->PV->HL:=fun x y=>match bB y with
 |some ys=>if shp x&&ys.all shp then .ok (.bl (!inL x ys))else .stuck
 |none=>.stuck
def lI(hK:X.K=T.K)(I:L2.Inv X gV Y H s)(hu:A.units+64<cLine)(rx:Rel T F B L H x v fx)(ry:Rel T F B L H y u fy)(rv:bE v v')(ru:bE u u')(hx:shp x=true)(hy:shp y=true) :
  SeqAt.EqAt A s v' u' (PyData.eqv x.data y.data):=by
 obtain⟨as,ra⟩:=rx.reads hK I rv (SeqAt.canLay_of_shaped hx);obtain⟨bs,rb⟩:=ry.reads hK I ru (SeqAt.canLay_of_shaped hy);exact SeqAt.eqAt_reads _ _ A s v' u' as bs ra rb (SeqAt.canLay_of_shaped hx) (SeqAt.canLay_of_shaped hy) (SeqAt.room_of_shaped hx hu)
def iS(hK:X.K=T.K)(I:L2.Inv X gV Y H s)(hu:A.units+64<cLine)(rx:Rel T F B L H x v fx)(rv:bE v v')(hx:shp x=true) :
  ∀{ys:HK}{us:HI}{fy:HE}{us':HD},RelL T F B L H ys us fy->aK us us'->ys.all shp=true->∃e:Value->Bool,(∀w∈us',SeqAt.EqAt A s w v' (e w))/\us'.any e=inL x ys:=by
 intro ys us fy us' r rv' hs;have one:∀(ys:HK) (us:HI) (fy:HE) (us':HD),RelL T F B L H ys us fy->aK us us'->ys.all shp=true->∀w∈us',∃b,SeqAt.EqAt A s w v' b/\(b=true->inL x ys=true):=by
  intro ys
  induction ys with
  |nil=>intro us fy us' r rv' _ w hw;unfold RelL at r;obtain⟨rfl,_⟩:=r;cases rv';cases hw
  |cons y ys ih=>
   intro us fy us' r rv' hs w hw;unfold RelL at r;obtain⟨u,ws,f1,f2,rfl,h1,h2,_⟩:=r;cases rv' with
   |cons r1 r2=>
    rw[all_cons,and_eq_true]at hs;rcases mem_cons.mp hw with rfl|hw
    ·exact⟨_,lI hK I hu h1 rx r1 rv hs.1 hx,fun z=>by simp[inL,z]⟩
    ·obtain⟨b,h3,h4⟩:=ih ws f2 _ h2 r2 hs.2 w hw;exact⟨b,h3,fun z=>by have:=h4 z;unfold inL at this ⊢;simp[this]⟩
 have some_:∀(ys:HK) (us:HI) (fy:HE) (us':HD),RelL T F B L H ys us fy->aK us us'->ys.all shp=true->inL x ys=true->∃w∈us',SeqAt.EqAt A s w v' true:=by
  intro ys
  induction ys with
  |nil=>intro us fy us' r rv' _ h;simp[inL]at h
  |cons y ys ih=>
   intro us fy us' r rv' hs h;unfold RelL at r;obtain⟨u,ws,f1,f2,rfl,h1,h2,_⟩:=r;cases rv' with
   |cons r1 r2=>
    rw[all_cons,and_eq_true]at hs;by_cases hy:PyData.eqv y.data x.data=true
    ·refine⟨_,mem_cons_self,?_⟩;have:=lI hK I hu h1 rx r1 rv hs.1 hx
     rwa [hy]at this
    ·have h':inL x ys=true:=by unfold inL at h ⊢;rw[any_cons]at h;simpa[hy]using h
     grind
 by_cases hin:inL x ys=true
 ·obtain⟨w0,hw0,q0⟩:=some_ ys us fy us' r rv' hs hin;refine⟨fun w=>@decide (SeqAt.EqAt A s w v' true) (Classical.propDecidable _),fun w hw=>?_,?_⟩
  ·obtain⟨b,h1,_⟩:=one ys us fy us' r rv' hs w hw;by_cases ht:SeqAt.EqAt A s w v' true
   ·simp only[ht,decide_true]
   ·simp only[ht,decide_false];cases b with
    |true=>exact absurd h1 ht
    |false=>exact h1
  ·rw[hin,any_eq_true];exact⟨w0,hw0,by simp[q0]⟩
 ·have hin':inL x ys=false:=by simpa using hin
  refine⟨fun _=>false,fun w hw=>?_,by rw[hin'];simp⟩
  grind
def B_(X:Cx)(T:Tb)(neg:Bool):R2:=fun v u H Q=>∃x ys a vs F B L fx fy,u=.ref a/\(SqL T.K H a vs\/SqT T.K H a vs)/\Rel T F B L H x v fx/\RelL T F B L H ys vs fy/\shp x=true/\ys.all shp=true/\Q (.bl (if neg then !inL x ys else inL x ys)) H
def CI(hK:X.K=T.K)(hu:X.A.units+66<cLine):OpR X (compareOp .In) (B_ X T false):=by
 intro gV s Y H v u v' u' Q I rv ru h;obtain⟨x,ys,a,vs,F,B,L,fx,fy,rfl,hs,rx,ry,hx,hy,q⟩:=h;cases ru;have hu1:X.A.in1.units+64<cLine:=by show X.A.units+1+64<cLine;lia
 rcases hs with hs|hs
 ·obtain⟨its,r,pl,_⟩:=I.list (by rw[hK];exact hs);obtain⟨e,h1,h2⟩:=iS hK I hu1 rx rv hx ry r hy;refine SeqAt.in_listAt e pl.isList (fun w hw=>h1 w (by simpa using hw)) ⟨.bl _,H,I,rfl,?_⟩;rw[show its.toArray.any e=its.any e by simp,h2];exact q
 ·obtain⟨its,r,pl,_⟩:=I.tuple (by rw[hK];exact hs);obtain⟨e,h1,h2⟩:=iS hK I hu1 rx rv hx ry r hy;refine SeqAt.in_tupleAt e pl (fun w hw=>h1 w (by simpa using hw)) ⟨.bl _,H,I,rfl,?_⟩;rw[show its.toArray.any e=its.any e by simp,h2];exact q
def um(hK:X.K=T.K)(hu:X.A.units+66<cLine):OpR X (compareOp .NotIn) (B_ X T true):=by
 intro gV s Y H v u v' u' Q I rv ru h;obtain⟨x,ys,a,vs,F,B,L,fx,fy,rfl,hs,rx,ry,hx,hy,q⟩:=h;cases ru;have hu1:X.A.in1.units+64<cLine:=by show X.A.units+1+64<cLine;lia
 rcases hs with hs|hs
 ·obtain⟨its,r,pl,_⟩:=I.list (by rw[hK];exact hs);obtain⟨e,h1,h2⟩:=iS hK I hu1 rx rv hx ry r hy;refine SeqAt.notIn_listAt e pl.isList (fun w hw=>h1 w (by simpa using hw)) ⟨.bl _,H,I,rfl,?_⟩;rw[show its.toArray.any e=its.any e by simp,h2];exact q
 ·obtain⟨its,r,pl,_⟩:=I.tuple (by rw[hK];exact hs);obtain⟨e,h1,h2⟩:=iS hK I hu1 rx rv hx ry r hy;refine SeqAt.notIn_tupleAt e pl (fun w hw=>h1 w (by simpa using hw)) ⟨.bl _,H,I,rfl,?_⟩;rw[show its.toArray.any e=its.any e by simp,h2];exact q
def wS:jb T W (fun x y=>match bB y with
 |some ys=>if shp x&&ys.all shp then .ok (.bl (if neg then !inL x ys else inL x ys))else .stuck
 |none=>.stuck) (B_ X T neg):=by
 intro B F L Y H Q F' H' x y v u fx fy gr rx ry nf nd new q;dsimp only at q;cases e:bB y with
 |none=>rw[e]at q;exact q.elim
 |some ys=>
  rw[e]at q;dsimp only at q;by_cases hc:(shp x&&ys.all shp)=true
  ·rw[if_pos hc]at q;rw[and_eq_true]at hc;obtain⟨a,ws,f',rfl,hs,hr,_⟩:=ry.seq e;exact⟨x,ys,a,ws,F',B,L,fx,f',rfl,hs,rx,hr,hc.1,hc.2,q.scal gr fK⟩
  ·rw[if_neg hc]at q;exact q.elim
def rG(hK:X.K=T.K)(hu:X.A.units+66<cLine)(ha:SE X T W a ma)(hb:SE X T W b mb)(hk:behindInMarks .In b=false:=by with_unfolding_all rfl):ST X T W (.Compare a [.In] [b] pos) (aA (mOp pIn ma mb)):=fH (CI hK hu) (wS (neg:=false)) ha hb hk
def f8(hK:X.K=T.K)(hu:X.A.units+66<cLine)(ha:SE X T W a ma)(hb:SE X T W b mb)(hk:behindInMarks .NotIn b=false:=by with_unfolding_all rfl):ST X T W (.Compare a [.NotIn] [b] pos) (aA (mOp cy ma mb)):=fH (um hK hu) (wS (neg:=true)) ha hb hk
def PV.isNon:PV->Bool
 |.non=>true
 |_=>false
def gj:PV->PV->HL
 |x,.non=>.ok (.bl x.isNon)
 |_,_=>.stuck
def Rel.isNon(r:Rel T F B L H x v f):decide (v=.non)=x.isNon:=by
 cases x with
 |non|bl b|int i|str i=>unfold Rel at r;rw[r.1];rfl
 |lst f xs=>unfold Rel at r;obtain⟨a,_,_,rfl,_⟩:=r;rfl
 |tup xs=>unfold Rel at r;obtain⟨a,_,rfl,_⟩:=r;rfl
 |obj f c ks xs=>unfold Rel at r;obtain⟨a,_,_,_,rfl,_⟩:=r;rfl
 |exc c=>unfold Rel at r;obtain⟨a,rfl,_⟩:=r;rfl
 |box k xs=>unfold Rel at r;obtain⟨a,vs,rfl,_⟩:=r;rfl
def zQ:jb T W gj (fun x y H Q=>y=.non/\Q (.bl (decide (x=.non))) H):=by
 intro B F L Y H Q F' H' x y v u fx fy gr rx ry nf nd new q;cases y with
 |non=>unfold Rel at ry;refine⟨ry.1,?_⟩;rw[rx.isNon];exact GE.scal (pv:=.bl x.isNon) (by simpa[gj]using q) gr fK
 |_=>simp only[gj]at q;exact q.elim
def nA(ha:SE X T W a ma)(hb:SE X T W b mb):ST X T W (.Compare a [.Is] [b] pos) (aA (mOp gj ma mb)):=fH CG zQ ha hb (dZ _)
end
abbrev TgM:=PV->En->Option En
abbrev uW:=HK->En->Option En
def tgN(i:Nat):TgM:=fun v env=>if aQ i env then some (env.set i (some v))else none
def mG:uW:=fun vs env=>match vs with
 | []=>some env
 |_=>none
def dA(t:TgM)(u:uW):uW:=fun vs env=>match vs with
 |v::r=>match t v env with
  |some e=>u r e
  |none=>none
 | []=>none
def tgT(n:Nat)(u:uW):TgM:=fun v env=>match v with
 |.tup xs=>if xs.length=n then u xs env else none
 |_=>none
structure q_(Z:Zn)(F:HB)(fp:Nat->HE)(f:HE):Prop where
 nd:f.Nodup
 nf:∀a∈f,¬F a
 new:∀a∈f,Z.H0 a=none\/Z.fp0 a
 dj:∀a∈f,∀j,a∉fp j
def q_.nil:q_ Z F fp []:=⟨nodup_nil,fun _ z=>(nomatch z),fun _ z=>(nomatch z),fun _ z=>(nomatch z)⟩
def GG(T:Tb)(Z:Zn)(F:HB)(H:Hp)(Q:St->HJ):Option En->Prop
 |some e=>∀Y fp,aw T Z F H Y e fp->Q Y H
 |none=>False
def tG(T:Tb)(m:TgM):TG:=fun v Y H Q=>∃Z F env fp pv f,aw T Z F H Y env fp/\Rel T F Z.B NoL H pv v f/\q_ Z F fp f/\GG T Z F H Q (m pv env)
def tGs(T:Tb)(m:uW):TGs:=fun vs Y H Q=>∃Z F env fp pvs f,aw T Z F H Y env fp/\RelL T F Z.B NoL H pvs vs f/\q_ Z F fp f/\GG T Z F H Q (m pvs env)
abbrev SG(X:Cx)(T:Tb)(tg:Expr)(m:TgM):Prop:=PG X tg (tG T m)
abbrev SGs(X:Cx)(T:Tb)(ts:List Expr)(m:uW):Prop:=PGs X ts (tGs T m)
section
variable{X:Cx}{T:Tb}{W:Nat->St->HJ}{Z:Zn}{F F1 B L:HB}{H H1:Hp}{Y:St}{env:En}{fp:Nat->HE}{D:Ends}
def PG.wk(h:PG X tg t)(w:∀v Y H Q,t' v Y H Q->t v Y H Q):PG X tg t':=fun gV s Y H v u Q I r q=>h gV s Y H v u Q I r (w v Y H Q q)
def PGs.wk(h:PGs X ts t)(w:∀v Y H Q,t' v Y H Q->t v Y H Q):PGs X ts t':=fun gV s Y H v u Q I r q=>h gV s Y H v u Q I r (w v Y H Q q)
def yZ(hN:X.N.Nodup)(hi:X.N[i]?=some x)(hx:Loc X.env.scope x)(hf:X.fn x=true\/X.env.scope.names.lookup x=some .local:=by first|exact .inl rfl|exact .inr rfl|assumption):SG X T (.Name x pos) (tgN i):=
 PG.wk (r8 (pos:=pos) hN hi hx hf) fun v Y H Q hz1=>by
  obtain⟨Z,F,env,fp,pv,f,S,r,fr,q⟩:=hz1;unfold tgN at q;by_cases ho:aQ i env=true
  ·rw[if_pos ho]at q;exact q _ _ (S.put r fr.nd fr.nf fr.new (fun a ha j _=>fr.dj a ha j) ho)
  ·rw[if_neg ho]at q;exact q.elim
def kn:SGs X T [] mG:=PGs.wk zq fun vs Y H Q hz1=>by
 obtain⟨Z,F,env,fp,pvs,f,S,r,fr,q⟩:=hz1;cases pvs with
 |nil=>unfold RelL at r;exact⟨r.1,q Y fp S⟩
 |cons x xs=>exact q.elim
def dN(hN:X.N.Nodup)(hi:X.N[i]?=some x)(hx:Loc X.env.scope x)(h2:SGs X T es u)
  (hs:(assignEach (.Name x pos::es) X.env).map (·.2)=assign (.Name x pos) X.env::(assignEach es X.env).map (·.2):=by rfl)
  (hf:X.fn x=true\/X.env.scope.names.lookup x=some .local:=by first|exact .inl rfl|exact .inr rfl|assumption):SGs X T (.Name x pos::es) (dA (tgN i) u):=
 PGs.wk (wm (r8 (pos:=pos) hN hi hx hf) h2 hs) fun vs Y H Q hz1=>by
  obtain⟨Z,F,env,fp,pvs,f,S,r,fr,q⟩:=hz1;cases pvs with
  |nil=>exact q.elim
  |cons y ys=>
   unfold RelL at r;obtain⟨v,ws,f1,f2,rfl,r1,r2,rfl⟩:=r;obtain⟨n1,n2,n3⟩:=nodup_append.mp fr.nd;by_cases ho:aQ i env=true
   case neg=>simp only[dA,tgN,if_neg ho]at q;exact q.elim
   simp only[dA,tgN,if_pos ho]at q;refine⟨v,ws,rfl,Z,F,env.set i (some y),bV fp i f1,ys,f2,S.put r1 n1 (fun a ha=>fr.nf a (mem_append_left _ ha)) (fun a ha=>fr.new a (mem_append_left _ ha)) (fun a ha j _=>fr.dj a (mem_append_left _ ha) j) ho,r2,⟨n2,fun a ha=>fr.nf a (mem_append_right _ ha),fun a ha=>fr.new a (mem_append_right _ ha),fun a ha j=>?_⟩,q⟩;unfold bV;split
   ·exact fun z=>n3 a z a ha rfl
   ·exact fr.dj a (mem_append_right _ ha) j
def nH(hK:X.K=T.K)(hc:X.calm=true)(h:SGs X T es u)(hn:(assignEach es X.env).length=n:=by rfl)(hst:(assignEach es X.env).findIdx? (·.1)=none:=by rfl):SG X T (.Tuple es k pos) (tgT n u):=
 PG.wk (Co (pos:=pos) (k:=k) hc h hn hst) fun v Y H Q hz1=>by
  obtain⟨Z,F,env,fp,pv,f,S,r,fr,q⟩:=hz1;cases pv with
  |tup xs=>
   unfold Rel at r;obtain⟨a,vs,rfl,hl,hr⟩:=r;simp only[tgT]at q;by_cases hx:xs.length=n
   ·rw[if_pos hx]at q;exact⟨a,vs,rfl,by rw[hK];exact hl,by rw[<- hr.length];exact hx,Z,F,env,fp,xs,f,S,hr,fr,q⟩
   ·rw[if_neg hx]at q;exact q.elim
  |_=>exact q.elim
abbrev MI:=En->Res (HK)
def ItR(T:Tb)(F B:HB)(Ow:HB)(H1:Hp)(J:It)(xs:HK):Prop:=
 ∀H2,(∀a o,H1 a=some o->¬Ow a->H2 a=some o)->(∀(i:Nat) x,xs[i]?=some x->J.go i H2/\∀v H3,J.yld i H2 v H3->Ext H2 H3/\Rel T F B NoL H3 x v [])/\J.stop xs.length H2
def ItR.of0(h:∀H2,(∀a o,H1 a=some o->¬Ow a->H2 a=some o)->(∀(i:Nat) x,xs[i]?=some x->J.go i H2/\∀v H3,J.yld i H2 v H3->H3=H2/\Rel T F B NoL H2 x v [])/\J.stop xs.length H2):ItR T F B Ow H1 J xs:=fun H2 hk=>by obtain⟨a,b⟩:=h H2 hk;refine⟨fun i x e=>⟨(a i x e).1,fun v H3 hy=>?_⟩,b⟩;obtain⟨rfl,r⟩:=(a i x e).2 v H3 hy;exact⟨Ext.refl,r⟩
def GI(T:Tb)(W:Nat->St->HJ)(B F Ow:HB)(Y:St)(H:Hp)(R:It->HJ):Res (HK)->Prop
 |.ok xs=>∀J H1 F1,Gr F H F1 H1->ItR T F1 B Ow H1 J xs->R J H1
 |.exc c=>∀H',Ext H H'->W c Y H'
 |.stuck=>False
def tI(T:Tb)(W:Nat->St->HJ)(m:MI):TI:=fun Y H R=>∃Z F env fp,aw T Z F H Y env fp/\GI T W Z.B F (Own fp) Y H R (m env)
abbrev SI(X:Cx)(T:Tb)(W:Nat->St->HJ)(tg iter:Expr)(m:MI):Prop:=PI X tg iter (tI T W m)
def wg(hl:PE X l tl):PI X tg l (fun Y H R=>tl Y H fun x H1=>∃a,x=.ref a/\((∃xs,SqL X.K H1 a xs/\R (Itl X.K a) H1)\/ ∃xs,SqT X.K H1 a xs/\R (Itt X.K a) H1)):=by
 intro gV s Y H R I h;refine thn (hl gV s Y H _ I h) fun v s1 hz1=>?_;obtain⟨x,H1,I1,r1,q1⟩:=hz1;obtain⟨a,e,q⟩:=q1;subst e;cases r1;rcases q with⟨xs,hq,q⟩ |⟨xs,hq,q⟩
 ·obtain⟨its,rv,p,hz⟩:=I1.list hq;refine wpAny_pyIter_list p.isList ?_;refine⟨s1.heap.objs.size,[s1.heap.objs.size],_,_,H1,rfl,I1.kept (t':=s1.toks) fun b o e=>get?_push_of_some _ e,tR a _,⟨_,get?_push_size _ rfl,rfl,rfl⟩,fun b hb=>?_,q⟩;have e:b=s1.heap.objs.size:=by simpa using hb
  subst e;exact I1.fpOk (Nat.le_refl _) (I1.hok.fresh (Nat.le_refl _))
 ·obtain⟨its,rv,p,hz⟩:=I1.tuple hq;refine wpAny_pyIter_tuple (show s1.heap.IsTuple a its.toArray from p) ?_;refine⟨s1.heap.objs.size,[s1.heap.objs.size],_,_,H1,rfl,I1.kept (t':=s1.toks) fun b o e=>get?_push_of_some _ e,qb a _,⟨_,get?_push_size _ rfl,rfl,rfl⟩,fun b hb=>?_,q⟩;have e:b=s1.heap.objs.size:=by simpa using hb
  subst e;exact I1.fpOk (Nat.le_refl _) (I1.hok.fresh (Nat.le_refl _))
def gZ(xs:HK):Bool:=!hasL Fl.HR xs&&!hasL Fl.HS xs
def d5(m:ME):MI:=fun env=>(m env).bind fun x=>match x with
 |.lst f xs=>if !f.HS&&gZ xs then .ok xs else .stuck
 |.tup xs=>if gZ xs then .ok xs else .stuck
 |_=>.stuck
def g6{H2:Hp}{Ow:HB}(hF:∀a,F1 a->¬Ow a)(hB:∀a,B a->¬Ow a)(hO:∀a o,Ow a->H1 a=some o->Chg o)(hk:∀a o,H1 a=some o->¬Ow a->H2 a=some o){xs:HK}{vs:HI}(r:RelL T F1 B NoL H1 xs vs []){i:Nat}{x:PV}{v:V}(e:xs[i]?=some x)(ev:vs[i]?=some v):Rel T F1 B NoL H2 x v []:=by
 obtain⟨w,f,e1,r1,sl⟩:=r.get e;rw[ev]at e1;cases e1;obtain rfl:=List.sublist_nil.mp sl;refine Rel.tr (fun _ h=>h) (fun _ h=>h) (fun _ h=>h) (fun a o q h=>hk a o q ?_) (fun _ z=>(nomatch z)) r1;rcases h with h|h|h|h
 ·exact hF a h
 ·exact hB a h
 ·exact h.elim
 ·intro z;have:=hO a o z q;cases o with
  |lst _|ins _ _ _=>exact h
  |_=>exact this
def aw.bow(S:aw T Z F H Y env fp):∀a,Z.B a->¬Own fp a:=fun a h hz1=>by
 obtain⟨i,hi⟩:=hz1;obtain⟨⟨o,h1⟩,h2⟩:=S.hp.bo.1 a h;rcases S.new i a hi with z|z
 ·rw[h1]at z;cases z
 ·exact h2 z
def aw.fow(S:aw T Z F H Y env fp):∀a,F a->¬Own fp a:=fun a h ⟨i,hi⟩=>(S.dis i a hi).1 h
def aw.oow(S:aw T Z F H Y env fp):∀a o,Own fp a->H a=some o->Chg o:=fun a o hz1 e=>by obtain⟨i,hi⟩:=hz1;obtain⟨o',h1,h2⟩:=S.ch i a hi;rw[e]at h1;cases h1;exact h2
def iF(h:gZ xs=true)(r:RelL T F B L H xs vs f):f=[]/\RelL T F B NoL H xs vs f:=by simp only[gZ,and_eq_true,not_eq_true']at h;exact⟨RelL.HX h.1 r,RelL.noL h.2 r⟩
def eK(hK:X.K=T.K)(he:SE X T W e m):SI X T W tg e (d5 m):=fun gV s Y H R I h=>wg he gV s Y H R I (by
 obtain⟨Z,F,env,fp,S,q⟩:=h;unfold d5 at q;refine tE.bq S fun x v H1 F1 f1 e1 g1 r1 n1 d1 w1=>?_;rw[e1]at q;simp only[Res.HY]at q;have S1:=S.grow g1;rw[hK];cases x with
 |lst f xs=>
  dsimp only at q;by_cases hc:(!f.HS&&gZ xs)=true
  ·rw[if_pos hc]at q;rw[and_eq_true]at hc;unfold Rel at r1;obtain⟨a,vs,fp',rfl,hl,hr,hf⟩:=r1;obtain⟨rfl,hr'⟩:=iF hc.2 hr;refine⟨a,rfl,.inl ⟨vs,hl.sq,q _ H1 F1 g1 (ItR.of0 fun H2 hk=>?_)⟩⟩;have na:f≠.mod->∀o,H1 a=some o->H2 a=some o:=fun hn o ho=>by
    refine hk a o ho ?_;cases f with
    |own=>rintro⟨i,hi⟩;obtain⟨_,o',ho'⟩:=S.dis i a hi;obtain rfl:f1=[a]:=hf;rw[w1 a mem_cons_self]at ho';cases ho'
    |frz=>exact S1.fow a hl.1
    |bor=>exact S1.bow a hl.1
    |lnt=>exact absurd hc.1 (by decide)
    |mod=>exact absurd rfl hn
   have hl2:SqL T.K H2 a vs:=by
    by_cases hn:f=.mod
    ·subst hn;exact .inr hl
    ·exact .inl (Rd.tr (na hn) (hl.rd hn))
   refine⟨fun i x ex=>?_,⟨vs,hl2,by rw[hr.length];exact Nat.le_refl _⟩⟩;obtain⟨v,_,ev,_,_⟩:=hr.get ex;refine⟨⟨vs,v,hl2,ev⟩,fun w H3 hy=>⟨hy.1,?_⟩⟩;have e3:=hy.2 vs hl2;exact g6 S1.fow S1.bow S1.oow hk hr' ex e3
  ·rw[if_neg hc]at q;exact q.elim
 |tup xs=>
  dsimp only at q;by_cases hc:gZ xs=true
  ·rw[if_pos hc]at q;unfold Rel at r1;obtain⟨a,vs,rfl,hl,hr⟩:=r1;obtain⟨rfl,hr'⟩:=iF hc hr;refine⟨a,rfl,.inr ⟨vs,hl,q _ H1 F1 g1 (ItR.of0 fun H2 hk=>?_)⟩⟩;have hl2:SqT T.K H2 a vs:=SqT.tr (fun o ho hfx=>hk a o ho fun z=>by
    have:=S1.oow a o z ho;cases o with
    |lst _|ins _ _ _=>exact hfx
    |_=>exact this) hl
   refine⟨fun i x ex=>?_,⟨vs,hl2,by rw[hr.length];exact Nat.le_refl _⟩⟩;obtain⟨v,_,ev,_,_⟩:=hr.get ex;refine⟨⟨vs,v,hl2,ev⟩,fun w H3 hy=>⟨hy.1,?_⟩⟩;exact g6 S1.fow S1.bow S1.oow hk hr' ex (hy.2 vs hl2)
  ·rw[if_neg hc]at q;exact q.elim
 |_=>exact q.elim)
def dO(lo:Int)(n:Nat):HK:=(range n).map fun k=>.int (lo+(k:Nat))
def inR(i:Int):Bool:=decide (-(2 ^ 62)<= i/\i<2 ^ 62)
def cM(ms:MA):MI:=fun env=>(ms env).bind fun xs=>match xs with
 | [.int n]=>if inR n then .ok (dO 0 n.toNat)else .stuck
 |_=>.stuck
def z_:ItR T F1 B Ow H1 (Itr lo n) (dO lo n):=by
 apply ItR.of0;intro H2 _;refine⟨fun i x ex=>?_,by simp[dO,Itr]⟩;have hi:i<n:=by have:=(List.getElem?_eq_some_iff.mp ex).1;simpa[dO]using this
 refine⟨hi,fun v H3 hy=>⟨hy.1,?_⟩⟩;obtain⟨_,rfl⟩:=hy;have:x=.int (lo+(i:Nat)):=by simp[dO,hi]at ex;exact ex.symm
 subst this;exact dW
def gB(hg:Gl X "range")(hm:X.mg "range" = none)(ha:SA X T W [a] ms)(hs:starEach [a] X.env=[(false,eval a X.env)]:=by rfl):SI X T W tg (.Call (.Name "range" p) [a] [] pos) (cM ms):=fun gV s Y H R I h=>mQ hg hm ha hs gV s Y H R I (by
 obtain⟨Z,F,env,fp,S,q⟩:=h;unfold cM at q;refine tA.bind S (fun c e=>by rw[e]at q;exact q) (fun e=>by rw[e]at q;exact q) fun xs vs H1 F1 f1 e1 g1 r1 n1 d1 w1=>?_;rw[e1]at q;simp only[Res.HY]at q;split at q
 ·rename_i n
  split at q
  ·rename_i hc
   obtain⟨v,rfl,r2⟩:=r1.one;unfold Rel at r2;obtain⟨rfl,_⟩:=r2;have hc':-(2 ^ 62)<= n/\n<2 ^ 62:=by simpa[inR]using hc
   exact⟨n,rfl,hc'.1,hc'.2,q _ H1 F1 g1 z_⟩
  ·exact q.elim
 ·exact q.elim)
def cZ(it:MI)(tg:TgM)(body:MS):MS:=fun env=>match it env with
 | .ok xs=>l_ (fun x e=>match tg x e with
  |some e'=>body e'
  |none=>.stuck) xs env
 |.exc c=>.exc c env
 |.stuck=>.stuck
def b_(hp:PassesOwn (model X.prog X.w) X.A X.env X.xe)(hc:X.calm=true)(hi:SI X T W tg iter mi)(hg:SG X T tg g)(hb:SSs X T W body mb)
  (hs:∀x,foldedSetIterable iter X.env x=pure x:=by intro _;rfl):SS X T W (.For tg iter body [] pos) (cZ mi g mb):=PS.wk (Cg (pos:=pos) hp hc hi hg hb hs) fun D Y H hz1=>by
 obtain⟨Z,F,env,fp,S,q⟩:=hz1;unfold cZ at q;refine⟨Z,F,env,fp,S,?_⟩;cases em:mi env with
 |exc c=>rw[em]at q;exact fun H' x=>q F H' Y fp (S.grow (Gr.same S.hp.ft x))
 |stuck=>rw[em]at q;exact q
 |ok xs=>
  rw[em]at q;dsimp only at q;intro J H1 F1 g1 it;have S1:=S.grow g1;generalize hbd:(fun (x:PV) (e:En)=>match g x e with
   |some e'=>mb e'
   |none=>Out.stuck)=bd at q
  refine⟨fun i m σ2 H2=>m=xs.length-i/\i<=xs.length/\∃F2 env2 fp2,aw T (Z.re F1 H1 fp) F2 H2 σ2 env2 fp2/\GS T W Z D (l_ bd (xs.drop i) env2),⟨xs.length,by simp,zero_le _,F1,env,fp,S1.enter,q⟩,?_⟩;rintro i m σ2 H2 ⟨rfl,hi,F2,env2,fp2,S2,q2⟩;obtain⟨go,stop⟩:=it H2 S2.hp.keep;by_cases hlt:i<xs.length
  ·have hx:xs[i]?=some xs[i]:=by simp[hlt]
   obtain⟨g1',yl⟩:=go i _ hx;refine .inr ⟨g1',fun σ3 H3=>∃F3 env3 fp3,aw T (Z.re F1 H1 fp) F3 H3 σ3 env3 fp3/\GS T W Z D (l_ bd (xs.drop (i+1)) env3),fun σ3 H3 h3=>⟨xs.length-(i+1),by lia,rfl,hlt,h3⟩,fun v H3 hy=>?_⟩;obtain⟨ex3,r⟩:=yl v H3 hy;rw[drop_eq_getElem_cons hlt]at q2;unfold l_ at q2;rw[<- hbd]at q2;dsimp only at q2;refine⟨Z.re F1 H1 fp,F2,env2,fp2,xs[i],[],S2.grow (Gr.same S2.hp.ft ex3),r.ext Ext.refl S2.hp.f0,q_.nil,?_⟩;cases eg:g xs[i] env2 with
   |none=>rw[eg]at q2;exact q2
   |some e'=>
    rw[eg]at q2;dsimp only at q2;intro σ' fp' S';refine⟨Z.re F1 H1 fp,F2,e',fp',S',?_⟩;cases eb:mb e' with
    |next e2|cont e2=>rw[eb]at q2;exact fun F3 H3 σ3 fp3 S3=>⟨F3,e2,fp3,S3,by rw[<- hbd];exact q2⟩
    |brk e2=>rw[eb]at q2;exact fun F3 H3 σ3 fp3 S3=>q2 F3 H3 σ3 fp3 (S1.leave S3)
    |ret v=>rw[eb]at q2;exact fun F3 H3 v f hp r nd nf new=>q2 F3 H3 v f (bT.leave S1 hp) r nd nf fun a ha=>S1.newL (new a ha)
    |exc c e2=>rw[eb]at q2;exact fun F3 H3 σ3 fp3 S3=>q2 F3 H3 σ3 fp3 (S1.leave S3)
    |stuck=>rw[eb]at q2;exact q2
  ·have e:i=xs.length:=by lia
   subst e;rw[drop_length]at q2;exact .inl ⟨stop,q2 F2 H2 σ2 fp2 (S1.leave S2)⟩
end
end PR
namespace L2
open PySem PySem.Spec
def dH(cells:List (Str×Addr)):List (Str×NameKind)->List (Str×Addr)->List (Str×Addr)
 | [],acc=>acc
 | (n,k)::r,acc=>if (k == .free)=true then (match cells.lookup n with
  |some c=>dH cells r ((n,c)::acc)
  |none=>dH cells r acc)else dH cells r acc
def g8:∀(names:List (Str×NameKind)) (acc:List (Str×Addr)),(∀y∈names,y.2=.free->∃c,env.cells.lookup y.1=some c)->
  (forIn names acc fun (x:Str × NameKind) (cs:List (Str × Addr))=>match x with
   |(name,kind)=>if(kind==.free)=true then do let c <- cellOf env name;pure (ForInStep.yield ((name,c)::cs))else pure (ForInStep.yield cs):Sem (List (Str×Addr)))=pure (dH env.cells names acc)
 | [],acc,_=>by simp[dH]
 |(n,k)::r,acc,h=>by
  rw[List.forIn_cons];by_cases hk:(k==NameKind.free)=true
  ·obtain⟨c,hc⟩:=h (n,k) mem_cons_self (by simpa using hk);dsimp only at hc;simp only[hk,if_true,cellOf,hc,pure_bind];rw[dH,if_pos hk,hc];exact g8 r _ fun y hy=>h y (mem_cons_of_mem _ hy)
  ·simp only[hk,false_eq_true,if_false,pure_bind];rw[dH,if_neg hk];exact g8 r _ fun y hy=>h y (mem_cons_of_mem _ hy)
def gR(h:∀y∈scope.names,y.2=.free->∃c,env.cells.lookup y.1=some c):closureFor scope env=pure (dH env.cells scope.names []):=by unfold closureFor;simp only[];rw[<- g8 scope.names [] h];simp
def fG{cells:List (Str×Addr)}:∀{names:List (Str×NameKind)}{acc:List (Str×Addr)},(∀p∈acc,cells.lookup p.1=some p.2)->∀p∈dH cells names acc,cells.lookup p.1=some p.2
 | [],_,h=>h
 |(n,k)::r,acc,h=>by
  unfold dH;split
  ·split
   ·rename_i c hc
    exact fG (by grind)
   ·exact fG h
  ·exact fG h
def iZ:∀{names:List (Str×NameKind)}{acc:List (Str×Addr)}{p:Str×Addr},p∈acc->p∈dH cells names acc
 | [],_,_,h=>h
 |(n,k)::r,acc,p,h=>by
  unfold dH;split
  ·split
   ·exact iZ (mem_cons_of_mem _ h)
   ·exact iZ h
  ·exact iZ h
def gA{cells:List (Str×Addr)}{x:Str}{c:Addr}(hc:cells.lookup x=some c):∀{names:List (Str×NameKind)}{acc:List (Str×Addr)},(x,NameKind.free)∈ names->(x,c)∈ dH cells names acc
 | [],_,h=>nomatch h
 |(n,k)::r,acc,h=>by
  unfold dH;rcases mem_cons.mp h with e|h
  ·cases e;rw[if_pos (by rfl),hc];exact iZ mem_cons_self
  ·split
   ·split
    ·exact gA hc h
    ·exact gA hc h
   ·exact gA hc h
def gO{cells l:List (Str×Addr)}(h:∀p∈l,cells.lookup p.1=some p.2){x:Str}{c:Addr}(m:(x,c)∈ l):l.lookup x=some c:=by
 induction l with
 |nil=>cases m
 |cons p r ih=>
  grind
def fF{cells:List (Str×Addr)}{names:List (Str×NameKind)}{x:Str}{c:Addr}(h:(dH cells names []).lookup x=some c):cells.lookup x=some c:=
 fG (names:=names) (acc:=[]) (fun _ z=>nomatch z) (x,c) (PySem.mem_of_lookup h)
def lO:∀(names:List (Str×NameKind)) (a:Nat) (l acc:List (Str×Addr)),cellsFrom a names (l++acc)=cellsFrom a names l++acc
 | [],_,_,_=>rfl
 |(n,k)::r,a,l,acc=>by
  unfold cellsFrom;split
  ·exact lO r (a+1) ((n,a)::l) acc
  ·exact lO r a l acc
def lN:∀{names:List (Str×NameKind)}{a:Nat}{l:List (Str×Addr)}{p:Str×Addr},p∈cellsFrom a names l->p∈l \/(a<=p.2/\(p.1,NameKind.cell)∈ names)
 | [],_,_,_,h=>.inl h
 |(n,k)::r,a,l,p,h=>by
  unfold cellsFrom at h;split at h
  ·rename_i hk
   have hk:k=.cell:=by simpa using hk
   subst hk;rcases lN h with h|h
   ·grind
   ·exact .inr ⟨by lia,mem_cons_of_mem _ h.2⟩
  ·rcases lN h with h|h
   ·exact .inl h
   ·exact .inr ⟨h.1,mem_cons_of_mem _ h.2⟩
def ox:∀{names:List (Str×NameKind)}{a:Nat}{l:List (Str×Addr)}{x:Str},((x,NameKind.cell)∈ names \/(l.lookup x).isSome=true)->((cellsFrom a names l).lookup x).isSome=true
 | [],_,_,_,h=>h.resolve_left (fun z=>nomatch z)
 |(n,k)::r,a,l,x,h=>by
  unfold cellsFrom;split
  ·rename_i hk
   have hk:k=.cell:=by simpa using hk
   subst hk;refine ox ?_
   grind
  ·rename_i hk
   refine ox ?_
   grind
def lP:∀{names:List (Str×NameKind)}{a:Nat}{l:List (Str×Addr)},(∀p∈l,p.2<a)->(l.Pairwise fun x y=>x.2≠y.2)->(cellsFrom a names l).Pairwise fun x y=>x.2≠y.2
 | [],_,_,_,h=>h
 |(n,k)::r,a,l,hl,h=>by
  unfold cellsFrom;split
  ·refine lP (fun p hp=>?_) (List.pairwise_cons.mpr ⟨fun y hy e=>?_,h⟩)
   ·grind
   ·have e':a=y.2:=e;exact Nat.lt_irrefl _ (Nat.lt_of_lt_of_eq (hl y hy) e')
  ·exact lP hl h
def li{α:Type}{x:Str}:∀{l m:List (Str×α)},(l++m).lookup x=(l.lookup x).or (m.lookup x)
 | [],m=>by simp
 |(n,c)::l,m=>by
  grind
abbrev mj(X:Cx)(scope:Scope)(C:Addr):List (Str×Addr):=cellsFrom (C+1) scope.names (dH X.env.cells scope.names [])
def lR{X:Cx}{scope:Scope}{C:Addr}{x:Str}{c:Addr}(h:(mj X scope C).lookup x=some c):(C+1<=c/\(x,NameKind.cell)∈ scope.names/\(x,c)∈ cellsFrom (C+1) scope.names [])\/(dH X.env.cells scope.names []).lookup x=some c:=by
 unfold mj at h;rw[show dH X.env.cells scope.names []=[]++ dH X.env.cells scope.names []from rfl,lO,li]at h;cases e:(cellsFrom (C+1) scope.names []).lookup x with
 |some d=>
  rw[e]at h;cases h;have m:=PySem.mem_of_lookup e;rcases lN m with z|z
  ·cases z
  ·exact .inl ⟨z.1,z.2,m⟩
 |none=>rw[e]at h;exact .inr (by simpa using h)
def DY(hx:(x,NameKind.cell)∉ scope.names)(h:(dH X.env.cells scope.names []).lookup x=some c):(mj X scope C).lookup x=some c:=by
 unfold mj;rw[show dH X.env.cells scope.names []=[]++ dH X.env.cells scope.names []from rfl,lO,li];cases e:(cellsFrom (C+1) scope.names []).lookup x with
 |some d=>
  rcases lN (PySem.mem_of_lookup e)with z|z
  ·cases z
  ·exact absurd z.2 hx
 |none=>simpa using h
def j3{M:Model}{A:Around}{E:td}{s:Shared}{scope:Scope}{globals:Addr}{closure:List (Str×Addr)}{qual:Str}{func:Option Addr}{code:Value}{outer:Env}{builtins:Addr}{Q:Env->Shared->Prop}
  (hQ:∀ h',h'.Ns s.heap.objs.size (fun _=>none)->(∀ b o,s.heap.get? b=some o->h'.get? b=some o)->(∀ n c,(n,c) ∈ cellsFrom (s.heap.objs.size+1) scope.names []->h'.IsCell c none) ->
   Q (newEnv scope s.heap.objs.size globals (cellsFrom (s.heap.objs.size+1) scope.names closure) qual func code (some outer) builtins) {s with heap:=h'}) :
  wpAny M A (newFunctionEnv scope globals closure [] qual func code (some outer) builtins) Q E s:=by
 simp only[newFunctionEnv,Option.isSome_some,if_true];refine wpAny_bind (wpAny_alloc ?_);refine wpAny_bind (wpAny_layCells _ (fun name kind cells=>by cases hkc:kind==NameKind.cell<;>simp[hkc]) _ _ _ _ ?_);have ok:=cellsFrom_ok scope.names (s.heap.push {cls:=.type "dict",data:=.dict #[]}) (s.heap.objs.size+1) [] ⟨fun _ _ hm=>(nomatch hm),Pairwise.nil⟩ (by rw[size_push];exact Nat.le_refl _);rw[size_push]at ok;rw[show({s with heap:=s.heap.push {cls:=.type "dict",data:=.dict #[]}}:Shared).heap.objs.size=s.heap.objs.size+1 from size_push ..];refine wpAny_bind ?_;rw[List.forIn_nil];exact wpAny_pure (wpAny_pure (hQ _ ((Heap.Ns.new s.heap (.type "dict")).keeps (pushCells_keeps _ _)) (fun b o e=>pushCells_keeps _ _ b o (get?_push_of_some _ e)) fun n c hm=>(ok.empty n c hm).1))
def cxC(X:Cx)(scope:Scope)(C:Addr)(N:HF)(s:Shared)(H:Hp)(ex:HE):Cx:=
 {X with env:=compEnvC scope (mj X scope C) C X.env,N:=N,s₀:=s,H₀:=H,outer:=X.stack,stack:=X.stack,ex:=ex,fn:=fun x=>scope.names.lookup x==some .cell,pn:=[],xe:=fun _ _=>False}
structure cH(X:Cx)(scope:Scope)(caps:List Nat)(N tn:HF):Prop where
 kind:scope.kind=.function
 cel:∀y∈scope.names,y.2=.cell->scope.names.lookup y.1=some .cell
 names:∀y∈scope.names,y.2=.local->scope.names.lookup y.1=some .local
 free:∀y∈scope.names,y.2=.free->X.env.kindOf y.1=some .cell\/X.env.kindOf y.1=some .free
 eN:N=caps.map (fun i=>X.N.getD i "")++ tn
 capN:∀i∈caps,i<X.N.length
 capF:∀i∈caps,∀x,X.N[i]?=some x->(x,NameKind.free)∈ scope.names/\scope.names.lookup x=some .free
 nd:N.Nodup
def im{scope:Scope}{env:Env}{x:Str}{k:NameKind}(h:(relabel scope env).names.lookup x=some k)(hc:k=.cell\/k=.free):(x,NameKind.free)∈ scope.names \/(x,NameKind.cell)∈ scope.names:=by
 have m:=PySem.mem_of_lookup h;obtain⟨⟨n,k0⟩,hm,e⟩:=mem_map.mp m
 grind
def ip{scope:Scope}{env:Env}{x:Str}:∀{names:List (Str×NameKind)},names.lookup x=some .free ->
  (names.map fun(n,k)=>if(k==NameKind.free&&env.scope.kind==.function&&env.kindOf n==some .cell)then(n,NameKind.cell)else(n,k)).lookup x=some .cell \/
  (names.map fun(n,k)=>if(k==NameKind.free&&env.scope.kind==.function&&env.kindOf n==some .cell)then(n,NameKind.cell)else(n,k)).lookup x=some .free
 | [],h=>by simp at h
 |(n,k)::r,h=>by
  show List.lookup x ((if(k==NameKind.free&&env.scope.kind==.function&&env.kindOf n==some .cell)=true then(n,NameKind.cell)else(n,k))::_)=_\/List.lookup x ((if(k==NameKind.free&&env.scope.kind==.function&&env.kindOf n==some .cell)=true then(n,NameKind.cell)else(n,k))::_)=_;have ih:=@ip scope env x r
  grind
section
variable{X:Cx}{scope:Scope}{caps:List Nat}{N tn:HF}{gV:HA}{Y:St}{H:Hp}{s:Shared}{fp:HE}{C:Addr}
def jO(cs:cH X scope caps N tn)(I:Inv X gV Y H s)(hf:∀b∈fp,kh X gV H b)(hlt:∀b∈fp,b<s.heap.objs.size)(hC:s.heap.objs.size<=C):(cxC X scope C N s H fp).Ok where
 mod:=I.ok.mod
 kind:=by show(relabel scope X.env).kind=_;exact cs.kind
 glob:=I.ok.glob
 blt:=I.ok.blt
 above:=hC
 inj:=fun x y c h1 h2=>by
  have old:∀z,(dH X.env.cells scope.names []).lookup z=some c->c<s.heap.objs.size:=fun z hz=>let⟨_,hv⟩:=I.cell z c (fF hz);hv.lt
  rcases lR h1 with⟨l1,_,m1⟩|h1<;>rcases lR h2 with⟨l2,_,m2⟩|h2
  ·exact name_of_addr (lP (l:=[]) (fun _ z=>nomatch z) Pairwise.nil) m1 m2
  ·grind
  ·grind
  ·exact I.ok.inj x y c (fF h1) (fF h2)
 has:=fun x hx=>by
  have hx:(relabel scope X.env).names.lookup x=some .cell \/(relabel scope X.env).names.lookup x=some .free:=hx;have m:(x,NameKind.free)∈ scope.names \/(x,NameKind.cell)∈ scope.names:=by
   rcases hx with h|h
   ·exact im h (.inl rfl)
   ·exact im h (.inr rfl)
  refine isSome_iff_exists.mp (ox (l:=dH X.env.cells scope.names []) ?_);rcases m with m|m
  ·obtain⟨c,hc⟩:=I.ok.has x (cs.free _ m rfl);exact .inr (by rw[gO (fG (acc:=[]) fun _ z=>nomatch z) (gA hc m)];rfl)
  ·exact .inl m
 cab:=fun x c h hc=>by
  have h':(scope.names.lookup x==some NameKind.cell)=true:=h;have hx:scope.names.lookup x=some .cell:=by simpa using h'
  have hs:s.heap.objs.size<=C:=hC;have hc:(mj X scope C).lookup x=some c:=hc;obtain⟨d,hd⟩:=isSome_iff_exists.mp (ox (a:=C+1) (l:=[]) (.inl (PySem.mem_of_lookup hx)));unfold mj at hc;rw[show dH X.env.cells scope.names []=[]++ dH X.env.cells scope.names []from rfl,lO,li,hd]at hc;cases hc;rcases lN (PySem.mem_of_lookup hd)with z|z
  ·cases z
  ·exact Nat.le_trans hs (Nat.le_trans (le_succ _) z.1)
 hd:=I.ok.hd
 frames:=I.ok.frames
 stk:=.inl rfl
 exf:=fun b hb=>⟨Nat.ne_of_lt (Nat.lt_of_lt_of_le (hlt b hb) hC),fun x c h=>by
  rcases lR h with⟨l1,_,_⟩|h
  ·exact fun z=>absurd (Nat.lt_of_lt_of_le (hlt b hb) (Nat.le_trans hC (Nat.le_trans (le_succ _) l1))) (by rw[z];exact Nat.lt_irrefl _)
  ·exact(hf b hb).2.2.2.2.1 x c (fF h)⟩
 bs:=I.bs
 bsz:=Nat.le_trans I.ok.bsz I.sz
 noex:=fun b o e hb=>by
  rcases(hf b hb).2.2.2.1 with z|z
  ·exact I.ok.noex b o e z
  ·exact absurd (Nat.lt_of_lt_of_le (lt_size e) (Nat.le_trans I.ok.bsz z)) (Nat.lt_irrefl _)
 exfs:=fun b hb hs=>by
  rcases mem_cons.mp (I.stkSub b hs)with z|z
  ·exact(hf b hb).2.1 z
  ·exact(hf b hb).2.2.1 z
 funs:=I.stack
 frf:=I.stkFree
def mq(caps:List Nat)(k:Nat)(Y:St):St:=caps.map (fun i=>(Y[i]?).join)++ replicate k none
def pL(cs:cH X scope caps N tn)(I:Inv X gV Y H s)(hf:∀b∈fp,kh X gV H b)(hlt:∀b∈fp,b<s.heap.objs.size)
  (hns:h₁.Ns (s.heap.objs.size+1) fun _=>none) (hD:h₁.get? s.heap.objs.size=some {cls:=.type "list",data:=.seq ([]:HD).toArray}) (old:∀b o,s.heap.get? b=some o->h₁.get? b=some o)
  (hcl:∀n c,(n,c)∈ cellsFrom (s.heap.objs.size+1+1) scope.names []->h₁.IsCell c none) :
  Inv (cxC X scope (s.heap.objs.size+1) N s H fp) [] (mq caps tn.length Y) (upd H s.heap.objs.size (.lst [])) {s with heap:=h₁,toks:=t}:=by
 have fresh:∀b,s.heap.objs.size<=b->H b=none:=fun b hb=>I.hok.fresh hb;have neD:s.heap.objs.size+1≠s.heap.objs.size:=Nat.succ_ne_self _;have ltc:∀x c,(dH X.env.cells scope.names []).lookup x=some c->∃v,s.heap.IsCell c v:=fun x c h=>I.cell x c (fF h);refine⟨jO cs I hf hlt (le_succ _),rfl,I.bare,Un.laid old (Nat.le_refl _) (fresh _ (Nat.le_refl _)),⟨_,hns,fun i y v h1 h2 h3=>?_⟩,fun x c h=>?_,?_,fun x c h=>?_,fun p hp=>absurd (show p ∈([]:HA)from hp) (by simp),?_,?_⟩
 ·have hi:i<caps.length:=by
   unfold mq at h2;by_cases hi:i<caps.length
   ·exact hi
   ·rw[getElem?_append_right (by simpa using hi),getElem?_replicate]at h2;split at h2<;>cases h2
  unfold mq at h2;rw[getElem?_append_left (by simpa using hi),getElem?_map]at h2;obtain⟨j,hj,e2⟩:=map_eq_some_iff.mp h2;have hjc:j∈caps:=List.mem_of_getElem? hj;have hjN:=cs.capN j hjc;have hy:X.N[j]?=some y:=by
   have h1':N[i]?=some y:=h1;rw[cs.eN,getElem?_append_left (by simpa using hi),getElem?_map,hj]at h1';have:X.N.getD j ""=y:=by simpa using h1'
   rw[<- this];simp[hjN]
  have hσ:Y[j]?=some (some v):=by
   cases e:Y[j]? with
   |none=>rw[e]at e2;cases e2
   |some w=>rw[e]at e2;simp only[Option.join_some]at e2;rw[e2]
  obtain⟨m0,hn0,hl⟩:=I.loc;obtain⟨hm,hlk⟩:=cs.capF j hjc y hy;have hk:=cs.free _ hm rfl;dsimp only at hk;have hvis:Vis X.env.scope y:=by
   rcases hk with z|z
   ·exact .inr (.inl z)
   ·exact .inr (.inr z)
  obtain⟨u,ru,lk⟩:=hl j y v hy hσ hvis;refine⟨u,ru,.inr ?_⟩;rcases lk with⟨z,_⟩ |⟨_,c,hc,hcell⟩
  ·rcases hk with w|w
   ·rw[z]at w;cases w
   ·rw[z]at w;cases w
  ·refine⟨ip (scope:=scope) hlk,c,DY (fun z=>?_) (gO (fG (acc:=[]) fun _ z=>nomatch z) (gA hc hm)),hcell.keeps old⟩;have:=cs.cel _ z rfl;rw[hlk]at this;cases this
 ·rcases lR h with⟨_,_,m⟩|h
  ·exact⟨none,hcl x c m⟩
  ·obtain⟨v,hv⟩:=ltc x c h;exact⟨v,hv.keeps old⟩
 ·show upd H _ _ (s.heap.objs.size+1)=none;rw[aG neD];exact fresh _ (le_succ _)
 ·rcases lR h with⟨l1,_,_⟩|h2
  ·rw[aG (Nat.ne_of_gt (Nat.lt_of_lt_of_le (lt_succ_of_lt (Nat.lt_succ_self _)) l1))];exact .inl (fresh _ (Nat.le_trans (Nat.le_succ_of_le (le_succ _)) l1))
  ·obtain⟨v,hv⟩:=ltc x c h2;rw[aG (Nat.ne_of_lt hv.lt)];exact(I.freeC x c (fF h2)).imp (fun z=>z) fun q=>⟨eq_false_iff.mpr fun e=>Nat.lt_irrefl _ (Nat.lt_of_lt_of_le hv.lt ((jO cs I hf hlt (le_succ _)).cab x c e h)),q.2⟩
 ·exact I.hok.laid old (Nat.le_refl _) ⟨zero_le _,[],_,.nil,hD⟩
 ·show(mq caps tn.length Y).length=N.length;rw[cs.eN];simp[mq]
end
end L2
namespace PR
open PySem PySem.Spec L2
def Fl.HQ:Fl->Fl
 |.own|.lnt=>.bor
 |f=>f
def PV.HQ(x:PV):PV:=x.HW Fl.HQ
def uu(hB:∀a,B a->B' a)(hL:∀a,L a->B' a):Mp T Fl.HQ (fun _=>false) (fun _=>[]) B' F B L H F B' L' H:=
 ⟨fun f a vs _ c h=>by
  cases f with
  |own=>exact⟨c rfl,.inl h⟩
  |bor=>exact⟨hB a h.1,h.2⟩
  |lnt=>exact⟨hL a h.1,.inl h.2⟩
  | _=>exact h,fun f a _ c h=>⟨by
  cases f with
  |own=>exact c rfl
  |bor=>exact hB a h
  |lnt=>exact hL a h
  |_=>exact h,fun _ q=>q⟩,fun f a x y h=>by cases f<;>exact⟨rfl,rfl⟩,rfl,fun _ _=>rfl,fun _ _ q _=>q⟩
def Rel.HQ(hB:∀a,B a->B' a)(hL:∀a,L a->B' a)(hp:∀a∈fo,B' a)(h:Rel T F B L H x v fo):Rel T F B' L' H (x.HW Fl.HQ) v []:=(uu hB hL).rel (lA x) hp h
mutual
def eU:∀x:PV,(x.HW Fl.HQ).has Fl.HR=false
 |.non|.bl _|.int _|.str _=>rfl
 |.lst f xs=>by simp only[PV.HW,PV.has,borrow_ownL xs,Bool.or_false];cases f<;>rfl
 |.tup xs=>by simp only[PV.HW,PV.has,borrow_ownL xs]
 |.obj f c ks xs=>by simp only[PV.HW,PV.has,borrow_ownL xs,Bool.or_false];cases f<;>rfl
 |.exc _=>rfl
 |.box k xs=>by simp only[PV.HW,PV.has,borrow_ownL xs]
def borrow_ownL:∀xs:HK,hasL Fl.HR (mapL Fl.HQ xs)=false
 | []=>rfl
 |x::xs=>by simp only[mapL,hasL,eU x,borrow_ownL xs,Bool.or_false]
end
def ItC(T:Tb)(F B L:HB)(H1:Hp)(J:It)(xs:HK):Prop:=
 ∀H2,Ext H1 H2->(∀(i:Nat) x,xs[i]?=some x->J.go i H2/\∀v H3,J.yld i H2 v H3->Ext H2 H3/\∃f,(∀a∈f,∃o,H1 a=some o)/\Rel T F B L H3 x v f)/\J.stop xs.length H2
def ItC.of0(h:∀H2,Ext H1 H2->(∀(i:Nat) x,xs[i]?=some x->J.go i H2/\∀v H3,J.yld i H2 v H3->H3=H2/\∃f,Rel T F B L H1 x v f)/\J.stop xs.length H2):ItC T F B L H1 J xs:=fun H2 hk=>by obtain⟨a,b⟩:=h H2 hk;refine⟨fun i x e=>⟨(a i x e).1,fun v H3 hy=>?_⟩,b⟩;obtain⟨rfl,f,r⟩:=(a i x e).2 v H3 hy;exact⟨Ext.refl,f,fun a ha=>r.there a ha,r.ext hk fun _ h=>h⟩
def GIc(T:Tb)(W:Nat->St->HJ)(B F L:HB)(Y:St)(H:Hp)(R:It->HJ):Res (HK)->Prop
 |.ok xs=>∀J H1 F1,Gr F H F1 H1->ItC T F1 B L H1 J xs->R J H1
 |.exc c=>∀H',Ext H H'->W c Y H'
 |.stuck=>False
def tIc(T:Tb)(W:Nat->St->HJ)(m:MI):TI:=fun Y H R=>∃Z F env fp,aw T Z F H Y env fp/\GIc T W Z.B F (Own fp) Y H R (m env)
abbrev SIc(X:Cx)(T:Tb)(W:Nat->St->HJ)(tg iter:Expr)(m:MI):Prop:=PI X tg iter (tIc T W m)
def a8(m:ME):MI:=fun env=>(m env).bind fun x=>match bB x with
 |some xs=>.ok xs
 |none=>.stuck
section
variable{X:Cx}{T:Tb}{W:Nat->St->HJ}{Z:Zn}{F F1 B L:HB}{H H1:Hp}{Y:St}{env:En}{fp:Nat->HE}{D:Ends}
def bt(hK:X.K=T.K)(he:SE X T W e m):SIc X T W tg e (a8 m):=fun gV s Y H R I h=>wg he gV s Y H R I (by
 obtain⟨Z,F,env,fp,S,q⟩:=h;unfold a8 at q;refine tE.bq S fun x v H1 F1 f1 e1 g1 r1 n1 d1 w1=>?_;rw[e1]at q;simp only[Res.HY]at q;cases es:bB x with
 |none=>rw[es]at q;exact q.elim
 |some xs=>
  rw[es]at q;obtain⟨a,vs,f',rfl,hs,hr,_⟩:=r1.seq es;refine⟨a,rfl,?_⟩;rw[hK];rcases hs with hs|hs
  ·refine .inl ⟨vs,hs,q _ H1 F1 g1 (ItC.of0 fun H2 hx=>?_)⟩;have h2:SqL T.K H2 a vs:=by
    rcases hs with z|z
    ·exact .inl (Rd.tr (fun o q=>hx a o q) z)
    ·exact .inr z
   refine⟨fun i x ex=>?_,⟨vs,h2,by rw[hr.length];exact Nat.le_refl _⟩⟩;obtain⟨v,f,ev,rv,_⟩:=hr.get ex;refine⟨⟨vs,v,h2,ev⟩,fun w H3 hy=>⟨hy.1,f,?_⟩⟩;have:=hy.2 vs h2;rw[ev]at this;cases this;exact rv
  ·refine .inr ⟨vs,hs,q _ H1 F1 g1 (ItC.of0 fun H2 hx=>?_)⟩;have h2:SqT T.K H2 a vs:=SqT.tr (fun o q _=>hx a o q) hs;refine⟨fun i x ex=>?_,⟨vs,h2,by rw[hr.length];exact Nat.le_refl _⟩⟩;obtain⟨v,f,ev,rv,_⟩:=hr.get ex;refine⟨⟨vs,v,h2,ev⟩,fun w H3 hy=>⟨hy.1,f,?_⟩⟩;have:=hy.2 vs h2;rw[ev]at this;cases this;exact rv)
def Aa:ItC T F1 B L H1 (Itr lo n) (dO lo n):=by
 apply ItC.of0;intro H2 _;refine⟨fun i x ex=>?_,by simp[dO,Itr]⟩;have hi:i<n:=by have:=(List.getElem?_eq_some_iff.mp ex).1;simpa[dO]using this
 refine⟨hi,fun v H3 hy=>⟨hy.1,[],?_⟩⟩;obtain⟨_,rfl⟩:=hy;have:x=.int (lo+(i:Nat)):=by simp[dO,hi]at ex;exact ex.symm
 subst this;exact dW
def dB(hg:Gl X "range")(hm:X.mg "range" = none)(ha:SA X T W [a] ms)(hs:starEach [a] X.env=[(false,eval a X.env)]:=by rfl):SIc X T W tg (.Call (.Name "range" p) [a] [] pos) (cM ms):=fun gV s Y H R I h=>mQ hg hm ha hs gV s Y H R I (by
 obtain⟨Z,F,env,fp,S,q⟩:=h;unfold cM at q;refine tA.bind S (fun c e=>by rw[e]at q;exact q) (fun e=>by rw[e]at q;exact q) fun xs vs H1 F1 f1 e1 g1 r1 n1 d1 w1=>?_;rw[e1]at q;simp only[Res.HY]at q;split at q
 ·rename_i n
  split at q
  ·rename_i hc
   obtain⟨v,rfl,r2⟩:=r1.one;unfold Rel at r2;obtain⟨rfl,_⟩:=r2;have hc':-(2 ^ 62)<= n/\n<2 ^ 62:=by simpa[inR]using hc
   exact⟨n,rfl,hc'.1,hc'.2,q _ H1 F1 g1 Aa⟩
  ·exact q.elim
 ·exact q.elim)
abbrev WF:Nat->St->HJ:=fun _ _ _=>False
def STs(X:Cx)(T:Tb)(W:Nat->St->HJ)(ifs:List Expr)(m:MT):Prop:=
 ∀(gV:HA) (s:Shared) (Y:St) (H:Hp) (Q:Bool->HJ),L2.Inv X gV Y H s->tT T W m Y H Q ->
  wpAny (model X.prog X.w) X.A (forIn ifs true fun c r=>if r=true then do let ok <- isTrue c X.env (eval c X.env);pure (ForInStep.yield ok)else pure (ForInStep.yield r)) (TP X gV Y Q) X.xe s
def aP:MT:=fun _=>.ok true
def a9:STs X T W [] aP:=fun gV s Y H Q I ⟨Z,F,env,fp,S,q⟩=>wpAny_tests_nil ⟨H,I,q H F (Gr.refl S.hp.ft)⟩
def kj(h:ST X T W c m):STs X T W [c] m:=fun gV s Y H Q I q=>wpAny_tests_one (h gV s Y H Q I q)
structure fj(g:TgM)(k:Nat):Prop where
 keep:∀x env e',g x env=some e'->e'.length=env.length/\∀j<k,e'[j]?=env[j]?
 own:∀x env e',g x env=some e'->x.has Fl.HR=false->∀(j:Nat) pv,e'[j]?=some (some pv)->env[j]?=some (some pv)\/ pv.has Fl.HR=false
def vh(h:k<=i):fj (tgN i) k:=by
 refine⟨fun x env e' e=>?_,fun x env e' e hx j pv hj=>?_⟩
 ·unfold tgN at e;split at e
  ·cases e;exact⟨by simp,fun j hj=>getElem?_set_ne (by lia)⟩
  ·cases e
 ·unfold tgN at e;split at e
  ·cases e;by_cases hij:i=j
   ·subst hij;have hl:i<env.length:=by have:=(List.getElem?_eq_some_iff.mp hj).1;simpa using this
    rw[getElem?_set_self hl]at hj;cases hj;exact .inr hx
   ·rw[getElem?_set_ne hij]at hj;exact .inl hj
  ·cases e
def bw(caps:List Nat)(k:Nat)(env:En):En:=caps.map (fun i=>((env[i]?).join).map PV.HQ)++ replicate k none
def cD(g:TgM)(mc:MT)(me:ME)(env:En):HK->Res (HK)
 | []=>.ok []
 |x::xs=>match g x.HQ env with
  |none=>.stuck
  |some e=>(mc e).bind fun b=>if b then(me e).bind fun y=>if y.has Fl.HU||y.has Fl.HS then .stuck else(cD g mc me env xs).bind fun ys=>.ok (y::ys)else cD g mc me env xs
def aM(caps:List Nat)(k:Nat)(mi:MI)(g:TgM)(mc:MT)(me:ME):ME:=fun env=>(mi env).bind fun xs=>if xs.length <= 10000000 then (match cD g mc me (bw caps k env) xs with
 |.ok ys=>.ok (.lst .own ys)
 |_=>.stuck)else .stuck
end
section
variable{prog:Program}{w:World}{A:Around}{R:Result->Shared->Prop}{s:Shared}
def iY(I:Nat->Shared->Prop)
  (turn:∀ n s,I n s->wpAny (model prog w) A (pyNext it) (fun r s₁=>match r with
   |none=>R (.ok .next) s₁
   | some v=>wpAny (model prog w) A (letOwnedTupleGo target it v) (fun _ s₁'=>wpAny (model prog w) A (assign target env v) (fun _ s₂=>
     wpAny (model prog w) A (forIn ifs true fun c r=>if r=true then do let ok <- isTrue c env (eval c env);pure (ForInStep.yield ok) else pure (ForInStep.yield r)) (fun ok s₃=>
      if ok=true then wpAny (model prog w) A (eval elt env) (fun x s₄=>
       wpAny (model prog w) A (call (.builtin "list.append") [acc,x]) (fun _ s₅=>∃m,m<n/\I m s₅) (notedBy (model prog w) A env fun e s'=>R (.error e) s') s₄) (notedBy (model prog w) A env fun e s'=>R (.error e) s') s₃
      else ∃m,m<n/\I m s₃) (notedBy (model prog w) A env fun e s'=>R (.error e) s') s₂) (notedBy (model prog w) A env fun e s'=>R (.error e) s') s₁') (notedBy (model prog w) A env fun e s'=>R (.error e) s') s₁) (notedBy (model prog w) A env fun e s'=>R (.error e) s') s)
  (n:Nat) (h:I n s) :
  codeAny (model prog w) A (.compLoop (.ListComp elt [⟨target,iter,ifs,0⟩] scope pos) 0 it acc env) R s:=by
 refine codeAny_loop rfl I (fun n s hI=>?_) n h;show wpAny _ A ((compTurn (.ListComp elt [⟨target,iter,ifs,0⟩] scope pos) 0 it acc env).onRaise (fun x=>do noteFrame x env;theTreesLotGoes x)) _ _ s;refine wpAny_noted ?_;rw[compTurn_list];refine wpAny_bind (wpAny_standAt (wpAny_bind (wpAny_mono (turn n s hI) (fun r s₁ h₁=>?_) fun _ _ h'=>h')));cases r with
 |none=>exact wpAny_pure h₁
 |some v=>
  refine wpAny_bind (wpAny_mono h₁ (fun _ s₁' h₁'=>?_) fun _ _ h'=>h');refine wpAny_bind (wpAny_mono h₁' (fun _ s₂ h₂=>wpAny_bind (wpAny_mono h₂ (fun ok s₃ h₃=>?_) fun _ _ h'=>h')) fun _ _ h'=>h');cases ok with
  |false=>exact wpAny_pure ⟨rfl,h₃⟩
  |true=>exact wpAny_bind (wpAny_bind (wpAny_mono h₃ (fun x s₄ h₄=>wpAny_bind (wpAny_mono h₄ (fun _ s₅ h₅=>wpAny_pure (wpAny_pure ⟨rfl,h₅⟩)) fun _ _ h'=>h')) fun _ _ h'=>h'))
end
end PR
namespace PR
open PySem PySem.Spec L2
section
variable{X:Cx}{T:Tb}{W:Nat->St->HJ}{Z:Zn}{F F1 B L:HB}{H H1:Hp}{Y:St}{env:En}{fp:Nat->HE}{D:Ends}
def aw.wk(S:aw T Z F H Y env fp)(hpin:Z.pin=none)(hl:e2.length=env.length)(h:∀(i:Nat) pv,e2[i]?=some (some pv)->env[i]?=some (some pv)):aw T Z F H Y e2 fp:=
 ⟨S.hp,S.len.trans hl.symm,fun i pv e=>S.rel i pv (h i pv e),S.nd,S.dj,S.dis,S.new,S.ch,fun v hv=>by rw[hpin]at hv;cases hv⟩
def aw.HX(S:aw T Z F H Y env fp)(h:∀(i:Nat) pv,env[i]?=some (some pv)->pv.has Fl.HR=false):aw T Z F H Y env (fun _=>[]):=
 ⟨S.hp,S.len,fun i pv e=>by
  obtain⟨v,h1,h2⟩:=S.rel i pv e;have:=Rel.HX (h i pv e) h2;rw[this]at h2;exact⟨v,h1,h2⟩,fun _=>nodup_nil,fun _ _ _ _ z=>(nomatch z),fun _ _ z=>(nomatch z),fun _ _ z=>(nomatch z),fun _ _ z=>(nomatch z),S.pn⟩
def aw.updD(S:aw T Z F H Y env (fun _=>[]))(hF:¬F Dd)(h0:Z.H0 Dd=none)(hD:H Dd=some o)(hfx:¬gP o):aw T Z F (upd H Dd o') Y env (fun _=>[]):=by
 have ne:∀a u,H a=some u->(F a\/Z.B a\/NoL a\/gP u)->a≠Dd:=(by grind[bV,aw,bT,Gr])
 refine⟨⟨S.hp.bo,fun a u e n=>?_,S.hp.f0,S.hp.fn,fun a h=>?_⟩,S.len,fun i pv e=>?_,S.nd,S.dj,fun _ _ z=>(nomatch z),S.new,fun _ _ z=>(nomatch z),S.pn⟩
 ·have:a≠Dd:=fun z=>by rw[z,h0]at e;cases e
  rw[aG this];exact S.hp.keep a u e n
 ·obtain⟨u,e⟩:=S.hp.ft a h;exact⟨u,by rw[aG (show a≠Dd from fun z=>hF (by rw[<- z];exact h))];exact e⟩
 ·obtain⟨v,h1,h2⟩:=S.rel i pv e;refine⟨v,h1,Rel.tr (fun _ h=>h) (fun _ h=>h) (fun _ h=>h) (fun a u q h=>?_) (fun _ z=>(nomatch z)) h2⟩;rw[aG (ne a u q h)];exact q
def zC(F:HB)(H:Hp):Zn:=⟨H,F,fun _=>False,fun a=>∃o,H a=some o,none⟩
def m9(S:aw T Z F H Y env fp)(hD:H Dd=none)(hFD:¬F Dd) :
  aw T (zC F H) F (upd H Dd (.lst [])) (mq caps k Y) (bw caps k env) (fun _=>[]):=by
 have ext:Ext H (upd H Dd (.lst [])):=Ext.upd hD;refine⟨⟨⟨fun a h=>⟨h,fun z=>z⟩,S.tbo Ext.refl fun _ z=>False.elim z⟩,fun a o h _=>ext a o h,fun _ h=>h,fun _ h=>.inl h,fun a h=>let⟨o,e⟩:=S.hp.ft a h;⟨o,ext a o e⟩⟩,by simp[mq,bw],fun i pv e=>?_,fun _=>nodup_nil,fun _ _ _ _ z=>(nomatch z),fun _ _ z=>(nomatch z),fun _ _ z=>(nomatch z),fun _ _ z=>(nomatch z),fun _ h=>(nomatch h)⟩;unfold bw at e;unfold mq;by_cases hi:i<caps.length
 ·rw[getElem?_append_left (by simpa using hi),getElem?_map]at e ⊢;obtain⟨j,hj,e2⟩:=map_eq_some_iff.mp e;rw[hj];obtain⟨pv0,e3,rfl⟩:=map_eq_some_iff.mp e2;have e4:env[j]?=some (some pv0):=by
   cases e5:env[j]? with
   |none=>rw[e5]at e3;cases e3
   |some w=>rw[e5]at e3;simp only[Option.join_some]at e3;rw[e3]
  obtain⟨v,h1,h2⟩:=S.rel j pv0 e4;refine⟨v,by simp[h1],?_⟩;refine Rel.HQ (B:=fun a=>∃o,H a=some o) (L:=NoL) (fun _ h=>h) (fun _ h=>h.elim) (fun a ha=>(S.dis j a ha).2) ?_;exact Rel.tr (fun _ h=>h) (fun a h=>let⟨⟨o,h1⟩,h2⟩:=S.hp.bo.1 a h;⟨o,S.hp.keep a o h1 h2⟩) (fun _ h=>h) (fun a o q _=>ext a o q) (fun a _ o q=>ext a o q) h2
 ·rw[getElem?_append_right (by simpa using hi),getElem?_replicate]at e;split at e<;>cases e
set_option maxHeartbeats 1000000 in
def m8
  (cs:cH X scope caps N tn) (hc:X.calm=true) (hi:SIc X T W tg iter mi) (hk:fj g caps.length)
  (hb:∀C s H ex,SG (cxC X scope C N s H ex) T tg g/\STs (cxC X scope C N s H ex) T WF ifs mc/\SE (cxC X scope C N s H ex) T WF elt me)
  (hs:∀x,foldedSetIterable iter X.env x=pure x) (I:L2.Inv X gV Y H s) (h:tE T W (aM caps tn.length mi g mc me) Y H Q)
  (hfin:∀(Dd C:Addr) (H':Hp) (s6:Shared) (m:Hz),Q (.ref Dd) H'->L2.Inv X gV Y H' s6->s6.heap.Ns C m->H' C=none->C≠X.env.locals->C∉X.fs->X.s₀.heap.objs.size<=C->(∀x c,X.env.cells.lookup x=some c->c≠C)->(∀p∈X.pn++gV,p.1≠C)->compPost (model X.prog X.w) X.A X.xe use Q' (.ref Dd) C (.ok .next) s6) :
  wpAny (model X.prog X.w) X.A (comprehension (.ListComp elt [⟨tg,iter,ifs,0⟩] scope pos) scope X.env p' (newList []) false (eval iter X.env) use) Q' X.xe s:=by
 obtain⟨Z,F,env,fp,S,q⟩:=h;unfold aM at q;refine wpAny_comprehension_free (use:=use) rfl hs (gR fun y hy hf=>I.ok.has y.1 (cs.free y hy hf)) cs.kind cs.names ?_;refine thn (hi gV s Y H (fun J H1=>∃F1 xs,mi env=.ok xs/\Gr F H F1 H1/\ItC T F1 Z.B (Own fp) H1 J xs) I ⟨Z,F,env,fp,S,?_⟩) fun xv s1 h1=>thn h1 fun itv s2 h2=>?_
 ·cases em:mi env with
  |ok xs=>exact fun J H1 F1 g1 it=>⟨F1,xs,rfl,g1,it⟩
  |exc c|stuck=>rw[em]at q;exact q
 obtain⟨it,fpi,tn_,J,H2,rfl,I2,Tn,st2,f2,F1,xs,em,g1,itc⟩:=h2;rw[em]at q;simp only[Res.HY]at q;split at q
 case isFalse=>exact q.elim
 rename_i hlen
 cases ec:cD g mc me (bw caps tn.length env) xs with
 |exc c|stuck=>rw[ec]at q;exact q.elim
 |ok full=>
 rw[ec]at q;dsimp only at q;have S2:=S.grow g1;have hlt:∀b∈fpi,b<s2.heap.objs.size:=fun b hb=>by obtain⟨o,ho,_⟩:=Tn.obj 0 _ st2 b hb;exact lt_size ho
 refine PySem.wpAny_newObj_type (j3 fun h₁ hns₁ hsb₁ hcl₁=>?_);dsimp only at hns₁ hsb₁ hcl₁ ⊢;generalize hH2:s2.heap.push {cls:=.type "list",dict:=none,data:=.seq ([]:HD).toArray}=P2 at hns₁ hsb₁ hcl₁ ⊢;have hC:P2.objs.size=s2.heap.objs.size+1:=by rw[<- hH2,size_push]
 have old:∀b o,s2.heap.get? b=some o->h₁.get? b=some o:=fun b o e=>hsb₁ b o (hH2▸get?_push_of_some _ e);have hDo:h₁.get? s2.heap.objs.size=some {cls:=.type "list",data:=.seq ([]:HD).toArray}:=hsb₁ _ _ (hH2▸get?_push_size _ rfl);rw[hC]at hns₁ hcl₁;have inv0:=pL (t:=s2.toks) cs I2 f2 hlt hns₁ hDo old hcl₁;have hDH:H2 s2.heap.objs.size=none:=I2.hok.fresh (Nat.le_refl _);have hDF:¬F1 s2.heap.objs.size:=fun z=>by obtain⟨o,e⟩:=g1.dom _ z;rw[hDH]at e;cases e
 have SB:=m9 (caps:=caps) (k:=tn.length) S2 hDH hDF;obtain⟨hgN,hts,hel⟩:=hb (s2.heap.objs.size+1) s2 H2 fpi;have never:∀{α:Type}{t:Sem α}{Qa:α->Shared->Prop}{E':td}{s':Shared},wpAny (model X.prog X.w) X.A t Qa (fun _ _=>False) s'->wpAny (model X.prog X.w) X.A t Qa E' s':=fun h=>wpAny_mono h (fun _ _ x=>x) fun _ _ z=>z.elim;have fpok:∀{H':Hp}{pins':HA},(∀p∈pins',p.1∉fpi)->(∀b∈fpi,H' b=none)->∀b∈fpi,kh (cxC X scope (s2.heap.objs.size+1) N s2 H2 fpi) pins' H' b:=fun {H' pins'} hp hn b hb=>by
  refine⟨hn b hb,Nat.ne_of_lt (lt_succ_of_lt (hlt b hb)),(jO cs I2 f2 hlt (le_succ _)).exfs b hb,.inl hb,((jO cs I2 f2 hlt (le_succ _)).exf b hb).2,fun p hp' z=>?_⟩;rcases mem_append.mp hp' with w|w
  ·exact absurd (show p ∈([]:HA)from w) (by simp)
  ·exact hp p w (z▸hb)
 have key:∀s4:Shared,L2.Inv (cxC X scope (s2.heap.objs.size+1) N s2 H2 fpi) [] (mq caps tn.length Y) (upd H2 s2.heap.objs.size (.lst [])) s4->tn_ 0 s4.heap ->
   codeAny (model X.prog X.w) X.A (.compLoop (.ListComp elt [⟨tg,iter,ifs,0⟩] scope pos) 0 (.ref it) (.ref s2.heap.objs.size) (compEnvC scope (mj X scope (s2.heap.objs.size+1)) (s2.heap.objs.size+1) X.env))
    (compPost (model X.prog X.w) X.A X.xe use Q' (.ref s2.heap.objs.size) (s2.heap.objs.size+1)) s4:=by
  intro s4 inv4 st4;refine iY (fun n s'=>∃ (i:Nat) (σ':St) (H':Hp) (Fi:HB) (ys zs:HK) (vs:HI) (f:HE),n=xs.length - i/\i <= xs.length/\L2.Inv (cxC X scope (s2.heap.objs.size+1) N s2 H2 fpi) [] σ' H' s'/\tn_ i s'.heap/\(∀ b ∈ fpi,H' b=none) /\
   aw T (zC F1 H2) Fi H' σ' (bw caps tn.length env) (fun _=>[])/\H' s2.heap.objs.size=some (.lst vs)/\RelL T Fi Z.B (Own fp) H' ys vs f/\f.Nodup/\(∀a∈f,¬Fi a/\H2 a=none/\a≠s2.heap.objs.size)/\¬Fi s2.heap.objs.size/\ys.length<=i /\
   cD g mc me (bw caps tn.length env) (xs.drop i)=.ok zs/\full=ys++zs) ?_ xs.length ?_
  case refine_2=>
   refine⟨0,_,_,F1,[],full,[],[],by simp,zero_le _,inv4,st4,fun b hb=>?_,SB,bA,by unfold RelL;exact⟨rfl,rfl⟩,nodup_nil,fun _ z=>(nomatch z),hDF,zero_le _,ec,rfl⟩;rw[aG (Nat.ne_of_lt (hlt b hb))];exact(f2 b hb).1
  rintro n s5 ⟨i,σ',H',Fi,ys,zs,vs,f,rfl,hil,inv5,st5,fr5,SI5,hD5,ry,nd5,nf5,nFD,hyl,ecl,efull⟩;have ext5:Ext H2 H':=fun a o e=>SI5.hp.keep a o e fun z=>z;have gr5:Gr F1 H2 Fi H':=⟨ext5,SI5.hp.f0,fun a h=>by
   rcases SI5.hp.fn a h with z|z|z
   ·exact .inl z
   ·exact .inr z
   ·exact z.elim,SI5.hp.ft⟩
  obtain⟨go,stop⟩:=itc H' ext5;by_cases hlt5:i<xs.length
  ·have hx:xs[i]?=some xs[i]:=by simp[hlt5]
   obtain⟨g5,yl⟩:=go i _ hx;rw[drop_eq_getElem_cons hlt5]at ecl;unfold cD at ecl;cases eg:g xs[i].HQ (bw caps tn.length env)with
   |none=>rw[eg]at ecl;cases ecl
   |some e'=>
   rw[eg]at ecl;dsimp only at ecl;refine thn (Tn.item (cxC X scope (s2.heap.objs.size+1) N s2 H2 fpi) rfl rfl rfl hc i [] s5 σ' H' _ inv5 (fpok (fun _ z=>absurd z (by simp)) fr5) st5 g5) fun r s6 hz1=>?_;obtain⟨u,hr,h6⟩:=hz1;subst hr;refine thn h6 fun _ s7 hz1=>?_;obtain⟨v,H7,inv7,rv,yy,st7,fr7⟩:=hz1;obtain⟨ex7,fx,tx,rx⟩:=yl v H7 yy
   replace SI5:=SI5.grow (Gr.same SI5.hp.ft ex7)
   replace ry:=ry.ext ex7 fun _ h=>h
   replace hD5:=ex7 _ _ hD5
   replace gr5:=gr5.trans (Gr.same gr5.dom ex7)
   replace ext5:=gr5.ext
   have pinv:=inv7.pinned (fpok (fun _ z=>absurd z (by simp)) fr7) (Tn.obj _ _ st7);have rxb:Rel T Fi (zC F1 H2).B NoL H7 xs[i].HQ v []:=by refine Rel.HQ (B:=fun a=>∃o,H2 a=some o) (L:=Own fp) (fun _ h=>h) (fun a ⟨j,hj⟩=>(S2.dis j a hj).2) (fun a ha=>tx a ha) ?_;exact Rel.tr SI5.hp.f0 (fun a h=>let⟨⟨o,h1⟩,h2⟩:=S2.hp.bo.1 a h;⟨o,S2.hp.keep a o h1 h2⟩) (fun _ h=>h) (fun a o q _=>q) (fun a _ o q=>q) rx
   refine never (thn (hgN _ s7 σ' H7 v u (fun σ8 H8=>H8=H7/\∃fp8,aw T (zC F1 H2) Fi H7 σ8 e' fp8) pinv rv ⟨zC F1 H2,Fi,bw caps tn.length env,fun _=>[],xs[i].HQ,[],SI5,rxb,q_.nil,?_⟩) fun _ s8 ⟨σ8,H8,inv8,e8,fp8,S8⟩=>?_)
   ·rw[eg];exact fun σ8 fp8 S8=>⟨rfl,fp8,S8⟩
   subst e8;obtain⟨kl,kk⟩:=hk.keep _ _ _ eg;have capOwn:∀(j:Nat) pv,(bw caps tn.length env)[j]?=some (some pv)->pv.has Fl.HR=false:=fun j pv ej=>by
    unfold bw at ej;by_cases hj:j<caps.length
    ·rw[getElem?_append_left (by simpa using hj),getElem?_map]at ej;obtain⟨jj,_,e2⟩:=map_eq_some_iff.mp ej;obtain⟨pv0,_,rfl⟩:=map_eq_some_iff.mp e2;exact eU pv0
    ·rw[getElem?_append_right (by simpa using hj),getElem?_replicate]at ej;split at ej<;>cases ej
   have S8':aw T (zC F1 H2) Fi H8 σ8 e' (fun _=>[]):=S8.HX fun j pv ej=>by
    rcases hk.own _ _ _ eg (eU _) j pv ej with z|z
    ·exact capOwn j pv z
    ·exact z
   have back:∀{F9:HB}{H9:Hp},aw T (zC F1 H2) F9 H9 σ8 e' (fun _=>[])->aw T (zC F1 H2) F9 H9 σ8 (bw caps tn.length env) (fun _=>[]):=fun S9=>S9.wk rfl kl.symm fun j pv ej=>by
    have hj:j<caps.length:=by
     by_cases hj:j<caps.length
     ·exact hj
     ·unfold bw at ej;rw[getElem?_append_right (by simpa using hj),getElem?_replicate]at ej;split at ej<;>cases ej
    rw[kk j hj];exact ej
   have pinback:∀{H9:Hp}{s9:Shared},L2.Inv (cxC X scope (s2.heap.objs.size+1) N s2 H2 fpi) ([]++ jv fpi s7.heap) σ8 H9 s9->L2.Inv (cxC X scope (s2.heap.objs.size+1) N s2 H2 fpi) [] σ8 H9 s9/\tn_ (i+1) s9.heap/\∀b∈fpi,H9 b=none:=fun {H9 s9} i9=>
    ⟨i9.unpinned,Tn.keep _ _ _ st7 fun b hb o e=>(i9.pin (b,o) (mem_append_right _ (mem_append_right _ (dE hb e)))).1,fun b hb=>by
     obtain⟨o,e,_⟩:=Tn.obj _ _ st7 b hb;exact(i9.pin (b,o) (mem_append_right _ (mem_append_right _ (dE hb e)))).2.1⟩
   cases emc:mc e' with
   |exc c|stuck=>rw[emc]at ecl;cases ecl
   |ok bb=>
   rw[emc]at ecl;simp only[Res.HY]at ecl;refine never (thn (hts _ s8 σ8 H8 (fun b H9=>b=bb/\∃F9,Gr Fi H8 F9 H9) inv8 ⟨zC F1 H2,Fi,e',fun _=>[],S8',?_⟩) fun ok s9 ⟨H9,inv9,eb,F9,g9⟩=>?_)
   ·rw[emc];exact fun H9 F9 g9=>⟨rfl,F9,g9⟩
   subst eb;have S9:=S8'.grow g9;have ry9:=ry.ext g9.ext g9.mono;have nf9:∀a∈f,¬F9 a:=fun a ha z=>by
    rcases g9.only a z with z|z
    ·exact(nf5 a ha).1 z
    ·obtain⟨o,e⟩:=ry.there a ha;rw[e]at z;cases z
   have nFD9:¬F9 s2.heap.objs.size:=fun z=>by
    rcases g9.only _ z with z|z
    ·exact nFD z
    ·rw[hD5]at z;cases z
   cases ok with
   |false=>simp only[false_eq_true,if_false]at ecl ⊢;obtain⟨i10,st10,fr10⟩:=pinback inv9;exact⟨xs.length-(i+1),by lia,i+1,σ8,H9,F9,ys,zs,vs,f,rfl,hlt5,i10,st10,fr10,back S9,g9.ext _ _ hD5,ry9,nd5,fun a ha=>⟨nf9 a ha,(nf5 a ha).2⟩,nFD9,by lia,ecl,efull⟩
   |true=>
    simp only[if_true]at ecl ⊢;cases eme:me e' with
    |exc c|stuck=>rw[eme]at ecl;cases ecl
    |ok y=>
    rw[eme]at ecl;simp only[Res.HY]at ecl;split at ecl
    case isTrue=>cases ecl
    rename_i hyb
    simp only[Bool.or_eq_true,not_or,Bool.not_eq_true]at hyb;cases ecr:cD g mc me (bw caps tn.length env) (xs.drop (i+1))with
    |exc c|stuck=>rw[ecr]at ecl;cases ecl
    |ok zs'=>
    rw[ecr]at ecl;simp only[Res.HY]at ecl;cases ecl;refine never (thn (hel _ s9 σ8 H9 (fun v' H10=>∃F10 f10,Gr F9 H9 F10 H10/\Rel T F10 (zC F1 H2).B (Own fun _=>[]) H10 y v' f10/\(∀a∈f10,¬F10 a)/\f10.Nodup/\∀a∈f10,H9 a=none) inv9 ⟨zC F1 H2,F9,e',fun _=>[],S9,?_⟩) fun w s10 ⟨v',H10,inv10,rw10,F10,f10,g10,r10,n10,d10,w10⟩=>?_)
    ·rw[eme];exact fun v' H10 F10 f10 g10 r10 n10 d10 w10=>⟨F10,f10,g10,r10,n10,d10,w10⟩
    have hvl:vs.length<sizeLine:=by
     have h1:=ry.length;have h2:sizeLine=16777216:=sizeLine_eq
     lia
    have hD10:H10 s2.heap.objs.size=some (.lst vs):=g10.ext _ _ (g9.ext _ _ hD5);refine never (thn (jC _ s10 σ8 H10 (.ref s2.heap.objs.size) [v'] (.ref s2.heap.objs.size) [w] (fun _ H11=>H11=upd H10 s2.heap.objs.size (.lst (vs++[v']))) inv10 rfl (.cons rw10 .nil) ⟨s2.heap.objs.size,vs,v',rfl,rfl,hD10,hvl,rfl⟩) fun _ s11 zz=>?_);obtain⟨_,H11,inv11,_,e11⟩:=zz;subst e11;obtain⟨i12,st12,fr12⟩:=pinback inv11;have S10:=S9.grow g10;have nFD10:¬F10 s2.heap.objs.size:=fun z=>by
     rcases g10.only _ z with z|z
     ·exact nFD9 z
     ·rw[g9.ext _ _ hD5]at z;cases z
    have ry10:=ry9.ext g10.ext g10.mono;have ryy:RelL T F10 Z.B (Own fp) (upd H10 s2.heap.objs.size (.lst (vs++[v']))) (ys++[y]) (vs++[v']) (f++f10):=by
     have ry1:Rel T F10 Z.B (Own fp) H10 y v' f10:=Rel.noL hyb.2 (Rel.noB (B':=Z.B) hyb.1 r10);have all:RelL T F10 Z.B (Own fp) H10 (ys++[y]) (vs++[v']) (f++f10):=RelL.append ry10 (by unfold RelL;exact⟨v',[],f10,[],rfl,ry1,by unfold RelL;exact⟨rfl,rfl⟩,by simp⟩);refine RelL.tr (fun _ h=>h) (fun _ h=>h) (fun _ h=>h) (fun a o e h=>?_) (fun a ha o e=>?_) all
     ·refine(aG fun z=>?_).trans e;subst z;rcases h with h|h|h|h
      ·exact nFD10 h
      ·obtain⟨⟨o',h1⟩,h2⟩:=S2.hp.bo.1 _ h;rw[S2.hp.keep _ o' h1 h2]at hDH;cases hDH
      ·obtain⟨j,hj⟩:=h;obtain⟨_,o',ho'⟩:=S2.dis j _ hj;rw[hDH]at ho';cases ho'
      ·rw[hD10]at e;cases e;exact h
     ·refine(aG fun z=>?_).trans e;subst z;rcases mem_append.mp ha with ha|ha
      ·exact(nf5 _ ha).2.2 rfl
      ·have:=w10 _ ha;rw[g9.ext _ _ hD5]at this;cases this
    have nf10:∀a∈f,¬F10 a:=fun a ha z=>by
     rcases g10.only a z with z|z
     ·exact nf9 a ha z
     ·obtain⟨o,e⟩:=ry9.there a ha;rw[e]at z;cases z
    refine⟨xs.length-(i+1),by lia,i+1,σ8,_,F10,ys++[y],zs',vs++[v'],f++f10,rfl,hlt5,i12,st12,fr12,back (S10.updD nFD10 hDH hD10 (fun z=>z)),bA,ryy,?_,fun a ha=>?_,nFD10,by simp;lia,ecr,by rw[efull,append_assoc];rfl⟩
    ·refine nodup_append.mpr ⟨nd5,d10,fun a ha b hb z=>?_⟩;subst z;obtain⟨o,e⟩:=ry9.there a ha;rw[w10 a hb]at e;cases e
    ·rcases mem_append.mp ha with ha|ha
     ·exact⟨nf10 a ha,(nf5 a ha).2⟩
     ·refine⟨n10 a ha,?_,fun z=>?_⟩
      ·have:=w10 a ha;exact ext5.free (g9.ext.free this)
      ·subst z;have:=w10 _ ha;rw[g9.ext _ _ hD5]at this;cases this
  ·have e:i=xs.length:=by lia
   subst e;rw[drop_length]at ecl;unfold cD at ecl;cases ecl;rw[append_nil]at efull;subst efull;refine thn (Tn.done (cxC X scope (s2.heap.objs.size+1) N s2 H2 fpi) rfl rfl rfl hc xs.length [] s5 σ' H' _ inv5 (fpok (fun _ z=>absurd z (by simp)) fr5) st5 stop) fun r s6 hz1=>?_;obtain⟨hr,inv6⟩:=hz1;subst hr;obtain⟨m,hn,_⟩:=id inv6.loc;have hlc:X.env.locals<s2.heap.objs.size+1:=lt_succ_of_lt I2.lt;have iX:L2.Inv X gV Y H' s6:=I2.call' inv6.os inv6.base inv6.hok inv6.bare fun b hb=>⟨(f2 b hb).2.2.2.1,(f2 b hb).2.1,(f2 b hb).2.2.2.2.1,(f2 b hb).2.2.2.2.2⟩
   refine hfin _ (s2.heap.objs.size+1) H' s6 m ?_ iX hn inv6.free (Nat.ne_of_gt hlc) (I2.nofs (le_succ _)) (Nat.le_trans I2.sz (le_succ _)) (fun x c e z=>?_) (fun p hp z=>?_)
   case refine_2=>
    obtain⟨v,hv⟩:=I2.cell x c e;rw[z]at hv;exact absurd hv.lt (Nat.not_lt.mpr (le_succ _))
   case refine_3=>
    have:=lt_size (I2.pin p hp).1;rw[z]at this;exact absurd this (Nat.not_lt.mpr (le_succ _))
   refine q (.ref s2.heap.objs.size) H' Fi (s2.heap.objs.size::f) (g1.trans gr5) ?_ (fun a ha=>?_) ?_ (fun a ha=>?_)
   ·unfold Rel;exact⟨_,vs,f,rfl,hD5,ry,rfl⟩
   ·grind
   ·exact nodup_cons.mpr ⟨fun z=>(nf5 _ z).2.2 rfl,nd5⟩
   ·rcases mem_cons.mp ha with rfl|ha
    ·exact g1.ext.free hDH
    ·exact g1.ext.free (nf5 a ha).2.1
 have st0:tn_ 0 h₁:=Tn.keep _ _ _ st2 fun b _ o e=>old b o e;have lp:=key _ inv0 st0;simp only[hC];exact codeAny_compStart_list lp (Tn.self _ 0 _ _ _ st0 lp)
def y9
  (cs:cH X scope caps N tn) (hc:X.calm=true) (hi:SIc X T W tg iter mi) (hk:fj g caps.length)
  (hb:∀C s H ex,SG (cxC X scope C N s H ex) T tg g/\STs (cxC X scope C N s H ex) T WF ifs mc/\SE (cxC X scope C N s H ex) T WF elt me)
  (hs:∀x,foldedSetIterable iter X.env x=pure x:=by intro _;rfl):SE X T W (.ListComp elt [⟨tg,iter,ifs,0⟩] scope pos) (aM caps tn.length mi g mc me):=by
 intro gV s Y H Q I h;rw[eval_ListComp];refine m8 cs hc hi hk hb hs I h fun Dd C H' s6 m hq iX hn hCn hCl hCf hC0 hCc hCp=>⟨m,hn,fun h' hs'=>⟨.ref Dd,H',?_,rfl,hq⟩⟩
 exact iX.turned (t':=s6.toks) (fun b o hb e=>(hs'.2 b hb).trans e) hCn hCl (.inr hC0) hCc hCp
def yW
  (cs:cH X scope caps N tn) (hc:X.calm=true) (hN:X.N.Nodup) (hy:X.N[i]?=some y) (hx:Loc X.env.scope y) (hi:SIc X T W tg iter mi) (hk:fj g caps.length)
  (hb:∀C s H ex,SG (cxC X scope C N s H ex) T tg g/\STs (cxC X scope C N s H ex) T WF ifs mc/\SE (cxC X scope C N s H ex) T WF elt me)
  (hsw:swapsWith (.ListComp elt [⟨tg,iter,ifs,0⟩] scope pos) (some (.Name y py)) spos.line X.env=pure true:=by rfl)
  (hs:∀x,foldedSetIterable iter X.env x=pure x:=by intro _;rfl)
  (hf:X.fn y=true\/X.env.scope.names.lookup y=some .local:=by first|exact .inl rfl|exact .inr rfl|assumption) :
  SS X T W (.Assign [.Name y py] (.ListComp elt [⟨tg,iter,ifs,0⟩] scope pos) spos) (aH i (aM caps tn.length mi g mc me)):=by
 intro gV s Y H D I h;obtain⟨Z,F,env,fp,S,q⟩:=h;unfold aH at q;rw[exec_Assign_Name_used _ _ _ _ hsw];refine wpAny_bind (wpAny_standAt (wpAny_bind ?_));show wpAny _ X.A (do let _ <- comprehension (.ListComp elt [⟨tg,iter,ifs,0⟩] scope pos) scope X.env _ (newList []) false (eval iter X.env) (some (assign (.Name y py) X.env))) _ _ s;refine wpAny_bind (wpAny_mono (m8 (use:=some (assign (.Name y py) X.env)) (Q':=fun _ s'=>SP X gV D .next s') (Q:=fun v H1=>D.nx (Y.set i (some v)) H1) cs hc hi hk hb hs I ?_ fun Dd C H' s6 m hq iX hn hCn hCl hCf hC0 hCc hCp=>?_) (fun _ s' hq=>wpAny_pure (wpAny_pure hq)) fun _ _ e=>e)
 ·refine tE.bind S (fun c e H' x=>?_) (fun e=>by rw[e]at q;exact q) fun pv v H1 F1 f e g r h1 h2 h3=>?_
  ·rw[e]at q;exact q F H' Y fp (S.grow (Gr.same S.hp.ft x))
  ·rw[e]at q;simp only at q;split at q
   ·rename_i hl
    rw[and_eq_true]at hl;exact q F1 H1 _ _ (S.putN g hl.2 r hl.1 h1 h2 h3)
   ·exact q.elim
 ·refine wpAny_assign_Name (mI (v:=.ref Dd) (u:=.ref Dd) iX hN hy hx rfl (fun s7 i7 ⟨a,hsa,ha⟩=>?_) hf);have hCa:C≠a:=by
   rcases ha with ha|ha
   ·rw[ha];exact hCl
   ·exact fun z=>hCc y a ha z.symm
  refine⟨m,hn.sameBut hsa hCa,fun h' hs'=>⟨_,H',?_,hq⟩⟩;exact i7.turned (t':=s7.toks) (fun b o hb e=>(hs'.2 b hb).trans e) hCn hCl (.inr hC0) hCc hCp
end
def GFI(T:Tb)(Z:Zn)(v0:V)(Q:VK)(E:XK):HL->Prop
 |.ok pv=>∀F H f,bT T Z F H->Rel T F Z.B NoL H pv v0 f->f.Nodup->(∀a∈f,¬F a)->(∀a∈f,Z.H0 a=none\/Z.fp0 a)->Q .non H
 |.exc c=>∀H,(∀a o,Z.H0 a=some o->¬Z.fp0 a->H a=some o)->E (.ref (T.xcl c)) none H
 |.stuck=>False
def spI(T:Tb)(n:Nat)(m:HK->HL):Sp:=fun vs H Q E=>vs.length=n/\∃v0 pvs F B f,vs[0]?=some v0/\uX T F B H pvs vs f/\(∃fl c ks xs,pvs[0]?=some (.obj fl c ks xs))/\GFI T ⟨H,F,(·∈f),B,some v0⟩ v0 Q E (m pvs)
def o4(n:Nat)(m:MS)(args:HK):HL:=match m (args.map some++replicate (n-args.length) none)with
 |.next e=>match e[0]? with
  |some (some o)=>.ok o
  |_=>.stuck
 |.exc c _=>.exc c
 |_=>.stuck
section
variable{P:Program}{w:World}{K:PySem.W.Frag}{mg:Hz}{base:Heap}{T:Tb}
def DE(F:Fun K x qual st f fd)(S:cG N ps (az st))
  (body:∀ (cdv:Value) (A:Around) (outer:List Env) (s:Shared) (H:Hp) (E:XK),c9 k (A.deeper (PyProof.Rows.envOfC qual (az st) s.heap.objs.size f cdv)) ->
   SSs (dv (CXP P w) P w K mg base N qual (az st) f cdv A outer s H E) T (WD T E) (bc st) m):b9 P w K mg base (CXP P w) (k+1) f fd ps (spI T ps.length (o4 N.length m)):=by
 obtain⟨oc,od,kV,doc,pm,an,cdv,ct,osl,rfl,lk,hcd⟩:=F.ex;refine xu lk hcd S (fun vs H Q E h=>h.1) fun A outer s H vs Q E hr hsp=>⟨_,body cdv A outer s H E hr,?_⟩
 obtain⟨_,v0,pvs,F,B,fl,hv0,R,hob,q⟩:=hsp;obtain⟨fp,S0⟩:=jT N R (some v0) (fun v hv=>by cases hv;exact⟨hv0,hob⟩);refine⟨_,F,_,fp,S0,?_⟩;unfold o4 at q;cases e:m (pvs.map some++replicate (N.length-pvs.length) none)with
 |next e'=>
  rw[e]at q;dsimp only at q;intro F' H' σ' fp' S';obtain⟨h1,_⟩:=S'.pn v0 rfl;cases e0:e'[0]? with
  |none=>rw[e0]at q;exact q.elim
  |some o0=>
   cases o0 with
   |none=>rw[e0]at q;exact q.elim
   |some o=>rw[e0]at q;obtain⟨v,h2,r⟩:=S'.rel 0 o e0;rw[h1]at h2;cases h2;exact q F' H' (fp' 0) S'.hp r (S'.nd 0) (fun a ha=>(S'.dis 0 a ha).1) (S'.new 0)
 |ret v|brk e'|cont e'=>rw[e]at q;exact q.elim
 |exc c e'=>rw[e]at q;exact fun F' H' σ' fp' S'=>q H' S'.hp.keep
 |stuck=>rw[e]at q;exact q.elim
end
section
variable{X:Cx}{T:Tb}{W:Nat->St->HJ}{Z:Zn}{F F1 B L:HB}{H H1:Hp}{Y:St}{env:En}{fp:Nat->HE}{D:Ends}
def B2
  (M:Mk X.K (T.cls c) f) (hcn:c<T.nc) (G:b9 X.prog X.w X.K X.mg X.base (CXP X.prog X.w) k f fd ps (spI T ps.length m)) (hr:c9 (k+1) X.A) (hb:dy X.K fd ps ds) (hd:aK dvs ds) (hdp:∀F B L H,RelL T F B L H dps dvs []) (hx:XF X T W)
  (S:aw T Z F H Y env fp) (g:Gr F H F1 H1) (r:RelL T F1 Z.B (Own fp) H1 xs vs fx) (nf:∀a∈fx,¬F1 a) (nd:fx.Nodup) (new:∀a∈fx,H a=none) (q:GE T W Z.B F (Own fp) Y H Q (ax m (.obj .own c [] []::(xs++dps))))
  (I1:L2.Inv X gV Y H1 s1) (rv:aK vs us) (hlen:vs.length+dvs.length+1=ps.length):wpAny (model X.prog X.w) X.A (call (.ref (T.cls c)) us) (EP X gV Y Q) X.xe s1:=by
 have hxn:H1 (s1.heap.objs.size+1)=none:=I1.hok.fresh (le_succ _);have hdn:H1 s1.heap.objs.size=none:=I1.hok.fresh (Nat.le_refl _);have hne:s1.heap.objs.size≠s1.heap.objs.size+1:=Nat.ne_of_lt (Nat.lt_succ_self _);generalize hH2:upd (upd H1 s1.heap.objs.size (.own (s1.heap.objs.size+1))) (s1.heap.objs.size+1) (.ins (T.cls c) s1.heap.objs.size [])=H2;have ext2:Ext H1 H2:=by rw[<- hH2];exact(Ext.upd hdn).trans (Ext.upd (by rw[aG hne.symm];exact hxn))
 have free2:∀a,H2 a=none->H1 a=none:=fun a h=>ext2.free h;have hx2:H2 (s1.heap.objs.size+1)=some (.ins (T.cls c) s1.heap.objs.size []):=by rw[<- hH2];exact bA
 have I2:=L2.Inv.made (C:=T.cls c) I1;rw[hH2]at I2;have r2:aK (V.ref (s1.heap.objs.size+1)::(vs++dvs)) (Value.ref (s1.heap.objs.size+1)::(us++ds)):=.cons rfl (rv.append hd);have hl:(Value.ref (s1.heap.objs.size+1)::us++ds).length=ps.length:=by
  have e:=r2.length;simp only[length_cons,length_append]at e hlen ⊢
  lia
 have rr:RelL T F1 Z.B (Own fp) H1 (xs++dps) (vs++dvs) fx:=by
  have:=RelL.append r (hdp F1 Z.B (Own fp) H1)
  rwa [append_nil]at this
 have nx:s1.heap.objs.size+1∉fx:=fun z=>by obtain⟨o,ho⟩:=r.there _ z;rw[hxn]at ho;cases ho
 have hBo:∀a,Z.B a->(∃o,H2 a=some o)/\a ∉(s1.heap.objs.size+1)::fx:=fun a h=>by
  obtain⟨⟨o,h1⟩,h2⟩:=S.hp.bo.1 a h;have h3:=S.hp.keep a o h1 h2;refine⟨⟨o,ext2 a o (g.ext a o h3)⟩,fun z=>?_⟩;rcases mem_cons.mp z with z|z
  ·rw[z]at h3;rw[g.ext _ _ h3]at hxn;cases hxn
  ·rw[new a z]at h3;cases h3
 have hOw:∀a,Own fp a->(∃o,H2 a=some o)/\a ∉(s1.heap.objs.size+1)::fx:=fun a hz1=>by
  obtain⟨i,hi⟩:=hz1;obtain⟨_,o,ho⟩:=S.dis i a hi;refine⟨⟨o,ext2 a o (g.ext a o ho)⟩,fun z=>?_⟩;rcases mem_cons.mp z with z|z
  ·rw[z]at ho;rw[g.ext _ _ ho]at hxn;cases hxn
  ·rw[new a z]at ho;cases ho
 have nF:¬F1 (s1.heap.objs.size+1):=fun z=>by obtain⟨o,ho⟩:=g.dom _ z;rw[hxn]at ho;cases ho
 have R:uX T F1 (fun a=>(∃o,H2 a=some o)/\a ∉(s1.heap.objs.size+1)::fx) H2 (.obj .own c [] []::mapL Fl.HN (xs++dps)) (.ref (s1.heap.objs.size+1)::(vs++dvs)) ((s1.heap.objs.size+1)::fx):=by
  refine⟨?_,nodup_cons.mpr ⟨nx,nd⟩,fun a ha=>?_,⟨fun a h=>h,S.tbo (g.ext.trans ext2) fun a z=>.inl ((mem_cons.mp z).elim (fun z=>by rw[z];exact g.ext.free hxn) (new a))⟩,fun a h=>let⟨o,ho⟩:=g.dom a h;⟨o,ext2 a o ho⟩⟩
  ·unfold RelL;refine⟨_,_,[s1.heap.objs.size+1],fx,rfl,?_,RelL.HN hBo hOw (rr.ext ext2 fun _ h=>h),rfl⟩;unfold Rel;exact⟨_,s1.heap.objs.size,[],[],rfl,by simpa using hx2,⟨rfl,hcn⟩,by unfold RelL;exact⟨rfl,rfl⟩,rfl,True.intro⟩
  ·rcases mem_cons.mp ha with rfl|ha
   ·exact nF
   ·exact nf a ha
 have newx:∀a ∈(s1.heap.objs.size+1)::fx,H a=none:=fun a ha=>by
  rcases mem_cons.mp ha with rfl|ha
  ·exact g.ext.free hxn
  ·exact new a ha
 refine wpAny_call (wW (f:=f) I1.kIn M.makes M.init (beq_iff_eq.mp M.fn) (codeAny_mono (G.run _ X.stack _ _ ⟨Value.ref (s1.heap.objs.size+1)::us,[]⟩ (Value.ref (s1.heap.objs.size+1)::(us ++ ds)) _ (fun v H3=>v=.non/\Q (.ref (s1.heap.objs.size+1)) H3) (fun cls _ H'=>∃ c,cls=.ref (T.xcl c)/\W c Y H') (hr.make (T.cls c) us [])
  (I2.env0.make (T.cls c) us []) (hb _ (Value.ref (s1.heap.objs.size+1)::us) I2.kIn hl) r2 ⟨by rw[r2.length];exact hl,_,_,F1,_,_,rfl,R,⟨.own,c,[],[],rfl⟩,?_⟩) fun rs s' hq'=>?_))
 ·unfold ax at q;have e0:mapL Fl.HN (PV.obj .own c [] []::(xs++dps))=.obj .own c [] []::mapL Fl.HN (xs++dps):=by simp[mapL,PV.HW,Fl.HN]
  rw[e0]at q;cases e:m (.obj .own c [] []::mapL Fl.HN (xs++dps))with
  |ok v=>
   rw[e]at q;dsimp only at q;intro F3 H3 f3 hp3 r3 nd3 nf3 new3;refine⟨rfl,?_⟩;by_cases hbr:v.has Fl.HU=true
   ·rw[if_pos hbr]at q;exact q.elim
   ·rw[if_neg hbr]at q;have hbr':v.has Fl.HU=false:=by simpa using hbr
    refine q _ H3 F3 f3 ⟨fun a o h=>hp3.keep a o (ext2 a o (g.ext a o h)) fun z=>(by rw[newx a z]at h;cases h),fun a h=>hp3.f0 a (g.mono a h),fun a h=>?_,hp3.ft⟩ ?_ nf3 nd3 fun a ha=>?_
    ·rcases hp3.fn a h with z|z|z
     ·exact g.only a z
     ·exact .inr (g.ext.free (free2 a z))
     ·exact .inr (newx a z)
    ·exact Rel.tr (fun _ h=>h) (fun _ h=>h) (fun _ h=>h.elim) (fun _ _ h _=>h) (fun _ _ _ h=>h) (Rel.noB (B':=Z.B) hbr' r3)
    ·rcases new3 a ha with z|z
     ·exact g.ext.free (free2 a z)
     ·exact newx a z
  |exc c'=>rw[e]at q;exact fun H' h=>⟨c',rfl,q H' fun a o z=>h a o (ext2 a o (g.ext a o z)) fun z'=>by rw[newx a z']at z;cases z⟩
  |stuck=>rw[e]at q;exact q.elim
 ·cases rs with
  |error e=>obtain⟨cls,H',fl,c',rfl,hw⟩:=hq';exact hx gV Y H2 _ c' H' e s' I2 fl hw
  |ok fl=>
   cases fl with
   |ret u=>obtain⟨v,H',I3,rv',ev,q3⟩:=I2.after hq';subst ev;exact⟨rv',⟨V.ref (s1.heap.objs.size+1),H',I3,rfl,q3⟩⟩
   |next|brk|cont=>exact False.elim hq'
def y8
  (M:Mk X.K (T.cls c) f) (hcn:c<T.nc) (G:b9 X.prog X.w X.K X.mg X.base (CXP X.prog X.w) k f fd ps (spI T ps.length m)) (hr:c9 (k+1) X.A) (hg:Gl X x) (hm:X.mg x=some (.ref (T.cls c))) (hb:dy X.K fd ps ds) (hd:aK dvs ds) (hdp:∀F B L H,RelL T F B L H dps dvs []) (hx:XF X T W)
  (hn:fk ms n) (hps:n+dvs.length+1=ps.length) (ha:SA X T W (e::es) ms)
  (hdb:(x ==("__debug__":Str))=false:=by decide) (he:starEach (e::es) X.env=(false,eval e X.env)::starEach es X.env:=by rfl) (hpl:(backTo pos (starEach es X.env)).any (·.1)=false:=by rfl) :
  SE X T W (.Call (.Name x p) (e::es) [] pos) (ao (fun xs=>ax m (.obj .own c [] []::(xs++dps))) ms):=by
 intro gV s Y H Q I h;obtain⟨Z,F,env,fp,S,q⟩:=h;unfold ao at q;refine wpAny_Call_Name_kw (iQ I hg hm ?_ hdb);refine callWith_K (h₀:=X.base) I.ok.mod.kin M.kp (thn (ha pos gV s Y H (fun vs H1=>∀ us s1,L2.Inv X gV Y H1 s1->aK vs us->wpAny (model X.prog X.w) X.A (call (.ref (T.cls c)) us) (EP X gV Y Q) X.xe s1) I
  (tA.bind S (fun c e=>by rw[e]at q;exact q) (fun e=>by rw[e]at q;exact q) fun xs vs H1 F1 f1 e1 g1 r1 n1 d1 w1 us s1 I1 rv=>?_)) fun us s1 ⟨vs,H1,I1,r,q1⟩=>⟨I1.kIn,q1 us s1 I1 r⟩) he hpl
 rw[e1]at q;exact B2 M hcn G hr hb hd hdp hx S g1 r1 n1 d1 w1 q I1 rv (by rw[<- r1.length,hn env xs e1];exact hps)
def aw.mut(S:aw T Z F H Y env fp)(hi:i<env.length)(hv:Y[i]?=some (some v))(ha:a∈fp i)(r:Rel T F Z.B NoL (upd H a o') pv' v f')(nd:f'.Nodup)(nf:∀b∈f',¬F b)
  (new:∀b∈f',Z.H0 b=none\/Z.fp0 b) (dj:∀b∈f',∀j,j≠i->b∉fp j) (ho:i=0->b7 env=true->∃fl c ks xs,pv'=.obj fl c ks xs):aw T Z F (upd H a o') Y (env.set i (some pv')) (bV fp i f'):=by
 obtain⟨oa,hoa,hch⟩:=S.ch i a ha;have nFa:¬F a:=(S.dis i a ha).1;have nBa:¬Z.B a:=fun z=>S.bow a z ⟨i,ha⟩;have ne:∀b u,H b=some u->(F b\/Z.B b\/NoL b\/gP u)->b≠a:=fun b u e h z=>by
  subst z;rcases h with h|h|h|h
  ·exact nFa h
  ·exact nBa h
  ·exact h
  ·rw[hoa]at e;cases e;cases oa with
   |lst _|ins _ _ _=>exact h
   |_=>exact hch
 have nz:∀b u,Z.H0 b=some u->¬Z.fp0 b->b≠a:=(by grind[bV,aw,bT,Gr])
 have nj:∀j,j≠i->∀b∈fp j,b≠a:=fun j hj b hb z=>by subst z;exact S.dj j i hj _ hb ha
 refine⟨⟨S.hp.bo,fun b u e n=>by rw[aG (nz b u e n)];exact S.hp.keep b u e n,S.hp.f0,S.hp.fn,fun b h=>?_⟩,by rw[length_set,S.len],fun j pv e=>?_,fun j=>?_,fun j k hjk b hb=>?_,fun j b hb=>?_,fun j b hb=>?_,fun j b hb=>?_,fun w hw=>?_⟩
 ·obtain⟨u,e⟩:=S.hp.ft b h;exact⟨u,by rw[aG (show b≠a from fun z=>nFa (by rw[<- z];exact h))];exact e⟩
 ·by_cases hj:j=i
  ·subst hj;rw[getElem?_set_self hi]at e;cases e;refine⟨v,hv,?_⟩;unfold bV;rw[if_pos rfl];exact r
  ·rw[getElem?_set_ne (Ne.symm hj)]at e;obtain⟨w,h1,h2⟩:=S.rel j pv e;refine⟨w,h1,?_⟩;unfold bV;rw[if_neg hj];exact Rel.tr (fun _ h=>h) (fun _ h=>h) (fun _ h=>h) (fun b u q h=>by rw[aG (ne b u q h)];exact q) (fun b hb u q=>by rw[aG (nj j hj b hb)];exact q) h2
 ·unfold bV;split
  ·exact nd
  ·exact S.nd j
 ·grind[bV,aw,bT,Gr]
 ·unfold bV at hb;by_cases h1:j=i
  ·rw[if_pos h1]at hb;exact⟨nf b hb,r.there b hb⟩
  ·rw[if_neg h1]at hb;obtain⟨n,u,e⟩:=S.dis j b hb;exact⟨n,u,by rw[aG (nj j h1 b hb)];exact e⟩
 ·unfold bV at hb;by_cases h1:j=i
  ·rw[if_pos h1]at hb;exact new b hb
  ·rw[if_neg h1]at hb;exact S.new j b hb
 ·unfold bV at hb;by_cases h1:j=i
  ·rw[if_pos h1]at hb;exact r.chg b hb
  ·rw[if_neg h1]at hb;obtain⟨u,e,c⟩:=S.ch j b hb;exact⟨u,by rw[aG (nj j h1 b hb)];exact e,c⟩
 ·obtain⟨h1,h2⟩:=S.pn w hw;refine⟨h1,?_⟩;by_cases hi0:i=0
  ·obtain⟨fl,c,ks,xs,e⟩:=ho hi0 h2;subst hi0 e;unfold b7;rw[getElem?_set_self hi]
  ·unfold b7 at h2 ⊢;rw[getElem?_set_ne hi0];exact h2
def lh(i k:Nat)(e:ME):MS:=fun env=>match e env with
 | .ok v=>(match env[i]? with
  |some (some (.obj .own c ks vs))=>if v.HV&&!ks.contains k&&decide (ks.length<900)then .next (env.set i (some (.obj .own c (ks++[k]) (vs++[v]))))else .stuck
  |_=>.stuck)
 |.exc c=>.exc c env
 |.stuck=>.stuck
def o8:∀{ks:List Nat}{ws:HI},ks.contains k=false->ks.length=ws.length->fL (T.att k) y ((ks.map T.att).zip ws)=((ks++[k]).map T.att).zip (ws++[y])
 | [],[],_,_=>rfl
 |j::ks,w::ws,h,hl=>by simp only[List.contains_cons,or_eq_false_iff,beq_eq_false_iff_ne]at h;show fL (T.att k) y ((T.att j,w)::(ks.map T.att).zip ws)=(T.att j,w)::((ks++[k]).map T.att).zip (ws++[y]);unfold fL;rw[if_neg (fun z=>h.1 (T.inj _ _ z).symm),o8 h.2 (by simpa using hl)]
 | [],_::_,_,hl|_::_,[],_,hl=>by simp at hl
def BK(hK:X.K=T.K)(hf:T.att k=f)(hc:∀c<T.nc,Cls T.K (T.cls c))(hn:∀c<T.nc,d4 T.K (T.cls c) f)(hN:X.N[i]?=some x)(hv:Vis X.env.scope x)(he:SE X T W e m)
  (hs:swapsWith e (some (.Attribute (.Name x px) f pos')) pos.line X.env=pure false:=by rfl) (hd:(x ==("__debug__":Str))=false:=by decide) (hcd:(x ==("__classdict__":Str))=false:=by decide) :
  SS X T W (.Assign [.Attribute (.Name x px) f pos'] e pos) (lh i k m):=PS.wk (Ch (pos:=pos) (pos':=pos') (fN (pos:=px) hN hv hd hcd) he hs) fun D Y H hz1=>by
 obtain⟨Z,F,env,fp,S,q⟩:=hz1;unfold lh at q;refine tE.bind S (fun c e H' x=>?_) (fun e=>by rw[e]at q;exact q) fun pv v H1 F1 f1 e g r h1 h2 h3=>?_
 ·rw[e]at q;exact q F H' Y fp (S.grow (Gr.same S.hp.ft x))
 ·rw[e]at q;dsimp only at q;split at q
  ·rename_i c ks vs eo
   split at q
   ·rename_i hcnd
    simp only[and_eq_true,not_eq_true',decide_eq_true_eq]at hcnd;obtain⟨⟨hln,hkn⟩,hkl⟩:=hcnd;have S1:=S.grow g;obtain⟨vo,ho1,ho2⟩:=S1.rel i _ eo;have ho3:=ho2;unfold Rel at ho3;obtain⟨a,dx,ws,fp',rfl,hl,hk,hr,hfl,_⟩:=ho3;have hfl':fp i=a::fp':=hfl;have hil:i<env.length:=(List.getElem?_eq_some_iff.mp eo).1;refine⟨_,ho1,a,_,dx,_,rfl,hl,by rw[hK];exact hc c hk.2,by rw[hK];exact hn c hk.2,?_,?_⟩
    ·have:=hr.length;rw[List.length_zip,length_map]
     lia
    ·rw[<- hf,o8 hkn (by rw[<- hr.length];exact hk.1)];have ha:a∈fp i:=by rw[hfl'];exact mem_cons_self
     have nd:(a::fp').Nodup:=by rw[<- hfl'];exact S1.nd i
     have old:∀b∈f1,∀j,b∉fp j:=fun b hb j hj=>by obtain⟨_,o,e⟩:=S.dis j b hj;rw[h3 b hb]at e;cases e
     have hrv:Rel T F1 Z.B NoL H1 pv v f1:=Rel.noL (by simpa[PV.HV]using hln) r;have nea:∀b u,H1 b=some u->(F1 b\/Z.B b\/NoL b\/gP u)->b≠a:=fun b u e h z=>by
      subst z;rcases h with h|h|h|h
      ·exact(S1.dis i _ ha).1 h
      ·exact S1.bow _ h ⟨i,ha⟩
      ·exact h
      ·rw[hl]at e;cases e;exact h
     refine q F1 _ Y _ (S1.mut (f':=a::(fp'++f1)) hil ho1 ha ?_ ?_ (fun b hb=>?_) (fun b hb=>?_) (fun b hb j hj=>?_) fun _ _=>⟨_,_,_,_,rfl⟩)
     ·unfold Rel;have hrr:RelL T F1 Z.B NoL H1 (vs++[pv]) (ws++[v]) (fp'++f1):=RelL.append hr (by unfold RelL;exact⟨v,[],f1,[],rfl,hrv,by unfold RelL;exact⟨rfl,rfl⟩,by simp⟩);refine⟨a,dx,ws++[v],fp'++f1,rfl,bA,⟨by simp[hk.1],hk.2⟩,?_,rfl,True.intro⟩;refine RelL.tr (fun _ h=>h) (fun _ h=>h) (fun _ h=>h) (fun b u e h=>by rw[aG (nea b u e h)];exact e) (fun b hb u e=>?_) hrr;refine(aG fun z=>?_).trans e
      grind
     ·grind
     ·grind[bV,aw,bT,Gr]
     ·rcases mem_cons.mp hb with rfl|hb
      ·exact S1.new i _ ha
      ·rcases mem_append.mp hb with hb|hb
       ·exact S1.new i b (by rw[hfl'];exact mem_cons_of_mem _ hb)
       ·exact S.hp.newE h3 b hb
     grind[bV,aw,bT,Gr]
   ·exact q.elim
  ·exact q.elim
def aw.mutL{i:Nat}{xs ys:HK}{ws us:HI}{a:Addr}{v:V}{f' fp':HE}(S:aw T Z F H Y env fp)(eo:env[i]?=some (some (.lst .own xs)))(hv:Y[i]?=some (some (.ref a)))(hfp:fp i=a::fp')(r:RelL T F Z.B NoL H ys us f')(nd:f'.Nodup)
  (hf:∀b∈f',(b∈fp')\/(¬F b/\(Z.H0 b=none\/Z.fp0 b)/\∀j,b∉fp j)) (hl:H a=some (.lst ws)):aw T Z F (upd H a (.lst us)) Y (env.set i (some (.lst .own ys))) (bV fp i (a::f')):=by
 have ha:a∈fp i:=by rw[hfp];exact mem_cons_self
 have ndi:(a::fp').Nodup:=by rw[<- hfp];exact S.nd i
 have sub:∀b∈fp',b∈fp i:=fun b hb=>by rw[hfp];exact mem_cons_of_mem _ hb
 have na:∀b∈f',b≠a:=(by grind)
 have hil:i<env.length:=(List.getElem?_eq_some_iff.mp eo).1;have nea:∀b u,H b=some u->(F b\/Z.B b\/NoL b\/gP u)->b≠a:=fun b u e h z=>by
  subst z;rcases h with h|h|h|h
  ·exact(S.dis i _ ha).1 h
  ·exact S.bow _ h ⟨i,ha⟩
  ·exact h
  ·rw[hl]at e;cases e;exact h
 refine S.mut hil hv ha ?_ (nodup_cons.mpr ⟨fun z=>na a z rfl,nd⟩) (fun b hb=>?_) (fun b hb=>?_) (fun b hb j hj=>?_) fun h0 h1=>?_
 ·unfold Rel;exact⟨a,us,f',rfl,bA,RelL.tr (fun _ h=>h) (fun _ h=>h) (fun _ h=>h) (fun b u e h=>by rw[aG (nea b u e h)];exact e) (fun b hb u e=>by rw[aG (na b hb)];exact e) r,rfl⟩
 ·rcases mem_cons.mp hb with rfl|hb
  ·exact(S.dis i _ ha).1
  ·rcases hf b hb with h|h
   ·exact(S.dis i b (sub b h)).1
   ·exact h.1
 ·grind[bV,aw,bT,Gr]
 ·grind[bV,aw,bT,Gr]
 ·subst h0;unfold b7 at h1;rw[eo]at h1;cases h1
def aw.lst{i:Nat}{xs:HK}(S:aw T Z F H Y env fp)(eo:env[i]?=some (some (.lst .own xs))):∃a ws fp',Y[i]?=some (some (.ref a))/\H a=some (.lst ws)/\RelL T F Z.B NoL H xs ws fp'/\fp i=a::fp':=by obtain⟨v,h1,h2⟩:=S.rel i _ eo;unfold Rel at h2;obtain⟨a,ws,fp',rfl,hl,hr,hf⟩:=h2;exact⟨a,ws,fp',h1,hl,hr,hf⟩
def aw.beside{f1:HE}(S:aw T Z F H Y env fp)(g:Gr F H F1 H1)(h1:∀ a ∈ f1,¬ F1 a)(h3:∀ a ∈ f1,H a=none):∀ b ∈ f1,¬ F1 b/\(Z.H0 b=none \/ Z.fp0 b)/\∀ j,b ∉ fp j:=fun b hb=>⟨h1 b hb,S.hp.newE h3 b hb,fun j hj=>by
 obtain⟨_,o,e⟩:=S.dis j b hj;rw[h3 b hb]at e;cases e⟩
def cP(i:Nat)(e:ME):MS:=fun env=>match e env with
 | .ok v=>(match env[i]? with
  |some (some (.lst .own xs))=>if v.HV&&decide (xs.length<10000000)then .next (env.set i (some (.lst .own (xs++[v]))))else .stuck
  |_=>.stuck)
 | .exc c=>(match env[i]? with
  |some (some (.lst .own _))=>.exc c env
  |_=>.stuck)
 |.stuck=>.stuck
def t7{i:Nat}{x:Str}{e:Expr}{m:ME}{pos px apos cpos:Pos}(hK:X.K=T.K)(hN:X.N[i]?=some x)(hv:Vis X.env.scope x)(he:SE X T W e m)
  (hs:swapsWith (.Call (.Attribute (.Name x px) "append" apos) [e] [] cpos) none pos.line X.env=pure false:=by rfl) (hst:starEach [e] X.env=[(false,eval e X.env)]:=by rfl)
  (hfew:((backTo cpos (starEach [e] X.env)).all (fun x=>!x.1)&&(backToKw cpos (keywordEach [] X.env)).all (fun x=>x.1.isSome)&&decide ([e].length+([]:List Keyword).length+(if([]:List Keyword).isEmpty then 0 else 1)<30))=true:=by rfl)
  (hline:(apos.endLine==cpos.line)=true:=by rfl) (hd:(x ==("__debug__":Str))=false:=by decide) (hcd:(x ==("__classdict__":Str))=false:=by decide) :
  SS X T W (.Expr (.Call (.Attribute (.Name x px) "append" apos) [e] [] cpos) pos) (cP i m):=
 PS.wk (nU (pos:=pos) (r9 (cpos:=cpos) (apos:=apos) PySem.F.plainAttrs_list PySem.F.slot_list_append PySem.F.type_list_append jC (fN (pos:=px) hN hv hd hcd) (aa he ah hst) rfl hfew hline hst) hs) fun D Y H hz1=>by
  obtain⟨Z,F,env,fp,S,q⟩:=hz1;unfold cP at q;cases em:m env with
  |stuck=>rw[em]at q;exact q.elim
  |exc c=>
   rw[em]at q;dsimp only at q;split at q
   ·rename_i xs eo
    obtain⟨a,ws,fp',h1,hl,hr,hf⟩:=S.lst eo;refine⟨_,h1,.inl ⟨rfl,ws,by rw[hK];exact SqL.of hl⟩,Z,F,env,fp,S,?_⟩;unfold ae;rw[em];exact fun H' x=>q F H' Y fp (S.grow (Gr.same S.hp.ft x))
   ·exact q.elim
  |ok v=>
   rw[em]at q;dsimp only at q;split at q
   ·rename_i xs eo
    split at q
    ·rename_i hc
     simp only[and_eq_true,decide_eq_true_eq]at hc;obtain⟨a,ws,fp',h1,hl,hr,hf⟩:=S.lst eo;refine⟨_,h1,.inl ⟨rfl,ws,by rw[hK];exact SqL.of hl⟩,Z,F,env,fp,S,?_⟩;unfold ae ak;rw[em];intro vs H1 F1 f1 g r n1 d1 w1;obtain⟨u,rfl,ru⟩:=r.one;have S1:=S.grow g;have hl1:=g.ext a _ hl;refine⟨a,ws,u,rfl,rfl,hl1,?_,?_⟩
     ·rw[<- hr.length,sizeLine_eq];lia
     ·have rone:RelL T F1 Z.B NoL H1 [v] [u] f1:=by unfold RelL;exact⟨u,[],f1,[],rfl,Rel.noL (by simpa[PV.HV]using hc.1) ru,by unfold RelL;exact⟨rfl,rfl⟩,by simp⟩
      refine q F1 _ Y _ (S1.mutL (v:=u) eo h1 hf (RelL.append (hr.ext g.ext g.mono) rone) ?_ (fun b hb=>?_) hl1)
      ·have ndi:(a::fp').Nodup:=by rw[<- hf];exact S.nd i
       refine nodup_append.mpr ⟨(nodup_cons.mp ndi).2,d1,fun b hb b' hb' z=>?_⟩;subst z;exact(S.beside g n1 w1 b hb').2.2 i (by rw[hf];exact mem_cons_of_mem _ hb)
      ·rcases mem_append.mp hb with hb|hb
       ·exact .inl hb
       ·exact .inr (S.beside g n1 w1 b hb)
    ·exact q.elim
   ·exact q.elim
def jE(i:Nat)(k e:ME):MS:=fun env=>match e env with
 | .ok v=>(match env[i]? with
  | some (some (.lst .own xs))=>(match k env with
   | .ok (.int j)=>(match ixN xs.length j with
    |some n=>if v.HV then .next (env.set i (some (.lst .own (xs.set n v))))else .stuck
    |none=>.stuck)
   |_=>.stuck)
  |_=>.stuck)
 |.exc c=>.exc c env
 |.stuck=>.stuck
def RelL.set{y:PV}{w:V}{g:HE}(ry:Rel T F B L H y w g):∀{xs:HK}{vs:HI}{f:HE} (n:Nat),RelL T F B L H xs vs f->(f++g).Nodup->∃f',RelL T F B L H (xs.set n y) (vs.set n w) f'/\f'.Nodup/\∀b∈f',b∈f\/b∈g
 | [],vs,f,n,h,nd=>by unfold RelL at h;obtain⟨rfl,rfl⟩:=h;exact⟨[],by simp[RelL],nodup_nil,fun _ z=>(nomatch z)⟩
 |x::xs,_,_,0,h,nd=>by
  unfold RelL at h;obtain⟨v,ws,f1,f2,rfl,h1,h2,rfl⟩:=h;obtain⟨n1,n2,n3⟩:=nodup_append.mp nd;obtain⟨m1,m2,m3⟩:=nodup_append.mp n1;refine⟨g++f2,?_,(by grind),fun b hb=>?_⟩
  ·rw[List.set_cons_zero,List.set_cons_zero];unfold RelL;exact⟨w,ws,g,f2,rfl,ry,h2,rfl⟩
  grind
 |x::xs,_,_,n+1,h,nd=>by
  unfold RelL at h;obtain⟨v,ws,f1,f2,rfl,h1,h2,rfl⟩:=h;obtain⟨n1,n2,n3⟩:=nodup_append.mp nd;obtain⟨m1,m2,m3⟩:=nodup_append.mp n1;obtain⟨f',r,d,s⟩:=RelL.set ry n h2 (nodup_append.mpr ⟨m2,n2,fun a ha b hb=>n3 a (mem_append_right _ ha) b hb⟩);refine⟨f1++f',?_,nodup_append.mpr ⟨m1,d,fun a ha b hb z=>?_⟩,fun b hb=>?_⟩
  ·rw[List.set_cons_succ,List.set_cons_succ];unfold RelL;exact⟨v,_,f1,f',rfl,h1,r,rfl⟩
  ·grind
  grind
def vx{i:Nat}{x:Str}{k e:Expr}{mk me:ME}{pos px tpos:Pos}(hN:X.N[i]?=some x)(hv:Vis X.env.scope x)(hk:SE X T W k mk)(he:SE X T W e me)
  (ha:∀ v,assign (.Subscript (.Name x px) k tpos) X.env v=(do
   let ov <- holding [v] (eval (.Name x px) X.env)
   let iv <- holding [v,ov] (eval k X.env)
   standAt tpos
   holding [v,ov,iv] (setItem ov iv v)
   release [v,ov,iv] []):=by intro _;rfl)
  (hs:swapsWithSole [.Subscript (.Name x px) k tpos] e pos.line X.env=pure false:=by rfl) (hw:swappedStores [.Subscript (.Name x px) k tpos] e X.env=pure none:=by rfl)
  (h1:(assignEach [.Subscript (.Name x px) k tpos] X.env).map (·.2)=[assign (.Subscript (.Name x px) k tpos) X.env]:=by rfl) (hd:(x ==("__debug__":Str))=false:=by decide) (hcd:(x ==("__classdict__":Str))=false:=by decide) :
  SS X T W (.Assign [.Subscript (.Name x px) k tpos] e pos) (jE i mk me):=
 PS.wk (Cj (pos:=pos) he (Cp (pos:=tpos) (fN (pos:=px) hN hv hd hcd) hk vK ha) hs hw h1) fun D Y H hz1=>by
  obtain⟨Z,F,env,fp,S,q⟩:=hz1;unfold jE at q;refine tE.bind S (fun c e H' x=>?_) (fun e=>by rw[e]at q;exact q) fun pv v H1 F1 f1 e g r n1 d1 w1=>?_
  ·rw[e]at q;exact q F H' Y fp (S.grow (Gr.same S.hp.ft x))
  ·rw[e]at q;dsimp only at q;split at q
   ·rename_i xs eo
    have S1:=S.grow g;obtain⟨a,ws,fp',h1,hl,hr,hf⟩:=S1.lst eo;cases ek:mk env with
    |stuck|exc c=>rw[ek]at q;exact q.elim
    |ok kv=>
     rw[ek]at q;refine⟨_,h1,Z,F1,env,fp,S1,?_⟩;rw[ek];intro u H2 F2 f2 g2 r2 _ _ _;cases kv with
     |int j=>
      dsimp only at q;unfold Rel at r2;obtain⟨rfl,_⟩:=r2;cases en:ixN xs.length j with
      |none=>rw[en]at q;exact q.elim
      |some n=>
       rw[en]at q;dsimp only at q;split at q
       ·rename_i hln
        have S2:=S1.grow g2;have hr2:=hr.ext g2.ext g2.mono;have ndi:(a::fp').Nodup:=by rw[<- hf];exact S.nd i
        have g12:=g.trans g2;have nn:∀b∈f1,¬F2 b:=fun b hb z=>by
         rcases g2.only b z with z|z
         ·exact n1 b hb z
         ·obtain⟨o,ho⟩:=r.there b hb;rw[ho]at z;cases z
        obtain ⟨f',r',nd',sub'⟩:=RelL.set (T:=T) (Rel.noL (L':=NoL) (by simpa [PV.HV] using hln) (r.ext g2.ext g2.mono)) n hr2 (nodup_append.mpr ⟨(nodup_cons.mp ndi).2,d1,fun b hb b' hb' z=>by
         subst z;exact(S.beside g12 nn w1 b hb').2.2 i (by rw[hf];exact mem_cons_of_mem _ hb)⟩)
        refine⟨a,ws,j,n,rfl,rfl,g2.ext a _ hl,by rw[<- hr.length];exact en,?_⟩;refine q F2 _ Y _ (S2.mutL (v:=v) eo h1 hf r' nd' (fun b hb=>?_) (g2.ext a _ hl));rcases sub' b hb with h|h
        ·exact .inl h
        ·exact .inr (S.beside g12 nn w1 b h)
       ·exact q.elim
     |_=>exact q.elim
   ·exact q.elim
end
def zH(i:Nat):Str:=⟨#[1114112+i]⟩
def i8(l:HF)(i:Nat):Str:=match l[i]? with
 |some x=>x
 |none=>zH i
def ju(x:Str):Bool:=x.cps.all fun c=>decide (c<1114112)
def fh(i:Nat):ju (zH i)=false:=by simp[ju,zH]
def uU(nd:l.Nodup)(h:l.all ju=true)(i j:Nat)(e:i8 l i=i8 l j):i=j:=by
 have pl:∀(i:Nat) x,l[i]?=some x->ju x=true:=fun i x hx=>all_eq_true.mp h x (List.mem_of_getElem? hx);unfold i8 at e;cases ei:l[i]? with
 |some x=>
  cases ej:l[j]? with
  |some y=>rw[ei,ej]at e;dsimp only at e;subst e;obtain⟨h1,e1⟩:=List.getElem?_eq_some_iff.mp ei;obtain⟨h2,e2⟩:=List.getElem?_eq_some_iff.mp ej;exact(List.getElem_inj nd).mp (e1.trans e2.symm)
  |none=>rw[ei,ej]at e;dsimp only at e;have:=pl i x ei;rw[e,fh]at this;cases this
 |none=>
  cases ej:l[j]? with
  |some y=>rw[ei,ej]at e;dsimp only at e;have:=pl j y ej;rw[<- e,fh]at this;cases this
  |none=>rw[ei,ej]at e;dsimp only at e;simpa[zH]using e
def yB(hp:ju m=true)(hm:m∉l)(k:Nat):i8 l k≠m:=by
 unfold i8;cases e:l[k]? with
 |some x=>exact fun z=>hm (z▸List.mem_of_getElem? e)
 |none=>intro z;dsimp only at z;rw[<- z,fh]at hp;cases hp
structure Ctx(X:Cx)(T:Tb)(W:Nat->St->HJ)(k:Nat):Prop where
 hK:X.K=T.K
 calm:X.calm=true
 room:c9 k X.A
 xf:XF X T W
 po:PassesOwn (model X.prog X.w) X.A X.env X.xe
def Ctx.hu(c:Ctx X T W k):X.A.units+64<cLine:=c.room.units
def Ctx.hu2(c:Ctx X T W k):X.A.units+66<cLine:=by
 have:=c.room.un
 lia
def ow
  (hr:c9 k (A.deeper (PyProof.Rows.envOfC qual scope s.heap.objs.size f cd))):Ctx (dv (CXP P w) P w T.K mg base N qual scope f cd A outer s H E) T (WD T E) k:=⟨rfl,rfl,hr,BA,PassesOwn.leaving⟩
def Ctx.comp(c:Ctx X T W k):Ctx (cxC X scope C N s H ex) T WF k:=⟨c.hK,c.calm,c.room,fun _ _ _ _ _ _ _ _ _ _ h=>h.elim,PassesOwn.never⟩
def jP(scD scope:Scope)(NX:HF)(caps:List Nat)(N tn:HF):Bool:=
 decide (scope.kind=.function)&&scope.names.all (fun y=>decide (y.2=.cell->scope.names.lookup y.1=some .cell))&&scope.names.all (fun y=>decide (y.2=.local->scope.names.lookup y.1=some .local)) &&
 scope.names.all (fun y=>decide (y.2=.free->scD.names.lookup y.1=some .cell\/scD.names.lookup y.1=some .free))&&decide (N=caps.map (fun i=>NX.getD i "")++ tn)&&caps.all (fun i=>decide (i<NX.length)) &&
 caps.all (fun i=>match NX[i]? with|some x=>decide ((x,NameKind.free)∈ scope.names/\scope.names.lookup x=some .free)|none=>false)&&decide N.Nodup
def AF(h:jP scD scope NX caps N tn=true)(hs:X.env.scope=scD)(hN:X.N=NX):cH X scope caps N tn:=by simp only[jP,and_eq_true,decide_eq_true_eq,all_eq_true]at h;obtain⟨⟨⟨⟨⟨⟨⟨h1,h2⟩,h3⟩,h4⟩,h5⟩,h6⟩,h7⟩,h9⟩:=h;subst hs hN;refine⟨h1,h2,h3,h4,h5,h6,fun i hi x hx=>?_,h9⟩;have:=h7 i hi;rw[hx]at this;simpa using this
section
variable{X:Cx}{T:Tb}{W:Nat->St->HJ}
def sv(i:Nat)(hN:X.N[i]?=some x:=by rfl)(hv:Vis X.env.scope x:=by first|exact Or.inl rfl|exact Or.inr (Or.inl rfl)|exact Or.inr (Or.inr rfl))(hd:(x ==("__debug__":Str))=false:=by decide)
  (hcd:(x ==("__classdict__":Str))=false:=by decide):SE X T W (.Name x pos) (ad i):=BQ hN hv hd hcd
end
def vP(hg:Gl X x)(hm:X.mg x=some (.int i t))(hd:(x ==("__debug__":Str))=false:=by decide):SE X T W (.Name x pos) (mC (.int i)):=
 gU (v:=.int i) (gD hg hm ⟨t,rfl⟩ hd) fun _ _ _ _=>dW
end PR
namespace PR
open PySem PySem.Spec
structure Hr(K:PySem.W.Frag)(C:Addr):Prop where
 ga:PySem.W.findIn K (.ref C) "__getattribute__"=some (some (.builtin "BaseException.__getattribute__"))
 gt:PySem.W.findIn K (.ref C) "__getattr__"=some none
 ca:PySem.W.findIn K (.ref C) "__class__"=some (some (.builtin "object.__class__"))
 sb:mroIn K C (.type "BaseException")=some true
 so:mroIn K C (.type "object")=some true
 cl:(clsIn K C).isSome=true
end PR
namespace L2
open PySem PySem.Spec PyProof.Rows
abbrev Cx.tryX(X:Cx)(E:td)(pn:HA):Cx:={X with xe:=E,pn:=pn}
end L2
namespace PR
open PySem PySem.Spec L2
def jX(F B L:HB)(H:Hp):RelL T F B L H [] [] []:=by unfold RelL;exact⟨rfl,rfl⟩
def eP(disp:Nat->Option (HK->HL))(o:ME)(ms:MA):ME:=fun env=>(o env).bind fun ov=>match ov with
 |.obj _ c _ _=>match disp c with
  |some m=>(ms env).bind fun xs=>ax m (ov::xs)
  |none=>.stuck
 |_=>.stuck
def zV(disp:Nat->Option (HK->HL))(o:ME)(ms:MA):sr disp [] o ms=eP disp o ms:=by
 funext env;unfold sr eP;congr 1;funext ov;cases ov with
 |obj f c ks vs=>simp only[append_nil,cons_append]<;>rfl
 |_=>rfl
def wX(c:Nat)(m:HK->HL)(ms:MA):ME:=ao (fun xs=>ax m (.obj .own c [] []::xs)) ms
section
variable{X:Cx}{T:Tb}{W:Nat->St->HJ}
def o3
  (G:b9 X.prog X.w X.K X.mg X.base (CXP X.prog X.w) k f fd ps (spM T ps.length m)) (cx:Ctx X T W kk) (hk:k<=kk) (hg:Gl X x) (hm:X.mg x=some (.ref f)) (hkp:PySem.W.keepIn X.K (.ref f)=true) (hb:dy X.K fd ps [])
  (hn:fk ms n) (hps:n=ps.length) (ha:SA X T W (e::es) ms)
  (hdb:(x ==("__debug__":Str))=false:=by decide) (he:starEach (e::es) X.env=(false,eval e X.env)::starEach es X.env:=by rfl) (hpl:(backTo pos (starEach es X.env)).any (·.1)=false:=by rfl) :
  SE X T W (.Call (.Name x p) (e::es) [] pos) (ao (ax m) ms):=by
 have h:=rW (dvs:=[]) (dps:=[]) (p:=p) (pos:=pos) G (cx.room.mono hk) hg hm hkp hb .nil jX cx.xf (fun env xs q=>by rw[hn env xs q];exact hps) ha hdb he hpl;simpa using h
def BV
  (cx:Ctx X T W kk) (hc:∀c<T.nc,Cls T.K (T.cls c)) (hm:∀k,T.att k≠mn) (D:mz X T k mn ps [] disp) (hk:k<=kk)
  (hn:fk ms n) (hps:n+1=ps.length) (ho:SE X T W o mo) (ha:SA X T W (e::es) ms)
  (hst:starEach (e::es) X.env=(false,eval e X.env)::starEach es X.env:=by rfl) (hpl:(backTo pos (starEach es X.env)).any (·.1)=false:=by rfl)
  (ht:eval (.Call (.Attribute o mn apos) (e::es) [] pos) X.env=(do
   let ov <- eval o X.env
   standAt apos.atName
   let(f,first) <- holding [ov] (getMethod ov mn pl)
   callWith pos f first (backTo pos (starEach (e::es) X.env)) (backToKw pos (keywordEach [] X.env))):=by rfl) :
  SE X T W (.Call (.Attribute o mn apos) (e::es) [] pos) (eP disp mo ms):=by
 rw[<- zV];exact y7 (pl:=pl) (dvs:=[]) (dps:=[]) cx.hK hc hm D (cx.room.mono hk) .nil jX cx.xf (fun env xs q=>by rw[hn env xs q];exact hps) ho ha hst hpl ht
def BU
  (M:Mk X.K (T.cls c) f) (hcn:c<T.nc) (G:b9 X.prog X.w X.K X.mg X.base (CXP X.prog X.w) k f fd ps (spI T ps.length m)) (cx:Ctx X T W kk) (hk:k+1<=kk) (hg:Gl X x) (hm:X.mg x=some (.ref (T.cls c))) (hb:dy X.K fd ps [])
  (hn:fk ms n) (hps:n+1=ps.length) (ha:SA X T W (e::es) ms)
  (hdb:(x ==("__debug__":Str))=false:=by decide) (he:starEach (e::es) X.env=(false,eval e X.env)::starEach es X.env:=by rfl) (hpl:(backTo pos (starEach es X.env)).any (·.1)=false:=by rfl) :
  SE X T W (.Call (.Name x p) (e::es) [] pos) (wX c m ms):=by
 have h:=y8 (dvs:=[]) (dps:=[]) (p:=p) (pos:=pos) M hcn G (cx.room.mono hk) hg hm hb .nil jX cx.xf hn hps ha hdb he hpl;unfold wX;simpa using h
end
def Au(X:K.In h)(q:excIn K C [.type "ValueError",.type "Exception",.type "BaseException",.type "object"] "ValueError.__new__"=true) :
  ∃bm N nm q bs hdct sn sub ab col dd k0 k1 k2 k3 k5 mN,h.get? C=some (excClassObj nm q C N bs bm hdct sn sub ab col dd k0 k1 k2 k3 k5 "ValueError.__new__")/\h.Ns N mN/\mN "__init__"=none /\
   OwnTail h [.type "ValueError",.type "Exception",.type "BaseException",.type "object"] bm:=by
 unfold excIn at q;split at q
 ·rename_i dd cd sl ho
  split at q
  ·rename_i C' bm k0 k1 k2 k3 n k5 hm hs
   simp only[and_eq_true,beq_iff_eq,not_eq_true']at q;obtain⟨⟨⟨⟨⟨rfl,rfl⟩,hdel⟩,ht⟩,hok⟩,hni⟩:=q;cases cd;cases sl;dsimp only at hm hdel hok hni hs;subst hm hdel hs;exact⟨bm,_,_,_,_,_,_,_,_,_,dd,k0,k1,k2,k3,k5,_,X _ _ ho,.of_isNs (PySem.W.isNs_of_in X hok),PySem.W.nsMap_none_of_in X hok hni,PySem.W.tail_of_in X ht⟩
  ·cases q
 ·cases q
def a_(c:Nat)(ms:MA):MS:=fun env=>match ms env with
 |.ok _=>.exc c env
 |.exc k=>.exc k env
 |.stuck=>.stuck
def t5(cx:Ctx X T W k)(hm:X.mg x=some (.ref (T.xcl c)))(hB:T.K.In X.base)
  (hE:excIn T.K (T.xcl c) [.type "ValueError",.type "Exception",.type "BaseException",.type "object"] "ValueError.__new__"=true) (hx:XM X T W) (hg:Gl X x) (hn:fk ms n) (hn2:n<=100) (ha:SA X T W (e::es) ms)
  (hd:(x ==("__debug__":Str))=false:=by decide)
  (he:starEach (e::es) X.env=(false,eval e X.env)::starEach es X.env:=by rfl) (hpl:(backTo cpos (starEach es X.env)).any (·.1)=false:=by rfl) :
  SS X T W (.Raise (some (.Call (.Name x np) (e::es) [] cpos)) none pos) (a_ c ms):=
 vA (np:=np) (cpos:=cpos) (pos:=pos) ⟨hm,Au hB hE⟩ hx cx.calm hg ha (fun env pvs q=>by rw[hn env pvs q];exact hn2) hd he hpl
structure Scr(fl:Fl):Prop where
 is:fl=.frz\/fl=.mod
def Scr.HM(h:Scr fl):fl.HM=fl:=by rcases h.is with rfl|rfl<;>rfl
def Scr.HN(h:Scr fl):fl.HN=fl:=by rcases h.is with rfl|rfl<;>rfl
def Scr.HQ(h:Scr fl):fl.HQ=fl:=by rcases h.is with rfl|rfl<;>rfl
def jq:∀ns:HC,RelL T F B L H (ns.map PV.int) (ns.map V.int) []
 | []=>jX _ _ _ _
 |n::ns=>by rw[map_cons,map_cons];unfold RelL;exact⟨_,_,[],[],rfl,dW,jq ns,rfl⟩
def rH(K:PySem.W.Frag)(tb:Addr->Option (HH):=fun _=>none):Sp:=fun vs H Q _=>(∀b ps,tb b=some ps->H b=some (.tbl ps))/\∃(a:Addr) (ns:HC),vs=[.ref a]/\SqL K H a (ns.map V.int)/\ns.length<=63/\∀v H',v=.bl true->Q v H'
def Di(G:b9 P w T.K mg base (CXP P w) k f fd [x] (spM T 1 m))
  (h:∀(fl:Fl) (ns:HC),Scr fl->ns.length<=63->m [.lst fl (ns.map .int)]=.ok (.bl true)):b9 P w T.K mg base (CXP P w) k f fd [x] (rH T.K T.tb):=by
 refine G.imp fun vs H Q E q=>?_;obtain⟨hT,a,ns,rfl,hS,hl,hQ⟩:=q;have hTb:AN T H (· ∈([]:HE)):=fun b ps h=>⟨hT b ps h,fun z=>nomatch z⟩
 have fin:∀fl,Scr fl->∀Z:Zn,GF T Z Q E (m [.lst fl (ns.map .int)]):=fun fl hf Z=>by rw[h fl ns hf hl];intro F H' v f' _ r _ _ _;unfold Rel at r;exact hQ v H' r.1
 refine⟨rfl,?_⟩;rcases hS with hS|hS
 ·refine⟨[.lst .frz (ns.map .int)],(·=a),fun _=>False,[],⟨?_,nodup_nil,fun _ z=>(nomatch z),⟨fun _ z=>False.elim z,hTb⟩,fun b hb=>?_⟩,fin _ ⟨.inl rfl⟩ _⟩
  ·unfold RelL;refine⟨_,_,[],[],rfl,?_,jX _ _ _ _,rfl⟩;unfold Rel;exact⟨a,_,[],rfl,⟨rfl,hS⟩,jq ns,rfl,rfl⟩
  ·subst hb;rcases hS with e |⟨o,e⟩
   ·exact⟨_,e⟩
   ·exact⟨_,e⟩
 ·refine⟨[.lst .mod (ns.map .int)],fun _=>False,fun _=>False,[],⟨?_,nodup_nil,fun _ z=>(nomatch z),⟨fun _ z=>False.elim z,hTb⟩,fun _ z=>z.elim⟩,fin _ ⟨.inr rfl⟩ _⟩;unfold RelL;refine⟨_,_,[],[],rfl,?_,jX _ _ _ _,rfl⟩;unfold Rel;exact⟨a,_,[],rfl,hS,jq ns,rfl,rfl⟩
def xc{l:PySem.W.OpenLaw}{k:Nat}{x:Str}{q:Program}{loose:HF}{XP:(Hz)->Heap->Prop}{YP:World->Heap->Prop}{d:DefRec}{K:Params->PySem.W.Frag}(hn:l.most=some 63)(hdf:d.params.defaults=[])(hr:c9 k callerA)
  (hY:∀(w:World) (h:Heap),YP w h->(K w.params).In h)
  (F:∀ (w:World) (mg:Hz) (fa:Addr) (h:Heap),(K w.params).In h->h.Ns mainGlobals mg->mg d.name=some (.ref fa) ->
   ∃fd:FuncData,(∀(s:Shared) (u:Value),BindsTo s fd ⟨[u],[]⟩ [(x,u)])/\∀base:Heap,(K w.params).In base->base.Ns mainGlobals mg->b9 l.prog w (K w.params) mg base (CXP l.prog w) k fa fd [x] (rH (K w.params))) :
  PySem.W.WalkO q loose XP YP l.row.toRowW d [] (fun f vs=>PySem.call f vs):=
 L2.yP (n:=63) (k:=k) (x:=x) (CX:=fun w=>CXP l.prog w) (sp:=fun w=>rH (K w.params)) hn (by decide) hdf hr hY F (fun _ _ a ns hl _ hS=>⟨fun _ _ z=>(nomatch z),a,ns,rfl,hS,hl,fun _ _ z=>z⟩) fun _ _ _ _ _ ⟨_,_,_,z⟩=>z
def D6:bootBuiltins "int"=some (.type "int"):=by decide +kernel
def AH:bootBuiltins "list"=some (.type "list"):=by decide +kernel
def lS:bootBuiltins "tuple"=some (.type "tuple"):=by decide +kernel
def uL(K:PySem.W.Frag)(C:Addr):Bool:=
 decide (PySem.W.findIn K (.ref C) "__getattribute__"=some (some (.builtin "BaseException.__getattribute__")))&&decide (PySem.W.findIn K (.ref C) "__getattr__"=some none) &&
 decide (PySem.W.findIn K (.ref C) "__class__"=some (some (.builtin "object.__class__")))&&decide (mroIn K C (.type "BaseException")=some true)&&decide (mroIn K C (.type "object")=some true)&&(clsIn K C).isSome &&
 excIn K C [.type "ValueError",.type "Exception",.type "BaseException",.type "object"] "ValueError.__new__"
def Av(h:uL K C=true):Hr K C/\excIn K C [.type "ValueError",.type "Exception",.type "BaseException",.type "object"] "ValueError.__new__"=true:=by simp only[uL,and_eq_true,decide_eq_true_eq]at h;obtain⟨⟨⟨⟨⟨⟨h1,h2⟩,h3⟩,h4⟩,h5⟩,h6⟩,h7⟩:=h;exact⟨⟨h1,h2,h3,h4,h5,h6⟩,h7⟩
def zp(l:HE)(i:Nat):Addr:=l.getD i (l.headD 0)
def o9(l:List Bool)(i:Nat):Bool:=l.getD i (l.headD false)
def wf{α:Type}{f:Addr->Option α}{g:α->Bool}{l:HE}{bs:List Bool}{r:Bool->Option α}(hl:l≠[])(h:l.map f=bs.map r)(i:Nat):f (zp l i)=r (o9 bs i):=by
 have hlen:l.length=bs.length:=by simpa using congrArg List.length h
 unfold zp o9;rw[getD_eq_getElem?_getD,getD_eq_getElem?_getD];have key:∀j,(l[j]?).map f=(bs[j]?).map r:=fun j=>by rw[<- getElem?_map,<- getElem?_map,h]
 cases e:l[i]? with
 |some C=>
  have:=key i;rw[e]at this;cases e2:bs[i]? with
  |some b=>rw[e2]at this;simpa using this
  |none=>rw[e2]at this;simp at this
 |none=>
  have hb:bs[i]?=none:=by
   rw[List.getElem?_eq_none_iff]at e ⊢
   lia
  rw[hb];cases l with
  |nil=>exact absurd rfl hl
  |cons a l=>
   cases bs with
   |nil=>simp at hlen
   |cons b bs=>simpa using key 0
def rp:∀(xs:HI) (ys:HD),xs.length=ys.length->(∀(i:Nat) x y,xs[i]?=some x->ys[i]?=some y->bE x y)->aK xs ys
 | [],[],_,_=>.nil
 |x::xs,y::ys,hl,h=>.cons (h 0 x y rfl rfl) (rp xs ys (by simpa using hl) fun i a b e1 e2=>h (i+1) a b (by simpa using e1) (by simpa using e2))
 | [],_::_,hl,_|_::_,[],hl,_=>by simp at hl
def bI:HK->Option (HC)
 | []=>some []
 |.int i::xs=>(bI xs).map (i::·)
 |_::_=>none
def m7(ns:HC):Nat:=(firstMet (fun i=>ns.getD i 0) ns.length).length
def iw:PV->HL
 |.lst _ xs=>match bI xs with
  |some ns=>if decide (ns.length<=1000)then .ok (.int (m7 ns))else .stuck
  |none=>.stuck
 |_=>.stuck
section
variable{X:Cx}{T:Tb}{W:Nat->St->HJ}{Z:Zn}{F F1 B L:HB}{H H1:Hp}{Y:St}{env:En}{fp:Nat->HE}
def dF:∀{xs:HK}{vs:HI}{f:HE}{ns:HC},bI xs=some ns->RelL T F B L H xs vs f->vs=ns.map V.int
 | [],_,_,_,e,r=>by cases e;unfold RelL at r;exact r.1
 |.int i::xs,_,_,ns,e,r=>by
  unfold RelL at r;obtain⟨v,ws,f1,f2,rfl,h1,h2,rfl⟩:=r;simp only[bI]at e;cases e2:bI xs with
  |none=>rw[e2]at e;cases e
  |some ms=>rw[e2]at e;cases e;unfold Rel at h1;rw[h1.1,dF e2 h2];rfl
 |.non::_,_,_,_,e,_|.bl _::_,_,_,_,e,_|.str _::_,_,_,_,e,_|.lst _ _::_,_,_,_,e,_|.tup _::_,_,_,_,e,_|.obj _ _ _ _::_,_,_,_,e,_|.exc _::_,_,_,_,e,_|.box _ _::_,_,_,_,e,_=>by simp[bI]at e
def hZ:∀{ns:HC}{its:HD},aK (ns.map V.int) its->PyProof.Rows.IntsAre its ns
 | [],_,r=>by cases r;exact .nil
 |n::ns,_,r=>by
  cases r with
  |cons h t=>obtain⟨tk,rfl⟩:=h;exact .cons _ _ (hZ t)
def mt(hc:X.calm=true):eV X (.type "set") (fun xs H Q=>∃p ns,xs=[.ref p]/\SqL X.K H p (ns.map V.int)/\ns.length<=1000/\∀r S,H r=none->Q (.ref r) (upd H r (.set S (m7 ns)))):=by
 intro gV s Y H xs us Q I rv h;obtain⟨p,ns,rfl,hS,hl,q⟩:=h;obtain⟨u,rfl,rx⟩:=fV rv;cases rx;obtain⟨its,r',pl,hz⟩:=I.list hS;have hlen:=r'.length;rw[length_map]at hlen;refine call_set_list (I.ok.hd hc) pl.isList (ns:=ns) (by simpa using hZ r') (by simp only[size_toArray,<- hlen];unfold scanBound;lia) fun h' tk hs kp=>?_;have e:its.toArray.size=ns.length:=by simp[hlen]
 rw[e]at hs;exact⟨.ref s.heap.objs.size,_,I.laid (t':=tk) (o:=.set (fun k'=>(firstMet (fun i=>ns.getD i 0) ns.length).any (·==k')) (m7 ns)) (fun b o e=>kp b o (lt_size e) e) (Nat.le_refl _) hs,rfl,q _ _ (I.hok.fresh (Nat.le_refl _))⟩
def mw:eV X (.builtin "len") (fun xs H Q=>∃r S n,xs=[.ref r]/\H r=some (.set S n)/\Q (.int n) H):=by intro gV s Y H xs us Q I rv h;obtain⟨r,S,n,rfl,hr,q⟩:=h;obtain⟨u,rfl,rx⟩:=fV rv;cases rx;obtain⟨o,es,ep,t,ho,hex,hd,_,_,hb,hf,hn⟩:=I.hok r _ hr;have hb':es.size<4096:=hb;exact call_len_set ho hex hd hf (by lia) ⟨.int n,H,I.tok _,⟨s.toks+1,by rw[hn]⟩,q⟩
def D3:bootBuiltins "set"=some (.type "set"):=by decide +kernel
def t_(hK:X.K=T.K)(hc:X.calm=true)(hg:Gl X "len")(hm:X.mg "len"=none)(hg2:Gl X "set")(hm2:X.mg "set"=none)(he:SE X T W e m)
  (hs:starEach [e] X.env=[(false,eval e X.env)]:=by rfl)
  (hs2:starEach [.Call (.Name "set" p2) [e] [] pos2] X.env=[(false,eval (.Call (.Name "set" p2) [e] [] pos2) X.env)]:=by rfl) :
  SE X T W (.Call (.Name "len" p) [.Call (.Name "set" p2) [e] [] pos2] [] pos) (mUn iw m):=by
 refine PE.wk (pb (p:=p) (pos:=pos) mw hg hm boot_len (dM (mR (p:=p2) (pos:=pos2) (mt hc) hg2 hm2 D3 (dM he gX (by rw[hs];rfl)) (he:=by rw[hs];rfl) (hpl:=rfl)) gX (by rw[hs2];rfl)) (he:=by rw[hs2];rfl) (hpl:=rfl)) fun Y H Q hz1=>?_;obtain⟨Z,F,env,fp,S,q⟩:=hz1;unfold mUn at q;refine tE.bq S fun x v H1 F1 f1 e1 g1 r1 n1 d1 w1=>?_;rw[e1]at q;cases x with
 |lst fl xs=>
  simp only[Res.HY,iw]at q;cases en:bI xs with
  |none=>rw[en]at q;exact q.elim
  |some ns=>
   rw[en]at q;dsimp only at q;unfold Rel at r1;obtain⟨a,vs,fp',rfl,hl,hr,_⟩:=r1;by_cases hn:decide (ns.length<=1000)=true
   ·rw[if_pos hn]at q;have hv:=dF en hr;subst hv;exact⟨a,ns,rfl,by rw[hK];exact hl.sq,of_decide_eq_true hn,fun r S hr=>⟨r,S,_,rfl,bA,q.scal (g1.trans (Gr.same g1.dom (Ext.upd hr))) dW⟩⟩
   ·rw[if_neg hn]at q;exact q.elim
 |_=>exact q.elim
end
def bC:HC->Int
 | []=>0
 | [a]=>a
 |a::b::l=>max a (bC (b::l))
def pG:∀{l:HC},l≠[]->bC l∈l/\∀x∈l,x<=bC l
 | [],h=>absurd rfl h
 | [a],_=>by simp[bC]
 |a::b::l,_=>by
  obtain⟨h1,h2⟩:=pG (l:=b::l) (by simp);unfold bC;refine⟨?_,fun x hx=>?_⟩
  ·rcases Int.le_total a (bC (b::l))with h|h
   ·rw[Int.max_eq_right h];exact mem_cons_of_mem _ h1
   ·rw[Int.max_eq_left h];exact mem_cons_self
  ·rcases mem_cons.mp hx with rfl|hx
   ·exact Int.le_max_left _ _
   ·exact Int.le_trans (h2 x hx) (Int.le_max_right _ _)
section
variable{X:Cx}{T:Tb}{W:Nat->St->HJ}{Z:Zn}{F F1 B L:HB}{H H1:Hp}{Y:St}{env:En}{fp:Nat->HE}{gV:HA}{s:Shared}
def lx{h':Heap}{t:Nat}(I:L2.Inv X gV Y H s)(k:∀b o,s.heap.get? b=some o->h'.get? b=some o):L2.Inv X gV Y H {s with heap:=h',toks:=t}:=I.un (Un.kept k) (I.hok.kept k)
def kx{its:HD}{ns:HC}(r:aK (ns.map V.int) its):∀(i:Nat) (v:Value),its.toArray[i]?=some v->∃t,v=.int (ns.getD i 0) t:=by
 intro i v e;have e':its[i]?=some v:=by simpa using e
 have hi:i<ns.length:=by
  have h1:=(List.getElem?_eq_some_iff.mp e').1;have h2:=r.length;rw[length_map]at h2
  lia
 have:∀{ns:HC}{its:HD}{i:Nat}{v:Value},aK (ns.map V.int) its->its[i]?=some v->∃t,v=.int (ns.getD i 0) t:=by
  intro ns
  induction ns with
  |nil=>intro its i v r e;cases r;simp at e
  |cons n ns ih=>
   intro its i v r e;cases r with
   |cons h t=>
    obtain⟨tk,rfl⟩:=h;cases i with
    |zero=>simp at e;exact⟨tk,by rw[<- e];rfl⟩
    |succ i=>obtain⟨tk',h'⟩:=ih t (by simpa using e);exact⟨tk',by rw[h'];rfl⟩
 exact this r e'
def x8{ns:HC}(h:0<ns.length):ns.getD (argBest (fun i j=>decide (ns.getD i 0>ns.getD j 0)) (ns.length-1)) 0=bC ns:=by
 obtain⟨h1,h2⟩:=argBest_gt (fun i=>ns.getD i 0) (ns.length-1);obtain⟨m1,m2⟩:=pG (l:=ns) (by intro z;simp[z]at h);refine Int.le_antisymm (m2 _ ?_) ?_
 ·rw[getD_eq_getElem?_getD,getElem?_eq_getElem (by lia)];exact getElem_mem _
 ·obtain⟨i,hi,e⟩:=List.getElem_of_mem m1;have:=h2 i (by lia)
  grind
def u7{n:Nat}{l I:Addr}(hl:l<n)(e:I=n):∀b∈[I,l],b<n+1:=(by grind)
def kX{h h':Heap}{o:Obj}(hk:∀b u,b∉[h.objs.size]->(h.push o).get? b=some u->h'.get? b=some u):∀b u,h.get? b=some u->h'.get? b=some u:=fun b u e=>
 hk b u (fun hm=>by
  rcases mem_cons.mp hm with z|z
  ·exact absurd (z▸lt_size e) (Nat.lt_irrefl _)
  ·cases z) (get?_push_of_some _ e)
def oy(hc:X.calm=true):eV X (.builtin "max") (fun xs H Q=>∃p ns,xs=[.ref p]/\(SqL X.K H p (ns.map V.int)\/ SqT X.K H p (ns.map V.int))/\0<ns.length/\Q (.int (bC ns)) H):=by
 intro gV s Y H xs us Q I rv h;obtain⟨p,ns,rfl,hq,hn,q⟩:=h;obtain⟨u,rfl,rx⟩:=fV rv;cases rx;have hh:=I.ok.hd hc;have key:∀{its:HD},aK (ns.map V.int) its->∀{v:Value}{h':Heap}{tk:Nat},its.toArray[argBest (fun i j=>decide (ns.getD i 0>ns.getD j 0)) (its.toArray.size-1)]?=some v->(∀b o,s.heap.get? b=some o->h'.get? b=some o)->EP X gV Y Q v {s with heap:=h',toks:=tk}:=by
  intro its r v h' tk hv k;have hl:its.toArray.size=ns.length:=by have:=r.length;simpa using this.symm
  rw[hl]at hv;obtain⟨t,rfl⟩:=kx r _ _ hv;rw[x8 hn];exact⟨.int _,H,lx I k,⟨t,rfl⟩,q⟩
 rcases hq with hq|hq
 ·obtain⟨its,r,pl,hz⟩:=I.list hq;have hl:its.toArray.size=ns.length:=by have:=r.length;simpa using this.symm
  obtain⟨o,ho,hcl,n,hd⟩:=pl.isList;have hlt:=lt_size ho;refine call_max_walk (wpAny_pyIter_list pl.isList ?_);refine⟨_,_,_,_,_,_,_,rfl,Walks.list (A:=X.A.in1) hh _ p (Nat.ne_of_lt hlt) its.toArray,⟨⟨_,get?_push_size _ rfl,rfl,rfl⟩,pl.isList.push _⟩,fun b hb=>?_,by lia,CmpOf.ints_gt (fun i=>ns.getD i 0) (kx r),fun v h' tk hP hk=>key r hP (kX hk)⟩;show b <(s.heap.push _).objs.size;rw[size_push];exact u7 hlt rfl b hb
 ·obtain⟨its,r,pl,hz⟩:=I.tuple hq;have hl:its.toArray.size=ns.length:=by have:=r.length;simpa using this.symm
  have pt:s.heap.IsTuple p its.toArray:=pl;obtain⟨o,ho,hcl,n,hd⟩:=pl;have hlt:=lt_size ho;refine call_max_walk (wpAny_pyIter_tuple pt ?_);refine⟨_,_,_,_,_,_,_,rfl,Walks.tuple (A:=X.A.in1) hh _ p (Nat.ne_of_lt hlt) its.toArray,⟨⟨_,get?_push_size _ rfl,rfl,rfl⟩,pt.push _⟩,fun b hb=>?_,by lia,CmpOf.ints_gt (fun i=>ns.getD i 0) (kx r),fun v h' tk hP hk=>key r hP (kX hk)⟩;show b <(s.heap.push _).objs.size;rw[size_push];exact u7 hlt rfl b hb
def gM(g:HC->Int):PV->HL:=fun x=>match bB x with
 |some xs=>match bI xs with
  |some ns=>if ns.isEmpty then .stuck else .ok (.int (g ns))
  |none=>.stuck
 |none=>.stuck
def wQ(hK:X.K=T.K):Mir T W (p1 (gM g)) (fun xs H Q=>∃p ns,xs=[.ref p]/\(SqL X.K H p (ns.map V.int)\/ SqT X.K H p (ns.map V.int))/\0<ns.length/\Q (.int (g ns)) H):=by
 intro B F L Y H Q F' H' xs vs fx gr r nf nd new q
 match xs,r,q with
 | [x],r,q=>
  obtain⟨v,rfl,rv⟩:=RelL.one r;simp only[p1,gM]at q;cases e:bB x with
  |none=>rw[e]at q;exact q.elim
  |some ys=>
   rw[e]at q;dsimp only at q;cases e2:bI ys with
   |none=>rw[e2]at q;exact q.elim
   |some ns=>
    rw[e2]at q;dsimp only at q;obtain⟨a,us,fx',rfl,hs,hr,_⟩:=rv.seq e;have hu:=dF e2 hr;subst hu;cases ns with
    |nil=>exact q.elim
    |cons n ns=>exact⟨a,_,rfl,by rw[hK];exact hs,by simp,q.scal gr dW⟩
 | [],_,q=>exact q.elim
 |_::_::_,_,q=>simp only[p1]at q;exact q.elim
def D5:bootBuiltins "max"=some (.builtin "max"):=by decide +kernel
def rQ(hK:X.K=T.K)(hc:X.calm=true)(hg:Gl X "max")(hm:X.mg "max"=none)(ha:SE X T W e m)(he:starEach [e] X.env=[(false,eval e X.env)]:=by rfl):SE X T W (.Call (.Name "max" p) [e] [] pos) (ao (p1 (gM bC)) (ae m ak)):=
 ie (oy hc) (wQ hK) hg hm D5 (aa ha ah (by rw[he];rfl)) (he:=by rw[he];rfl) (hpl:=rfl)
end
end PR
namespace PR
open PySem PySem.W PyProof.Rows
abbrev at_(p:Array Nat)(i:Nat):Nat:=p.getD i 0
end PR
namespace PR
open PySem PySem.Spec L2
section
variable{X:Cx}{T:Tb}{W:Nat->St->HJ}{Z:Zn}{F F1 B L:HB}{H H1:Hp}{Y:St}{env:En}{fp:Nat->HE}
def zf(ns:HC):RelL T F B L H (ns.map PV.int) (ns.map V.int) []:=by
 induction ns with
 |nil=>exact jX _ _ _ _
 |cons a l ih=>rw[map_cons,map_cons];unfold RelL;exact⟨_,_,[],[],rfl,dW,ih,rfl⟩
end
section
variable{X:Cx}{T:Tb}{W:Nat->St->HJ}{Z:Zn}{F:HB}{H:Hp}{Y:St}{env:En}{fp:Nat->HE}
def de(hg:Gl X x)(hm:∃t,X.mg x=some (.int i t))(hd:(x ==("__debug__":Str))=false:=by decide):SE X T W (.Name x pos) (mC (.int i)):=by obtain⟨t,h⟩:=hm;exact vP hg h hd
end
def wq:PV->PV->HL:=dY (fun _ j=>decide (0<=j)) fun i j=>.int (i / 2 ^ j.toNat)
def pq:PV->PV->HL:=iy fun i j=>.int (Builtin.bitAnd i j)
section
variable{X:Cx}{T:Tb}{W:Nat->St->HJ}{Z:Zn}{F F1 B L:HB}{H H1:Hp}{Y:St}{env:En}{fp:Nat->HE}{gV:HA}{s:Shared}{a b:Expr}{ma mb:ME}{pos:Pos}
def BS(ha:SE X T W a ma)(hb:SE X T W b mb):SE X T W (.BinOp a .RShift b pos) (mOp wq ma mb):=gK CA (pF (fun _ _ h=>of_decide_eq_true h) fun _ _ _ _ _ _=>dW) ha hb
def y_(ha:SE X T W a ma)(hb:SE X T W b mb):SE X T W (.BinOp a .BitAnd b pos) (mOp pq ma mb):=gK CJ (fR fun _ _ _ _ _ _=>dW) ha hb
end
structure Sup(K:PySem.W.Frag)(C f:Addr):Prop where
 ga:specialIn K (.ref C) "__getattribute__"=some (some (.builtin "type.__getattribute__"))
 rd:readsIn K C (.type "type")=true
 fc:findCls K (.ref C) (.type "type") "__init__"=some (.val (.ref f))
 kp:PySem.W.keepIn K (.ref f)=true
def ld(m:HK->HL)(ms:MA):MS:=fun env=>match (env[(0:Nat)]?:Option (Option PV))with
 |some (some (.obj .own c ks vs))=>match ms env with
  |.ok xs=>if hasL Fl.HS xs then .stuck else match m (.obj .own c ks vs::mapL Fl.HN xs)with
   |.ok (.obj fl c' ks' vs')=>if(PV.obj fl c' ks' vs').has Fl.HU then .stuck else .next (env.set 0 (some (.obj fl c' ks' vs')))
   |_=>.stuck
  |.exc c=>.exc c env
  |.stuck=>.stuck
 |_=>.stuck
section
variable{X:Cx}{T:Tb}{W:Nat->St->HJ}{Z:Zn}{F F1 F3:HB}{H H1 H3:Hp}{Y:St}{env:En}{fp:Nat->HE}
def aw.sup(S:aw T Z F H Y env fp)(h0:Y[0]?=some (some v0))(hl:0<env.length)
  (nx:∀a∈fx,Z.H0 a=none\/Z.fp0 a) (nj:∀a∈fx,∀i,a∉fp i) (nF:∀a∈fx,¬F a) (cx:∀a∈fx,∃o,H a=some o/\Chg o)
  (hp3:bT T ⟨H,F,(·∈fp 0++fx),B',some v0⟩ F3 H3) (r:Rel T F3 B' NoL H3 o v0 f3) (hb:o.has Fl.HU=false) (nd3:f3.Nodup) (nf3:∀a∈f3,¬F3 a) (new3:∀a∈f3,H a=none\/a∈fp 0++fx)
  (ho:∃fl c ks xs,o=.obj fl c ks xs):aw T Z F3 H3 Y (env.set 0 (some o)) (bV fp 0 f3):=by
 have zfree:∀a,H a=none->Z.H0 a=none\/Z.fp0 a:=fun a z=>by
  by_cases q:Z.fp0 a
  ·exact .inr q
  ·refine .inl ?_;cases w:Z.H0 a with
   |none=>rfl
   |some o=>rw[S.hp.keep a o w q]at z;exact(nomatch z)
 have inn:∀a∈fp 0++fx,Z.H0 a=none\/Z.fp0 a:=fun a h=>by
  rcases mem_append.mp h with h|h
  ·exact S.new 0 a h
  ·exact nx a h
 have jn:∀j,j≠0->∀a∈fp j,a∉fp 0++fx:=fun j hj a ha z=>by
  rcases mem_append.mp z with z|z
  ·exact S.dj j 0 hj a ha z
  ·exact nj a z j ha
 have chgn:∀a∈fp 0++fx,∃o,H a=some o/\Chg o:=fun a h=>by
  rcases mem_append.mp h with h|h
  ·exact S.ch 0 a h
  ·exact cx a h
 have rel':Rel T F3 Z.B NoL H3 o v0 f3:=Rel.noB hb r;refine⟨⟨S.hp.bo,fun a u e n=>hp3.keep a u (S.hp.keep a u e n) fun z=>?_,fun a h=>hp3.f0 a (S.hp.f0 a h),fun a h=>?_,hp3.ft⟩,by rw[length_set,S.len],fun j pv e=>?_,fun j=>?_,fun j k hjk b hb=>?_,fun j b hb=>?_,fun j b hb=>?_,fun j b hb=>?_,fun w hw=>?_⟩
 ·rcases inn a z with q|q
  ·rw[e]at q;cases q
  ·exact n q
 ·rcases hp3.fn a h with z|z|z
  ·exact S.hp.fn a z
  ·exact .inr (zfree a z)
  ·exact .inr (inn a z)
 ·by_cases hj:j=0
  ·subst hj;rw[getElem?_set_self hl]at e;cases e;refine⟨v0,h0,?_⟩;unfold bV;rw[if_pos rfl];exact rel'
  ·rw[getElem?_set_ne (Ne.symm hj)]at e;obtain⟨w,h1,h2⟩:=S.rel j pv e;refine⟨w,h1,?_⟩;unfold bV;rw[if_neg hj];refine Rel.tr (fun a h=>hp3.f0 a h) (fun _ h=>h) (fun _ h=>h) (fun b u q h=>hp3.keep b u q fun z=>?_) (fun b hb u q=>hp3.keep b u q (jn j hj b hb)) h2;rcases h with h|h|h|h
   ·rcases mem_append.mp z with z|z
    ·exact(S.dis 0 b z).1 h
    ·exact nF b z h
   ·obtain⟨⟨o',e1⟩,e2⟩:=S.hp.bo.1 b h;rcases inn b z with q'|q'
    ·rw[e1]at q';cases q'
    ·exact e2 q'
   ·exact h
   ·obtain⟨o',e1,e2⟩:=chgn b z;have q1:H b=some u:=q;rw[q1]at e1;cases e1;cases u with
    |lst _|ins _ _ _=>exact h
    |_=>exact e2
 ·unfold bV;split
  ·exact nd3
  ·exact S.nd j
 ·grind[bV,aw,bT,Gr]
 ·unfold bV at hb;by_cases h1:j=0
  ·rw[if_pos h1]at hb;exact⟨nf3 b hb,r.there b hb⟩
  ·rw[if_neg h1]at hb;obtain⟨n,u,e⟩:=S.dis j b hb;refine⟨fun z=>?_,u,hp3.keep b u e (jn j h1 b hb)⟩;rcases hp3.fn b z with q|q|q
   ·exact n q
   ·have q':H b=none:=q;rw[e]at q';cases q'
   ·exact jn j h1 b hb q
 ·unfold bV at hb;by_cases h1:j=0
  ·rw[if_pos h1]at hb;rcases new3 b hb with q|q
   ·exact zfree b q
   ·exact inn b q
  ·rw[if_neg h1]at hb;exact S.new j b hb
 ·unfold bV at hb;by_cases h1:j=0
  ·rw[if_pos h1]at hb;exact r.chg b hb
  ·rw[if_neg h1]at hb;obtain⟨u,e,c⟩:=S.ch j b hb;exact⟨u,hp3.keep b u e (jn j h1 b hb),c⟩
 ·obtain⟨h1,h2⟩:=S.pn w hw;refine⟨h1,?_⟩;obtain⟨fl,c,ks,xs,e⟩:=ho;subst e;unfold b7;rw[getElem?_set_self hl]
def BI
  (cx:Ctx X T W kk) (U:Sup X.K C f) (G:b9 X.prog X.w X.K X.mg X.base (CXP X.prog X.w) k f fd ps (spI T ps.length m)) (hk:k<=kk) (hg:Gl X x) (hm:X.mg x=some (.ref C)) (hb:dy X.K fd ps [])
  (hN:X.N[0]?=some y) (hv:Vis X.env.scope y) (hn:fk ms n) (hps:n+1=ps.length) (ha:SA X T W es ms)
  (hdb:(x ==("__debug__":Str))=false:=by decide) (hdy:(y ==("__debug__":Str))=false:=by decide) (hcy:(y ==("__classdict__":Str))=false:=by decide)
  (hst:starEach (.Name y px::es) X.env=(false,eval (.Name y px) X.env)::starEach es X.env:=by rfl) (hpl:(backTo pos (starEach es X.env)).any (·.1)=false:=by rfl)
  (ht:eval (.Call (.Attribute (.Name x p) "__init__" apos) (.Name y px::es) [] pos) X.env=(do
   let ov <- eval (.Name x p) X.env
   standAt apos.atName
   let(f,first) <- holding [ov] (getMethod ov "__init__" pl)
   callWith pos f first (backTo pos (starEach (.Name y px::es) X.env)) (backToKw pos (keywordEach [] X.env))):=by rfl)
  (hs:swapsWith (.Call (.Attribute (.Name x p) "__init__" apos) (.Name y px::es) [] pos) none pos'.line X.env=pure false:=by rfl) :
  SS X T W (.Expr (.Call (.Attribute (.Name x p) "__init__" apos) (.Name y px::es) [] pos) pos') (ld m ms):=by
 have pe:PE X (.Call (.Attribute (.Name x p) "__init__" apos) (.Name y px::es) [] pos) (fun Y H Q=>∃ Z F env fp,aw T Z F H Y env fp/\(match ld m ms env with
   |.next e=>∀F' H' fp',aw T Z F' H' Y e fp'->Q .non H'
   |.exc c e=>∀F' H' fp',aw T Z F' H' Y e fp'->W c Y H'
   |_=>False)):=by
  intro gV s Y H Q I h;obtain⟨Z,F,env,fp,S,q⟩:=h;refine PySem.W.methodCall_KW (pl:=pl) (iQ I hg hm ?_ hdb) ht;refine PySem.W.method_cls I.kIn U.ga (PySem.W.cls_value I.kIn U.rd U.fc rfl ?_);have I':=I.tok (s.toks+1);unfold ld at q;cases e0:env[0]? with
  |none=>rw[e0]at q;exact q.elim
  |some o0=>
  cases o0 with
  |none=>rw[e0]at q;exact q.elim
  |some ov=>
  obtain⟨v0,hv0,r0⟩:=S.rel 0 ov e0;have hl0:0<env.length:=(List.getElem?_eq_some_iff.mp e0).1;rw[e0]at q;by_cases hob:∃c ks vs,ov=.obj .own c ks vs
  case neg=>
   exfalso;cases ov with
   |obj fl c ks vs=>
    cases fl with
    |own=>exact hob ⟨_,_,_,rfl⟩
    |_=>exact q
   |_=>exact q
  obtain⟨c,ks,vs0,rfl⟩:=hob;dsimp only at q;have pa:=dM (X:=X) (fN (pos:=px) hN hv hdy hcy) ha hst;refine callWith_K (first:=[]) (h₀:=X.base) I'.ok.mod.kin U.kp (thn (pa pos gV _ Y H (fun vs H1=>∀ us s1,L2.Inv X gV Y H1 s1->aK vs us->wpAny (model X.prog X.w) X.A (call (.ref f) us) (EP X gV Y Q) X.xe s1) I'
   ⟨v0,hv0,tA.bind S (fun c e=>?_) (fun e=>by rw[e]at q;exact q) fun xs vs H1 F1 f1 e1 g1 r1 n1 d1 w1 us s1 I1 rv=>?_⟩) fun us s1 ⟨vs,H1,I1,r,q1⟩=>⟨I1.kIn,q1 us s1 I1 r⟩) hst hpl
  ·rw[e]at q;exact fun H' x=>q F H' fp (S.grow (Gr.same S.hp.ft x))
  rw[e1]at q;dsimp only at q;by_cases hln:hasL Fl.HS xs=true
  ·rw[if_pos hln]at q;exact q.elim
  rw[if_neg hln]at q;have hln':hasL Fl.HS xs=false:=by simpa using hln
  have S1:=S.grow g1;obtain⟨v0',hv0',r0'⟩:=S1.rel 0 _ e0;rw[hv0]at hv0';cases hv0';have xn:∀a∈f1,∀i,a∉fp i:=fun a ha i hi=>by obtain⟨_,o,e⟩:=S.dis i a hi;rw[w1 a ha]at e;cases e
  have xz:∀a∈f1,Z.H0 a=none\/Z.fp0 a:=fun a ha=>by
   by_cases q:Z.fp0 a
   ·exact .inr q
   ·refine .inl ?_;cases w:Z.H0 a with
    |none=>rfl
    |some o=>have:=w1 a ha;rw[S.hp.keep a o w q]at this;cases this
  have hBo:∀a,Z.B a->(∃o,H1 a=some o)/\a∉fp 0++f1:=fun a h=>by
   obtain⟨⟨o,h1⟩,h2⟩:=S.hp.bo.1 a h;have h3:=S.hp.keep a o h1 h2;refine⟨⟨o,g1.ext a o h3⟩,fun z=>?_⟩;rcases mem_append.mp z with z|z
   ·exact S.bow a h ⟨0,z⟩
   ·rw[w1 a z]at h3;cases h3
  have R:uX T F1 (fun a=>(∃o,H1 a=some o)/\a∉fp 0++f1) H1 (.obj .own c ks vs0::mapL Fl.HN xs) (v0::vs) (fp 0++f1):=by
   refine⟨?_,nodup_append.mpr ⟨S.nd 0,d1,fun a ha b hb z=>by subst z;exact xn a hb 0 ha⟩,fun a ha=>?_,⟨fun a h=>h,S.tbo g1.ext fun a z=>(mem_append.mp z).elim (fun z=>.inr ⟨0,z⟩) fun z=>.inl (w1 a z)⟩,g1.dom⟩
   ·unfold RelL;refine⟨v0,vs,fp 0,f1,rfl,Rel.tr (fun _ h=>h) hBo (fun _ h=>h) (fun _ _ q _=>q) (fun _ _ _ q=>q) r0',?_,rfl⟩;exact RelL.HN hBo (fun _ h=>h.elim) (RelL.noL (L':=NoL) hln' r1)
   ·rcases mem_append.mp ha with ha|ha
    ·exact(S1.dis 0 a ha).1
    ·exact n1 a ha
  have r2:aK (v0::vs) us:=rv;have hl:us.length=ps.length:=by rw[<- r2.length,length_cons,<- r1.length,hn env xs e1];exact hps
  refine wpAny_call (codeAny_mono (G.run X.A X.stack s1 H1 ⟨us,[]⟩ us (v0::vs) Q (fun cls _ H'=>∃ c,cls=.ref (T.xcl c)/\W c Y H') (cx.room.mono hk) I1.env0 (by simpa using hb s1 us I1.kIn (by simpa using hl)) r2
   ⟨by rw[r2.length,hl],v0,_,F1,_,_,rfl,R,⟨.own,c,ks,vs0,rfl⟩,?_⟩) fun rs s' hq=>?_)
  ·cases e:m (.obj .own c ks vs0::mapL Fl.HN xs)with
   |ok o=>
    rw[e]at q;cases o with
    |obj fl c' ks' vs'=>
     dsimp only at q;by_cases hbr:(PV.obj fl c' ks' vs').has Fl.HU=true
     ·rw[if_pos hbr]at q;exact q.elim
     ·rw[if_neg hbr]at q;dsimp only at q;have hbr':(PV.obj fl c' ks' vs').has Fl.HU=false:=by simpa using hbr
      intro F3 H3 f3 hp3 r3 nd3 nf3 new3;exact q F3 H3 _ (S1.sup hv0 hl0 xz xn n1 r1.chg hp3 r3 hbr' nd3 nf3 new3 ⟨_,_,_,_,rfl⟩)
    |_=>exact q.elim
   |exc c|stuck=>rw[e]at q;exact q.elim
  ·cases rs with
   |error e=>obtain⟨cls,H',fl,c,rfl,hw⟩:=hq;exact cx.xf gV Y H1 s1 c H' e s' I1 fl hw
   |ok fl=>
    cases fl with
    |ret u=>exact I1.after hq
    |next|brk|cont=>exact False.elim hq
 exact PS.wk (nU (pos:=pos') pe hs) fun D Y H hz1=>by
  obtain⟨Z,F,env,fp,S,q⟩:=hz1;refine⟨Z,F,env,fp,S,?_⟩;cases e:ld m ms env with
  |next e'|exc c e'=>rw[e]at q;exact fun F' H' fp' S'=>q F' H' Y fp' S'
  |ret v=>
   exfalso;revert e;unfold ld;split
   ·split
    ·split
     ·simp
     ·split
      ·split<;>simp
      ·simp
    ·simp
    ·simp
   ·simp
  |brk e'=>
   exfalso;revert e;unfold ld;split
   ·split
    ·split
     ·simp
     ·split
      ·split<;>simp
      ·simp
    ·simp
    ·simp
   ·simp
  |cont e'=>
   exfalso;revert e;unfold ld;split
   ·split
    ·split
     ·simp
     ·split
      ·split<;>simp
      ·simp
    ·simp
    ·simp
   ·simp
  |stuck=>rw[e]at q;exact q
end
end PR
namespace PR
open PySem PySem.Spec L2
def whL(c:MT)(b:MS):Nat->MS
 |0,_=>.stuck
 |k+1,env=>match c env with
  |.ok true=>match b env with
   |.next e|.cont e=>whL c b k e
   |.brk e=>.next e
   |.ret v=>.ret v
   |.exc x e=>.exc x e
   |.stuck=>.stuck
  |.ok false=>.next env
  |.exc x=>.exc x env
  |.stuck=>.stuck
def lc(c:MT)(b:MS):MS:=whL c b 100000
section
variable{X:Cx}{T:Tb}{W:Nat->St->HJ}
def oQ(hp:PassesOwn (model X.prog X.w) X.A X.env X.xe)(hc:ST X T W c mc)(hb:SSs X T W body mb):SS X T W (.While c body [] pos) (lc mc mb):=
 PS.wk (wa (pos:=pos) hp hc hb) fun D Y H hz1=>by
  obtain⟨Z,F,env,fp,S,q⟩:=hz1;unfold lc at q;refine⟨fun m σ' H'=>∃F' env' fp',aw T Z F' H' σ' env' fp'/\GS T W Z D (whL mc mb m env'),⟨100000,F,env,fp,S,q⟩,?_⟩;rintro m σ' H' ⟨F',env',fp',S',q'⟩;cases m with
  |zero=>exact q'.elim
  |succ k=>
   unfold whL at q';refine tT.bind S' (fun c e H2 x=>?_) (fun e=>by rw[e]at q';exact q') fun b H1 F1 e g=>?_
   ·rw[e]at q';exact q' F' H2 σ' fp' (S'.grow (Gr.same S'.hp.ft x))
   ·cases b with
    |false=>rw[e]at q';exact(if_neg (by decide)).mpr (q' F1 H1 σ' fp' (S'.grow g))
    |true=>
     rw[e]at q';dsimp only at q';refine(if_pos rfl).mpr ⟨fun σ2 H2=>∃F2 env2 fp2,aw T Z F2 H2 σ2 env2 fp2/\GS T W Z D (whL mc mb k env2),fun σ2 H2 h=>⟨k,Nat.lt_succ_self k,h⟩,Z,F1,env',fp',S'.grow g,?_⟩;cases eb:mb env' with
     |next e2|cont e2=>rw[eb]at q';exact fun F3 H3 σ3 fp3 S3=>⟨F3,e2,fp3,S3,q'⟩
     |brk e2|ret v|exc c e2|stuck=>rw[eb]at q';exact q'
end
def dU:HK->Option (List Bool)
 | []=>some []
 |.bl b::xs=>(dU xs).map (b::·)
 |_=>none
def ul(f:List Bool->Bool):PV->HL
 |.lst _ xs=>match dU xs with
  |some bs=>.ok (.bl (f bs))
  |none=>.stuck
 |_=>.stuck
def oH(bs:List Bool):Bool:=bs.all id
section
variable{X:Cx}{T:Tb}{W:Nat->St->HJ}{Z:Zn}{F F1 B L:HB}{H H1:Hp}{Y:St}{env:En}{fp:Nat->HE}{gV:HA}{s:Shared}
def m_:∀{xs:HK}{vs:HI}{f:HE}{bs:List Bool},dU xs=some bs->RelL T F B L H xs vs f->vs=bs.map V.bl
 | [],_,_,_,e,h=>by simp only[dU,Option.some.injEq]at e;subst e;unfold RelL at h;rw[h.1];rfl
 |.bl b::xs,_,_,bs,e,h=>by
  simp only[dU]at e;cases e2:dU xs with
  |none=>rw[e2]at e;cases e
  |some ms=>rw[e2]at e;cases e;unfold RelL at h;obtain⟨v,ws,f1,f2,rfl,h1,h2,_⟩:=h;unfold Rel at h1;rw[h1.1,m_ e2 h2];rfl
 |.non::_,_,_,_,e,_|.int _::_,_,_,_,e,_|.str _::_,_,_,_,e,_|.lst _ _::_,_,_,_,e,_|.tup _::_,_,_,_,e,_|.obj _ _ _ _::_,_,_,_,e,_|.exc _::_,_,_,_,e,_|.box _ _::_,_,_,_,e,_=>by simp[dU]at e
def xZ:∀{bs:List Bool}{its:HD},aK (bs.map V.bl) its->∀(i:Nat) (v:Value),its.toArray[i]?=some v->v=.bool (bs.getD i false)
 | [],_,r,i,v,e=>by cases r;simp at e
 |b::bs,_,r,i,v,e=>by
  cases r with
  |cons r1 r2=>
   cases i with
   |zero=>simp at e;subst e;exact r1
   |succ i=>exact xZ r2 i v (by simpa using e)
def zd(bs:List Bool)(n:Nat)(h:n=bs.length):(range n).all (fun i=>bs.getD i false)=oH bs:=by
 subst h;unfold oH;rw[Bool.eq_iff_iff,all_eq_true,all_eq_true];refine⟨fun z x hx=>?_,fun z i hi=>?_⟩
 ·obtain⟨i,hi,e⟩:=List.getElem_of_mem hx;have:=z i (mem_range.mpr hi);rw[<- e];simpa[hi]using this
 ·have hi':=mem_range.mp hi;have:=z bs[i] (getElem_mem hi');simpa[hi']using this
def uR{bs:List Bool}{its:HD}(r:aK (bs.map V.bl) its):TruthOf X.prog X.w A (fun i v=>its.toArray[i]?=some v) (fun i=>bs.getD i false):=fun i v s Q E hP hQ=>by rw[xZ r i v hP];exact wpAny_truthy_bool hQ
def oB(hc:X.calm=true):eV X (.builtin "all") (fun xs H Q=>∃p bs,xs=[.ref p]/\SqL X.K H p (bs.map V.bl)/\Q (.bl (oH bs)) H):=by
 intro gV s Y H xs us Q I rv h;obtain⟨p,bs,rfl,hq,q⟩:=h;obtain⟨u,rfl,rx⟩:=fV rv;cases rx;have hh:=I.ok.hd hc;obtain⟨its,r,pl,hz⟩:=I.list hq;have hl:its.toArray.size=bs.length:=by have:=r.length;simpa using this.symm
 obtain⟨o,ho,hcl,n,hd⟩:=pl.isList;have hlt:=lt_size ho;have key:∀{h':Heap}{tk:Nat},(∀b o,s.heap.get? b=some o->h'.get? b=some o)->EP X gV Y Q (.bool (oH bs)) {s with heap:=h',toks:=tk}:=fun k=>⟨.bl _,H,lx I k,rfl,q⟩
 refine call_all_walk (wpAny_pyIter_list pl.isList ?_);refine⟨_,_,_,_,_,_,(fun i=>bs.getD i false),rfl,Walks.list (A:=X.A.in1) hh _ p (Nat.ne_of_lt hlt) its.toArray,⟨⟨_,get?_push_size _ rfl,rfl,rfl⟩,pl.isList.push _⟩,uR r,fun h' tk hk=>?_⟩;rw[zd bs _ hl];exact key (kX hk)
def zS(hK:X.K=T.K)(f:List Bool->Bool):Mir T W (p1 (ul f)) (fun xs H Q=>∃p bs,xs=[.ref p]/\SqL X.K H p (bs.map V.bl)/\Q (.bl (f bs)) H):=by
 intro B F L Y H Q F' H' xs vs fx gr r nf nd new q
 match xs,r,q with
 | [x],r,q=>
  obtain⟨v,rfl,rv⟩:=RelL.one r;simp only[p1]at q;cases x with
  |lst fl ys=>
   simp only[ul]at q;cases e2:dU ys with
   |none=>rw[e2]at q;exact q.elim
   |some bs=>rw[e2]at q;dsimp only at q;unfold Rel at rv;obtain⟨a,us,fp',rfl,hl,hr,_⟩:=rv;have hu:=m_ e2 hr;subst hu;exact⟨a,_,rfl,by rw[hK];exact hl.sq,q.scal gr fK⟩
  |_=>exact q.elim
 | [],_,q=>exact q.elim
 |_::_::_,_,q=>simp only[p1]at q;exact q.elim
def D7:bootBuiltins "all"=some (.builtin "all"):=by decide +kernel
def BZ(hK:X.K=T.K)(hc:X.calm=true)(hg:Gl X "all")(hm:X.mg "all"=none)(ha:SE X T W e m)(he:starEach [e] X.env=[(false,eval e X.env)]:=by rfl):SE X T W (.Call (.Name "all" p) [e] [] pos) (ao (p1 (ul oH)) (ae m ak)):=
 ie (oB hc) (zS hK oH) hg hm D7 (aa ha ah (by rw[he];rfl)) (he:=by rw[he];rfl) (hpl:=rfl)
def uy(i:Nat)(m:ME):MS:=fun env=>match env[i]? with
 |some (some (.int a))=>match m env with
  |.ok (.int b)=>if aQ i env then .next (env.set i (some (.int (a+b))))else .stuck
  |.ok _=>.stuck
  |.exc c=>.exc c env
  |.stuck=>.stuck
 |_=>.stuck
def BL(hN:X.N.Nodup)(hi:X.N[i]?=some x)(hx:Loc X.env.scope x)(he:SE X T W e m)
  (hf:X.fn x=true\/X.env.scope.names.lookup x=some .local:=by first|exact .inl rfl|exact .inr rfl|assumption):SS X T W (.AugAssign (.Name x pos') .Add e pos) (uy i m):=
 PS.wk (Ci (pos:=pos) (ti:=rI0 fun i j=>.int (i+j)) hN hi hx he (fun gV s Y H x y v u Q I rx ry h=>Ab gV s Y H x y v u Q I rx ry h) hf) fun D Y H hz1=>by
  obtain⟨Z,F,env,fp,S,q⟩:=hz1;unfold uy at q;split at q
  ·rename_i a ea
   obtain⟨v,e1,r⟩:=S.rel i _ ea;unfold Rel at r;refine⟨v,e1,tE.bind S (fun c e H' x=>?_) (fun e=>by rw[e]at q;exact q) fun pv w H1 F1 f e2 g r2 h1 h2 h3=>?_⟩
   ·rw[e]at q;exact q F H' Y fp (S.grow (Gr.same S.hp.ft x))
   ·rw[e2]at q;cases pv with
    |int b=>
     dsimp only at q;split at q
     ·rename_i ho
      unfold Rel at r2;refine⟨a,b,r.1,r2.1,?_⟩;exact q F1 H1 _ _ ((S.grow g).put (f:=[]) dW nodup_nil (fun _ z=>nomatch z) (fun _ z=>nomatch z) (fun _ z=>nomatch z) ho)
     ·exact q.elim
    |_=>exact q.elim
  ·exact q.elim
end
end PR
namespace PR
open PySem PySem.Spec L2
def jy:PV->HL
 |.bl b=>.ok (.int (if b then 1 else 0))
 |.int i=>.ok (.int i)
 |_=>.stuck
section
variable{X:Cx}{T:Tb}{W:Nat->St->HJ}
def p0:eV X (.type "int") (fun xs H Q=>(∃b,xs=[.bl b]/\Q (.int (if b then 1 else 0)) H)\/ ∃i,xs=[.int i]/\Q (.int i) H):=by
 intro gV s Y H xs us Q I rv h;rcases h with⟨b,rfl,q⟩ |⟨i,rfl,q⟩
 ·obtain⟨u,rfl,rx⟩:=fV rv;cases rx;exact PySem.call_int_bool ⟨.int _,H,lx I fun _ _ e=>e,⟨_,rfl⟩,q⟩
 ·obtain⟨u,rfl,rx⟩:=fV rv;obtain⟨t,rfl⟩:=rx;exact PySem.call_int_int ⟨.int _,H,I,⟨_,rfl⟩,q⟩
def ux:Mir T W (p1 jy) (fun xs H Q=>(∃b,xs=[.bl b]/\Q (.int (if b then 1 else 0)) H)\/ ∃i,xs=[.int i]/\Q (.int i) H):=by
 intro B F L Y H Q F' H' xs vs fx g r nf nd new q
 match xs,r,q with
 | [x],r,q=>
  obtain⟨v,rfl,r1⟩:=r.one;cases x with
  |bl b=>unfold Rel at r1;obtain⟨rfl,_⟩:=r1;exact .inl ⟨b,rfl,q.scal g dW⟩
  |int i=>unfold Rel at r1;obtain⟨rfl,_⟩:=r1;exact .inr ⟨i,rfl,q.scal g dW⟩
  |_=>exact q.elim
 | [],_,q|_::_::_,_,q=>exact q.elim
def oY(hg:Gl X "int")(hm:X.mg "int"=none)(ha:SE X T W e m)(he:starEach [e] X.env=[(false,eval e X.env)]:=by rfl):SE X T W (.Call (.Name "int" p) [e] [] pos) (ao (p1 jy) (ae m ak)):=
 fq p0 ux hg hm D6 (aa ha ah he) (he:=he)
end
open AutoSeq1 (wpAny_loadPart')
section
variable{prog:Program}{w:World}{A:Around}{E:td}{s:Shared}
def uQ(ft:TypeCalled T nI iI)
  (c1:checkTypeCall T ⟨us,kw⟩=pure ()) (c2:checkBuiltinCall nI ⟨.type T::us,kw⟩=pure ()) (eN:entryFor table nI=some Bn) (eI:entryFor table iI=some Bi) (g:Meets (Bn ⟨.type T::us,kw⟩) S)
  (h:S A.in1 (wants Q1 E) s) (nx:∀ob s1,Q1 ob s1->s1.TypeIs ob T/\argsOk iI ⟨ob::us,kw⟩/\∃Si,Meets (Bi ⟨ob::us,kw⟩) Si/\Si A.in1 (wants (fun r s2=>r=.none/\Q ob s2) E) s1) :
  wpAny (model prog w) A (call (.type T) us kw) Q E s:=by
 obtain⟨cc,tt,hmro⟩:=ft.mro;have hmade:=ft.made;have hsub:=ft.sub;have h1:=ft.notType;have h2:=ft.canCreate;refine wpAny_call (codeAny_of_tree (show wpAny _ _ (callAny (.type T) _) _ _ _ from wpAny_pure ⟨Code.quiet_builtin _ (by decide +kernel),codeAny_builtin F.entry_type_call ?_⟩));rw[Around.under_plain (weight_type_call_type T us kw) (units_type_call_type T us kw)]
 repeat (any_goals (first|assumption|wp_step|fail))
 refine codeAny_mono (codeAny_call_builtin ft.plain eN (wpAny_of_eq c2 (g prog w A.in1 _ s h))) fun r s1 hr=>?_;cases r with
 |error e=>exact hr
 |ok fl=>
  cases fl with
  |ret ob=>
   obtain⟨hT,hok,Si,gi,hsi⟩:=nx _ _ hr;have hli:=ft.init.lookup;have hbi:=ft.init.bind ob
   repeat (any_goals (first|assumption|wp_step|fail))
   refine codeAny_mono (codeAny_call_builtin ft.init.plain eI (ft.init.check _ _ _ _ _ _ _ _ hT hok (gi prog w A.in1 _ s1 hsi))) fun r2 s2 hr2=>?_;cases r2 with
   |error e=>exact hr2
   |ok fl2=>
    cases fl2 with
    |ret r=>
     obtain⟨rfl,hq⟩:=hr2
     repeat (any_goals (first|assumption|wp_step|fail))
    |_=>exact hr2.elim
  |_=>exact hr.elim
def Gn(hl:typeLookup (.type T) "__init__"=pure (some (.builtin "object.__init__")))(hm:Bind.madeBy (.type T)=pure (some nI))(hne:(some nI != some "object.__new__")=true) :
  Meets (Builtin.«object.__init__» ⟨[self,a],kw⟩) (fun _ R s=>s.TypeIs self T/\R (.ok (.ret .none)) s):=by
 refine Meets.of_wp fun pr w A R s0 hs=>?_;obtain⟨hT,hq⟩:=hs
 repeat (any_goals (first|assumption|wp_step|fail))
 exact⟨_,rfl,hq⟩
abbrev itO(n:String)(l:Addr):Obj:={cls:=.type n,data:=.fields #[.ref l,.int 0 0]}
abbrev enO(it:Addr)(i:Int):Obj:={cls:=.type "enumerate",data:=.fields #[.none,.bool false,.ref it,rawInt i,.none,.none]}
def yG(n:String)(l:Addr)(s:Shared):Prop:=∀(pr:Program) (w:World) (A:Around) (Q:td) (E:td),Q (.ref s.heap.objs.size) {s with heap:=s.heap.push (itO n l)}->wpAny (model pr w) A (pyIter (.ref l)) Q E s
def o7(t:Addr):¬((Value.ref t==Value.none)=true):=Bool.false_ne_true
def wE(hit:s.heap.IsTupleIter it t i)(ht:s.heap.IsTuple t items)(hx:items[i]?=some x)
  (hQ:∀h',h'.IsTupleIter it t (i+1)->SameBut it s.heap h'->Q x {s with heap:=h'}):wpAny (model prog w) A (Builtin.SmallTypes.nextOf (.ref it)) Q E s:=by
 obtain⟨o,ho,hc,hd⟩:=id hit;obtain⟨o2,ho2,_,n2,hd2⟩:=ht;unfold Builtin.SmallTypes.nextOf;refine wpAny_bind (wpAny_callSpecial?_slot (name:=Str.ofString "__next__") hit.typeIs F.slot_tuple_iterator_next (wpAny_call_entry F.slot_tuple_iterator_next hit.typeIs F.entry_tuple_iterator_next ?_ (F.args_tuple_iterator_next_1 _)));refine(show wpAny _ _ (field (.ref it) 0 >>= _) _ _ s from wpAny_bind (wpAny_field ho hd (x:=.ref t) rfl ?_));refine(show wpAny _ _ (if(Value.ref t==Value.none)=true then _ else _) _ _ s from ?_);rw[if_neg (o7 t)];refine(show wpAny _ _ (field (.ref it) 1 >>= _) _ _ s from wpAny_bind (wpAny_field ho hd (x:=.int i 0) rfl ?_));refine(show wpAny _ _ (seqItems? (.ref t) >>= _) _ _ s from wpAny_bind (wpAny_seqItems ho2 hd2 ?_));simp only[toNat_natCast,hx];refine wpAny_bind (wpAny_setField ho hd (by simp) (wpAny_pure ⟨x,rfl,wpAny_pure (hQ _ ⟨_,Heap.get?_update_self _ ho (Obj.isFreed_of_fields (Obj.data_mapFields hd _)),(Obj.cls_mapFields ..).trans hc,by rw[Obj.data_mapFields hd];simp[rawInt]⟩ (SameBut.update ..))⟩))
def zJ(hh:A.handled=none)(hit:s.heap.IsTupleIter it t i)(ht:s.heap.IsTuple t items)(hx:items[i]?=none)
  (hE:∀h' e,ExtBut it s.heap h'->(∃o,h'.get? e=some o/\o.cls=.type "StopIteration")->E (.ref e) {s with heap:=h'}):wpAny (model prog w) A (Builtin.SmallTypes.nextOf (.ref it)) Q E s:=by
 obtain⟨o,ho,hc,hd⟩:=id hit;obtain⟨o2,ho2,_,n2,hd2⟩:=ht;unfold Builtin.SmallTypes.nextOf;refine wpAny_bind (wpAny_callSpecial?_slot (name:=Str.ofString "__next__") hit.typeIs F.slot_tuple_iterator_next (wpAny_call_entry F.slot_tuple_iterator_next hit.typeIs F.entry_tuple_iterator_next ?_ (F.args_tuple_iterator_next_1 _)));refine(show wpAny _ _ (field (.ref it) 0 >>= _) _ _ s from wpAny_bind (wpAny_field ho hd (x:=.ref t) rfl ?_));refine(show wpAny _ _ (if(Value.ref t==Value.none)=true then _ else _) _ _ s from ?_);rw[if_neg (o7 t)];refine(show wpAny _ _ (field (.ref it) 1 >>= _) _ _ s from wpAny_bind (wpAny_field ho hd (x:=.int i 0) rfl ?_));refine(show wpAny _ _ (seqItems? (.ref t) >>= _) _ _ s from wpAny_bind (wpAny_seqItems ho2 hd2 ?_));simp only[toNat_natCast,hx];refine wpAny_bind (wpAny_rule (wpAny_bind (wpAny_setField ho hd (by simp) (show wpAny _ _ (newExc (.type "StopIteration") [] >>= _) _ _ _ from wpAny_bind ?_))));simp only[newExc,newTuple];refine wpAny_bind (wpAny_newObj_type (wpAny_bind (m:=firstArgMember _ _) (wpAny_of_eq (a:=Value.none) (by first|rfl |(simp only[firstArgMember];rfl)) (wpAny_newObj_type ?_ (by size_fits)))) (by size_fits));simp only[raiseNew];refine wpAny_bind (wpAny_handled ?_)
 first|rw[show A.in1.handled=none from hh]|rw[hh]|skip
 exact wpAny_bind (wpAny_pure (wpAny_throw (hE _ _ (((SameBut.update ..).extBut.push _).push _) ⟨_,get?_push_size _ rfl,rfl⟩)))
inductive hV(h:Heap)(it l:Addr)(its:HH)(i:Nat):Prop
 |lst (a:h.IsListIter it l i) (b:h.IsList l its)
 |tup (a:h.IsTupleIter it l i) (b:h.IsTuple l its)
def hV.at(x:hV h it l its i)(k1:∀o,h.get? it=some o->h'.get? it=some o)(k2:∀o,h.get? l=some o->h'.get? l=some o):hV h' it l its i:=by
 rcases x with⟨⟨o,e,r⟩,⟨o2,e2,r2⟩⟩ |⟨⟨o,e,r⟩,⟨o2,e2,r2⟩⟩
 ·exact .lst ⟨o,k1 o e,r⟩ ⟨o2,k2 o2 e2,r2⟩
 ·exact .tup ⟨o,k1 o e,r⟩ ⟨o2,k2 o2 e2,r2⟩
def hV.obj(x:hV h it l its i):∃o,h.get? it=some o/\∀v,o.data≠.cell v:=by
 rcases x with⟨⟨o,e,_,d⟩,_⟩ |⟨⟨o,e,_,d⟩,_⟩
 ·exact⟨o,e,fun v z=>by rw[d]at z;cases z⟩
 ·exact⟨o,e,fun v z=>by rw[d]at z;cases z⟩
def zI(hi:hV s.heap it l its i)(hne:l≠it)(hx:its[i]?=some x)(hQ:∀h',hV h' it l its (i+1)->SameBut it s.heap h'->Q x {s with heap:=h'}) :
  wpAny (model prog w) A (Builtin.SmallTypes.nextOf (.ref it)) Q E s:=by
 rcases hi with⟨a,b⟩ |⟨a,b⟩
 ·exact wpAny_nextOf_list_item a b hx fun h' q sb=>hQ h' (.lst q (b.extBut sb.extBut hne)) sb
 ·exact wE a b hx fun h' q sb=>hQ h' (.tup q (b.extBut sb.extBut hne)) sb
def C9(hh:A.handled=none)(hi:hV s.heap it l its i)(hx:its[i]?=none)
  (hE:∀h' e,ExtBut it s.heap h'->(∃o,h'.get? e=some o/\o.cls=.type "StopIteration")->E (.ref e) {s with heap:=h'}):wpAny (model prog w) A (Builtin.SmallTypes.nextOf (.ref it)) Q E s:=by
 rcases hi with⟨a,b⟩ |⟨a,b⟩
 ·exact wpAny_nextOf_list_end hh a b hx hE
 ·exact zJ hh a b hx hE
def AB{Q:td}(he:IsEnum s.heap e it k old)(hi:hV s.heap it l its i)(hne:e≠it)(hli:l≠it)(hle:l≠e)(hx:its[i]?=some x)
  (hQ:∀ h',IsEnumOut h' e it (k+1) x s.heap.objs.size->hV h' it l its (i+1)->h'.get? s.heap.objs.size=some { cls:=.type "tuple", data:=.seq #[.int k s.toks,x] }->h'.objs.size=s.heap.objs.size+1 ->
   (∀b o,b≠e->b≠it->s.heap.get? b=some o->h'.get? b=some o)->Q (.ref s.heap.objs.size) {s with heap:=h',toks:=s.toks+1}) :
  wpAny (model prog w) A (Builtin.«enumerate.__next__» ⟨[.ref e],[]⟩) (fun fin s'=>∃v,fin=.done (.ret v)/\Q v s') E s:=by
 obtain⟨hp,g,d,tk,os⟩:=s;refine(show wpAny _ _ (field (.ref e) 2 >>= _) _ _ _ from wpAny_bind (wpAny_field he rfl (x:=.ref it) rfl ?_));refine wpAny_bind (zI hi hli hx fun h1 i1 s1=>?_)
 replace s1:SameBut it hp h1:=s1
 have e1:IsEnum h1 e it k old:=(s1.2 e hne).trans he;refine(show wpAny _ _ (field (.ref e) 3 >>= _) _ _ ⟨h1,g,d,tk,os⟩from wpAny_bind (wpAny_field e1 rfl (x:=rawInt k) rfl ?_));refine(show wpAny _ _ (field (.ref e) 4 >>= _) _ _ ⟨h1,g,d,tk,os⟩from wpAny_bind (wpAny_field e1 rfl (x:=.none) rfl ?_));refine(show wpAny _ _ (mkInt k >>= _) _ _ ⟨h1,g,d,tk,os⟩from wpAny_bind (wpAny_mkInt ?_));refine(show wpAny _ _ (setField (.ref e) 3 (rawInt (k+1)) >>= _) _ _ ⟨h1,g,d,tk+1,os⟩from wpAny_bind (wpAny_setField_rec e1 (by simp) fun h2 e2 s2=>?_))
 replace s2:SameBut e h1 h2:=s2
 replace e2:IsEnum h2 e it (k+1) old:=e2
 refine(show wpAny _ _ (setField (.ref e) 4 .none >>= _) _ _ ⟨h2,g,d,tk+1,os⟩from wpAny_bind (wpAny_setField_rec e2 (by simp) fun h3 e3 s3=>?_))
 replace s3:SameBut e h2 h3:=s3
 replace e3:IsEnum h3 e it (k+1) old:=e3
 refine(show wpAny _ _ (newTuple [.int k tk,x] >>= _) _ _ ⟨h3,g,d,tk+1,os⟩from wpAny_bind (wpAny_newTuple ?_));have e4:IsEnum (h3.push {cls:=.type "tuple",data:=.seq #[.int k tk,x]}) e it (k+1) old:=get?_push_of_some _ e3;generalize hh4:h3.push {cls:=.type "tuple",data:=.seq #[.int k tk,x]}=h4 at e4;have z3:h3.objs.size=hp.objs.size:=by rw[s3.1,s2.1,s1.1]
 have lte:e<hp.objs.size:=lt_size he;have t4:h4.get? hp.objs.size=some {cls:=.type "tuple",data:=.seq #[.int k tk,x]}:=by rw[<- hh4,<- z3];exact get?_push_size _ rfl
 have z4:h4.objs.size=hp.objs.size+1:=by rw[<- hh4,size_push,z3]
 have k4:∀b o,b≠e->h1.get? b=some o->h4.get? b=some o:=fun b o hb q=>by rw[<- hh4];exact get?_push_of_some _ (s3.extBut b o hb (s2.extBut b o hb q))
 refine(show wpAny _ _ (Builtin.SmallTypes.ownedTupleIsFree (.ref e) >>= _) _ _ ⟨h4,g,d,tk+1,os⟩from ?_);rw[z3];refine wpAny_bind ?_;unfold Builtin.SmallTypes.ownedTupleIsFree;refine wpAny_bind (wpAny_field e4 rfl (x:=.none) rfl (wpAny_pure ?_));simp only[if_true];refine wpAny_bind (wpAny_rule (wpAny_bind (wpAny_field e4 rfl (x:=old) rfl (wpAny_bind (wpAny_setField_rec e4 (by simp) fun h5 e5 s5=>?_)))))
 replace s5:SameBut e h4 h5:=s5
 replace e5:IsEnum h5 e it (k+1) x:=e5
 refine(show wpAny _ _ (Builtin.SmallTypes.ownedTupleHandOut (.ref e) (.ref hp.objs.size) >>= _) _ _ ⟨h5,g,d,tk+1,os⟩from wpAny_bind ?_);unfold Builtin.SmallTypes.ownedTupleHandOut;refine wpAny_bind (wpAny_setField_rec e5 (by simp) fun h6 e6 s6=>?_)
 replace s6:SameBut e h5 h6:=s6
 replace e6:IsEnumOut h6 e it (k+1) x hp.objs.size:=e6
 refine wpAny_setField_rec e6 (by simp) fun h7 e7 s7=>?_
 replace s7:SameBut e h6 h7:=s7
 replace e7:IsEnumOut h7 e it (k+1) x hp.objs.size:=e7
 have up:∀b o,b≠e->h4.get? b=some o->h7.get? b=some o:=fun b o hb q=>s7.extBut b o hb (s6.extBut b o hb (s5.extBut b o hb q));refine wpAny_bind (wpAny_letGo (wpAny_pure ⟨_,rfl,hQ h7 e7 (i1.at (fun o q=>up it o hne.symm (k4 it o hne.symm q)) fun o q=>up l o hle (k4 l o hle q)) (up _ _ (Nat.ne_of_gt lte) t4) (by rw[s7.1,s6.1,s5.1,z4]) fun b o hb hb2 q=>up b o hb (k4 b o hb (s1.extBut b o hb2 q))⟩))
def zn(he:IsEnum s.heap e it k old)(hi:hV s.heap it l its i)(hne:e≠it)(hli:l≠it)(hle:l≠e)(hx:its[i]?=some x)
  (hQ:∀ h',IsEnumOut h' e it (k+1) x s.heap.objs.size->hV h' it l its (i+1)->h'.get? s.heap.objs.size=some { cls:=.type "tuple", data:=.seq #[.int k s.toks,x] }->h'.objs.size=s.heap.objs.size+1 ->
   (∀b o,b≠e->b≠it->s.heap.get? b=some o->h'.get? b=some o)->Q (some (.ref s.heap.objs.size)) {s with heap:=h',toks:=s.toks+1}):wpAny (model prog w) A (pyNext (.ref e)) Q E s:=by
 have hT:s.TypeIs (.ref e) "enumerate":=⟨_,he,rfl⟩
 unfold pyNext;exact wpAny_bind (wpAny_attempt (wpAny_callSpecial?_slot (name:=Str.ofString "__next__") hT F.slot_enumerate_next (wpAny_call_entry F.slot_enumerate_next hT F.entry_enumerate_next (AB he hi hne hli hle hx fun h' a b c d q=>wpAny_pure (hQ h' a b c d q)) (F.args_enumerate_next_1 _))))
def Ck(hh:A.handled=none)(he:IsEnum s.heap e it k old)(hi:hV s.heap it l its i)(hx:its[i]?=none)
  (hQ:∀h',ExtBut it s.heap h'->Q none {s with heap:=h'}):wpAny (model prog w) A (pyNext (.ref e)) Q E s:=by
 have hT:s.TypeIs (.ref e) "enumerate":=⟨_,he,rfl⟩
 unfold pyNext;refine wpAny_bind (wpAny_attempt (wpAny_callSpecial?_slot (name:=Str.ofString "__next__") hT F.slot_enumerate_next (wpAny_call_entry F.slot_enumerate_next hT F.entry_enumerate_next ?_ (F.args_enumerate_next_1 _))));refine(show wpAny _ _ (field (.ref e) 2 >>= _) _ _ _ from wpAny_bind (wpAny_field he rfl (x:=.ref it) rfl ?_));refine wpAny_bind (C9 hh hi hx fun h' y q ⟨o,ho,hc⟩=>?_);exact wpAny_bind (wpAny_isInstance (T:="StopIteration") (b:=true) ⟨o,ho,hc⟩ isSubtype_stop (wpAny_pure (hQ _ q)))
end
section
variable{X:Cx}{T:Tb}{W:Nat->St->HJ}{Z:Zn}{F F1 B L:HB}{H H1:Hp}{Y:St}{env:En}{gV:HA}{s:Shared}
def uD{fp:HE}{vs:HI}(I:L2.Inv X gV Y H s)(hf:∀b∈fp,kh X gV H b)(k:∀b o,b∉fp->s.heap.get? b=some o->h'.get? b=some o)(hp:s.heap.objs.size<=a)(new:cY X.prog X.w (upd H a (.tup vs)) h' a (.tup vs)) :
  L2.Inv X gV Y (upd H a (.tup vs)) {s with heap:=h',toks:=t'}:=by
 have hn:H a=none:=I.hok.fresh hp;have nit:∀b u,H b=some u->b∉fp:=fun b u e z=>by rw[(hf b z).1]at e;cases e
 refine I.step (g':=s.gens) (d':=s.drawn) (ch:=fp) (fun b hb=>?_) (fun b o _ _ hc e _=>k b o hc e) (fun b o _ _ hc e _=>⟨o.slots,k b o hc e⟩) (fun b o _ e n=>?_) (fun b o hc e=>⟨o,k b o hc e⟩)
  (fun b xs e=>by rw[aG (bM e hn)];exact e) (fun b o u e=>by rw[aG (bM e hn)];exact e) (fun b ps e=>⟨#[],by rw[aG (bM e hn),e];simp⟩) (fun m hm=>?_) (fun b u e=>?_) I.bare
 ·obtain⟨_,q1,_,q3,q4,q5⟩:=hf b hb;exact⟨q3,q1,q4,q5⟩
 ·rw[aG (Nat.ne_of_lt (Nat.lt_of_lt_of_le (lt_size e) hp))];exact n
 ·obtain⟨o,es,ep,ho,r⟩:=hm;exact⟨o,es,ep,k _ o (fun z=>(hf _ z).2.1 rfl) ho,r⟩
 ·by_cases hb:b=a
  ·subst hb;rw[bA]at e;cases e;exact new
  ·rw[aG hb]at e;refine(I.hok b u e).stay (fun c v hc q=>k c v ?_ q) (fun c q=>by rw[aG (bM q hn)];exact q) fun c xs _ q=>by rw[aG (bM q hn)];exact q
   rcases hc with z|z
   ·rw[z];exact nit b u e
   ·exact nit c _ z
def Sq(tp:Bool)(K:PySem.W.Frag)(H:Hp)(l:Addr)(xs:HI):Prop:=match tp with
 |true=>SqT K H l xs
 |false=>SqL K H l xs
def AQ(tp:Bool)(h:Heap)(it l:Addr)(i:Nat):Prop:=match tp with
 |true=>h.IsTupleIter it l i
 |false=>h.IsListIter it l i
def Ite(tp:Bool)(K:PySem.W.Frag)(st:Int)(l:Addr):It:=
 ⟨fun i H=>∃xs x,Sq tp K H l xs/\xs[i]?=some x,fun i H v H'=>∃p y,H p=none/\v=.ref p/\H'=upd H p (.tup [.int (st+i),y])/\∀xs,Sq tp K H l xs->xs[i]?=some y,fun i H=>∃xs,Sq tp K H l xs/\xs.length<=i⟩
def AV(I:L2.Inv X gV Y H s)(hq:Sq tp X.K H l xs)(ha:AQ tp s.heap it l i):∃its:HD,aK xs its/\hV s.heap it l its.toArray i/\l≠it/\∀e k old,IsEnum s.heap e it k old->e≠it/\l≠e:=by
 cases tp with
 |false=>
  obtain⟨its,rv,p,_⟩:=I.list hq;obtain⟨o,ho,hc,_⟩:=id p.isList;obtain⟨o2,ho2,hc2,_⟩:=id (show s.heap.IsListIter it l i from ha);refine⟨its,rv,.lst ha p.isList,fun z=>?_,fun e k old he=>⟨fun z=>?_,fun z=>?_⟩⟩
  ·rw[z,ho2]at ho;cases ho;rw[hc2]at hc;exact absurd hc (by decide)
  ·grind
  grind
 |true=>
  obtain⟨its,rv,p,_⟩:=I.tuple hq;have p':s.heap.IsTuple l its.toArray:=p;obtain⟨o,ho,hc,_⟩:=id p';obtain⟨o2,ho2,hc2,_⟩:=id (show s.heap.IsTupleIter it l i from ha);refine⟨its,rv,.tup ha p',fun z=>?_,fun e k old he=>⟨fun z=>?_,fun z=>?_⟩⟩
  ·rw[z,ho2]at ho;cases ho;rw[hc2]at hc;exact absurd hc (by decide)
  ·grind
  grind
def BM(I:L2.Inv X gV Y H s)(h1:Sq tp X.K H l xs)(h2:Sq tp X.K H l ys):xs=ys:=by
 cases tp with
 |false=>exact I.list_inj h1 h2
 |true=>exact I.tuple_inj h1 h2
def Gf(x:hV h it l its i)(hl:tp=true->∃o,h.get? l=some o/\o.cls=.type "tuple")(hl2:tp=false->∃o,h.get? l=some o/\o.cls=.type "list"):AQ tp h it l i:=by
 cases tp with
 |false=>
  obtain⟨o,ho,hc⟩:=hl2 rfl;rcases x with⟨a,b⟩ |⟨a,⟨o2,ho2,hc2,_⟩⟩
  ·exact a
  ·rw[ho]at ho2;cases ho2;rw[hc]at hc2;exact absurd hc2 (by decide)
 |true=>
  obtain⟨o,ho,hc⟩:=hl rfl;rcases x with⟨a,⟨o2,ho2,hc2,_⟩⟩ |⟨a,b⟩
  ·rw[ho]at ho2;cases ho2;rw[hc]at hc2;exact absurd hc2 (by decide)
  ·exact a
def tU{els:List Expr}{x1}(tp:Bool)(st:Int)(l e it:Addr) :
  uV P w K (.Tuple els x1 tpos) (Ite tp K st l) [e,it] e (fun i h=>(∃old,IsEnum h e it (st+i) old)/\AQ tp h it l i) where
 mem:=by simp
 obj:=fun i h st b hb=>by
  obtain⟨⟨old,he⟩,ha⟩:=st;simp only[mem_cons,not_mem_nil,or_false]at hb;rcases hb with rfl|rfl
  ·exact⟨_,he,fun v z=>by cases z⟩
  ·cases tp with
   |false=>obtain⟨o,e,c,d⟩:=id (show h.IsListIter b l i from ha);exact⟨o,e,fun v z=>by rw[d]at z;cases z⟩
   |true=>obtain⟨o,e,c,d⟩:=id (show h.IsTupleIter b l i from ha);exact⟨o,e,fun v z=>by rw[d]at z;cases z⟩
 keep:=fun i h h' st k=>by
  obtain⟨⟨old,he⟩,ha⟩:=st;refine⟨⟨old,k e (by simp) _ he⟩,?_⟩;cases tp with
  |false=>obtain⟨o,e,r⟩:=id (show h.IsListIter it l i from ha);exact⟨o,k it (by simp) o e,r⟩
  |true=>obtain⟨o,e,r⟩:=id (show h.IsTupleIter it l i from ha);exact⟨o,k it (by simp) o e,r⟩
 item:=by
  intro X hP hw hK hc i gV s Y H E I hf stt hg;subst hP hw hK;obtain⟨⟨old,he⟩,ha⟩:=stt;obtain⟨xs,x,hq,hx⟩:=hg;obtain⟨its,rv,hi,hli,hen⟩:=AV I hq ha;obtain⟨hne,hle⟩:=hen e _ old he;obtain⟨u,hu,ru⟩:=rv.get hx;refine zn he hi hne hli hle (x:=u) (by simpa using hu) fun h1 eo in1 tu sz kp=>?_;refine⟨_,rfl,wpAny_letOwnedTupleGo_enum eo fun h2 e2 s2=>?_⟩
  replace s2:SameBut e h1 h2:=s2
  have lte:e<s.heap.objs.size:=lt_size he;have kp2:∀b o,b∉[e,it]->s.heap.get? b=some o->h2.get? b=some o:=fun b o hb q=>by simp only[mem_cons,not_mem_nil,or_false,not_or]at hb;exact s2.extBut b o hb.1 (kp b o hb.1 hb.2 q)
  have tu2:h2.get? s.heap.objs.size=some {cls:=.type "tuple",data:=.seq #[.int (st+i) s.toks,u]}:=s2.extBut _ _ (Nat.ne_of_gt lte) tu;refine⟨.ref s.heap.objs.size,upd H s.heap.objs.size (.tup [.int (st+i),x]),(uD (h':=h2) (t':=s.toks+1) (vs:=[.int (st+i),x]) I hf kp2 (Nat.le_refl _) ⟨by rw[sizeLine_eq];simp,[.int (st+i) s.toks,u],.cons ⟨_,rfl⟩ (.cons ru .nil),⟨_,tu2,rfl,_,rfl⟩⟩ :),rfl,⟨_,x,I.hok.fresh (Nat.le_refl _),rfl,rfl,fun ys hy=>by rw[BM I hy hq];exact hx⟩,⟨⟨u,?_⟩,?_⟩,fun b hb=>?_⟩
  ·have:st+((i+1:Nat):Int)=st+i+1:=by lia
   rw[this];exact e2
  ·have in2:=in1.at (fun o q=>s2.extBut it o hne.symm q) fun o q=>s2.extBut l o hle q;refine Gf in2 (fun z=>?_) fun z=>?_
   ·subst z;obtain⟨_,_,p,_⟩:=I.tuple hq;obtain⟨o,ho,hc,_⟩:=id (show s.heap.IsTuple l _ from p);exact⟨o,kp2 l o (by simp[hle,hli]) ho,hc⟩
   ·subst z;obtain⟨_,_,p,_⟩:=I.list hq;obtain⟨o,ho,hc,_⟩:=id p.isList;exact⟨o,kp2 l o (by simp[hle,hli]) ho,hc⟩
  ·have:b<s.heap.objs.size:=by
    simp only[mem_cons,not_mem_nil,or_false]at hb;rcases hb with rfl|rfl
    ·exact lte
    ·obtain⟨o,ho,_⟩:=hi.obj;exact lt_size ho
   rw[aG (Nat.ne_of_lt this)];exact(hf b hb).1
 done:=by intro X hP hw hK hc i gV s Y H E I hf stt hg;subst hP hw hK;obtain⟨⟨old,he⟩,ha⟩:=stt;obtain⟨xs,hq,hx⟩:=hg;obtain⟨its,rv,hi,hli,hen⟩:=AV I hq ha;obtain⟨f0,f1,f2,f3,f4,f5⟩:=hf it (by simp);have hl:=rv.length;exact Ck (I.ok.hd hc) he hi (by simp;lia) fun h' eb=>⟨rfl,I.turned (t':=s.toks) (fun b o hb e=>eb b o hb e) f0 f1 f3 f4 f5⟩
 self:=fun _ _ _ _ _ st h=>by obtain⟨⟨old,he⟩,_⟩:=st;exact wpAny_pyIter_enum he h
def AJ:bootBuiltins "enumerate"=some (.type "enumerate"):=by decide +kernel
end
def enP(k:Int):HK->HK
 | []=>[]
 |x::xs=>.tup [.int k,x]::enP (k+1) xs
def iV:∀(k:Int) (xs:HK) (i:Nat),(enP k xs)[i]?=(xs[i]?).map fun x=>.tup [.int (k+i),x]
 |_,[],i|k,x::xs,0=>by simp[enP]
 |k,x::xs,i+1=>by
  simp only[enP,getElem?_cons_succ,iV (k+1) xs i];congr 1;funext y;congr 3
  lia
def iU:∀(k:Int) (xs:HK),(enP k xs).length=xs.length
 |_,[]=>rfl
 |k,_::xs=>by simp[enP,iU (k+1) xs]
section
variable{X:Cx}{T:Tb}{W:Nat->St->HJ}{Z:Zn}{F F1 B L:HB}{H H1:Hp}{Y:St}{env:En}{fp:Nat->HE}
def v1(hp:H2 p=none)(r:Rel T F B L H2 x v f):Rel T F B L (upd H2 p (.tup [.int k,v])) (.tup [.int k,x]) (.ref p) f:=by unfold Rel;refine⟨p,_,rfl,SqT.of bA,?_⟩;have r2:Rel T F B L (upd H2 p (.tup [.int k,v])) x v f:=r.ext (Ext.upd hp) fun _ h=>h;unfold RelL;refine⟨.int k,[v],[],f,rfl,dW,?_,rfl⟩;unfold RelL;exact⟨v,[],f,[],rfl,r2,by unfold RelL;exact⟨rfl,rfl⟩,by simp⟩
end
open AutoSeq1 (wpAny_loadPart')
section
variable{prog:Program}{w:World}{A:Around}{R:Result->Shared->Prop}{ia:Addr}{fps wrs:HE}{len:Nat}{Pv:Nat->Value->Prop}{Sv:Nat->Heap->Prop}
def mN:Bool->String|true=>"min"|_=>"max"
def lpB:Bool->Builtin|true=>Builtin.«min.loop»|_=>Builtin.«max.loop»
end
section
variable{X:Cx}{T:Tb}{W:Nat->St->HJ}{Z:Zn}{F F1 B L:HB}{H H1:Hp}{Y:St}{env:En}{fp:Nat->HE}{gV:HA}{s:Shared}
def FG(vs:HI)(P:V->Prop):Prop:=match vs with
 | [v]=>P v
 |_=>False
def zF(h:FG vs P):∃v,vs=[v]/\P v:=by
 match vs,h with
 | [v],h=>exact⟨v,rfl,h⟩
end
open AutoSeq1 (wpAny_loadPart')
section
variable{prog:Program}{w:World}{A:Around}{E:td}{s:Shared}
def dK1(a:Value):checkTypeCall "enumerate" ⟨[a],[]⟩=pure ():=by kernel_rfl
def dK2(a:Value):checkBuiltinCall "enumerate.__new__" ⟨[.type "enumerate",a],[]⟩=pure ():=by kernel_rfl
def dK3(a b:Value):argsOk "object.__init__" ⟨[a,b],[]⟩:=by
 unfold argsOk;rw[signature?_of (id:="object.__init__") (n:=['_','_','t','i','n','i','_','_']) (o:=['t','c','e','j','b','o']) (by kernel_rfl) F.owner_object]
 kernel_rfl
def DV(n:String)(l:Addr) :
  Meets (Builtin.«enumerate.__new__» ⟨[.type "enumerate",.ref l],[]⟩) (fun _ R s=>yG n l s/\R (.ok (.ret (.ref (s.heap.push (itO n l)).objs.size))) {s with heap:=(s.heap.push (itO n l)).push (enO s.heap.objs.size 0)}):=
 .of_wp fun pr w A R s0 h=>by
  obtain⟨hp,g,d,tk,os⟩:=s0;obtain⟨hI,h⟩:=h;have hsub:=sub_enumerate;have hJ:∀{Q:td}{E:td},Q (.ref hp.objs.size) ⟨hp.push (itO n l),g,d,tk,os⟩->wpAny (model pr w) A.in1 (pyIter (.ref l)) Q E ⟨hp,g,d,tk,os⟩:=fun {Q E} q=>hI pr w A.in1 Q E q;have hJ':∀{Q:td}{E:td},Q (.ref hp.objs.size) ⟨hp.push (itO n l),g,d,tk,os⟩->wpAny (model pr w) A (pyIter (.ref l)) Q E ⟨hp,g,d,tk,os⟩:=fun {Q E} q=>hI pr w A Q E q
  wp_walk
  refine wpAny_stack_any fun st=>wpAny_pure ?_;split<;>try (rename_i c _ _ _ _ _;cases(c==Value.type "enumerate"))
  all_goals (wp_walk using hJ,hJ')
  all_goals exact⟨_,rfl,h⟩
def AG(hI:yG n l s)(h:Q (.ref (s.heap.objs.size+1)) {s with heap:=(s.heap.push (itO n l)).push (enO s.heap.objs.size 0)}) :
  wpAny (model prog w) A (call (.type "enumerate") [.ref l] []) Q E s:=by
 have hz:(s.heap.push (itO n l)).objs.size=s.heap.objs.size+1:=size_push ..
 refine uQ (Q1:=fun ob s1=>s1.TypeIs ob "enumerate" /\ Q ob s1) F.called_enumerate (dK1 _) (dK2 _) F.entry_enumerate_new F.entry_object_init (DV n l) ⟨hI,?_⟩ fun ob s1 hq=>⟨hq.1,dK3 ob _,_,Gn F.called_enumerate.init.lookup F.called_enumerate.made (by decide),hq.1,rfl,hq.2⟩
 show _/\_;rw[hz];have:=get?_push_size (s.heap.push (itO n l)) (o:=enO s.heap.objs.size 0) rfl;rw[hz]at this;exact⟨⟨_,this,rfl⟩,h⟩
end
def iN(m:ME):MI:=fun env=>(m env).bind fun x=>match x with
 |.lst f xs=>if !f.HS&&gZ xs then .ok (enP 0 xs)else .stuck
 |.tup xs=>if gZ xs then .ok (enP 0 xs)else .stuck
 |_=>.stuck
section
variable{X:Cx}{T:Tb}{W:Nat->St->HJ}{Z:Zn}{F F1 B L:HB}{H H1:Hp}{Y:St}{env:En}{fp:Nat->HE}{gV:HA}{s:Shared}
def wj{x1}(hg:Gl X "enumerate")(hm:X.mg "enumerate"=none)(hl:PE X l tl)(hs:starEach [l] X.env=[(false,eval l X.env)]:=by rfl) :
  PI X (.Tuple els x1 tpos) (.Call (.Name "enumerate" p) [l] [] pos) (fun Y H R=>tl Y H fun x H1=>∃a tp xs,[x]=[V.ref a]/\Sq tp X.K H1 a xs/\R (Ite tp X.K 0 a) H1):=by
 intro gV s Y H R I h;refine PyProof.Rows.Call_ (jF I hg hm AJ (PyProof.Rows.callWith_type1 (thn (dM (te:=tl) hl gX (by rw[hs];rfl) pos gV s Y H (fun vs H1=>∃a tp xs,vs=[.ref a]/\Sq tp X.K H1 a xs/\R (Ite tp X.K 0 a) H1) I h) fun us s2 ⟨vs,H1,I2,r1,a,tp,xs,ev,hq,q⟩=>?_) (by rw[hs];rfl) rfl));subst ev;obtain⟨u,rfl,rx⟩:=fV r1;cases rx;have hI:∃n,yG n a s2/\∀h',h'.get? s2.heap.objs.size=some (itO n a)->AQ tp h' s2.heap.objs.size a 0:=by
  cases tp with
  |false=>obtain⟨its,rv,pl,_⟩:=I2.list hq;exact⟨"list_iterator",fun _ _ _ _ _ q=>wpAny_pyIter_list pl.isList q,fun h' e=>⟨_,e,rfl,rfl⟩⟩
  |true=>obtain⟨its,rv,pl,_⟩:=I2.tuple hq;exact⟨"tuple_iterator",fun _ _ _ _ _ q=>wpAny_pyIter_tuple (show s2.heap.IsTuple a its.toArray from pl) q,fun h' e=>⟨_,e,rfl,rfl⟩⟩
 obtain⟨n,hI,hA⟩:=hI;have hz:(s2.heap.push (itO n a)).objs.size=s2.heap.objs.size+1:=size_push ..
 have he:((s2.heap.push (itO n a)).push (enO s2.heap.objs.size 0)).get? (s2.heap.objs.size+1)=some (enO s2.heap.objs.size 0):=by have:=get?_push_size (s2.heap.push (itO n a)) (o:=enO s2.heap.objs.size 0) rfl;rw[hz]at this;exact this
 refine AG hI (wpAny_pyIter_enum (i:=0) (old:=.none) he ?_);refine⟨s2.heap.objs.size+1,[s2.heap.objs.size+1,s2.heap.objs.size],_,_,H1,rfl,I2.kept (t':=s2.toks) fun b o e=>get?_push_of_some _ (get?_push_of_some _ e),tU tp 0 a _ _,⟨⟨.none,by simpa using he⟩,hA _ (get?_push_of_some _ (get?_push_size _ rfl))⟩,fun b hb=>?_,q⟩;simp only[mem_cons,not_mem_nil,or_false]at hb;rcases hb with rfl|rfl
 ·exact I2.fpOk (le_succ _) (I2.hok.fresh (le_succ _))
 ·exact I2.fpOk (Nat.le_refl _) (I2.hok.fresh (Nat.le_refl _))
def kN{x1}(hK:X.K=T.K)(hg:Gl X "enumerate")(hm:X.mg "enumerate"=none)(he:SE X T W e m)(hs:starEach [e] X.env=[(false,eval e X.env)]:=by rfl) :
  SI X T W (.Tuple els x1 tpos) (.Call (.Name "enumerate" p) [e] [] pos) (iN m):=fun gV s Y H R I h=>wj hg hm he hs gV s Y H R I (by
 obtain⟨Z,F,env,fp,S,q⟩:=h;unfold iN at q;refine tE.bq S fun x v H1 F1 f1 e1 g1 r1 n1 d1 w1=>?_;rw[e1]at q;simp only[Res.HY]at q;have S1:=S.grow g1;rw[hK];have key:∀(tp:Bool) (a:Addr) (xs:HK) (vs:HI),RelL T F1 Z.B NoL H1 xs vs []->(∀H2,(∀a o,H1 a=some o->¬Own fp a->H2 a=some o)->Sq tp T.K H2 a vs)->ItR T F1 Z.B (Own fp) H1 (Ite tp T.K 0 a) (enP 0 xs):=by intro tp a xs vs hr hq H2 hk;have hq2:=hq H2 hk;refine⟨fun i x ex=>?_,⟨vs,hq2,by rw[iU,hr.length];exact Nat.le_refl _⟩⟩;rw[iV]at ex;obtain⟨y,ey,rfl⟩:=map_eq_some_iff.mp ex;obtain⟨v,_,ev,_,_⟩:=hr.get ey;refine⟨⟨vs,v,hq2,ev⟩,fun w H3 hy=>?_⟩;obtain⟨p,y',hp,rfl,rfl,hall⟩:=hy;have:=hall vs hq2;rw[ev]at this;cases this;exact⟨Ext.upd hp,v1 hp (g6 S1.fow S1.bow S1.oow hk hr ey ev)⟩
 cases x with
 |lst f xs=>
  dsimp only at q;by_cases hc:(!f.HS&&gZ xs)=true
  ·rw[if_pos hc]at q;rw[and_eq_true]at hc;unfold Rel at r1;obtain⟨a,vs,fp',rfl,hl,hr,hf⟩:=r1;obtain⟨rfl,hr'⟩:=iF hc.2 hr;refine⟨a,false,vs,rfl,hl.sq,q _ H1 F1 g1 (key false a xs vs hr' fun H2 hk=>?_)⟩;have na:f≠.mod->∀o,H1 a=some o->H2 a=some o:=fun hn o ho=>by
    refine hk a o ho ?_;cases f with
    |own=>rintro⟨i,hi⟩;obtain⟨_,o',ho'⟩:=S.dis i a hi;obtain rfl:f1=[a]:=hf;rw[w1 a mem_cons_self]at ho';cases ho'
    |frz=>exact S1.fow a hl.1
    |bor=>exact S1.bow a hl.1
    |lnt=>exact absurd hc.1 (by decide)
    |mod=>exact absurd rfl hn
   show SqL T.K H2 a vs;by_cases hn:f=.mod
   ·subst hn;exact .inr hl
   ·exact .inl (Rd.tr (na hn) (hl.rd hn))
  ·rw[if_neg hc]at q;exact q.elim
 |tup xs=>
  dsimp only at q;by_cases hc:gZ xs=true
  ·rw[if_pos hc]at q;unfold Rel at r1;obtain⟨a,vs,rfl,hl,hr⟩:=r1;obtain⟨rfl,hr'⟩:=iF hc hr;refine⟨a,true,vs,rfl,hl,q _ H1 F1 g1 (key true a xs vs hr' fun H2 hk=>?_)⟩;exact SqT.tr (fun o ho hfx=>hk a o ho fun z=>by
    have:=S1.oow a o z ho;cases o with
    |lst _|ins _ _ _=>exact hfx
    |_=>exact this) hl
  ·rw[if_neg hc]at q;exact q.elim
 |_=>exact q.elim)
end
def pW(P:Params):List DictEntry->List (Str×Int)->Prop
 | [],[]=>True
 |e::es,kv::kvs=>(∃t u,e=⟨PyData.keyHash P kv.1,.str kv.1 t,.int kv.2 u⟩)/\pW P es kvs
 |_,_=>False
structure gS(w:World)(K:PySem.W.Frag)(d:Addr)(kvs:List (Str×Int)):Prop where
 ne:(d==sysModules)=false
 ex:∃(es:List DictEntry) (ep:Nat),K.lookup d=some {cls:=.type "dict",dict:=none,data:=.dict es.toArray ep,slots:=#[]}/\pW w.params es kvs
def look(kvs:List (Str×Int))(k:Str):HG:=(kvs.find? fun p=>p.1==k).map (·.2)
def GH(f:Hz)(kvs:List (Str×Int)):Prop:=∀k,match look kvs k with
 |some i=>∃u,f k=some (.int i u)
 |none=>f k=none
def sX:∀{es:List DictEntry}{kvs:List (Str×Int)},pW P es kvs->GH (fun k=>(es.find? fun e=>Value.isStrOf k e.key).map (·.val)) kvs
 | [],[],_=>fun k=>rfl
 | [],_::_,h|_::_,[],h=>h.elim
 |e::es,kv::kvs,h=>fun k=>by
  obtain⟨⟨t,u,rfl⟩,h2⟩:=h;have ih:=sX h2 k;simp only[look,List.find?_cons,Value.isStrOf]at ih ⊢;by_cases q:(kv.1==k)=true
  ·simp only[q,map_some];exact⟨u,rfl⟩
  ·simp only[q];exact ih
def pV:∀{es:List DictEntry}{kvs:List (Str×Int)},pW P es kvs->∀e∈es,∃k t,e.key=.str k t/\e.hash=PyData.keyHash P k
 | [],_,_=>fun e he=>nomatch he
 |_::_,[],h=>h.elim
 |e::es,kv::kvs,h=>fun e' he=>by
  obtain⟨⟨t,u,rfl⟩,h2⟩:=h;rcases mem_cons.mp he with rfl|he
  ·exact⟨kv.1,t,rfl,rfl⟩
  ·exact pV h2 e' he
def gS.map(hD:gS w K d kvs)(hI:K.In h):∃f,h.MapOf (strKind prog w) d f/\GH f kvs:=by
 obtain⟨es,ep,hl,he⟩:=hD.ex;refine⟨_,⟨_,es.toArray,ep,hI _ _ hl,⟨rfl,rfl,rfl⟩,rfl,fun e hm=>?_,fun k=>rfl⟩,?_⟩
 ·obtain⟨k,t,h1,h2⟩:=pV he e (by simpa using hm);refine⟨k,?_,h2⟩;rw[h1];show(k==k)=true;simp
 ·intro k;have:=sX he k;simpa[findBy,strKind]using this
section
variable{X:Cx}{T:Tb}{W:Nat->St->HJ}{Z:Zn}{F F1 B L:HB}{H H1:Hp}{Y:St}{env:En}{fp:Nat->HE}{d:Addr}{kvs:List (Str×Int)}
def r6(d:Addr)(kvs:List (Str×Int)):R2:=fun x y H Q=>∃k,x=.str k/\y=.ref d/\Q (.bl (!(look kvs k).isSome)) H
def CC(hD:gS X.w X.K d kvs):OpR X (compareOp .NotIn) (r6 d kvs):=by
 intro gV s Y H x y v u Q I rx ry h;obtain⟨k,rfl,rfl,q⟩:=h;obtain⟨t,rfl⟩:=rx;cases ry;obtain⟨f,hm,hf⟩:=hD.map (prog:=X.prog) I.kIn;refine wpAny_notIn_of (knd:=strKind X.prog X.w) (k:=k) (by show(k==k)=true;simp) hD.ne hm ⟨.bl (!(look kvs k).isSome),H,I.tok _,?_,q⟩;have:=hf k;cases e:look kvs k with
 |none=>rw[e]at this;rw[show f k=none from this];rfl
 |some i=>rw[e]at this;obtain⟨u,hu⟩:=this;rw[hu];rfl
def A6(d:Addr)(kvs:List (Str×Int)):R2:=fun x y H Q=>∃k i,x=.ref d/\y=.str k/\look kvs k=some i/\Q (.int i) H
def z9(hD:gS X.w X.K d kvs):IxR X (A6 d kvs):=by
 intro value slice gV s Y H x y v u Q I rx ry h hs;obtain⟨k,i,rfl,rfl,e,q⟩:=h;cases rx;obtain⟨t,rfl⟩:=ry;obtain⟨f,hm,hf⟩:=hD.map (prog:=X.prog) I.kIn;have:=hf k;rw[e]at this;obtain⟨u,hu⟩:=this;exact PyProof.Rows.subscriptTail_builtinR (x:=.int i u) hm.typeIs PySem.F.slot_dict_getitem.lookup
  (wpAny_getItem_of (knd:=strKind X.prog X.w) (k:=k) (Q:=fun r s'=>r=.int i u/\EP X gV Y Q r s') (by show(k==k)=true;simp) hm hu ⟨rfl,.int i,H,I.tok _,⟨u,rfl⟩,q⟩) hs
def ko(kvs:List (Str×Int)):PV->HL
 |.str k=>.ok (.bl (!(look kvs k).isSome))
 |_=>.stuck
def jZ(kvs:List (Str×Int)):PV->HL
 | .str k=>(match look kvs k with
  |some i=>.ok (.int i)
  |none=>.stuck)
 |_=>.stuck
def qB:yF T W (ko kvs) (fun x H Q=>r6 d kvs x (.ref d) H Q):=by
 intro B F L Y H Q F' H' x v fx g rx nf nd new q;cases x with
 |str k=>unfold Rel at rx;exact⟨k,rx.1,rfl,q.scal g fK⟩
 |_=>exact q.elim
def wT:yF T W (jZ kvs) (fun x H Q=>A6 d kvs (.ref d) x H Q):=by
 intro B F L Y H Q F' H' x v fx g rx nf nd new q;cases x with
 |str k=>
  unfold Rel at rx;unfold jZ at q;dsimp only at q;cases e:look kvs k with
  |none=>rw[e]at q;exact q.elim
  |some i=>rw[e]at q;exact⟨k,i,rfl,rx.1,e,q.scal g dW⟩
 |_=>exact q.elim
def rT(hg:Gl X x)(hm:X.mg x=some (.ref d))(hD:gS X.w X.K d kvs)(he:SE X T W e m)(hs:ja e)(hd:(x ==("__debug__":Str))=false:=by decide):SE X T W (.Subscript (.Name x px) e pos) (mUn (jZ kvs) m):=
 PE.wk (A_ (pos:=pos) (z9 hD) (gD (v:=.ref d) (pos:=px) hg hm rfl hd) he hs) fun _ _ _ h=>tE.mir1 wT h
def tZ(hg:Gl X x)(hm:X.mg x=some (.ref d))(hD:gS X.w X.K d kvs)(he:SE X T W e m)(hd:(x ==("__debug__":Str))=false:=by decide):ST X T W (.Compare e [.NotIn] [.Name x px] pos) (aA (mUn (ko kvs) m)):=
 PT.wk (nR (pos:=pos) (CC hD) he (gD (v:=.ref d) (pos:=px) hg hm rfl hd) rfl) fun Y H Q h=>by obtain⟨Z,F,env,fp,S,q⟩:=tT.test h;exact tE.mir1 qB ⟨Z,F,env,fp,S,q⟩
end
def qG(i j:Nat):MS:=fun env=>match env[i]?,env[j]? with
 |some (some v),some (some w)=>if i=j then .stuck else .ret (.tup [v,w])
 |_,_=>.stuck
section
variable{X:Cx}{T:Tb}{W:Nat->St->HJ}{Z:Zn}{F F1 B L:HB}{H H1:Hp}{Y:St}{env:En}{fp:Nat->HE}{D:Ends}
def vy{x1}(hN:X.N[i]?=some x)(hv:Vis X.env.scope x)(hN2:X.N[j]?=some y)(hv2:Vis X.env.scope y)(hd:(x ==("__debug__":Str))=false:=by decide)(hcd:(x ==("__classdict__":Str))=false:=by decide)(hd2:(y ==("__debug__":Str))=false:=by decide)(hcd2:(y ==("__classdict__":Str))=false:=by decide) :
  SS X T W (.Return (some (.Tuple [.Name x px,.Name y py] x1 tpos)) pos) (qG i j):=
 PS.wk (nS (pos:=pos) (qr (pos:=tpos) (dM (te:=yR i) (fN (pos:=px) hN hv hd hcd) (dM (te:=yR j) (fN (pos:=py) hN2 hv2 hd2 hcd2) gX)))) fun D Y H hz1=>by
  obtain⟨Z,F,env,fp,S,q⟩:=hz1;unfold qG at q;split at q
  case h_2=>exact q.elim
  rename_i pv pw ei ej
  split at q
  case isTrue=>exact q.elim
  rename_i hij
  obtain⟨v,e1,r1⟩:=S.rel i pv ei;obtain⟨w,e2,r2⟩:=S.rel j pw ej;refine⟨v,e1,w,e2,rK (by simp),fun p hp=>?_⟩;have g:Gr F H F (upd H p (.tup [v,w])):=Gr.same S.hp.ft (Ext.upd hp);have S2:=S.grow g;obtain⟨v',e1',r1'⟩:=S2.rel i pv ei;obtain⟨w',e2',r2'⟩:=S2.rel j pw ej;rw[e1]at e1';cases e1';rw[e2]at e2';cases e2';refine q F (upd H p (.tup [v,w])) (.ref p) (fp i++fp j) S2.hp ?_ (nodup_append.mpr ⟨S.nd i,S.nd j,fun a ha b hb z=>?_⟩) (fun a ha=>?_) (fun a ha=>?_)
  ·unfold Rel;refine⟨p,_,rfl,SqT.of bA,?_⟩;unfold RelL;refine⟨v,[w],fp i,fp j,rfl,r1',?_,rfl⟩;unfold RelL;exact⟨w,[],fp j,[],rfl,r2',by unfold RelL;exact⟨rfl,rfl⟩,by simp⟩
  ·subst z;exact S.dj i j hij a ha hb
  ·rcases mem_append.mp ha with h|h
   ·exact(S2.dis i a h).1
   ·exact(S2.dis j a h).1
  ·rcases mem_append.mp ha with h|h
   ·exact S.new i a h
   ·exact S.new j a h
end
section
variable{P:Program}{w:World}{mg:Hz}{base:Heap}{T:Tb}
def DC(F:Fun T.K x qual st f fd)(S:cG N ps (az st))
  (body:∀ (cdv:Value) (A:Around) (outer:List Env) (s:Shared) (H:Hp) (E:XK),Ctx (dv (CXP P w) P w T.K mg base N qual (az st) f cdv A outer s H E) T (WD T E) k ->
   SSs (dv (CXP P w) P w T.K mg base N qual (az st) f cdv A outer s H E) T (WD T E) (bc st) m):b9 P w T.K mg base (CXP P w) (k+1) f fd ps (spM T ps.length (bj N.length m)):=
 Gv F S fun cdv A outer s H E hr=>body cdv A outer s H E (ow hr)
def Ah(F:Fun T.K x qual st f fd)(S:cG N ps (az st))
  (body:∀ (cdv:Value) (A:Around) (outer:List Env) (s:Shared) (H:Hp) (E:XK),Ctx (dv (CXP P w) P w T.K mg base N qual (az st) f cdv A outer s H E) T (WD T E) k ->
   SSs (dv (CXP P w) P w T.K mg base N qual (az st) f cdv A outer s H E) T (WD T E) (bc st) m):b9 P w T.K mg base (CXP P w) (k+1) f fd ps (spI T ps.length (o4 N.length m)):=
 DE F S fun cdv A outer s H E hr=>body cdv A outer s H E (ow hr)
end
section
variable{prog:Program}{w:World}{A:Around}{E:td}{s:Shared}
abbrev emL(c:Nat):Obj:={cls:=.type "list",data:=.seq #[] c}
abbrev fuL(xs:HH)(c:Nat):Obj:={cls:=.type "list",dict:=none,data:=.seq xs c,slots:=#[]}
def wZ:typeLookup (.type "list_reverseiterator") "__len__"=pure none:=by rw[typeLookup_type,builtinLookup_eq_fast];kernel_rfl
def zW:typeLookup (.type "list_reverseiterator") "__length_hint__"=pure (some (.builtin "list_reverseiterator.__length_hint__")):=by rw[typeLookup_type,builtinLookup_eq_fast];kernel_rfl
def AS(items:HH)(i:Nat)(v:Value):Prop:=items[items.size-1-i]?=some v
def DQ(hh:A.handled=none)(hS:s.heap.get? S=some (emL c₀))(hit:s.heap.IsRevIter it l ((items.size:Int)-1))(hl:s.heap.IsList l items)(hne:l≠it)(hSi:S≠it)(hSl:S≠l)(hz:items.size<=1000000)
  (hR:∀h' tk acc c,(∀b o,b≠S->b≠it->s.heap.get? b=some o->h'.get? b=some o)->h'.get? S=some (fuL acc c)->ItemsOf (AS items) acc items.size->R (.ok (.ret .none)) {s with heap:=h',toks:=tk}) :
  wpAny (model prog w) A.in1 (Builtin.List.listExtendWith (.ref S) (.ref it) .none)
   (fun fin s'=>match fin with|.done f=>R (.ok f) s'|.again c'=>c'.quiet=true/\codeAny (model prog w) A c' R s') (fun e s'=>R (.error e) s') s:=by
 have W:=(Walks.listRev (prog:=prog) (w:=w) (A:=A.in1) hh it l hne items).toS;have n1:Builtin.List.listSameRef (.ref S) (.ref it)=false:=by simp[Builtin.List.listSameRef,hSi]
 unfold Builtin.List.listExtendWith;refine wpAny_bind (wpAny_typeOf hit.typeIs ?_);rw[if_neg (by rw[n1];decide)];refine wpAny_bind (wpAny_pyIter_revIter hit (wpAny_bind (wpAny_holding ?_)));unfold Builtin.List.listLengthHint;refine wpAny_bind (wpAny_specialOf hit.typeIs wZ ?_);show wpAny _ _ (specialOf (.ref it) (Str.ofString "__length_hint__") >>= _) _ _ s;refine wpAny_bind (wpAny_specialOf hit.typeIs zW ?_);generalize hid:("list_reverseiterator.__length_hint__":String)=id0
 wp_delta
 rw[show splitId id0=some ("list_reverseiterator","__length_hint__")from by subst hid;decide +kernel];subst hid;refine wpAny_bind (wpAny_isInstance (b:=true) hit.typeIs (by rw[isSubtype_type];kernel_rfl) (wpAny_pure ?_));rw[if_neg (by decide)];refine wpAny_pure ⟨plainId_quiet F.plain_extend_loop _,codeAny_extend_loopS W (by rw[sizeLine_eq];lia) S (by simp[hSi,hSl]) .none items.size 0 s #[] c₀ rfl (zero_le _) ⟨zero_le _,by simpa using hit,hl⟩ hS (ItemsOf.nil _) fun s' acc c hm hS' ha=>?_⟩;rw[Moved.eq_with hm];exact hR s'.heap s'.toks acc c (fun b o h1 h2 e=>hm.heap b o (by simp[h1,h2]) e) hS' ha
def p4(hh:A.handled=none)(hit:s.heap.IsRevIter it l ((items.size:Int)-1))(hl:s.heap.IsList l items)(hne:l≠it)(hz:items.size<=1000000)
  (hQ:∀h' tk acc c,(∀b o,b≠it->s.heap.get? b=some o->h'.get? b=some o)->h'.get? s.heap.objs.size=some (fuL acc c)->ItemsOf (AS items) acc items.size->Q (.ref s.heap.objs.size) {s with heap:=h',toks:=tk}) :
  wpAny (model prog w) A (call (.type "list") [.ref it]) Q E s:=by
 have lt1:it<s.heap.objs.size:=by obtain⟨o,e,_⟩:=id hit;exact lt_size e
 have lt2:l<s.heap.objs.size:=by obtain⟨o,e,_⟩:=id hl;exact lt_size e
 refine callType_codes (Q₁:=fun ob s1=>ob=.ref s.heap.objs.size/\s1={s with heap:=s.heap.push (emL 0)}) F.called_list (F.typeCall_list_1 _) F.entry_list_init (code_list_new _ ⟨rfl,rfl⟩) fun ob s1 hq=>?_;obtain⟨rfl,rfl⟩:=hq;have hS:(s.heap.push (emL 0)).get? s.heap.objs.size=some (emL 0):=get?_push_size _ rfl;refine⟨⟨_,hS,rfl⟩,F.args_list_init_2 _ _,?_⟩;show wpAny _ A.in1.in1 (Builtin.List.listItems (.ref s.heap.objs.size) >>= fun old=>Builtin.List.listUpdate (.ref s.heap.objs.size) (fun _=>#[]) >>= fun _=>letGo old.toList.reverse >>= fun _=>Builtin.List.listExtendWith (.ref s.heap.objs.size) (.ref it) .none) _ _ _;refine wpAny_bind ?_;unfold Builtin.List.listItems;refine wpAny_bind (wpAny_seqItems hS rfl (wpAny_pure (wpAny_bind ?_)));show wpAny _ A.in1.in1 (updateSeq s.heap.objs.size (fun _=>#[])) _ _ _;refine wpAny_updateSeq hS rfl (wpAny_bind (wpAny_letGo ?_));have hS2:=Heap.get?_update_self (Obj.mapSeq (fun _=>(#[]:HH))) hS rfl;have ot:∀b o,b≠s.heap.objs.size->s.heap.get? b=some o->((s.heap.push (emL 0)).update s.heap.objs.size (Obj.mapSeq (fun _=>(#[]:HH)))).get? b=some o:=fun b o hb e=>(get?_update_other _ _ (Ne.symm hb)).trans (get?_push_of_some _ e);refine DQ (A:=A.in1) (c₀:=0) hh hS2 (hit.at fun o e=>ot _ o (Nat.ne_of_lt lt1) e) (hl.at fun o e=>ot _ o (Nat.ne_of_lt lt2) e) hne (Ne.symm (Nat.ne_of_lt lt1)) (Ne.symm (Nat.ne_of_lt lt2)) hz fun h' tk acc c kp e1 e2=>?_;exact⟨rfl,hQ h' tk acc c (fun b o hb e=>kp b o (Nat.ne_of_lt (lt_size e)) hb (ot b o (Nat.ne_of_lt (lt_size e)) e)) e1 e2⟩
end
section
variable{X:Cx}{T:Tb}{W:Nat->St->HJ}{Z:Zn}{F F1 B L:HB}{H H1:Hp}{Y:St}{env:En}{fp:Nat->HE}{gV:HA}{s:Shared}
def rLR(K:PySem.W.Frag):V->Hp->VK->Prop:=fun v H Q=>∃(p:Addr) (ns:HC),v=.ref p/\SqL K H p (ns.map V.int)/\ns.length<=1000000/\∀l,H l=none->Q (.ref l) (upd H l (.lst (ns.reverse.map V.int)))
def D4:bootBuiltins "reversed"=some (.type "reversed"):=by decide +kernel
def uT{ns:HC}{its:HD}(r:aK (ns.map V.int) its)(ha:ItemsOf (AS its.toArray) acc its.toArray.size):aK (ns.reverse.map V.int) acc.toList:=by
 have hl:its.length=ns.length:=by simpa using r.length.symm
 have hz:acc.size=ns.length:=by rw[ha.1];simpa using hl
 refine rp _ _ (by simp[hz]) fun i x y e1 e2=>?_;have hi:i<ns.length:=by have:=(List.getElem?_eq_some_iff.mp e1).1;simpa using this
 have:=ha.2 i y (by simpa using e2);unfold AS at this;obtain⟨t,rfl⟩:=kx r _ _ this;rw[getElem?_map,List.getElem?_reverse hi]at e1;have hk:ns.length-1-i<ns.length:=by lia
 rw[getElem?_eq_getElem hk]at e1;cases e1;refine⟨t,?_⟩;have hs:its.toArray.size-1-i=ns.length-1-i:=by simp[hl]
 rw[hs];simp[hk]
def qu(hc:X.calm=true)(hg:Gl X "list")(hm:X.mg "list"=none)(hg2:Gl X "reversed")(hm2:X.mg "reversed"=none)(he:PE X e te)(hs:starEach [e] X.env=[(false,eval e X.env)]:=by rfl)
  (hs2:starEach [.Call (.Name "reversed" p2) [e] [] pos2] X.env=[(false,eval (.Call (.Name "reversed" p2) [e] [] pos2) X.env)]:=by rfl):PE X (.Call (.Name "list" p) [.Call (.Name "reversed" p2) [e] [] pos2] [] pos) (tUn (rLR X.K) te):=by
 intro gV s Y H Q I h;refine PyProof.Rows.Call_ (jF I hg hm AH (PyProof.Rows.callWith_type1 ?_ (by rw[hs2];rfl) rfl));rw[hs2];refine Calls.spliced_cons (PyProof.Rows.Call_ (jF I hg2 hm2 D4 (PyProof.Rows.callWith_type1 (thn (dM (te:=te) he gX (by rw[hs];rfl) pos2 gV s Y H (fun vs H1=>FG vs fun v=>rLR X.K v H1 Q) I h) fun us s1 ⟨vs,H1,I1,r1,q1⟩=>?_) (by rw[hs];rfl) rfl)));obtain⟨v,rfl,a,ns,rfl,hq,hz,q⟩:=zF q1;obtain⟨u,rfl,rx⟩:=fV r1;cases rx;obtain⟨its,rv,pl,_⟩:=I1.list hq;have hl:its.length=ns.length:=by simpa using rv.length.symm
 have lt:a<s1.heap.objs.size:=by obtain⟨o,e,_⟩:=id pl.isList;exact lt_size e
 refine call_reversed_list pl.isList (Calls.spliced_nil ?_);have hsz:(s1.heap.push (revObj a ((its.toArray.size:Int)-1))).objs.size=s1.heap.objs.size+1:=size_push ..
 refine p4 (it:=s1.heap.objs.size) (l:=a) (items:=its.toArray) (I1.ok.hd hc) ⟨_,get?_push_size _ rfl,rfl,rfl⟩ (pl.isList.push _) (Nat.ne_of_lt lt) (by simp[hl];lia) fun h' tk acc c kp e1 e2=>?_;rw[hsz]at e1 ⊢;refine⟨.ref (s1.heap.objs.size+1),_,I1.laid (t':=tk) (fun b o e=>kp b o (Nat.ne_of_lt (lt_size e)) (get?_push_of_some _ e)) (le_succ _) ?_,rfl,q _ (I1.hok.fresh (le_succ _))⟩;exact⟨by rw[sizeLine_eq];simp;lia,acc.toList,c,uT rv e2,by simpa using e1⟩
def fw:PV->HL
 | .lst _ xs=>(match bI xs with
  |some ns=>if ns.length<=1000000 then .ok (.lst .own (ns.reverse.map .int))else .stuck
  |none=>.stuck)
 |_=>.stuck
def pE(hK:X.K=T.K):yF T W fw (rLR X.K):=by
 intro B F L Y H Q F' H' x v fx g rx nf nd new q;cases x with
 |lst f xs=>
  unfold fw at q;dsimp only at q;cases e:bI xs with
  |none=>rw[e]at q;exact q.elim
  |some ns=>
   rw[e]at q;dsimp only at q;split at q
   case isFalse=>exact q.elim
   rename_i hz
   unfold Rel at rx;obtain⟨a,vs,fp',rfl,hl,hr,hf⟩:=rx;have hu:=dF e hr;subst hu;exact⟨a,ns,rfl,by rw[hK];exact hl.sq,hz,GE.newL q g (zf _) (fun _ h=>by cases h) .nil (fun _ h=>by cases h)⟩
 |_=>exact q.elim
def qm(hK:X.K=T.K)(hc:X.calm=true)(hg:Gl X "list")(hm:X.mg "list"=none)(hg2:Gl X "reversed")(hm2:X.mg "reversed"=none)(he:SE X T W e m)(hs:starEach [e] X.env=[(false,eval e X.env)]:=by rfl)
  (hs2:starEach [.Call (.Name "reversed" p2) [e] [] pos2] X.env=[(false,eval (.Call (.Name "reversed" p2) [e] [] pos2) X.env)]:=by rfl):SE X T W (.Call (.Name "list" p) [.Call (.Name "reversed" p2) [e] [] pos2] [] pos) (mUn fw m):=
 PE.wk (qu hc hg hm hg2 hm2 he hs hs2) fun _ _ _ h=>tE.mir1 (pE hK) h
end
section
variable{X:Cx}{T:Tb}{W:Nat->St->HJ}{Z:Zn}{F F1 B L:HB}{H H1:Hp}{Y:St}{env:En}{fp:Nat->HE}
def ke:Rel T F B L H (.str x) (.str x) []:=by unfold Rel;exact⟨rfl,rfl⟩
def mU(C:Str->Str->Bool)(g:Str->Str->PV):PV->PV->HL
 |.str i,.str j=>if C i j then .ok (g i j)else .stuck
 |_,_=>.stuck
def wU{C:Str->Str->Prop}{C':Str->Str->Bool}{g:Str->Str->V}{g':Str->Str->PV}(hc:∀i j,C' i j=true->C i j)(hg:∀i j F B L H,Rel T F B L H (g' i j) (g i j) []):jb T W (mU C' g') (fun x y H Q=>∃i j,x=.str i/\y=.str j/\C i j/\Q (g i j) H):=by
  intro B F L Y H Q F' H' x y v u fx fy gr rx ry _ _ _ q;cases x<;>cases y<;>first
    |exact q.elim
    | (unfold Rel at rx ry
       simp only[mU]at q;split at q
       . rename_i hh
         exact⟨_,_,rx.1,ry.1,hc _ _ hh,q.scal gr (hg _ _ _ _ _ _)⟩
       . exact q.elim)
def inS(i j:Str):Bool:=!(Builtin.Str.occurrences j i 0 j.length 1).isEmpty
def CH:OpR X (compareOp .In) (fun x y H Q=>∃i j,x=.str i/\y=.str j/\True/\Q (.bl (inS i j)) H):=by intro gV s Y H x y v u Q I rx ry h;obtain⟨i,j,e1,e2,_,q⟩:=h;exact uo gV s Y H x y v u Q I rx ry ⟨i,j,e1,e2,q⟩
def zw:PV->PV->HL:=mU (fun _ _=>true) fun i j=>.bl (inS i j)
def zB:OpR X (binaryOp .Add) (fun x y H Q=>∃i j,x=.str i/\y=.str j/\i.length+j.length<=sizeLine/\Q (.str (i++j)) H):=qv
def b8:PV->PV->HL:=mU (fun i j=>decide (i.length+j.length<=10000)) fun i j=>.str (i++j)
def dJ(ha:SE X T W a ma)(hb:SE X T W b mb):SE X T W (.BinOp a .Add b pos) (mOp b8 ma mb):=
 gK zB (wU (fun i j h=>by rw[sizeLine_eq];have:=of_decide_eq_true h;lia) fun _ _ _ _ _ _=>ke) ha hb
def BX(ha:SE X T W a ma)(hb:SE X T W b mb)(hk:behindInMarks .In b=false:=by with_unfolding_all rfl):SE X T W (.Compare a [.In] [b] pos) (mOp zw ma mb):=jo CH (wU (fun _ _ _=>True.intro) fun _ _ _ _ _ _=>fK) ha hb hk
def eM(C:Str->Bool)(g:Str->PV):PV->HL
 |.str i=>if C i then .ok (g i)else .stuck
 |_=>.stuck
def wV{C:Str->Prop}{C':Str->Bool}{g:Str->V}{g':Str->PV}(hc:∀i,C' i=true->C i)(hg:∀i F B L H,Rel T F B L H (g' i) (g i) []):Mir T W (p1 (eM C' g')) (fun xs H Q=>∃i,xs=[.str i]/\C i/\Q (g i) H):=by
  intro B F L Y H Q F' H' xs vs fx gr r _ _ _ q;cases xs with
  |nil=>exact q.elim
  |cons x xs=>
    cases xs with
    |cons _ _=>exact q.elim
    |nil=>
      obtain⟨v,rfl,rv⟩:=r.one;cases x<;>first
        |exact q.elim
        | (unfold Rel at rv
           simp only[p1,eM]at q;split at q
           . rename_i hh
             obtain⟨rfl,_⟩:=rv;exact⟨_,rfl,hc _ hh,q.scal gr (hg _ _ _ _ _)⟩
           . exact q.elim)
def rR(hg:Gl X "len")(hm:X.mg "len"=none)(ha:SE X T W e m)(he:starEach [e] X.env=[(false,eval e X.env)]:=by rfl):SE X T W (.Call (.Name "len" p) [e] [] pos) (ao (p1 (eM (fun z=>decide (z.length<=10000)) fun z=>.int z.length)) (ae m ak)):=
 ie oz (wV (C:=fun z=>z.length<=sizeLine) (g:=fun z=>.int z.length) (fun z h=>by rw[sizeLine_eq];have:=of_decide_eq_true h;lia) fun _ _ _ _ _=>dW) hg hm PySem.boot_len (aa ha ah he) (he:=he)
def uP:eV X (.type "int") (fun xs H Q=>∃z,xs=[.str z]/\(z.length<=640/\(PySem.intText? z).isSome)/\Q (.int ((PySem.intText? z).getD 0)) H):=by intro gV s Y H xs us Q I r h;obtain⟨z,rfl,⟨hl,hi⟩,q⟩:=h;obtain⟨u,rfl,ru⟩:=aK.one r;obtain⟨t,rfl⟩:=ru;obtain⟨n,hn⟩:=isSome_iff_exists.mp hi;rw[hn]at q;exact PySem.W.KIN.call_text hn hl ⟨.int n,H,I.tok _,⟨_,rfl⟩,q⟩
def AI:bootBuiltins "int"=some (.type "int"):=by decide +kernel
def tD:bootBuiltins "str"=some (.type "str"):=by decide +kernel
def nK(hg:Gl X "int")(hm:X.mg "int"=none)(ha:SE X T W e m)(he:starEach [e] X.env=[(false,eval e X.env)]:=by rfl):SE X T W (.Call (.Name "int" p) [e] [] pos) (ao (p1 (eM (fun z=>decide (z.length<=640)&&(PySem.intText? z).isSome) fun z=>.int ((PySem.intText? z).getD 0))) (ae m ak)):=
 fq uP (wV (fun z h=>by simpa using h) fun _ _ _ _ _=>dW) hg hm AI (aa ha ah he) (he:=he)
def dP:PV->HL
 |.int i=>if i.natAbs<2 ^ 1000 then .ok (.str (PySem.Str.ofString (toString i)))else .stuck
 |_=>.stuck
def pD:Mir T W (p1 dP) (fun xs H Q=>∃i,xs=[.int i]/\i.natAbs.log2<1920/\Q (.str (toString i)) H):=by
  intro B F L Y H Q F' H' xs vs fx gr r _ _ _ q;cases xs with
  |nil=>exact q.elim
  |cons x xs=>
    cases xs with
    |cons _ _=>exact q.elim
    |nil=>
      obtain⟨v,rfl,rv⟩:=r.one;cases x<;>first
        |exact q.elim
        | (unfold Rel at rv
           simp only[p1,dP]at q;split at q
           . rename_i i hh
             obtain⟨rfl,_⟩:=rv;refine⟨i,rfl,?_,q.scal gr ke⟩;by_cases h0:i.natAbs=0
             . rw[h0];decide
             . exact Nat.lt_trans ((Nat.log2_lt h0).mpr hh) (by decide)
           . exact q.elim)
def gC(hg:Gl X "str")(hm:X.mg "str"=none)(ha:SE X T W e m)(he:starEach [e] X.env=[(false,eval e X.env)]:=by rfl):SE X T W (.Call (.Name "str" p) [e] [] pos) (ao (p1 dP) (ae m ak)):=
 fq i6 pD hg hm tD (aa ha ah he) (he:=he)
def zg:V->HI->Hp->VK->Prop:=fun x vs H Q=>∃z y,x=.str z/\vs=[.str y]/\Q (.bl (PySem.Txt.startswith z y)) H
def ur:MtM X "str.startswith" zg:=by intro gV s Y H x vs v us Q I rx rv h;obtain⟨z,y,rfl,rfl,q⟩:=h;obtain⟨t,rfl⟩:=rx;obtain⟨u,rfl,ru⟩:=aK.one rv;obtain⟨t2,rfl⟩:=ru;exact PySem.SC.startswith ⟨.bl _,H,I,rfl,q⟩
def dh(mo mk:ME):ME:=fun env=>(mo env).bind fun x=>match x,mk env with
 |.str z,.ok (.str y)=>.ok (.bl (PySem.Txt.startswith z y))
 |_,_=>.stuck
def jk(ho:SE X T W o mo)(hk:SE X T W k mk)(hbase:attributeBase o "startswith" X.env (eval o X.env)=eval o X.env:=by rfl)
  (hst:starEach [k] X.env=[(false,eval k X.env)]:=by rfl)
  (hfew:((backTo cpos (starEach [k] X.env)).all (fun x=>!x.1)&&(backToKw cpos (keywordEach [] X.env)).all (fun x=>x.1.isSome)&&decide ([k].length+([]:List Keyword).length+(if([]:List Keyword).isEmpty then 0 else 1)<30))=true:=by rfl)
  (hline:(apos.endLine==cpos.line)=true:=by rfl):SE X T W (.Call (.Attribute o "startswith" apos) [k] [] cpos) (dh mo mk):=
 PE.wk (r9 (cpos:=cpos) (apos:=apos) PySem.F.plainAttrs_str PySem.F.slot_str_startswith PySem.F.type_str_startswith ur ho (aa hk ah hst) hbase hfew hline hst) fun Y H Q hz1=>by
  obtain⟨Z,F,env,fp,S,q⟩:=hz1;unfold dh at q;refine tE.bq S fun pv v H1 F1 f1 e1 g1 r1 n1 d1 w1=>?_;rw[e1]at q;simp only[Res.HY]at q;have S1:=S.grow g1;split at q
  ·rename_i z y em
   unfold Rel at r1;obtain⟨rfl,_⟩:=r1;refine⟨rfl,Z,F1,env,fp,S1,?_⟩;unfold ae ak;rw[em];intro vs H2 F2 f2 g2 r2 n2 d2 w2;obtain⟨u,rfl,ru⟩:=r2.one;unfold Rel at ru;obtain⟨rfl,_⟩:=ru;exact⟨_,_,rfl,rfl,GE.scal q (g1.trans g2) fK⟩
  ·exact q.elim
def Its(x:Str):It:=⟨fun i _=>i<x.cps.size,fun i H v H'=>H'=H/\∃c,x.cps[i]?=some c/\v=.str ⟨#[c]⟩,fun i _=>x.cps.size<=i⟩
def u9(x:Str)(t:Tok)(it:Addr):uV P w K tg (Its x) [it] it (fun i h=>h.IsStrIter it "str_ascii_iterator" x t i) where
 mem:=by simp
 obj:=fun i h st b hb=>by
  have e:b=it:=by simpa using hb
  subst e;obtain⟨o,e,c,d⟩:=st;exact⟨o,e,fun v z=>by rw[d]at z;cases z⟩
 keep:=fun i h h' st k=>by obtain⟨o,e,r⟩:=st;exact⟨o,k it (by simp) o e,r⟩
 item:=by intro X hP hw hK hc i gV s Y H E I hf st hg;subst hP hw hK;obtain⟨f0,f1,f2,f3,f4,f5⟩:=hf it (by simp);have hg':i<x.cps.size:=hg;refine wpAny_pyNext_ascii_item st (c:=x.cps[i]) (by simp[hg']) fun h' st' sb=>?_;have I1:Inv X gV Y H {s with heap:=h',toks:=s.toks+1}:=I.turned (t':=s.toks+1) (fun b o hb e=>sb.extBut b o hb e) f0 f1 f3 f4 f5;obtain⟨o,e,c,d⟩:=id st';exact⟨_,rfl,sF (s:={s with heap:=h',toks:=s.toks+1}) e c d (by decide) ⟨.str ⟨#[x.cps[i]]⟩,H,I1,⟨_,rfl⟩,⟨rfl,_,by simp[hg'],rfl⟩,st',fun b hb=>(hf b hb).1⟩⟩
 done:=by intro X hP hw hK hc i gV s Y H E I hf st hg;subst hP hw hK;obtain⟨f0,f1,f2,f3,f4,f5⟩:=hf it (by simp);have hg':x.cps.size<=i:=hg;exact wpAny_pyNext_ascii_end (I.ok.hd hc) st (by simp[hg']) fun h' eb=>⟨rfl,I.turned (t':=s.toks) (fun b o hb e=>eb b o hb e) f0 f1 f3 f4 f5⟩
 self:=fun _ _ _ _ _ st h=>wpAny_pyIter_striter_ascii st h
def asc(x:Str):Bool:=x.cps.all (· < 128)
def Cn(hl:PE X l tl):PI X tg l (fun Y H R=>tl Y H fun x H1=>∃z,x=.str z/\asc z=true/\R (Its z) H1):=by
 intro gV s Y H R I h;refine thn (hl gV s Y H _ I h) fun v s1 hz1=>?_;obtain⟨x,H1,I1,r1,q1⟩:=hz1;obtain⟨z,rfl,ha,q⟩:=q1;obtain⟨t,rfl⟩:=r1;refine wpAny_pyIter_ascii ha ?_;refine⟨s1.heap.objs.size,[s1.heap.objs.size],_,_,H1,rfl,I1.kept (t':=s1.toks) fun b o e=>get?_push_of_some _ e,u9 z t _,⟨_,get?_push_size _ rfl,rfl,rfl⟩,fun b hb=>?_,q⟩;have e:b=s1.heap.objs.size:=by simpa using hb
 subst e;exact I1.fpOk (Nat.le_refl _) (I1.hok.fresh (Nat.le_refl _))
def jV(z:Str):HK:=z.cps.toList.map fun c=>.str ⟨#[c]⟩
def lg(m:ME):MI:=fun env=>(m env).bind fun x=>match x with
 |.str z=>if asc z then .ok (jV z)else .stuck
 |_=>.stuck
def rP(he:SE X T W e m):SIc X T W tg e (lg m):=fun gV s Y H R I h=>Cn he gV s Y H R I (by
 obtain⟨Z,F,env,fp,S,q⟩:=h;unfold lg at q;refine tE.bq S fun x v H1 F1 f1 e1 g1 r1 n1 d1 w1=>?_;rw[e1]at q;simp only[Res.HY]at q;cases x with
 |str z=>
  dsimp only at q;split at q
  ·rename_i ha
   unfold Rel at r1;refine⟨z,r1.1,ha,q _ H1 F1 g1 (ItC.of0 fun H2 hx=>⟨fun i x ex=>?_,?_⟩)⟩
   ·unfold jV at ex;rw[getElem?_map]at ex;obtain⟨c,hc,rfl⟩:=map_eq_some_iff.mp ex;have hc':z.cps[i]?=some c:=by simpa using hc
    refine⟨?_,fun v H3 hy=>⟨hy.1,[],?_⟩⟩
    ·have:=(Array.getElem?_eq_some_iff.mp hc').1;exact this
    ·obtain⟨_,d,hd,rfl⟩:=hy;rw[hc']at hd;cases hd;exact ke
   ·show z.cps.size <=(jV z).length;simp[jV]
  ·exact q.elim
 |_=>exact q.elim)
def G9:V->HG->HG->Hp->VK->Prop:=fun x lo hi H Q=>∃z,x=.str z/\z.length<=sizeLine/\Q (.str (PySem.Txt.slice z lo hi)) H
def BN:SlR X G9:=by
 intro gV s Y H x v vl vu lo hi sl Q I rx hs pl pu h;obtain⟨z,rfl,hz,q⟩:=h;obtain⟨t,rfl⟩:=rx;refine⟨"str",_,PySem.F.slot_str_getitem.lookup,typeIs_str _ _ _,?_⟩;cases pl with
 |none=>
  cases pu with
  |none=>exact wpAny_getItem_str_slice (l:=none) (u:=none) (st:=none) hs rfl (post_val_or_str ⟨Nat.le_trans (Txt.slice_le z _ _) hz,fun t' k=>⟨.str _,H,I.tok _,⟨_,rfl⟩,q⟩⟩)
  |int j uj=>exact wpAny_getItem_str_slice (l:=none) (u:=some (j,uj)) (st:=none) hs rfl (post_val_or_str ⟨Nat.le_trans (Txt.slice_le z _ _) hz,fun t' k=>⟨.str _,H,I.tok _,⟨_,rfl⟩,q⟩⟩)
 |int i ui=>
  cases pu with
  |none=>exact wpAny_getItem_str_slice (l:=some (i,ui)) (u:=none) (st:=none) hs rfl (post_val_or_str ⟨Nat.le_trans (Txt.slice_le z _ _) hz,fun t' k=>⟨.str _,H,I.tok _,⟨_,rfl⟩,q⟩⟩)
  |int j uj=>exact wpAny_getItem_str_slice (l:=some (i,ui)) (u:=some (j,uj)) (st:=none) hs rfl (post_val_or_str ⟨Nat.le_trans (Txt.slice_le z _ _) hz,fun t' k=>⟨.str _,H,I.tok _,⟨_,rfl⟩,q⟩⟩)
def iK(o:ME)(lo hi:MO):ME:=fun env=>(o env).bind fun x=>(lo env).bind fun l=>(hi env).bind fun h=>match x with
 |.str z=>if z.length<=10000 then .ok (.str (PySem.Txt.slice z l h))else .stuck
 |_=>.stuck
def t9(he:SE X T W e m)(hl:SO X T W lo ml)(hu:SO X T W hi mh):SE X T W (.Subscript e (.Slice lo hi none p2) pos) (iK m ml mh):=
 PE.wk (o_ (pos:=pos) (p2:=p2) BN he hl hu) fun Y H Q hz1=>by
  obtain⟨Z,F,env,fp,S,q⟩:=hz1;unfold iK at q;refine tE.bq S fun x v H1 F1 f1 e1 g1 r1 n1 d1 w1=>?_;rw[e1]at q;simp only[Res.HY]at q;refine⟨Z,F1,env,fp,S.grow g1,?_⟩;cases e2:ml env with
  |exc c=>rw[e2]at q;exact fun H' x=>q H' (g1.ext.trans x)
  |stuck=>rw[e2]at q;exact q
  |ok l=>
   rw[e2]at q;intro H2 F2 g2;refine⟨Z,F2,env,fp,(S.grow g1).grow g2,?_⟩;simp only[Res.HY]at q;cases e3:mh env with
   |exc c=>rw[e3]at q;exact fun H' x=>q H' ((g1.ext.trans g2.ext).trans x)
   |stuck=>rw[e3]at q;exact q
   |ok h=>
    rw[e3]at q;intro H3 F3 g3;simp only[Res.HY]at q;cases x with
    |str z=>
     dsimp only at q;split at q
     ·rename_i hz
      unfold Rel at r1;exact⟨z,r1.1,by rw[sizeLine_eq];lia,GE.scal q ((g1.trans g2).trans g3) ke⟩
     ·exact q.elim
    |_=>exact q.elim
def vO(hg:Gl X x)(hm:∃t,X.mg x=some (.str y t))(hd:(x ==("__debug__":Str))=false:=by decide):SE X T W (.Name x pos) (mC (.str y)):=by obtain⟨t,h⟩:=hm;exact gU (gD (v:=.str y) hg h ⟨t,rfl⟩ hd) fun _ _ _ _=>ke
end
section
variable{prog:Program}{w:World}{A:Around}{E:td}{s:Shared}
abbrev liO(xs:HD)(c:Nat):Obj:={cls:=.type "list",data:=.seq xs.toArray c}
def pc(x:Str)(w:Nat):∀(cuts:List Nat) (a:Nat),(StrLaws.partsFrom x w a cuts).length=cuts.length+1
 | [],_=>rfl
 |c::r,a=>by show(_::StrLaws.partsFrom x w (c+w) r).length=_;rw[length_cons,pc x w r];rfl
def pf(x y:Str):(Builtin.Str.partsBetween x (Builtin.Str.occurrences x y 0 x.length (x.length+1)) y.length).length<=x.length+2:=by
 rw[StrLaws.partsBetween_eq,pc];have:=StrLaws.occ_length_le x y 0 x.length (x.length+1)
 lia
def vD(x y:Str):(PySem.Txt.split x y).length<=x.length+2:=by
 unfold PySem.Txt.split;split
 ·simp
 ·split
  ·simp
  ·exact pf x y
def vC(hy:(y.length==0)=false)(hz:x.length<=1000000)
  (hq:∀l c k,l.map (·.1)=PySem.Txt.split x y->Q (.ref s.heap.objs.size) {s with heap:=s.heap.push (liO (strValues l) c),toks:=k}) :
  wpAny (model prog w) A (call (.builtin "str.split") [.str x t,.str y u]) Q E s:=by
 have hz1:x.length<=sizeLine:=by rw[sizeLine_eq];lia
 have hn:(Builtin.Str.partsBetween x (Builtin.Str.occurrences x y 0 x.length (x.length+1)) y.length).length<=sizeLine:=by
  have:=pf x y;rw[sizeLine_eq]
  lia
 have one:∀(e:[x]=PySem.Txt.split x y),Q (.ref s.heap.objs.size) {s with heap:=s.heap.push (liO (strValues [(x,t)]) 0),toks:=s.toks}:=fun e=>hq [(x,t)] 0 s.toks e;by_cases h1:(decide (x.length<y.length)||decide (Builtin.Str.strKind x<Builtin.Str.strKind y))=true
 ·exact call_meets F.slot_str_split (typeIs_str _ _ _) F.entry_str_split (F.args_str_split_2 _ _) (meets_str_split_cannot_occur x y t u h1) (one (if_pos h1).symm)
 ·by_cases h2:(Builtin.Str.occurrences x y 0 x.length (x.length+1)).isEmpty=true
  ·exact call_meets F.slot_str_split (typeIs_str _ _ _) F.entry_str_split (F.args_str_split_2 _ _) (meets_str_split_not_found x y t u (eq_false_iff.mpr h1) hy h2) (one ((if_neg h1).trans (if_pos h2)).symm)
  ·refine call_meets F.slot_str_split (typeIs_str _ _ _) F.entry_str_split (F.args_str_split_2 _ _) (meets_str_split_sep x y t u (eq_false_iff.mpr h1) hy (eq_false_iff.mpr h2) hz1 hn) ?_;show wants Q E _ {s with toks:=_,heap:=s.heap.push (liO (strsFrom s.toks (Builtin.Str.partsBetween x (Builtin.Str.occurrences x y 0 x.length (x.length+1)) y.length)) 0)};rw[strsFrom_eq];exact hq (numbered s.toks _) 0 _ ((numbered_texts _ _).trans ((if_neg h1).trans (if_neg h2)).symm)
def ny:∀(l:List (Str×Tok)),aK ((l.map (·.1)).map V.str) (strValues l)
 | []=>.nil
 |p::l=>.cons ⟨p.2,rfl⟩ (ny l)
def rq:∀{ys:HF}{its:HD},aK (ys.map V.str) its->∃l:List (Str×Tok),its=strValues l/\l.map (·.1)=ys
 | [],_,.nil=>⟨[],rfl,rfl⟩
 |y::ys,_,.cons ⟨t,h⟩ r=>by obtain⟨l,h1,h2⟩:=rq r;exact⟨(y,t)::l,by rw[h,h1];rfl,by rw[map_cons,h2]⟩
end
section
variable{X:Cx}{T:Tb}{W:Nat->St->HJ}{Z:Zn}{F F1 B L:HB}{H H1:Hp}{Y:St}{env:En}{fp:Nat->HE}
def B4:V->HI->Hp->VK->Prop:=fun x vs H Q=>∃z y,x=.str z/\vs=[.str y]/\((y.length==0)=false/\z.length<=1000000)/\∀l,H l=none->Q (.ref l) (upd H l (.lst ((PySem.Txt.split z y).map V.str)))
def wJ:MtM X "str.split" B4:=by
 intro gV s Y H x vs v us Q I rx rv h;obtain⟨z,y,rfl,rfl,⟨hy,hz⟩,q⟩:=h;obtain⟨t,rfl⟩:=rx;obtain⟨u,rfl,ru⟩:=aK.one rv;obtain⟨t2,rfl⟩:=ru;refine vC hy hz fun l c k hl=>?_;have hv:=ny l;rw[hl]at hv;have hs:((PySem.Txt.split z y).map V.str).length<=sizeLine:=by
  have:=vD z y;rw[length_map,sizeLine_eq]
  lia
 exact⟨.ref s.heap.objs.size,_,I.laid (t':=k) (fun b o e=>get?_push_of_some _ e) (Nat.le_refl _) (show cY X.prog X.w _ _ _ (.lst ((PySem.Txt.split z y).map V.str))from⟨hs,strValues l,c,hv,get?_push_size _ rfl⟩),rfl,q _ (I.hok.fresh (Nat.le_refl _))⟩
def Fq(K:PySem.W.Frag):V->HI->Hp->VK->Prop:=fun x vs H Q=>∃z p ys,x=.str z/\vs=[.ref p]/\SqL K H p (ys.map V.str)/\JoinOk z ys=true/\Q (.str (PySem.Txt.join z ys)) H
def zM:MtM X "str.join" (Fq X.K):=by intro gV s Y H x vs v us Q I rx rv h;obtain⟨z,p,ys,rfl,rfl,hq,hj,q⟩:=h;obtain⟨t,rfl⟩:=rx;obtain⟨u,rfl,ru⟩:=aK.one rv;cases ru;obtain⟨its,r',pl,hz⟩:=I.list hq;obtain⟨l,rfl,hl⟩:=rq r';exact PySem.SC.join pl.isList hl hj fun t' k=>⟨.str _,H,I.tok _,⟨_,rfl⟩,q⟩
def mMt(g:Str->PV->HL)(mo mk:ME):ME:=fun env=>(mo env).bind fun x=>match x,mk env with
 |.str z,.ok v=>g z v
 |_,_=>.stuck
def vN{nm:Str}{id:String}{r:V->HI->Hp->VK->Prop}{g:Str->PV->HL}{o k:Expr}{mo mk:ME}{apos cpos:Pos}(slot:Slot "str" nm id)(hty:typeOf (.builtin id)=pure (.type "method_descriptor"))(hmt:MtM X id r)
  (hr:∀{B F L F2:HB}{Y:St}{H H2:Hp}{Q:VK}{z:Str}{v:PV}{u:V}{f2:HE},Gr F H F2 H2->Rel T F2 B L H2 v u f2->GE T W B F L Y H Q (g z v)->r (.str z) [u] H2 Q)
  (ho:SE X T W o mo) (hk:SE X T W k mk) (hbase:attributeBase o nm X.env (eval o X.env)=eval o X.env:=by rfl)
  (hst:starEach [k] X.env=[(false,eval k X.env)]:=by rfl)
  (hfew:((backTo cpos (starEach [k] X.env)).all (fun x=>!x.1)&&(backToKw cpos (keywordEach [] X.env)).all (fun x=>x.1.isSome)&&decide ([k].length+([]:List Keyword).length+(if([]:List Keyword).isEmpty then 0 else 1)<30))=true:=by rfl)
  (hline:(apos.endLine==cpos.line)=true:=by rfl):SE X T W (.Call (.Attribute o nm apos) [k] [] cpos) (mMt g mo mk):=
 PE.wk (r9 (cpos:=cpos) (apos:=apos) PySem.F.plainAttrs_str slot hty hmt ho (aa hk ah hst) hbase hfew hline hst) fun Y H Q hz1=>by
  obtain⟨Z,F,env,fp,S,q⟩:=hz1;unfold mMt at q;refine tE.bq S fun pv v H1 F1 f1 e1 g1 r1 n1 d1 w1=>?_;rw[e1]at q;simp only[Res.HY]at q;have S1:=S.grow g1;split at q
  ·rename_i z y em
   unfold Rel at r1;obtain⟨rfl,_⟩:=r1;refine⟨rfl,Z,F1,env,fp,S1,?_⟩;unfold ae ak;rw[em];intro vs H2 F2 f2 g2 r2 n2 d2 w2;obtain⟨u,rfl,ru⟩:=r2.one;exact hr (g1.trans g2) ru q
  ·exact q.elim
def nO:∀(ys:HF),RelL T F B L H (ys.map .str) (ys.map V.str) []
 | []=>by unfold RelL;exact⟨rfl,rfl⟩
 |y::ys=>by rw[map_cons,map_cons];unfold RelL;exact⟨_,_,[],[],rfl,ke,nO ys,rfl⟩
def cJ(z:Str):PV->HL
 |.str y=>if(y.length==0)=false/\z.length<=1000000 then .ok (.lst .own ((PySem.Txt.split z y).map .str))else .stuck
 |_=>.stuck
def gT:HK->Option (HF)
 | []=>some []
 |.str z::xs=>(gT xs).map (z::·)
 |_::_=>none
def eX(z:Str):PV->HL
 | .lst _ xs=>(match gT xs with
  |some ys=>if JoinOk z ys=true then .ok (.str (PySem.Txt.join z ys))else .stuck
  |none=>.stuck)
 |_=>.stuck
def rF:∀{xs:HK}{ys:HF}{vs:HI}{f:HE},gT xs=some ys->RelL T F B L H xs vs f->vs=ys.map V.str
 | [],ys,vs,f,h,r=>by unfold RelL at r;cases h;exact r.1
 |x::xs,ys,vs,f,h,r=>by
  unfold RelL at r;obtain⟨v,ws,f1,f2,rfl,r1,r2,_⟩:=r;cases x with
  |str z=>simp only[gT]at h;obtain⟨zs,hz,rfl⟩:=map_eq_some_iff.mp h;unfold Rel at r1;rw[r1.1,rF hz r2];rfl
  |_=>cases h
section
variable{o k:Expr}{mo mk:ME}{apos cpos:Pos}
def f9(ho:SE X T W o mo)(hk:SE X T W k mk)(hbase:attributeBase o "split" X.env (eval o X.env)=eval o X.env:=by rfl)
  (hst:starEach [k] X.env=[(false,eval k X.env)]:=by rfl)
  (hfew:((backTo cpos (starEach [k] X.env)).all (fun x=>!x.1)&&(backToKw cpos (keywordEach [] X.env)).all (fun x=>x.1.isSome)&&decide ([k].length+([]:List Keyword).length+(if([]:List Keyword).isEmpty then 0 else 1)<30))=true:=by rfl)
  (hline:(apos.endLine==cpos.line)=true:=by rfl):SE X T W (.Call (.Attribute o "split" apos) [k] [] cpos) (mMt cJ mo mk):=
 vN PySem.F.slot_str_split PySem.F.type_str_split wJ (fun {B F L F2 Y H H2 Q z v u f2} g ru q=>by
  cases v with
  |str y=>
   unfold Rel at ru;unfold cJ at q;dsimp only at q;split at q
   ·rename_i h
    exact⟨z,y,rfl,by rw[ru.1],h,GE.newL q g (nO _) (fun _ h=>nomatch h) .nil fun _ h=>nomatch h⟩
   ·exact q.elim
  |_=>exact q.elim) ho hk hbase hst hfew hline
def d9(hK:X.K=T.K)(ho:SE X T W o mo)(hk:SE X T W k mk)(hbase:attributeBase o "join" X.env (eval o X.env)=eval o X.env:=by rfl)
  (hst:starEach [k] X.env=[(false,eval k X.env)]:=by rfl)
  (hfew:((backTo cpos (starEach [k] X.env)).all (fun x=>!x.1)&&(backToKw cpos (keywordEach [] X.env)).all (fun x=>x.1.isSome)&&decide ([k].length+([]:List Keyword).length+(if([]:List Keyword).isEmpty then 0 else 1)<30))=true:=by rfl)
  (hline:(apos.endLine==cpos.line)=true:=by rfl):SE X T W (.Call (.Attribute o "join" apos) [k] [] cpos) (mMt eX mo mk):=
 vN PySem.F.slot_str_join PySem.F.type_str_join zM (fun {B F L F2 Y H H2 Q z v u f2} g ru q=>by
  cases v with
  |lst f xs=>
   unfold Rel at ru;obtain⟨a,ws,fp',rfl,hl,hr,_⟩:=ru;unfold eX at q;dsimp only at q;cases e:gT xs with
   |none=>rw[e]at q;exact q.elim
   |some ys=>
    rw[e]at q;dsimp only at q;split at q
    ·rename_i h
     have:=rF e hr;subst this;exact⟨z,a,ys,rfl,rfl,by rw[hK];exact hl.sq,h,GE.scal q g ke⟩
    ·exact q.elim
  |_=>exact q.elim) ho hk hbase hst hfew hline
end
def Ew(K:PySem.W.Frag)(d:Addr)(xs:HF):Prop:=
 ∃(dd:Option Addr) (l:List (Str×Tok)) (n:Nat) (sl:Array (Option Value)),K.lookup d=some ⟨.type "tuple",dd,.seq (strValues l).toArray n,sl⟩/\l.map (·.1)=xs
def f_(hK:X.K=T.K)(hg:Gl X x)(hm:X.mg x=some (.ref d))(hT:Ew X.K d xs)(hn:xs.length<=1000)(hd:(x ==("__debug__":Str))=false:=by decide):SE X T W (.Name x pos) (mC (.tup (xs.map .str))):=
 gU (gD (v:=.ref d) hg hm rfl hd) fun _ _ _ _=>by
  obtain⟨dd,l,n,sl,h1,rfl⟩:=hT;unfold Rel;refine⟨d,_,rfl,.inr ⟨_,_,n,by rw[<- hK];exact h1,rfl,rfl,?_,ny l⟩,nO _⟩;rw[sizeLine_eq];simp[strValues]at hn ⊢
  lia
variable{d:Addr}{kvs:List (Str×Int)}
def A5(d:Addr)(kvs:List (Str×Int)):R2:=fun x y H Q=>∃k,x=.str k/\y=.ref d/\Q (.bl (look kvs k).isSome) H
def zy(hD:gS X.w X.K d kvs):OpR X (compareOp .In) (A5 d kvs):=by
 intro gV s Y H x y v u Q I rx ry h;obtain⟨k,rfl,rfl,q⟩:=h;obtain⟨t,rfl⟩:=rx;cases ry;obtain⟨f,hm,hf⟩:=hD.map (prog:=X.prog) I.kIn;refine wpAny_in_of (knd:=strKind X.prog X.w) (k:=k) (by show(k==k)=true;simp) hD.ne hm ⟨.bl (look kvs k).isSome,H,I.tok _,?_,q⟩;have:=hf k;cases e:look kvs k with
 |none=>rw[e]at this;rw[show f k=none from this];rfl
 |some i=>rw[e]at this;obtain⟨u,hu⟩:=this;rw[hu];rfl
def ph(kvs:List (Str×Int)):PV->HL
 |.str k=>.ok (.bl (look kvs k).isSome)
 |_=>.stuck
def wR:yF T W (ph kvs) (fun x H Q=>A5 d kvs x (.ref d) H Q):=by
 intro B F L Y H Q F' H' x v fx g rx nf nd new q;cases x with
 |str k=>unfold Rel at rx;exact⟨k,rx.1,rfl,q.scal g fK⟩
 |_=>exact q.elim
def yV(hg:Gl X x)(hm:X.mg x=some (.ref d))(hD:gS X.w X.K d kvs)(he:SE X T W e m)(hd:(x ==("__debug__":Str))=false:=by decide):ST X T W (.Compare e [.In] [.Name x px] pos) (aA (mUn (ph kvs) m)):=
 PT.wk (nR (pos:=pos) (zy hD) he (gD (v:=.ref d) (pos:=px) hg hm rfl hd) rfl) fun Y H Q h=>by obtain⟨Z,F,env,fp,S,q⟩:=tT.test h;exact tE.mir1 wR ⟨Z,F,env,fp,S,q⟩
end
end PR
namespace L2
open PySem PySem.Spec PyProof.Rows
section
variable{X:Cx}{gV:HA}{Y:St}{H:Hp}{s:Shared}{E:td}
def Inv.toX(hp:X.pn=[])(I:Inv X gV Y H s):Inv (X.tryX E []) gV Y H s:=
 ⟨⟨I.ok.mod,I.ok.kind,I.ok.glob,I.ok.blt,I.ok.above,I.ok.inj,I.ok.has,I.ok.cab,I.ok.hd,I.ok.frames,I.ok.stk,I.ok.exf,I.ok.bs,I.ok.bsz,I.ok.noex,I.ok.exfs,I.ok.funs,I.ok.frf⟩,
  I.os,I.bare,I.base,I.loc,I.cell,I.free,I.freeC,fun p h=>I.pin p (by rw[hp];exact h),I.hok,I.len⟩
def Inv.ofX(hp:X.pn=[])(I:Inv (X.tryX E []) gV Y H s):Inv X gV Y H s:=
 ⟨⟨I.ok.mod,I.ok.kind,I.ok.glob,I.ok.blt,I.ok.above,I.ok.inj,I.ok.has,I.ok.cab,I.ok.hd,I.ok.frames,I.ok.stk,I.ok.exf,I.ok.bs,I.ok.bsz,I.ok.noex,I.ok.exfs,I.ok.funs,I.ok.frf⟩,
  I.os,I.bare,I.base,I.loc,I.cell,I.free,I.freeC,fun p h=>I.pin p (by rw[hp]at h;exact h),I.hok,I.len⟩
end
end L2
namespace PR
open PySem PySem.Spec L2
section
variable{M:Model}{A:Around}{E:td}{s:Shared}{B:Heap}{l:List Env}{e:Addr}{cls a0 fl:Value}
def p6(B:Heap)(l:List Env)(e:Addr)(cls a0 fl:Value)(h:Heap):Prop:=B.StaysIn h/\B.get? e=none/\h.FunFrames B l/\h.TracedAtW B e cls a0 fl
def uC(hfr:A.frames=some (env::outer))(hf:env.frame=some L)(hfl:p6 B (env::outer) e cls a0 fl s.heap)
  (hQ:∀h',FlyingW B outer e cls a0 h'->s.heap.UpToSlots h'->Q () {s with heap:=h'}):wpAny M A (leaving env (.ref e)) Q E s:=by
 obtain⟨f1,f2,f3,f4⟩:=hfl;by_cases q:fl=rawInt L
 ·subst q;unfold leaving;refine wpAny_bind (wpAny_noteFrame_againW hf f4 (wpAny_landsW (l:=env::outer) ⟨f1,f2,f3,f4⟩ fun h' ⟨k1,k2,k3,k4⟩ up=>?_));exact hQ h' ⟨k1,k2,k3.2.2,k4⟩ up
 ·obtain⟨oe,vs,T,oT,ts,he,⟨hc,h0⟩,hd,h1,hnT,hTe,hT,hdT,h3⟩:=f4;subst hc;unfold leaving noteFrame;simp only[hf];refine wpAny_bind (wpAny_bind (wpAny_field he hd h1 ?_));rw[if_pos (by simp)];refine wpAny_bind (wpAny_field hT hdT h3 ?_);rw[if_neg (fun z=>q (eq_of_beq z))];refine wpAny_bind (wpAny_setField hT hdT (Array.getElem?_eq_some_iff.mp h3).1 ?_);have ot:∀b,b≠T->(s.heap.update T (Obj.mapFields (·.setIfInBounds 3 Value.none))).get? b=s.heap.get? b:=fun b hb=>get?_update_other _ _ (Ne.symm hb);have nT:∀b o,s.heap.get? b=some o->(∀vs,o.data≠.fields vs)->b≠T:=fun b o hb hn z=>by rw[z,hT]at hb;cases hb;exact hn ts hdT
  refine wpAny_newEntryW hfr (f3.of_keeps fun b o hb hn=>⟨o,(ot b (nT b o hb hn)).trans hb,rfl⟩) hf ((ot e (Ne.symm hTe)).trans he) (fun b o hb=>(ot b fun z=>by rw[z,hnT]at hb;cases hb).trans (f1 b o hb)) f2 hd (Array.getElem?_eq_some_iff.mp h1).1 h0 fun h' ⟨x1,x2,x3,x4⟩=>?_;exact hQ h' ⟨x1,f2,x2.2.2,x3⟩ fun b o hb hn=>x4 b o ((ot b (nT b o hb hn)).trans hb) hn
def zt{what:String}{cenv:Env}(hfl:p6 B l e cls a0 fl s.heap)
  (hQ:∀h' fl',p6 B l e cls a0 fl' h'->s.heap.UpToSlots h'->E (.ref e) {s with heap:=h'}):wpAny M A (passOn what (.ref e) cenv:Sem Value) (fun _ _=>False) E s:=by
 obtain⟨f1,f2,f3,oe,vs,T,oT,ts,he,hc,hd,h1,hnT,hTe,hT,hdT,h3⟩:=hfl;have hz:3<ts.size:=(Array.getElem?_eq_some_iff.mp h3).1;have ot:∀(v:Value) b,b≠T->(s.heap.update T (Obj.mapFields (·.setIfInBounds 3 v))).get? b=s.heap.get? b:=fun v b hb=>get?_update_other _ _ (Ne.symm hb);have nT:∀b o,s.heap.get? b=some o->(∀vs,o.data≠.fields vs)->b≠T:=fun b o hb hn z=>by rw[z,hT]at hb;cases hb;exact hn ts hdT
 unfold passOn;refine wpAny_bind (wpAny_field he hd h1 ?_);rw[if_neg (by simp)];refine wpAny_bind ?_;unfold setFlight;refine wpAny_bind (wpAny_field he hd h1 ?_);rw[if_pos (by simp)];refine wpAny_setField hT hdT hz ?_;refine wpAny_throw (hQ _ (cenv.frame.elim .none fun f=>rawInt f) ⟨fun b o hb=>(ot _ b fun z=>by rw[z,hnT]at hb;cases hb).trans (f1 b o hb),f2,f3.of_keeps fun b o hb hn=>⟨o,(ot _ b (nT b o hb hn)).trans hb,rfl⟩,?_⟩ fun b o hb hn=>⟨o.slots,(ot _ b (nT b o hb hn)).trans hb⟩);exact⟨oe,vs,T,_,_,(ot _ e (Ne.symm hTe)).trans he,hc,hd,h1,hnT,hTe,Heap.get?_update_self _ hT (Obj.isFreed_of_fields (Obj.data_mapFields hdT _)),Obj.data_mapFields hdT _,by simp[hz]⟩
def iT{h h' B B':Heap}:∀{l:List Env},h.FunFrames B l->(∀L o,L∈frs l->h.get? L=some o->∃o',h'.get? L=some o'/\o'.data=o.data)->(∀L∈frs l,B.get? L=none->B'.get? L=none)->h'.FunFrames B' l
 | [],_,_,_=>trivial
 |env::l,⟨hk,⟨L,o,hf,hn,ho,hd⟩,hr⟩,k1,k2=>by
  have hL:L∈frs (env::l):=mem_filterMap.mpr ⟨env,.head _,hf⟩;have tl:∀L∈frs l,L∈frs (env::l):=fun L h=>by obtain⟨e,he,hf⟩:=mem_filterMap.mp h;exact mem_filterMap.mpr ⟨e,.tail _ he,hf⟩
  obtain⟨o',ho',hd'⟩:=k1 L o hL ho;exact⟨hk,⟨L,o',hf,k2 L hL hn,ho',by rw[hd'];exact hd⟩,iT hr (fun L o h=>k1 L o (tl L h)) fun L h=>k2 L (tl L h)⟩
end
structure Ho(P:Program)(w:World)(outer:List Env)(H:Hp)(s:Shared)(cls:Value)(H':Hp)(e:Value)(s':Shared):Prop where
 os:s'.os=s.os
 bare:PyProof.Rows.AllBare s'.gens
 un:Un (frs outer) [] H H' s.heap s'.heap
 hok:HOk P w H' s'.heap
 fly:∃x a0 fl Bh,e=.ref x/\p6 Bh outer x cls a0 fl s'.heap/\(∀b o u,H' b=some u->s'.heap.get? b=some o->Bh.get? b=some o)/\
  (∀b o o',s'.heap.get? b=some o->s.heap.get? b=some o'->b∉frs outer->Bh.get? b=some o)
def XC(X:Cx)(T:Tb)(W:Nat->St->HJ):Prop:=∀(gV:HA) (Y:St) (H:Hp) (s:Shared) (c:Nat) (H':Hp) (e:Value) (s':Shared),L2.Inv X gV Y H s->Ho X.prog X.w X.stack H s (.ref (T.xcl c)) H' e s'->W c Y H'->X.xe e s'
section
variable{P:Program}{w:World}{K:PySem.W.Frag}{mg:Hz}{base:Heap}{N:HF}{qual:Str}{scope:Scope}{f:Addr}{cd:Value}{A:Around}{outer:List Env}{s:Shared}{H:Hp}{E:XK}{T:Tb}
def uY:XC (dv (CXP P w) P w K mg base N qual scope f cd A outer s H E) T (WD T E):=by intro gV Y H1 s1 c H2 e s2 I fl hW;obtain⟨x,a0,mk,Bh,rfl,fly,tr,ol⟩:=fl.fly;refine uC (L:=s.heap.objs.size) I.ok.frames rfl fly fun h' fly' up=>?_;obtain⟨h2,g2,d2,t2,os2⟩:=s2;exact⟨_,H2,jJ I rfl rfl rfl fl.os fl.bare fl.un fl.hok tr ol fly' up,hW⟩
end
section
variable{X:Cx}{T:Tb}{W:Nat->St->HJ}{gV:HA}{Y:St}{H2:Hp}{s2:Shared}{fpi:HE}{scope:Scope}{caps:List Nat}{N tn:HF}{use:Option (Value->Sem Unit)}{Q':td}{acc:Value}
abbrev EC(X:Cx)(scope:Scope)(C:Addr)(use:Option (Value->Sem Unit))(Q':td)(acc:Value):td:=
 notedBy (model X.prog X.w) X.A (compEnvC scope (mj X scope C) C X.env) fun e s'=>compPost (model X.prog X.w) X.A X.xe use Q' acc C (.error e) s'
def yM(hxc:XC X T W)(hst:X.stack=X.env::X.outer)(hfrm:X.env.frame=some X.env.locals)(I2:L2.Inv X gV Y H2 s2)(f2:∀b∈fpi,kh X gV H2 b) :
  XF ((cxC X scope (s2.heap.objs.size+1) N s2 H2 fpi).tryX (EC X scope (s2.heap.objs.size+1) use Q' acc) []) T (fun c _ H'=>W c Y H'):=by
 intro pins' σ' H9 s9 c H10 e s10 inv9 fl hW
 replace inv9:=inv9.ofX rfl
 obtain⟨x,a0,Bh,rfl,fly,tr,ol⟩:=fl.fly;change FlyingW Bh X.stack x _ a0 s10.heap at fly;have hfs:frs X.stack=X.env.locals::frs X.outer:=by rw[hst];show List.filterMap _ _=_;rw[filterMap_cons,hfrm];rfl
 obtain⟨m,hn,_⟩:=id inv9.loc;change s9.heap.Ns (s2.heap.objs.size+1) m at hn;have hC9:H9 (s2.heap.objs.size+1)=none:=inv9.free;have hCf:s2.heap.objs.size+1∉frs X.stack:=by
  rw[hfs];intro z;rcases mem_cons.mp z with z|z
  ·have h:=I2.lt;rw[<- z]at h;exact absurd h (Nat.not_lt.mpr (le_succ _))
  ·exact I2.nofs (le_succ _) z
 obtain⟨oC,es,ep,hoC,hdC,rC⟩:=id hn;have hC10:s10.heap.get? (s2.heap.objs.size+1)=some oC:=fl.un.keep _ _ hoC hC9 hCf (by simp);have hH10:H10 (s2.heap.objs.size+1)=none:=fl.un.free _ _ hoC hC9 (by simp);have iX:L2.Inv X gV Y H9 s9:=I2.call' inv9.os inv9.base inv9.hok inv9.bare fun b hb=>⟨(f2 b hb).2.2.2.1,(f2 b hb).2.1,(f2 b hb).2.2.2.2.1,(f2 b hb).2.2.2.2.2⟩
 show wpAny (model X.prog X.w) X.A (noteFrame (.ref x) X.env) _ _ s10;rw[hst]at fly;refine wpAny_looks_onW (hst▸I2.ok.frames) hfrm fly fun h11 held up=>?_;obtain⟨b1,b2,b3,b4⟩:=held;obtain⟨sl,hC11⟩:=up _ _ hC10 fun vs z=>by rw[hdC]at z;cases z
 have hCl:s2.heap.objs.size+1≠X.env.locals:=Nat.ne_of_gt (lt_succ_of_lt I2.lt);have hC0:X.s₀.heap.objs.size<=s2.heap.objs.size+1:=Nat.le_trans I2.sz (le_succ _);have hCc:∀y cc,X.env.cells.lookup y=some cc->cc≠s2.heap.objs.size+1:=fun y cc q z=>by obtain⟨v,hv⟩:=I2.cell y cc q;rw[z]at hv;exact absurd hv.lt (Nat.not_lt.mpr (le_succ _))
 have hCp:∀p∈X.pn++gV,p.1≠s2.heap.objs.size+1:=fun p hp z=>by have:=lt_size (I2.pin p hp).1;rw[z]at this;exact absurd this (Nat.not_lt.mpr (le_succ _))
 generalize hC:s2.heap.objs.size+1=C at *;have neF:∀b o vs,h11.get? b=some o->o.data=.fields vs->b≠C:=fun b o vs e d z=>by rw[z,hC11]at e;cases e;rw[hdC]at d;cases d
 have key:∃m,h11.Ns C m/\∀h',SameBut C h11 h'->∀cenv:Env,cenv.locals=C->wpAny (model X.prog X.w) X.A (passOn "comprehension.variables-let-go" (.ref x) cenv:Sem Value) (fun _ _=>False) X.xe {s10 with heap:=h'}:=by
  refine⟨m,⟨_,es,ep,hC11,hdC,rC⟩,fun h12 sb cenv _=>?_⟩;have hidN:∀(h:Heap) b o,(h.hide C).get? b=some o->b≠C:=fun h b o q z=>by rw[z]at q;have:=PySem.W.hideAll_none [C] (h:=h) (b:=C) (.head _);rw[show hideAll h [C]=h.hide C from rfl,q]at this;cases this
  have hid:∀b o,(Bh.hide C).get? b=some o->b≠C/\Bh.get? b=some o:=fun b o q=>⟨hidN _ b o q,Heap.of_hide q⟩
  have hnon:∀b,Bh.get? b=none->(Bh.hide C).get? b=none:=fun b q=>by
   cases z:(Bh.hide C).get? b with
   |none=>rfl
   |some o=>rw[(hid b o z).2]at q;cases q
  have fl12:p6 (Bh.hide C) (X.env::X.outer) x (.ref (T.xcl c)) a0 (rawInt X.env.locals) h12:=by obtain⟨oe,vs,Tb,oT,ts,he,hc,hd,h1,hnT,hTe,hT,hdT,h3⟩:=b4;refine⟨fun b o q=>(sb.2 b (hid b o q).1).trans (b1 b o (hid b o q).2),hnon x b2,iT b3 (fun L o hL hL2=>⟨o,(sb.2 L fun z=>hCf (by rw[<- z,hst];exact hL)).trans hL2,rfl⟩) fun L _ q=>hnon L q,?_⟩;exact⟨oe,vs,Tb,oT,ts,(sb.2 x (neF x oe vs he hd)).trans he,hc,hd,h1,hnon Tb hnT,hTe,(sb.2 Tb (neF Tb oT ts hT hdT)).trans hT,hdT,h3⟩
  refine zt fl12 fun h13 fl' fly13 up13=>?_;have same:∀b o,b≠C->Bh.get? b=some o->h13.get? b=some o:=fun b o hb q=>fly13.1 b o ((hide_ne Bh hb).trans q);have h9n:∀b o,(s9.heap.hide C).get? b=some o->b≠C/\s9.heap.get? b=some o:=fun b o q=>⟨hidN _ b o q,Heap.of_hide q⟩
  have nC:∀b u,H10 b=some u->b≠C:=fun b u q z=>by rw[z,hH10]at q;cases q
  have data:∀b o,s10.heap.get? b=some o->b∈frs X.stack->∀vs,o.data≠.fields vs:=fun b o q hb vs z=>by obtain⟨_,o',ho',hd'⟩:=fly.2.2.1.mem (hst▸hb);rw[q]at ho';cases ho';exact hd' vs z
  have i9:L2.Inv X gV Y H9 {s9 with heap:=s9.heap.hide C,toks:=s9.toks}:=iX.turned (t':=s9.toks) (it:=C) (fun b o hb q=>(hide_ne _ hb).trans q) hC9 hCl (.inr hC0) hCc hCp;refine hxc gV Y H9 _ c H10 (.ref x) _ i9 ⟨fl.os,fl.bare,⟨fun b o q n hf _=>?_,fun b o q n hf _=>?_,fun b o q n _=>fl.un.free b o (h9n b o q).2 n (by simp),fun b o q _=>?_,fl.un.tups,fl.un.frzs,fl.un.tbls⟩,?_,x,a0,fl',Bh.hide C,rfl,hst▸fly13,fun b o u q q2=>?_,fun b o o' q q2 hf=>?_⟩ hW
  ·have q':=fl.un.keep b o (h9n b o q).2 n hf (by simp);exact same b o (h9n b o q).1 (ol b o o q' (h9n b o q).2 hf)
  ·obtain⟨s1,q1⟩:=fl.un.slot b o (h9n b o q).2 n hf (by simp);obtain⟨s3,q3⟩:=up b _ q1 (data b _ q1 hf);have q4:=(sb.2 b (h9n b o q).1).trans q3;obtain⟨s5,q5⟩:=up13 b _ q4 fun vs z=>data b _ q1 hf vs z;exact⟨s5,q5⟩
  ·by_cases hf:b∈frs X.stack
   ·obtain⟨_,o2,ho2,_⟩:=fly13.2.2.1.mem (hst▸hf);exact⟨o2,ho2⟩
   ·obtain⟨o1,e1⟩:=fl.un.there b o (h9n b o q).2 (by simp);exact⟨o1,same b o1 (h9n b o q).1 (ol b o1 o e1 (h9n b o q).2 hf)⟩
  ·exact sH fl.hok (fun b o u q q2=>(hide_ne Bh (nC b u q)).trans (tr b o u q q2)) fly13.1
  ·obtain⟨o1,e1⟩:=(fl.hok b u q).there;have e2:=tr b o1 u q e1;have e3:=same b o1 (nC b u q) e2;have q2':h13.get? b=some o:=q2;rw[e3]at q2';cases q2';exact(hide_ne Bh (nC b u q)).trans e2
  ·obtain⟨hb,q9⟩:=h9n b o' q2;obtain⟨o1,e1⟩:=fl.un.there b o' q9 (by simp);have e2:=ol b o1 o' e1 q9 hf;have e3:=same b o1 hb e2;have q':h13.get? b=some o:=q;rw[e3]at q';cases q';exact(hide_ne Bh hb).trans e2
 unfold compPost;cases use<;>exact key
end
section
variable{X:Cx}{T:Tb}{W:Nat->St->HJ}{Z:Zn}{F F1 B L:HB}{H H1:Hp}{Y:St}{env:En}{fp:Nat->HE}{D:Ends}
def gw(caps:List Nat)(k:Nat)(mi:MI)(g:TgM)(me:ME):ME:=fun env=>(mi env).bind fun xs=>if xs.length<=10000000 then(cD g aP me (bw caps k env) xs).bind fun ys=>.ok (.lst .own ys)else .stuck
def qT(hxc:XC X T W)(hst:X.stack=X.env::X.outer)(hfrm:X.env.frame=some X.env.locals)
  (cs:cH X scope caps N tn) (hc:X.calm=true) (hi:SIc X T W tg iter mi) (hk:fj g caps.length)
  (hb:∀C s H ex,SG (cxC X scope C N s H ex) T tg g/\∀E Wb,XF ((cxC X scope C N s H ex).tryX E []) T Wb->SE ((cxC X scope C N s H ex).tryX E []) T Wb elt me)
  (hs:∀x,foldedSetIterable iter X.env x=pure x) (I:L2.Inv X gV Y H s) (h:tE T W (gw caps tn.length mi g me) Y H Q)
  (hfin:∀(Dd C:Addr) (H':Hp) (s6:Shared) (m:Hz),Q (.ref Dd) H'->L2.Inv X gV Y H' s6->s6.heap.Ns C m->H' C=none->C≠X.env.locals->C∉X.fs->X.s₀.heap.objs.size<=C->(∀x c,X.env.cells.lookup x=some c->c≠C)->(∀p∈X.pn++gV,p.1≠C)->compPost (model X.prog X.w) X.A X.xe use Q' (.ref Dd) C (.ok .next) s6) :
  wpAny (model X.prog X.w) X.A (comprehension (.ListComp elt [⟨tg,iter,[],0⟩] scope pos) scope X.env p' (newList []) false (eval iter X.env) use) Q' X.xe s:=by
 obtain⟨Z,F,env,fp,S,q⟩:=h;unfold gw at q;refine wpAny_comprehension_free (use:=use) rfl hs (gR fun y hy hf=>I.ok.has y.1 (cs.free y hy hf)) cs.kind cs.names ?_;refine thn (hi gV s Y H (fun J H1=>∃F1 xs,mi env=.ok xs/\Gr F H F1 H1/\ItC T F1 Z.B (Own fp) H1 J xs) I ⟨Z,F,env,fp,S,?_⟩) fun xv s1 h1=>thn h1 fun itv s2 h2=>?_
 ·cases em:mi env with
  |ok xs=>exact fun J H1 F1 g1 it=>⟨F1,xs,rfl,g1,it⟩
  |exc c|stuck=>rw[em]at q;exact q
 obtain⟨it,fpi,tn_,J,H2,rfl,I2,Tn,st2,f2,F1,xs,em,g1,itc⟩:=h2;rw[em]at q;simp only[Res.HY]at q;split at q
 case isFalse=>exact q.elim
 rename_i hlen
 generalize eR:cD g aP me (bw caps tn.length env) xs=R at q;have S2:=S.grow g1;have hlt:∀b∈fpi,b<s2.heap.objs.size:=fun b hb=>by obtain⟨o,ho,_⟩:=Tn.obj 0 _ st2 b hb;exact lt_size ho
 refine PySem.wpAny_newObj_type (j3 fun h₁ hns₁ hsb₁ hcl₁=>?_);dsimp only at hns₁ hsb₁ hcl₁ ⊢;generalize hH2:s2.heap.push {cls:=.type "list",dict:=none,data:=.seq ([]:HD).toArray}=P2 at hns₁ hsb₁ hcl₁ ⊢;have hC:P2.objs.size=s2.heap.objs.size+1:=by rw[<- hH2,size_push]
 have old:∀b o,s2.heap.get? b=some o->h₁.get? b=some o:=fun b o e=>hsb₁ b o (hH2▸get?_push_of_some _ e);have hDo:h₁.get? s2.heap.objs.size=some {cls:=.type "list",data:=.seq ([]:HD).toArray}:=hsb₁ _ _ (hH2▸get?_push_size _ rfl);rw[hC]at hns₁ hcl₁;have inv0:=pL (t:=s2.toks) cs I2 f2 hlt hns₁ hDo old hcl₁;have hDH:H2 s2.heap.objs.size=none:=I2.hok.fresh (Nat.le_refl _);have hDF:¬F1 s2.heap.objs.size:=fun z=>by obtain⟨o,e⟩:=g1.dom _ z;rw[hDH]at e;cases e
 have SB:=m9 (caps:=caps) (k:=tn.length) S2 hDH hDF;obtain⟨hgN,hel⟩:=hb (s2.heap.objs.size+1) s2 H2 fpi;have hts:STs (cxC X scope (s2.heap.objs.size+1) N s2 H2 fpi) T WF [] aP:=a9;have never:∀{α:Type}{t:Sem α}{Qa:α->Shared->Prop}{E':td}{s':Shared},wpAny (model X.prog X.w) X.A t Qa (fun _ _=>False) s'->wpAny (model X.prog X.w) X.A t Qa E' s':=fun h=>wpAny_mono h (fun _ _ x=>x) fun _ _ z=>z.elim;have fpok:∀{H':Hp}{pins':HA},(∀p∈pins',p.1∉fpi)->(∀b∈fpi,H' b=none)->∀b∈fpi,kh (cxC X scope (s2.heap.objs.size+1) N s2 H2 fpi) pins' H' b:=fun {H' pins'} hp hn b hb=>by
  refine⟨hn b hb,Nat.ne_of_lt (lt_succ_of_lt (hlt b hb)),(jO cs I2 f2 hlt (le_succ _)).exfs b hb,.inl hb,((jO cs I2 f2 hlt (le_succ _)).exf b hb).2,fun p hp' z=>?_⟩;rcases mem_append.mp hp' with w|w
  ·exact absurd (show p ∈([]:HA)from w) (by simp)
  ·exact hp p w (z▸hb)
 have key:∀s4:Shared,L2.Inv (cxC X scope (s2.heap.objs.size+1) N s2 H2 fpi) [] (mq caps tn.length Y) (upd H2 s2.heap.objs.size (.lst [])) s4->tn_ 0 s4.heap ->
   codeAny (model X.prog X.w) X.A (.compLoop (.ListComp elt [⟨tg,iter,[],0⟩] scope pos) 0 (.ref it) (.ref s2.heap.objs.size) (compEnvC scope (mj X scope (s2.heap.objs.size+1)) (s2.heap.objs.size+1) X.env))
    (compPost (model X.prog X.w) X.A X.xe use Q' (.ref s2.heap.objs.size) (s2.heap.objs.size+1)) s4:=by
  intro s4 inv4 st4;refine iY (fun n s'=>∃ (i:Nat) (σ':St) (H':Hp) (Fi:HB) (ys:HK) (vs:HI) (f:HE),n=xs.length - i/\i <= xs.length/\L2.Inv (cxC X scope (s2.heap.objs.size+1) N s2 H2 fpi) [] σ' H' s'/\tn_ i s'.heap/\(∀ b ∈ fpi,H' b=none) /\
   aw T (zC F1 H2) Fi H' σ' (bw caps tn.length env) (fun _=>[])/\H' s2.heap.objs.size=some (.lst vs)/\RelL T Fi Z.B (Own fp) H' ys vs f/\f.Nodup/\(∀a∈f,¬Fi a/\H2 a=none/\a≠s2.heap.objs.size)/\¬Fi s2.heap.objs.size/\ys.length<=i /\
   R=(cD g aP me (bw caps tn.length env) (xs.drop i)).bind fun zs=>.ok (ys++zs)) ?_ xs.length ?_
  case refine_2=>
   refine⟨0,_,_,F1,[],[],[],by simp,zero_le _,inv4,st4,fun b hb=>?_,SB,bA,by unfold RelL;exact⟨rfl,rfl⟩,nodup_nil,fun _ z=>(nomatch z),hDF,zero_le _,by rw[List.drop_zero,eR];cases R<;>rfl⟩;rw[aG (Nat.ne_of_lt (hlt b hb))];exact(f2 b hb).1
  rintro n s5 ⟨i,σ',H',Fi,ys,vs,f,rfl,hil,inv5,st5,fr5,SI5,hD5,ry,nd5,nf5,nFD,hyl,ecl⟩;have ext5:Ext H2 H':=fun a o e=>SI5.hp.keep a o e fun z=>z;have gr5:Gr F1 H2 Fi H':=⟨ext5,SI5.hp.f0,fun a h=>by
   rcases SI5.hp.fn a h with z|z|z
   ·exact .inl z
   ·exact .inr z
   ·exact z.elim,SI5.hp.ft⟩
  obtain⟨go,stop⟩:=itc H' ext5;by_cases hlt5:i<xs.length
  ·have hx:xs[i]?=some xs[i]:=by simp[hlt5]
   obtain⟨g5,yl⟩:=go i _ hx;rw[drop_eq_getElem_cons hlt5]at ecl;unfold cD at ecl;cases eg:g xs[i].HQ (bw caps tn.length env)with
   |none=>rw[eg]at ecl;rw[ecl]at q;exact q.elim
   |some e'=>
   rw[eg]at ecl;dsimp only at ecl;refine thn (Tn.item (cxC X scope (s2.heap.objs.size+1) N s2 H2 fpi) rfl rfl rfl hc i [] s5 σ' H' _ inv5 (fpok (fun _ z=>absurd z (by simp)) fr5) st5 g5) fun r s6 hz1=>?_;obtain⟨u,hr,h6⟩:=hz1;subst hr;refine thn h6 fun _ s7 hz1=>?_;obtain⟨v,H7,inv7,rv,yy,st7,fr7⟩:=hz1;obtain⟨ex7,fx,tx,rx⟩:=yl v H7 yy
   replace SI5:=SI5.grow (Gr.same SI5.hp.ft ex7)
   replace ry:=ry.ext ex7 fun _ h=>h
   replace hD5:=ex7 _ _ hD5
   replace gr5:=gr5.trans (Gr.same gr5.dom ex7)
   replace ext5:=gr5.ext
   have pinv:=inv7.pinned (fpok (fun _ z=>absurd z (by simp)) fr7) (Tn.obj _ _ st7);have rxb:Rel T Fi (zC F1 H2).B NoL H7 xs[i].HQ v []:=by refine Rel.HQ (B:=fun a=>∃o,H2 a=some o) (L:=Own fp) (fun _ h=>h) (fun a ⟨j,hj⟩=>(S2.dis j a hj).2) (fun a ha=>tx a ha) ?_;exact Rel.tr SI5.hp.f0 (fun a h=>let⟨⟨o,h1⟩,h2⟩:=S2.hp.bo.1 a h;⟨o,S2.hp.keep a o h1 h2⟩) (fun _ h=>h) (fun a o q _=>q) (fun a _ o q=>q) rx
   refine never (thn (hgN _ s7 σ' H7 v u (fun σ8 H8=>H8=H7/\∃fp8,aw T (zC F1 H2) Fi H7 σ8 e' fp8) pinv rv ⟨zC F1 H2,Fi,bw caps tn.length env,fun _=>[],xs[i].HQ,[],SI5,rxb,q_.nil,?_⟩) fun _ s8 ⟨σ8,H8,inv8,e8,fp8,S8⟩=>?_)
   ·rw[eg];exact fun σ8 fp8 S8=>⟨rfl,fp8,S8⟩
   subst e8;obtain⟨kl,kk⟩:=hk.keep _ _ _ eg;have capOwn:∀(j:Nat) pv,(bw caps tn.length env)[j]?=some (some pv)->pv.has Fl.HR=false:=fun j pv ej=>by
    unfold bw at ej;by_cases hj:j<caps.length
    ·rw[getElem?_append_left (by simpa using hj),getElem?_map]at ej;obtain⟨jj,_,e2⟩:=map_eq_some_iff.mp ej;obtain⟨pv0,_,rfl⟩:=map_eq_some_iff.mp e2;exact eU pv0
    ·rw[getElem?_append_right (by simpa using hj),getElem?_replicate]at ej;split at ej<;>cases ej
   have S8':aw T (zC F1 H2) Fi H8 σ8 e' (fun _=>[]):=S8.HX fun j pv ej=>by
    rcases hk.own _ _ _ eg (eU _) j pv ej with z|z
    ·exact capOwn j pv z
    ·exact z
   have back:∀{F9:HB}{H9:Hp},aw T (zC F1 H2) F9 H9 σ8 e' (fun _=>[])->aw T (zC F1 H2) F9 H9 σ8 (bw caps tn.length env) (fun _=>[]):=fun S9=>S9.wk rfl kl.symm fun j pv ej=>by
    have hj:j<caps.length:=by
     by_cases hj:j<caps.length
     ·exact hj
     ·unfold bw at ej;rw[getElem?_append_right (by simpa using hj),getElem?_replicate]at ej;split at ej<;>cases ej
    rw[kk j hj];exact ej
   have pinback:∀{H9:Hp}{s9:Shared},L2.Inv (cxC X scope (s2.heap.objs.size+1) N s2 H2 fpi) ([]++ jv fpi s7.heap) σ8 H9 s9->L2.Inv (cxC X scope (s2.heap.objs.size+1) N s2 H2 fpi) [] σ8 H9 s9/\tn_ (i+1) s9.heap/\∀b∈fpi,H9 b=none:=fun {H9 s9} i9=>
    ⟨i9.unpinned,Tn.keep _ _ _ st7 fun b hb o e=>(i9.pin (b,o) (mem_append_right _ (mem_append_right _ (dE hb e)))).1,fun b hb=>by
     obtain⟨o,e,_⟩:=Tn.obj _ _ st7 b hb;exact(i9.pin (b,o) (mem_append_right _ (mem_append_right _ (dE hb e)))).2.1⟩
   have emc:aP e'=.ok true:=rfl;rw[emc]at ecl;simp only[Res.HY,if_true]at ecl;refine never (thn (hts _ s8 σ8 H8 (fun b H9=>b=true/\∃F9,Gr Fi H8 F9 H9) inv8 ⟨zC F1 H2,Fi,e',fun _=>[],S8',?_⟩) fun ok s9 ⟨H9,inv9,eb,F9,g9⟩=>?_)
   ·rw[emc];exact fun H9 F9 g9=>⟨rfl,F9,g9⟩
   subst eb;have S9:=S8'.grow g9;have ry9:=ry.ext g9.ext g9.mono;have nf9:∀a∈f,¬F9 a:=fun a ha z=>by
    rcases g9.only a z with z|z
    ·exact(nf5 a ha).1 z
    ·obtain⟨o,e⟩:=ry.there a ha;rw[e]at z;cases z
   have nFD9:¬F9 s2.heap.objs.size:=fun z=>by
    rcases g9.only _ z with z|z
    ·exact nFD z
    ·rw[hD5]at z;cases z
   simp only[if_true];have hE:=yM (T:=T) (W:=W) (scope:=scope) (N:=N) (use:=use) (Q':=Q') (acc:=.ref s2.heap.objs.size) hxc hst hfrm I2 f2;cases eme:me e' with
    |stuck=>rw[eme]at ecl;rw[ecl]at q;exact q.elim
    |exc c=>
    rw[eme]at ecl;rw[ecl]at q;have q':∀H',Ext H H'->W c Y H':=q;refine thn (hel _ _ hE _ s9 σ8 H9 (fun _ _=>False) (inv9.toX rfl) ⟨zC F1 H2,F9,e',fun _=>[],S9,?_⟩) fun _ _ ⟨_,_,_,_,z⟩=>z.elim;rw[eme];exact fun H' hx=>q' H' (g1.ext.trans (ext5.trans (g9.ext.trans hx)))
    |ok y=>
    rw[eme]at ecl;simp only[Res.HY]at ecl;split at ecl
    case isTrue=>rw[ecl]at q;exact q.elim
    rename_i hyb
    simp only[Bool.or_eq_true,not_or,Bool.not_eq_true]at hyb;refine thn (hel _ _ hE _ s9 σ8 H9 (fun v' H10=>∃F10 f10,Gr F9 H9 F10 H10/\Rel T F10 (zC F1 H2).B (Own fun _=>[]) H10 y v' f10/\(∀a∈f10,¬F10 a)/\f10.Nodup/\∀a∈f10,H9 a=none) (inv9.toX rfl) ⟨zC F1 H2,F9,e',fun _=>[],S9,?_⟩) fun w s10 ⟨v',H10,inv10,rw10,F10,f10,g10,r10,n10,d10,w10⟩=>?_
    ·rw[eme];exact fun v' H10 F10 f10 g10 r10 n10 d10 w10=>⟨F10,f10,g10,r10,n10,d10,w10⟩
    replace inv10:=inv10.ofX rfl
    have hvl:vs.length<sizeLine:=by
     have h1:=ry.length;have h2:sizeLine=16777216:=sizeLine_eq
     lia
    have hD10:H10 s2.heap.objs.size=some (.lst vs):=g10.ext _ _ (g9.ext _ _ hD5);refine never (thn (jC _ s10 σ8 H10 (.ref s2.heap.objs.size) [v'] (.ref s2.heap.objs.size) [w] (fun _ H11=>H11=upd H10 s2.heap.objs.size (.lst (vs++[v']))) inv10 rfl (.cons rw10 .nil) ⟨s2.heap.objs.size,vs,v',rfl,rfl,hD10,hvl,rfl⟩) fun _ s11 zz=>?_);obtain⟨_,H11,inv11,_,e11⟩:=zz;subst e11;obtain⟨i12,st12,fr12⟩:=pinback inv11;have S10:=S9.grow g10;have nFD10:¬F10 s2.heap.objs.size:=fun z=>by
     rcases g10.only _ z with z|z
     ·exact nFD9 z
     ·rw[g9.ext _ _ hD5]at z;cases z
    have ry10:=ry9.ext g10.ext g10.mono;have ryy:RelL T F10 Z.B (Own fp) (upd H10 s2.heap.objs.size (.lst (vs++[v']))) (ys++[y]) (vs++[v']) (f++f10):=by
     have ry1:Rel T F10 Z.B (Own fp) H10 y v' f10:=Rel.noL hyb.2 (Rel.noB (B':=Z.B) hyb.1 r10);have all:RelL T F10 Z.B (Own fp) H10 (ys++[y]) (vs++[v']) (f++f10):=RelL.append ry10 (by unfold RelL;exact⟨v',[],f10,[],rfl,ry1,by unfold RelL;exact⟨rfl,rfl⟩,by simp⟩);refine RelL.tr (fun _ h=>h) (fun _ h=>h) (fun _ h=>h) (fun a o e h=>?_) (fun a ha o e=>?_) all
     ·refine(aG fun z=>?_).trans e;subst z;rcases h with h|h|h|h
      ·exact nFD10 h
      ·obtain⟨⟨o',h1⟩,h2⟩:=S2.hp.bo.1 _ h;rw[S2.hp.keep _ o' h1 h2]at hDH;cases hDH
      ·obtain⟨j,hj⟩:=h;obtain⟨_,o',ho'⟩:=S2.dis j _ hj;rw[hDH]at ho';cases ho'
      ·rw[hD10]at e;cases e;exact h
     ·refine(aG fun z=>?_).trans e;subst z;rcases mem_append.mp ha with ha|ha
      ·exact(nf5 _ ha).2.2 rfl
      ·have:=w10 _ ha;rw[g9.ext _ _ hD5]at this;cases this
    have nf10:∀a∈f,¬F10 a:=fun a ha z=>by
     rcases g10.only a z with z|z
     ·exact nf9 a ha z
     ·obtain⟨o,e⟩:=ry9.there a ha;rw[e]at z;cases z
    refine⟨xs.length-(i+1),by lia,i+1,σ8,_,F10,ys++[y],vs++[v'],f++f10,rfl,hlt5,i12,st12,fr12,back (S10.updD nFD10 hDH hD10 (fun z=>z)),bA,ryy,?_,fun a ha=>?_,nFD10,by simp;lia,?_⟩
    rotate_left 2
    ·rw[ecl];cases cD g aP me (bw caps tn.length env) (xs.drop (i+1))with
     |ok zs=>simp only[Res.HY,append_assoc];rfl
     |exc c|stuck=>rfl
    ·refine nodup_append.mpr ⟨nd5,d10,fun a ha b hb z=>?_⟩;subst z;obtain⟨o,e⟩:=ry9.there a ha;rw[w10 a hb]at e;cases e
    ·rcases mem_append.mp ha with ha|ha
     ·exact⟨nf10 a ha,(nf5 a ha).2⟩
     ·refine⟨n10 a ha,?_,fun z=>?_⟩
      ·have:=w10 a ha;exact ext5.free (g9.ext.free this)
      ·subst z;have:=w10 _ ha;rw[g9.ext _ _ hD5]at this;cases this
  ·have e:i=xs.length:=by lia
   subst e;rw[drop_length]at ecl;unfold cD at ecl;simp only[Res.HY,append_nil]at ecl;rw[ecl]at q;simp only[Res.HY]at q;refine thn (Tn.done (cxC X scope (s2.heap.objs.size+1) N s2 H2 fpi) rfl rfl rfl hc xs.length [] s5 σ' H' _ inv5 (fpok (fun _ z=>absurd z (by simp)) fr5) st5 stop) fun r s6 hz1=>?_;obtain⟨hr,inv6⟩:=hz1;subst hr;obtain⟨m,hn,_⟩:=id inv6.loc;have hlc:X.env.locals<s2.heap.objs.size+1:=lt_succ_of_lt I2.lt;have iX:L2.Inv X gV Y H' s6:=I2.call' inv6.os inv6.base inv6.hok inv6.bare fun b hb=>⟨(f2 b hb).2.2.2.1,(f2 b hb).2.1,(f2 b hb).2.2.2.2.1,(f2 b hb).2.2.2.2.2⟩
   refine hfin _ (s2.heap.objs.size+1) H' s6 m ?_ iX hn inv6.free (Nat.ne_of_gt hlc) (I2.nofs (le_succ _)) (Nat.le_trans I2.sz (le_succ _)) (fun x c e z=>?_) (fun p hp z=>?_)
   case refine_2=>
    obtain⟨v,hv⟩:=I2.cell x c e;rw[z]at hv;exact absurd hv.lt (Nat.not_lt.mpr (le_succ _))
   case refine_3=>
    have:=lt_size (I2.pin p hp).1;rw[z]at this;exact absurd this (Nat.not_lt.mpr (le_succ _))
   refine q (.ref s2.heap.objs.size) H' Fi (s2.heap.objs.size::f) (g1.trans gr5) ?_ (fun a ha=>?_) ?_ (fun a ha=>?_)
   ·unfold Rel;exact⟨_,vs,f,rfl,hD5,ry,rfl⟩
   ·rcases mem_cons.mp ha with rfl|ha
    ·exact nFD
    ·exact(nf5 a ha).1
   ·exact nodup_cons.mpr ⟨fun z=>(nf5 _ z).2.2 rfl,nd5⟩
   ·rcases mem_cons.mp ha with rfl|ha
    ·exact g1.ext.free hDH
    ·exact g1.ext.free (nf5 a ha).2.1
 have st0:tn_ 0 h₁:=Tn.keep _ _ _ st2 fun b _ o e=>old b o e;have lp:=key _ inv0 st0;simp only[hC];exact codeAny_compStart_list lp (Tn.self _ 0 _ _ _ st0 lp)
def vR(hxc:XC X T W)(hst:X.stack=X.env::X.outer)(hfrm:X.env.frame=some X.env.locals)
  (cs:cH X scope caps N tn) (hc:X.calm=true) (hi:SIc X T W tg iter mi) (hk:fj g caps.length)
  (hb:∀C s H ex,SG (cxC X scope C N s H ex) T tg g/\∀E Wb,XF ((cxC X scope C N s H ex).tryX E []) T Wb->SE ((cxC X scope C N s H ex).tryX E []) T Wb elt me)
  (hs:∀x,foldedSetIterable iter X.env x=pure x:=by intro _;rfl):SE X T W (.ListComp elt [⟨tg,iter,[],0⟩] scope pos) (gw caps tn.length mi g me):=by
 intro gV s Y H Q I h;rw[eval_ListComp];refine qT hxc hst hfrm cs hc hi hk hb hs I h fun Dd C H' s6 m hq iX hn hCn hCl hCf hC0 hCc hCp=>⟨m,hn,fun h' hs'=>⟨.ref Dd,H',?_,rfl,hq⟩⟩
 exact iX.turned (t':=s6.toks) (fun b o hb e=>(hs'.2 b hb).trans e) hCn hCl (.inr hC0) hCc hCp
def vS
  (G:b9 X.prog X.w X.K X.mg X.base (CXP X.prog X.w) k f fd ps (spM T ps.length m)) (rm:c9 kk X.A) (xf:XF X T W) (hk:k<=kk) (hg:Gl X x) (hm:X.mg x=some (.ref f)) (hkp:PySem.W.keepIn X.K (.ref f)=true) (hb:dy X.K fd ps [])
  (hn:fk ms n) (hps:n=ps.length) (ha:SA X T W (e::es) ms)
  (hdb:(x ==("__debug__":Str))=false:=by decide) (he:starEach (e::es) X.env=(false,eval e X.env)::starEach es X.env:=by rfl) (hpl:(backTo pos (starEach es X.env)).any (·.1)=false:=by rfl) :
  SE X T W (.Call (.Name x p) (e::es) [] pos) (ao (ax m) ms):=by
 have h:=rW (dvs:=[]) (dps:=[]) (p:=p) (pos:=pos) G (rm.mono hk) hg hm hkp hb .nil jX xf (fun env xs q=>by rw[hn env xs q];exact hps) ha hdb he hpl;simpa using h
end
section
variable{X:Cx}{T:Tb}{W:Nat->St->HJ}{Z:Zn}{F F1 B L:HB}{H H1:Hp}{Y:St}{env:En}{fp:Nat->HE}
def kU:PV->PV->HL
 |.str x,.int n=>if -1000<=n/\n<=1/\x.length<=1000 then .ok (.str (if n<1 then Str.empty else x))else .stuck
 |_,_=>.stuck
def ww:OpR X (binaryOp .Mult) (fun x y H Q=>∃z n,x=.str z/\y=.int n/\(-1000<=n/\n<=1/\z.length<=1000)/\Q (.str (if n<1 then Str.empty else z)) H):=by
 intro gV s Y H x y v u Q I rx ry h;obtain⟨z,n,rfl,rfl,⟨h1,h2,h3⟩,q⟩:=h;obtain⟨t,rfl⟩:=rx;obtain⟨t2,rfl⟩:=ry;refine PySem.P.mul_str ?_ (fun a b=>?_) (fun a b=>?_) ?_
 ·rw[decide_eq_false (by lia),decide_eq_false (by lia)];rfl
 ·exfalso;have:n=1:=by lia
  subst this;simp at b
 ·exfalso;have:n=1:=by lia
  subst this;simp at b
 ·by_cases h:n<1
  ·rw[if_pos h]at q ⊢;exact⟨by decide,.str Str.empty,H,I.tok _,⟨_,rfl⟩,q⟩
  ·have e:n=1:=by lia
   subst e;rw[if_neg h]at q ⊢;rw[if_pos (by simp)];exact⟨.str z,H,I,⟨t,rfl⟩,q⟩
def uw:jb T W kU (fun x y H Q=>∃z n,x=.str z/\y=.int n/\(-1000<=n/\n<=1/\z.length<=1000)/\Q (.str (if n<1 then Str.empty else z)) H):=by
  intro B F L Y H Q F' H' x y v u fx fy gr rx ry _ _ _ q;cases x<;>cases y<;>first
    |exact q.elim
    | (unfold Rel at rx ry
       simp only[kU]at q;split at q
       . rename_i hh
         exact⟨_,_,rx.1,ry.1,hh,q.scal gr ke⟩
       . exact q.elim)
def vM(ha:SE X T W a ma)(hb:SE X T W b mb):SE X T W (.BinOp a .Mult b pos) (mOp kU ma mb):=gK ww uw ha hb
end
open AutoSeq1 (wpAny_loadPart')
structure yJ(K:PySem.W.Frag)(x qual:Str)(st:Stmt)(f:Addr)(fd:FuncData)(dT:Addr)(ds:HD):Prop where
 ex:∃(oc:Value) (od:Option Addr) (kV doc pm:Value) (an:Option Addr) (cdv ct:Value) (osl:Array (Option Value)),
  fd=PySem.W.fnOf x qual (bW st) (bc st) (az st) (.ref dT) kV doc pm an cdv ct/\K.lookup f=some ⟨oc,od,.func fd,osl⟩/\PySem.W.codeIn K cdv qual=true
 kp:PySem.W.keepIn K (.ref f)=true
 dl:∃(o:Obj) (n:Nat),K.lookup dT=some o/\o.data=.seq ds.toArray n
section
variable{P:Program}{w:World}{mg:Hz}{base:Heap}{T:Tb}
def DB(F:yJ T.K x qual st f fd dT ds)(S:cG N ps (az st))
  (body:∀ (cdv:Value) (A:Around) (outer:List Env) (s:Shared) (H:Hp) (E:XK),Ctx (dv (CXP P w) P w T.K mg base N qual (az st) f cdv A outer s H E) T (WD T E) k ->
   SSs (dv (CXP P w) P w T.K mg base N qual (az st) f cdv A outer s H E) T (WD T E) (bc st) m):b9 P w T.K mg base (CXP P w) (k+1) f fd ps (spM T ps.length (bj N.length m)):=by
 obtain⟨oc,od,kV,doc,pm,an,cdv,ct,osl,rfl,lk,hcd⟩:=F.ex;refine xu lk hcd S (fun vs H Q E h=>h.1) fun A outer s H vs Q E hr hsp=>⟨_,body cdv A outer s H E (ow hr),?_⟩
 obtain⟨_,pvs,F,B,fl,R,q⟩:=hsp;obtain⟨fp,S0⟩:=jT N R none (fun _ h=>nomatch h);refine⟨_,F,_,fp,S0,?_⟩;unfold bj at q;cases e:m (pvs.map some++replicate (N.length-pvs.length) none)with
 |next e'=>rw[e]at q;exact fun F' H' σ' fp' S'=>q F' H' .non [] S'.hp Fo nodup_nil (fun _ z=>(nomatch z)) (fun _ z=>(nomatch z))
 |ret v=>rw[e]at q;exact q
 |brk e'|cont e'=>rw[e]at q;exact q.elim
 |exc c e'=>rw[e]at q;exact fun F' H' σ' fp' S'=>q H' S'.hp.keep
 |stuck=>rw[e]at q;exact q.elim
def yJ.binds(F:yJ K x qual st f fd dT ds)
  (h:∀(kV doc pm:Value) (an:Option Addr) (cdv ct:Value) (us:HD),(us++es).length=ps.length->∃k:Option (HH)->Sem (List (Str×Value)),bindArgs (PySem.W.fnOf x qual (bW st) (bc st) (az st) (.ref dT) kV doc pm an cdv ct) ⟨us,[]⟩=seqItems? (.ref dT) >>= k/\k (some ds.toArray)=pure (ps.zip (us++es))):dy K fd ps es:=by
 obtain⟨oc,od,kV,doc,pm,an,cdv,ct,osl,rfl,lk,hcd⟩:=F.ex;obtain⟨o,n,lo,hd⟩:=F.dl;intro s us KI hl;obtain⟨k,h1,h2⟩:=h kV doc pm an cdv ct us hl;exact BindsTo.of_defaults rfl (KI _ _ lo) hd h1 h2
end
section
variable{X:Cx}{T:Tb}{W:Nat->St->HJ}{Z:Zn}{F F1 B L:HB}{H H1:Hp}{Y:St}{env:En}{fp:Nat->HE}
def jD:ME:=fun _=>.stuck
def kO:SE X T W e jD:=fun gV s Y H Q I h=>by obtain⟨_,_,_,_,_,z⟩:=h;exact z.elim
def mFz(m:ME):ME:=fun env=>(m env).bind fun v=>.ok (v.HW Fl.HP)
def Fn(he:SE X T W e m):SE X T W e (mFz m):=PE.wk he fun Y H Q hz1=>by
 obtain⟨Z,F,env,fp,S,q⟩:=hz1;unfold mFz at q;refine⟨Z,F,env,fp,S,?_⟩;cases em:m env with
 |stuck|exc c=>rw[em]at q;exact q
 |ok pv=>rw[em]at q;simp only[Res.HY]at q;intro v H' F' f g r nf nd new;refine q v H' (fun a=>F' a\/a∈f) [] ⟨g.ext,fun a h=>.inl (g.mono a h),fun a h=>h.elim (g.only a) fun z=>.inr (new a z),fun a h=>h.elim (g.dom a) fun z=>r.there a z⟩ (Rel.HP (fun _ h=>.inl h) (fun a h=>.inr h) r) (fun _ h=>nomatch h) nodup_nil fun _ h=>nomatch h
end
open PySem.W (findIn fnOf keepIn nsIn codeIn isFn Frag)
structure FS where
 q:Str
 s:Stmt
 k:Nat
 N:HF
 c:Option Nat
def a7(s:Stmt):Str:=match s with
 |.FunctionDef n _ _ _ _ _ _ _ _ _=>n
 |_=>""
structure Clo(H:Hp)(fr:HF)(cl:List (Str×Addr))(cvs:HI):Prop where
 inj:∀x y c,cl.lookup x=some c->cl.lookup y=some c->x=y
 sub:∀x c,cl.lookup x=some c->x∈fr
 len:cvs.length=fr.length
 val:∀(i:Nat) x v,fr[i]?=some x->cvs[i]?=some v->∃c o u z,cl.lookup x=some c/\H c=some (.frz o u)/\o.data=.cell (some z)/\bE v z
def Clo.tr(C:Clo H fr cl cvs)(h:∀b o u,H b=some (.frz o u)->H' b=some (.frz o u)):Clo H' fr cl cvs:=
 ⟨C.inj,C.sub,C.len,fun i x v h1 h2=>let⟨c,o,u,z,q1,q2,q3⟩:=C.val i x v h1 h2;⟨c,o,u,z,q1,h _ _ _ q2,q3⟩⟩
structure FI where
 name:Str
 qual:Str
 params:Arguments
 body:List Stmt
 scope:Scope
 fr:HF
def FI.bx(i:FI)(H:Hp)(f:Addr)(cvs:HI):Prop:=∃cl doc pm ctv c' oc u u' vs t,H f=some (.frz (PySem.W.fnMade i.name i.qual i.params i.body i.scope cl doc pm c' ctv) u)/\
 H c'=some (.frz oc u')/\oc.data=.fields vs/\vs[1]?=some (.str i.qual t)/\Clo H i.fr cl cvs
def FI.bxs{i:FI}(h:∀b o u,H b=some (.frz o u)->H' b=some (.frz o u))(q:i.bx H f cvs):i.bx H' f cvs:=by obtain⟨cl,doc,pm,ctv,c',oc,u,u',vs,t,h1,h2,h3,h4,C⟩:=q;exact⟨cl,doc,pm,ctv,c',oc,u,u',vs,t,h _ _ _ h1,h _ _ _ h2,h3,h4,C.tr h⟩
structure NFd where
 i:Nat
 j:Nat
 q:Str
 k:Nat
 fr:HF
 N:HF
structure PT where
 F:List FS
 C:HF
 X:HF
 A:HF
 M:List (Nat×Str×Nat)
 Mk:List (Nat×Nat)
 U:List (Nat×Nat)
 B:HF
 I:List (Str×Int)
 KT:List (Option Nat×String×List Bool)
 HT:List (Nat×List Bool)
 D:List (HF):=[]
 G:Option NFd:=none
def fs0:FS:=⟨"",.Pass ⟨0,0,0,0⟩,0,[],none⟩
def pk{α:Type}(d:α)(l:List α)(i:Nat):α:=l.getD i (l.headD d)
def fM{α:Type}{d:α}{p:α->Prop}{l:List α}(hl:l≠[])(h:∀x∈l,p x)(i:Nat):p (pk d l i):=by
 unfold pk;rw[getD_eq_getElem?_getD];cases e:l[i]? with
 |some C=>exact h C (List.mem_of_getElem? e)
 |none=>
  cases l with
  |nil=>exact absurd rfl hl
  |cons a l=>exact h a mem_cons_self
section
variable(p:PT)(K:Frag)
def gAt(x:Str):Addr:=match nsIn K mainGlobals x with
 |some (some (.ref a))=>a
 |_=>0
def mAt(c:Addr)(x:Str):Addr:=match findIn K (.ref c) x with
 |some (some (.ref a))=>a
 |_=>0
def dAt(f:Addr):FuncData:=match K.lookup f with
 |some ⟨_,_,.func d,_⟩=>d
 |_=>default
def PT.fs(i:Nat):FS:=pk fs0 p.F i
def PT.ps(i:Nat):HF:=(p.fs i).N.take (p.fs i).k
def PT.ca(c:Nat):Addr:=gAt K (pk "" p.C c)
def PT.xa(c:Nat):Addr:=gAt K (pk "" p.X c)
def PT.fx(x:FS):Addr:=match x.c with
 |none=>gAt K (a7 x.s)
 |some c=>mAt K (p.ca K c) (a7 x.s)
def PT.fa(i:Nat):Addr:=p.fx K (p.fs i)
def lit(x:FS):Obj->Obj
 |⟨oc,od,.func d,sl⟩=>⟨oc,od,.func (fnOf (a7 x.s) x.q (bW x.s) (bc x.s) (az x.s) .none d.kwdefaults d.doc d.pyModule d.annotations d.code d.closureTuple),sl⟩
 |o=>o
def Gg:Option Obj->Bool
 |some ⟨_,_,.func _,_⟩=>true
 |_=>false
def scB(x:FS):Bool:=decide ((az x.s).kind=.function)&&!(az x.s).isCoroutine&&!(az x.s).isGenerator&&decide x.N.Nodup&&decide (x.k<=x.N.length) &&
 (x.N.take x.k).all (fun y=>decide ((az x.s).names.lookup y=some .local \/(az x.s).names.lookup y=some .cell))&&(az x.s).names.all (fun y=>decide (y.2≠.free))
def PT.chF(x:FS):Bool:=Gg (K.lookup (p.fx K x))&&codeIn K (dAt K (p.fx K x)).code x.q&&keepIn K (.ref (p.fx K x))&&(match x.c with|none=>decide (nsIn K mainGlobals (a7 x.s)=some (some (.ref (p.fx K x))))|some _=>true)
def chC(A:HF)(x:Str):Bool:=plainGet K (gAt K x) Str.empty&&hasDictIn K (gAt K x)&&plainOver K (gAt K x)&&decide (findIn K (.ref (gAt K x)) "__setattr__"=some (some (.builtin "object.__setattr__"))) &&
 decide (nsIn K mainGlobals x=some (some (.ref (gAt K x))))&&A.all (fun y=>decide (findIn K (.ref (gAt K x)) y=some none))
def PT.chM(x:Nat×Str×Nat):Bool:=decide (findIn K (.ref (p.ca K x.1)) x.2.1=some (some (.ref (p.fa K x.2.2))))&&isFn K (.ref (p.fa K x.2.2))&&keepIn K (.ref (p.fa K x.2.2))
def PT.chK(x:Nat×Nat):Bool:=makesIn K (p.ca K x.1)&&decide (findIn K (.ref (p.ca K x.1)) "__init__"=some (some (.ref (p.fa K x.2))))&&isFn K (.ref (p.fa K x.2))&&keepIn K (.ref (p.ca K x.1))
def Bt(f:Addr):Option PySem.W.CFound->Bool
 |some (.val (.ref a))=>decide (a=f)
 |_=>false
def PT.chU(x:Nat×Nat):Bool:=decide (specialIn K (.ref (p.ca K x.1)) "__getattribute__"=some (some (.builtin "type.__getattribute__")))&&readsIn K (p.ca K x.1) (.type "type")&&Bt (p.fa K x.2) (findCls K (.ref (p.ca K x.1)) (.type "type") "__init__")&&keepIn K (.ref (p.fa K x.2))
def tgV(y:Option Nat×String×List Bool):Value:=match y.1 with
 |some x=>.ref (p.xa K x)
 |none=>.type y.2.1
def chX(x:Str):Bool:=decide (nsIn K mainGlobals x=some (some (.ref (gAt K x))))&&uL K (gAt K x)
def chI(x:Str×Int):Bool:=match nsIn K mainGlobals x.1 with
 |some (some (.int i _))=>decide (i=x.2)
 |_=>false
def PT.chT(y:Option Nat×String×List Bool):Bool:=decide (p.X.map (fun x=>kitOne K (.ref (gAt K x)) (tgV p K y))=y.2.2.map some)
def PT.chH(y:Nat×List Bool):Bool:=decide (p.X.map (fun x=>exmOne K (.ref (gAt K x)) (.ref (p.xa K y.1)))=y.2.map some)
def PT.ch1:Bool:=p.F.all (p.chF K)
def PT.ch2:Bool:=p.C.all (chC K p.A)&&p.Mk.all (p.chK K)&&p.U.all (p.chU K)&&p.X.all (chX K)&&p.B.all (fun x=>decide (nsIn K mainGlobals x=some none))&&p.I.all (chI K)&&p.KT.all (p.chT K)&&p.HT.all (p.chH K)
def PT.ch3:Bool:=p.M.all (p.chM K)
def PT.ob:List (Option Obj):=p.F.map fun x=>K.lookup (p.fx K x)
def PT.ol:List (Option Obj):=p.F.map fun x=>(K.lookup (p.fx K x)).map (lit x)
end
structure Tx(p:PT)(K:Frag)(mg:Hz):Prop where
 fn:∀i,Fun K (a7 (p.fs i).s) (p.fs i).q (p.fs i).s (p.fa K i) (dAt K (p.fa K i))
 sc:∀i,cG (p.fs i).N (p.ps i) (az (p.fs i).s)
 bn:∀i,dy K (dAt K (p.fa K i)) (p.ps i) []
 gl:∀i,(p.fs i).c=none->mg (a7 (p.fs i).s)=some (.ref (p.fa K i))
 cl:∀c,Cls K (p.ca K c)
 cg:∀c,mg (pk "" p.C c)=some (.ref (p.ca K c))
 cn:∀c,∀x∈p.A,d4 K (p.ca K c) x
 me:∀x∈p.M,AO K (p.ca K x.1) x.2.1 (p.fa K x.2.2)
 mm:∀x∈p.Mk,Mk K (p.ca K x.1) (p.fa K x.2)
 su:∀x∈p.U,Sup K (p.ca K x.1) (p.fa K x.2)
 xg:∀c,mg (pk "" p.X c)=some (.ref (p.xa K c))
 xe:∀c,uL K (p.xa K c)=true
 bi:∀x∈p.B,mg x=none
 ci:∀x∈p.I,∃tk,mg x.1=some (.int x.2 tk)
 kt:∀y∈p.KT,∀c,kitOne K (.ref (p.xa K c)) (tgV p K y)=some (o9 y.2.2 c)
 ht:∀y∈p.HT,∀c,exmOne K (.ref (p.xa K c)) (.ref (p.xa K y.1))=some (o9 y.2 c)
def Bnd(x:FS):Prop:=∀(kV doc pm:Value) (an:Option Addr) (cdv ct:Value) (us:HD),us.length=(x.N.take x.k).length->bindArgs (fnOf (a7 x.s) x.q (bW x.s) (bc x.s) (az x.s) .none kV doc pm an cdv ct) ⟨us,[]⟩=pure ((x.N.take x.k).zip us)
def yL:List FS->Prop
 | []=>True
 |x::l=>Bnd x/\yL l
def yL.get:∀{l:List FS},yL l->∀x∈l,Bnd x
 | [],_,_,h=>nomatch h
 |y::l,⟨h1,h2⟩,x,h=>by
  rcases mem_cons.mp h with rfl|h
  ·exact h1
  ·exact h2.get x h
section
variable{x:FS}
def lsS{us:HD}(h:us.length=n+1):∃a r,us=a::r/\r.length=n:=by
 cases us with
 |nil=>cases h
 |cons a r=>exact⟨a,r,rfl,Nat.succ.inj h⟩
def bn1(h:∀(kV doc pm:Value) (an:Option Addr) (cdv ct u1:Value),bindArgs (fnOf (a7 x.s) x.q (bW x.s) (bc x.s) (az x.s) .none kV doc pm an cdv ct) ⟨[u1],[]⟩=pure ((x.N.take x.k).zip [u1]):=by intros;rfl)(hk:(x.N.take x.k).length=1:=by rfl):Bnd x:=fun kV doc pm an cdv ct us hl=>by rw[hk]at hl;obtain⟨_,_,rfl,l1⟩:=lsS hl;cases List.eq_nil_of_length_eq_zero l1;exact h ..
def bn2(h:∀(kV doc pm:Value) (an:Option Addr) (cdv ct u1 u2:Value),bindArgs (fnOf (a7 x.s) x.q (bW x.s) (bc x.s) (az x.s) .none kV doc pm an cdv ct) ⟨[u1,u2],[]⟩=pure ((x.N.take x.k).zip [u1,u2]):=by intros;rfl)(hk:(x.N.take x.k).length=2:=by rfl):Bnd x:=fun kV doc pm an cdv ct us hl=>by rw[hk]at hl;obtain⟨_,_,rfl,l1⟩:=lsS hl;obtain⟨_,_,rfl,l2⟩:=lsS l1;cases List.eq_nil_of_length_eq_zero l2;exact h ..
def bn3(h:∀(kV doc pm:Value) (an:Option Addr) (cdv ct u1 u2 u3:Value),bindArgs (fnOf (a7 x.s) x.q (bW x.s) (bc x.s) (az x.s) .none kV doc pm an cdv ct) ⟨[u1,u2,u3],[]⟩=pure ((x.N.take x.k).zip [u1,u2,u3]):=by intros;rfl)(hk:(x.N.take x.k).length=3:=by rfl):Bnd x:=fun kV doc pm an cdv ct us hl=>by rw[hk]at hl;obtain⟨_,_,rfl,l1⟩:=lsS hl;obtain⟨_,_,rfl,l2⟩:=lsS l1;obtain⟨_,_,rfl,l3⟩:=lsS l2;cases List.eq_nil_of_length_eq_zero l3;exact h ..
def bn4(h:∀(kV doc pm:Value) (an:Option Addr) (cdv ct u1 u2 u3 u4:Value),bindArgs (fnOf (a7 x.s) x.q (bW x.s) (bc x.s) (az x.s) .none kV doc pm an cdv ct) ⟨[u1,u2,u3,u4],[]⟩=pure ((x.N.take x.k).zip [u1,u2,u3,u4]):=by intros;rfl)(hk:(x.N.take x.k).length=4:=by rfl):Bnd x:=fun kV doc pm an cdv ct us hl=>by rw[hk]at hl;obtain⟨_,_,rfl,l1⟩:=lsS hl;obtain⟨_,_,rfl,l2⟩:=lsS l1;obtain⟨_,_,rfl,l3⟩:=lsS l2;obtain⟨_,_,rfl,l4⟩:=lsS l3;cases List.eq_nil_of_length_eq_zero l4;exact h ..
def bn6(h:∀(kV doc pm:Value) (an:Option Addr) (cdv ct u1 u2 u3 u4 u5 u6:Value),bindArgs (fnOf (a7 x.s) x.q (bW x.s) (bc x.s) (az x.s) .none kV doc pm an cdv ct) ⟨[u1,u2,u3,u4,u5,u6],[]⟩=pure ((x.N.take x.k).zip [u1,u2,u3,u4,u5,u6]):=by intros;rfl)(hk:(x.N.take x.k).length=6:=by rfl):Bnd x:=fun kV doc pm an cdv ct us hl=>by rw[hk]at hl;obtain⟨_,_,rfl,l1⟩:=lsS hl;obtain⟨_,_,rfl,l2⟩:=lsS l1;obtain⟨_,_,rfl,l3⟩:=lsS l2;obtain⟨_,_,rfl,l4⟩:=lsS l3;obtain⟨_,_,rfl,l5⟩:=lsS l4;obtain⟨_,_,rfl,l6⟩:=lsS l5;cases List.eq_nil_of_length_eq_zero l6;exact h ..
end
def vj{l:HF}{α:Type}{f:Addr->Option Bool}{bs:List Bool}(hl:l≠[])(h:l.map (fun x=>f (gAt K x))=bs.map some)(c:Nat):f (gAt K (pk "" l c))=some (o9 bs c):=by
 have e:gAt K (pk "" l c)=zp (l.map (gAt K)) c:=by
  unfold pk zp;cases l with
  |nil=>exact absurd rfl hl
  |cons a l=>rw[getD_eq_getElem?_getD,getD_eq_getElem?_getD,getElem?_map];cases(a::l)[c]?<;>rfl
 rw[e];exact wf (g:=id) (by simpa using hl) (by rw[map_map];exact h) c
def Tx.of{p:PT}{K:Frag}{h:Heap}{mg:Hz}(X:K.In h)(N:h.Ns mainGlobals mg)(hb:yL p.F)(hs:p.F.all scB=true)(hF:p.F≠[])(hC:p.C≠[])(hX:p.X≠[])
  (e:p.ob K=p.ol K) (h1:p.ch1 K=true) (h2:p.ch2 K=true) (h3:p.ch3 K=true):Tx p K mg:=by
 simp only[PT.ch2,and_eq_true,all_eq_true,decide_eq_true_eq]at h2;obtain⟨⟨⟨⟨⟨⟨⟨c1,c2⟩,c3⟩,c4⟩,c5⟩,c6⟩,c7⟩,c8⟩:=h2;simp only[PT.ch1,PT.ch3,all_eq_true]at h1 h3 hs;have fnx:∀x∈p.F,Fun K (a7 x.s) x.q x.s (p.fx K x) (dAt K (p.fx K x)):=fun x hx=>by
  have q:=h1 x hx;simp only[PT.chF,and_eq_true]at q;obtain⟨⟨⟨q1,q2⟩,q3⟩,_⟩:=q;have e1:K.lookup (p.fx K x)=(K.lookup (p.fx K x)).map (lit x):=List.map_inj_left.mp e x hx;cases eo:K.lookup (p.fx K x)with
  |none=>rw[eo]at q1;cases q1
  |some o=>
   rw[eo]at e1 q1;obtain⟨oc,od,dt,sl⟩:=o;cases dt with
   |func d=>
    have e2:(⟨oc,od,.func d,sl⟩:Obj)=lit x ⟨oc,od,.func d,sl⟩:=Option.some.inj e1;simp only[lit,Obj.mk.injEq,Data.func.injEq,true_and,and_true]at e2;have ed:dAt K (p.fx K x)=d:=by unfold dAt;rw[eo]
    rw[ed]at q2 ⊢;exact⟨⟨oc,od,d.kwdefaults,d.doc,d.pyModule,d.annotations,d.code,d.closureTuple,sl,e2,eo,q2⟩,q3⟩
   |_=>cases q1
 have scx:∀x∈p.F,cG x.N (x.N.take x.k) (az x.s):=fun x hx=>by have q:=hs x hx;simp only[scB,and_eq_true,decide_eq_true_eq,all_eq_true,not_eq_true']at q;obtain⟨⟨⟨⟨⟨⟨q1,q2⟩,q3⟩,q4⟩,q5⟩,q6⟩,q7⟩:=q;exact⟨q1,q2,q3,q4,by rw[length_take,Nat.min_eq_left q5],q6,q7⟩
 have clx:∀x∈p.C,(Cls K (gAt K x)/\mg x=some (.ref (gAt K x)))/\∀y∈p.A,d4 K (gAt K x) y:=fun x hx=>by have q:=c1 x hx;simp only[chC,and_eq_true,decide_eq_true_eq,all_eq_true]at q;obtain⟨⟨⟨⟨⟨q1,q2⟩,q3⟩,q4⟩,q5⟩,q6⟩:=q;exact⟨⟨⟨q1,q2,q3,q4⟩,mg_of X N q5⟩,q6⟩
 have xx:∀x∈p.X,mg x=some (.ref (gAt K x))/\uL K (gAt K x)=true:=fun x hx=>by have q:=c4 x hx;simp only[chX,and_eq_true,decide_eq_true_eq]at q;exact⟨mg_of X N q.1,q.2⟩
 refine ⟨fM (p:=fun x=>Fun K (a7 x.s) x.q x.s (p.fx K x) (dAt K (p.fx K x))) hF fnx,fM (p:=fun x=>cG x.N (x.N.take x.k) (az x.s)) hF scx,fM (p:=fun x=>dy K (dAt K (p.fx K x)) (x.N.take x.k) []) hF fun x hx=>(fnx x hx).binds (hb.get x hx),
  fM (p:=fun x=>x.c=none->mg (a7 x.s)=some (.ref (p.fx K x))) hF fun x hx hc=>?_,fM (p:=fun x=>Cls K (gAt K x)) hC fun x hx=>(clx x hx).1.1,fM (p:=fun x=>mg x=some (.ref (gAt K x))) hC fun x hx=>(clx x hx).1.2,
  fM (p:=fun x=>∀y∈p.A,d4 K (gAt K x) y) hC fun x hx=>(clx x hx).2,fun x hx=>?_,fun x hx=>?_,fun x hx=>?_,fM (p:=fun x=>mg x=some (.ref (gAt K x))) hX fun x hx=>(xx x hx).1,fM (p:=fun x=>uL K (gAt K x)=true) hX fun x hx=>(xx x hx).2,
  fun x hx=>PySem.W.mg_none_of X N (c5 x hx),fun x hx=>?_,fun y hy c=>?_,fun y hy c=>?_⟩
 ·have q:=h1 x hx;simp only[PT.chF,and_eq_true]at q;have q:=q.2;rw[hc]at q;exact mg_of X N (of_decide_eq_true q)
 ·have q:=h3 x hx;simp only[PT.chM,and_eq_true,decide_eq_true_eq]at q;exact⟨q.1.1,q.1.2,q.2⟩
 ·have q:=c2 x hx;simp only[PT.chK,and_eq_true,decide_eq_true_eq]at q;exact⟨q.1.1.1,q.1.1.2,q.1.2,q.2⟩
 ·have q:=c3 x hx;simp only[PT.chU,and_eq_true,decide_eq_true_eq]at q;refine⟨q.1.1.1,q.1.1.2,?_,q.2⟩;have q:=q.1.2;unfold Bt at q;split at q
  ·rename_i a e
   rw[e,of_decide_eq_true q]
  ·cases q
 ·have q:=c6 x hx;unfold chI at q;split at q
  ·rename_i i tk e
   exact⟨tk,by rw[<- of_decide_eq_true q];exact mg_of X N e⟩
  ·cases q
 ·exact vj (α:=Bool) (f:=fun a=>kitOne K (.ref a) (tgV p K y)) hX (of_decide_eq_true (c7 y hy)) c
 ·exact vj (α:=Bool) (f:=fun a=>exmOne K (.ref a) (.ref (p.xa K y.1))) hX (of_decide_eq_true (c8 y hy)) c
def PT.attOk(p:PT):Prop:=p.A.Nodup/\p.A.all ju=true
def PT.gs(p:PT):NFd:=p.G.getD ⟨0,0,"",0,[],[]⟩
def PT.gst(p:PT):Stmt:=(bc (p.fs p.gs.i).s).getD p.gs.j (.Pass ⟨0,0,0,0⟩)
def PT.fi(p:PT):FI:=⟨a7 p.gst,p.gs.q,bW p.gst,bc p.gst,az p.gst,p.gs.fr⟩
def PT.gpos(p:PT):Pos:=match p.gst with
 |.FunctionDef _ _ _ _ _ _ _ _ _ pos=>pos
 |_=>⟨0,0,0,0⟩
def PT.gt(p:PT)(K:Frag):Addr×Addr:=(PySem.W.tabIn K (a7 (p.fs p.gs.i).s)).getD (0,0)
@[reducible] def PT.T(p:PT)(h:p.attOk)(K:Frag):Tb where
 K:=K
 nc:=p.C.length
 cls:=p.ca K
 att:=i8 p.A
 inj:=uU h.1 h.2
 xcl:=p.xa K
 dk:=fun k=>p.D.getD k []
 bx:=fun k H a vs=>if k=99 then p.fi.bx H a vs else if 1000<=k then a=k-1000/\∀v∈vs,v=.ref a else ∃o,H a=some (.frz o (.dK (((p.D.getD k []).map Sum.inr).zip vs)))/\(p.D.getD k []).length=vs.length
 bxs:=fun k H H' a vs h q=>by
  split at q
  ·rw[if_pos ‹_›];exact FI.bxs h q
  ·rw[if_neg ‹_›];split at q
   ·rw[if_pos ‹_›];exact q
   ·rw[if_neg ‹_›];obtain⟨o,z,l⟩:=q;exact⟨o,h _ _ _ z,l⟩
 tb:=fun a=>if p.G.isSome=true/\a=(p.gt K).2 then some #[rawInt p.gpos.line,rawInt p.gpos.col,.str p.gs.q 0]else none
section
variable{p:PT}{K:Frag}{mg:Hz}
def Tx.cls(t:Tx p K mg)(n:Nat):∀c<n,Cls K (p.ca K c):=fun c _=>t.cl c
def Tx.b(t:Tx p K mg)(j:Nat)(h:p.B[j]?=some x:=by rfl):mg x=none:=t.bi x (List.mem_of_getElem? h)
def Tx.c(t:Tx p K mg)(j:Nat)(h:p.I[j]?=some (x,i):=by rfl):∃tk,mg x=some (.int i tk):=t.ci (x,i) (List.mem_of_getElem? h)
end
open PySem.W (keepIn Frag)
section
variable{P:Program}{w:World}{K:Frag}{mg:Hz}{base:Heap}{p:PT}{hA:p.attOk}
abbrev OkF(p:PT)(hA:p.attOk)(P:Program)(w:World)(K:Frag)(mg:Hz)(base:Heap)(k i:Nat)(m:HK->HL):Prop:=b9 P w K mg base (CXP P w) k (p.fa K i) (dAt K (p.fa K i)) (p.ps i) (spM (p.T hA K) (p.ps i).length m)
abbrev OkI(p:PT)(hA:p.attOk)(P:Program)(w:World)(K:Frag)(mg:Hz)(base:Heap)(k i:Nat)(m:HK->HL):Prop:=b9 P w K mg base (CXP P w) k (p.fa K i) (dAt K (p.fa K i)) (p.ps i) (spI (p.T hA K) (p.ps i).length m)
def okC(i:Nat)(t:Tx p K mg)(body:∀ (cdv:Value) (A:Around) (outer:List Env) (s:Shared) (H:Hp) (E:XK),Ctx (dv (CXP P w) P w K mg base (p.fs i).N (p.fs i).q (az (p.fs i).s) (p.fa K i) cdv A outer s H E) (p.T hA K) (WD (p.T hA K) E) k->(p.fs i).N.Nodup ->
  SSs (dv (CXP P w) P w K mg base (p.fs i).N (p.fs i).q (az (p.fs i).s) (p.fa K i) cdv A outer s H E) (p.T hA K) (WD (p.T hA K) E) (bc (p.fs i).s) m):OkF p hA P w K mg base (k+1) i (bj (p.fs i).N.length m):=
 DC (T:=p.T hA K) (t.fn i) (t.sc i) fun a b c d e f g=>body a b c d e f g (t.sc i).nd
def okI(i:Nat)(t:Tx p K mg)(body:∀ (cdv:Value) (A:Around) (outer:List Env) (s:Shared) (H:Hp) (E:XK),Ctx (dv (CXP P w) P w K mg base (p.fs i).N (p.fs i).q (az (p.fs i).s) (p.fa K i) cdv A outer s H E) (p.T hA K) (WD (p.T hA K) E) k->(p.fs i).N.Nodup ->
  SSs (dv (CXP P w) P w K mg base (p.fs i).N (p.fs i).q (az (p.fs i).s) (p.fa K i) cdv A outer s H E) (p.T hA K) (WD (p.T hA K) E) (bc (p.fs i).s) m):OkI p hA P w K mg base (k+1) i (o4 (p.fs i).N.length m):=
 Ah (T:=p.T hA K) (t.fn i) (t.sc i) fun a b c d e f g=>body a b c d e f g (t.sc i).nd
def dm{X:Cx}{k k2 i c:Nat}{mn:Str}{m m':HK->HL}{ps:HF}(j:Nat)(t:Tx p X.K X.mg)(G:b9 X.prog X.w X.K X.mg X.base (CXP X.prog X.w) k (p.fa X.K i) (dAt X.K (p.fa X.K i)) ps (spM (p.T hA X.K) ps.length m))(e:some m=some m')(hj:p.M[j]?=some (c,mn,i):=by rfl)(hp:p.ps i=ps:=by rfl)(hk:k<=k2:=by decide) :
  ∃f fd,AO X.K (p.ca X.K c) mn f/\dy X.K fd ps []/\b9 X.prog X.w X.K X.mg X.base (CXP X.prog X.w) k2 f fd ps (spM (p.T hA X.K) ps.length m'):=by
 cases e;exact⟨_,_,t.me _ (List.mem_of_getElem? hj),hp▸t.bn i,G.mono hk⟩
end
def dno{n c:Nat}{q:Prop}(h:c<n)(hc:n<=c:=by exact Nat.le_add_left _ _):q:=absurd h (Nat.not_lt.mpr hc)
section
variable{X:Cx}{W:Nat->St->HJ}{p:PT}{hA:p.attOk}
def aF(t:Tx p X.K X.mg)
  (G:b9 X.prog X.w X.K X.mg X.base (CXP X.prog X.w) k (p.fa X.K i) (dAt X.K (p.fa X.K i)) (p.ps i) (spM (p.T hA X.K) (p.ps i).length m)) (cx:Ctx X (p.T hA X.K) W kk) (ha:SA X (p.T hA X.K) W (e::es) ms)
  (hk:k<=kk:=by decide) (hx:a7 (p.fs i).s=x:=by rfl) (hc:(p.fs i).c=none:=by rfl) (hg:Gl X x:=by rfl) (hn:fk ms n:=by repeat' first|exact dq|apply cF) (hps:n=(p.ps i).length:=by rfl)
  (hdb:(x ==("__debug__":Str))=false:=by decide) (he:starEach (e::es) X.env=(false,eval e X.env)::starEach es X.env:=by rfl) (hpl:(backTo pos (starEach es X.env)).any (·.1)=false:=by rfl) :
  SE X (p.T hA X.K) W (.Call (.Name x np) (e::es) [] pos) (ao (ax m) ms):=
 o3 G cx hk hg (by subst hx;exact t.gl i hc) (t.fn i).kp (t.bn i) hn hps ha hdb he hpl
def ii(t:Tx p X.K X.mg)
  (D:mz X (p.T hA X.K) k mn ps [] disp) (cx:Ctx X (p.T hA X.K) W kk) (ho:SE X (p.T hA X.K) W o mo) (ha:SA X (p.T hA X.K) W (e::es) ms)
  (hm:∀k,i8 p.A k≠mn:=by exact yB (by decide +kernel) (by decide +kernel)) (hk:k<=kk:=by decide) (hn:fk ms n:=by repeat' first|exact dq|apply cF) (hps:n+1=ps.length:=by rfl)
  (hst:starEach (e::es) X.env=(false,eval e X.env)::starEach es X.env:=by rfl) (hpl:(backTo pos (starEach es X.env)).any (·.1)=false:=by rfl)
  (ht:eval (.Call (.Attribute o mn apos) (e::es) [] pos) X.env=(do
   let ov <- eval o X.env
   standAt apos.atName
   let(f,first) <- holding [ov] (getMethod ov mn pl)
   callWith pos f first (backTo pos (starEach (e::es) X.env)) (backToKw pos (keywordEach [] X.env))):=by rfl) :
  SE X (p.T hA X.K) W (.Call (.Attribute o mn apos) (e::es) [] pos) (eP disp mo ms):=
 BV (pl:=pl) cx (t.cls _) hm D hk hn hps ho ha hst hpl ht
def G8(c:Nat)(t:Tx p X.K X.mg)
  (G:b9 X.prog X.w X.K X.mg X.base (CXP X.prog X.w) k (p.fa X.K i) (dAt X.K (p.fa X.K i)) (p.ps i) (spI (p.T hA X.K) (p.ps i).length m)) (cx:Ctx X (p.T hA X.K) W kk) (ha:SA X (p.T hA X.K) W (e::es) ms)
  (hM:(c,i)∈ p.Mk:=by decide) (hcn:c<p.C.length:=by decide) (hk:k+1<=kk:=by decide) (hx:pk ("":Str) p.C c=x:=by rfl) (hg:Gl X x:=by rfl) (hn:fk ms n:=by repeat' first|exact dq|apply cF) (hps:n+1=(p.ps i).length:=by rfl)
  (hdb:(x ==("__debug__":Str))=false:=by decide) (he:starEach (e::es) X.env=(false,eval e X.env)::starEach es X.env:=by rfl) (hpl:(backTo pos (starEach es X.env)).any (·.1)=false:=by rfl) :
  SE X (p.T hA X.K) W (.Call (.Name x np) (e::es) [] pos) (wX c m ms):=
 BU (t.mm _ hM) hcn G cx hk hg (by subst hx;exact t.cg c) (t.bn i) hn hps ha hdb he hpl
def cI(k:Nat)(t:Tx p X.K X.mg)(cx:Ctx X (p.T hA X.K) W kk)(he:SE X (p.T hA X.K) W e m)(hf:i8 p.A k=f:=by rfl)(hm:f∈p.A:=by decide)(hb:attributeBase e f X.env (eval e X.env)=eval e X.env:=by rfl) :
  SE X (p.T hA X.K) W (.Attribute e f pos) (mUn (aW k) m):=za cx.hK hf (t.cls _) (fun c _=>t.cn c f hm) he hb
def cS(ha:SA X T W es ms)(hn:fk ms n:=by repeat' first|exact dq|apply cF)(hs:n<=1000:=by decide):SE X T W (.List es pos) (bU ms):=BW ha hn hs
def l9{x1}(ha:SA X T W es ms)(hn:fk ms n:=by repeat' first|exact dq|apply cF)(hs:n<=1000:=by decide):SE X T W (.Tuple es x1 pos) (iJ ms):=BR ha hn hs
def aJ(cx:Ctx X T W kk)(ha:SE X T W a ma)(hb:SE X T W b mb)(hs:ja b:=by exact fun _ _=>rfl):SE X T W (.Subscript a b pos) (mOp aq ma mb):=BY cx.hK ha hb hs
def aV(hN:X.N.Nodup)(he:SE X T W e m)(hi:X.N[i]?=some x:=by rfl)(hx:Loc X.env.scope x:=by first|exact .inl rfl|exact .inr rfl)(hs:swapsWith e (some (.Name x pos')) pos.line X.env=pure false:=by rfl)
  (hf:X.fn x=true\/X.env.scope.names.lookup x=some .local:=by first|exact .inl rfl|exact .inr rfl|assumption):SS X T W (.Assign [.Name x pos'] e pos) (aH i m):=BJ hN hi hx he hs hf
def sgN(hN:X.N.Nodup)(hi:X.N[i]?=some x:=by rfl)(hx:Loc X.env.scope x:=by first|exact .inl rfl|exact .inr rfl)(hf:X.fn x=true\/X.env.scope.names.lookup x=some .local:=by first|exact .inl rfl|exact .inr rfl|assumption):SG X T (.Name x pos) (tgN i):=yZ hN hi hx hf
def cQ(h:k<=i:=by decide):fj (tgN i) k:=vh h
def ub(cx:Ctx X T W kk)(he:SE X T W e m)(hN:X.N[i]?=some x:=by rfl)(hv:Vis X.env.scope x:=by first|exact Or.inl rfl|exact Or.inr (Or.inl rfl)|exact Or.inr (Or.inr rfl))
  (hs:swapsWith (.Call (.Attribute (.Name x px) "append" apos) [e] [] cpos) none pos.line X.env=pure false:=by rfl) (hst:starEach [e] X.env=[(false,eval e X.env)]:=by rfl)
  (hfew:((backTo cpos (starEach [e] X.env)).all (fun x=>!x.1)&&(backToKw cpos (keywordEach [] X.env)).all (fun x=>x.1.isSome)&&decide ([e].length+([]:List Keyword).length+(if([]:List Keyword).isEmpty then 0 else 1)<30))=true:=by rfl)
  (hline:(apos.endLine==cpos.line)=true:=by rfl) (hd:(x ==("__debug__":Str))=false:=by decide) (hcd:(x ==("__classdict__":Str))=false:=by decide) :
  SS X T W (.Expr (.Call (.Attribute (.Name x px) "append" apos) [e] [] cpos) pos) (cP i m):=t7 cx.hK hN hv he hs hst hfew hline hd hcd
def sFld(k:Nat)(t:Tx p X.K X.mg)(cx:Ctx X (p.T hA X.K) W kk)(he:SE X (p.T hA X.K) W e m)(hf:i8 p.A k=f:=by rfl)(hm:f∈p.A:=by decide)(hN:X.N[i]?=some x:=by rfl)
  (hv:Vis X.env.scope x:=by first|exact Or.inl rfl|exact Or.inr (Or.inl rfl)|exact Or.inr (Or.inr rfl))
  (hs:swapsWith e (some (.Attribute (.Name x px) f pos')) pos.line X.env=pure false:=by rfl) (hd:(x ==("__debug__":Str))=false:=by decide) (hcd:(x ==("__classdict__":Str))=false:=by decide) :
  SS X (p.T hA X.K) W (.Assign [.Attribute (.Name x px) f pos'] e pos) (lh i k m):=BK cx.hK hf (t.cls _) (fun c _=>t.cn c f hm) hN hv he hs hd hcd
def bL(c:Nat)(t:Tx p X.K X.mg)(cx:Ctx X (p.T hA X.K) W k)(hB:X.K.In X.base)(hx:XM X (p.T hA X.K) W)(ha:SA X (p.T hA X.K) W (e::es) ms)
  (hm:pk ("":Str) p.X c=x:=by rfl) (hg:Gl X x:=by rfl) (hn:fk ms n:=by repeat' first|exact dq|apply cF) (hn2:n<=100:=by decide) (hd:(x ==("__debug__":Str))=false:=by decide)
  (he:starEach (e::es) X.env=(false,eval e X.env)::starEach es X.env:=by rfl) (hpl:(backTo cpos (starEach es X.env)).any (·.1)=false:=by rfl) :
  SS X (p.T hA X.K) W (.Raise (some (.Call (.Name x np) (e::es) [] cpos)) none pos) (a_ c ms):=
 t5 cx (by subst hm;exact t.xg c) hB (Av (t.xe c)).2 hx hg hn hn2 ha hd he hpl
def G7(c:Nat)(t:Tx p X.K X.mg)
  (G:b9 X.prog X.w X.K X.mg X.base (CXP X.prog X.w) k (p.fa X.K i) (dAt X.K (p.fa X.K i)) (p.ps i) (spI (p.T hA X.K) (p.ps i).length m)) (cx:Ctx X (p.T hA X.K) W kk) (ha:SA X (p.T hA X.K) W es ms)
  (hU:(c,i)∈ p.U:=by decide) (hk:k<=kk:=by decide) (hx:pk ("":Str) p.C c=x:=by rfl) (hg:Gl X x:=by rfl) (hN:X.N[0]?=some y:=by rfl) (hv:Vis X.env.scope y:=by first|exact Or.inl rfl|exact Or.inr (Or.inl rfl)|exact Or.inr (Or.inr rfl))
  (hn:fk ms n:=by repeat' first|exact dq|apply cF) (hps:n+1=(p.ps i).length:=by rfl)
  (hdb:(x ==("__debug__":Str))=false:=by decide) (hdy:(y ==("__debug__":Str))=false:=by decide) (hcy:(y ==("__classdict__":Str))=false:=by decide)
  (hst:starEach (.Name y px::es) X.env=(false,eval (.Name y px) X.env)::starEach es X.env:=by rfl) (hpl:(backTo pos (starEach es X.env)).any (·.1)=false:=by rfl)
  (ht:eval (.Call (.Attribute (.Name x q) "__init__" apos) (.Name y px::es) [] pos) X.env=(do
   let ov <- eval (.Name x q) X.env
   standAt apos.atName
   let(f,first) <- holding [ov] (getMethod ov "__init__" pl)
   callWith pos f first (backTo pos (starEach (.Name y px::es) X.env)) (backToKw pos (keywordEach [] X.env))):=by rfl)
  (hs:swapsWith (.Call (.Attribute (.Name x q) "__init__" apos) (.Name y px::es) [] pos) none pos'.line X.env=pure false:=by rfl) :
  SS X (p.T hA X.K) W (.Expr (.Call (.Attribute (.Name x q) "__init__" apos) (.Name y px::es) [] pos) pos') (ld m ms):=
 BI (pl:=pl) cx (t.su _ hU) G hk hg (by subst hx;exact t.cg c) (t.bn i) hN hv hn hps ha hdb hdy hcy hst hpl ht hs
end
section
variable{X:Cx}{W:Nat->St->HJ}{T:Tb}
abbrev nmC(X:Cx)(caps:List Nat)(tn:HF):HF:=caps.map (fun i=>X.N.getD i "")++ tn
def cOf(h:jP X.env.scope scope X.N caps (nmC X caps tn) tn=true):cH X scope caps (nmC X caps tn) tn:=AF h rfl rfl
def cX(tn:HF)(cx:Ctx X T W kk)(hi:SIc X T W tg iter mi)(hk:fj g caps.length)
  (hb:∀C s H ex,(nmC X caps tn).Nodup->SG (cxC X scope C (nmC X caps tn) s H ex) T tg g/\STs (cxC X scope C (nmC X caps tn) s H ex) T WF ifs mc/\SE (cxC X scope C (nmC X caps tn) s H ex) T WF elt me)
  (h:jP X.env.scope scope X.N caps (nmC X caps tn) tn=true:=by kernel_rfl) (hs:∀x,foldedSetIterable iter X.env x=pure x:=by intro _;rfl):SE X T W (.ListComp elt [⟨tg,iter,ifs,0⟩] scope pos) (aM caps tn.length mi g mc me):=
 y9 (cOf h) cx.calm hi hk (fun C s H ex=>hb C s H ex (cOf h).nd) hs
def ig(tn:HF)(cx:Ctx X T W kk)(hN:X.N.Nodup)(hi:SIc X T W tg iter mi)(hk:fj g caps.length)
  (hb:∀C s H ex,(nmC X caps tn).Nodup->SG (cxC X scope C (nmC X caps tn) s H ex) T tg g/\STs (cxC X scope C (nmC X caps tn) s H ex) T WF ifs mc/\SE (cxC X scope C (nmC X caps tn) s H ex) T WF elt me)
  (h:jP X.env.scope scope X.N caps (nmC X caps tn) tn=true:=by kernel_rfl) (hy:X.N[i]?=some y:=by rfl) (hx:Loc X.env.scope y:=by first|exact .inl rfl|exact .inr rfl)
  (hsw:swapsWith (.ListComp elt [⟨tg,iter,ifs,0⟩] scope pos) (some (.Name y py)) spos.line X.env=pure true:=by rfl)
  (hs:∀x,foldedSetIterable iter X.env x=pure x:=by intro _;rfl)
  (hf:X.fn y=true\/X.env.scope.names.lookup y=some .local:=by first|exact .inl rfl|exact .inr rfl|assumption) :
  SS X T W (.Assign [.Name y py] (.ListComp elt [⟨tg,iter,ifs,0⟩] scope pos) spos) (aH i (aM caps tn.length mi g mc me)):=
 yW (cOf h) cx.calm hN hy hx hi hk (fun C s H ex=>hb C s H ex (cOf h).nd) hsw hs hf
end
end PR
namespace PR
open PySem PySem.Spec L2
open PySem.W (findIn fnOf keepIn nsIn codeIn isFn Frag)
structure PE where
 D:List (FS×Bool)
 G:List (Str×List (Str×Int))
 S:List (Str×Str)
 P:List (Str×HF)
def PE.at(q:PE)(j:Nat):FS×Bool:=q.D.getD j (fs0,false)
def PE.gk(q:PE)(j:Nat):Str×List (Str×Int):=q.G.getD j ("",[])
def PE.gk_mem(q:PE)(h:j<q.G.length):q.gk j∈q.G:=by unfold PE.gk;rw[getD_eq_getElem?_getD,getElem?_eq_getElem h];exact getElem_mem h
def PE.sk(q:PE)(j:Nat):Str×Str:=q.S.getD j ("","")
def PE.tk(q:PE)(j:Nat):Str×HF:=q.P.getD j ("",[])
def k_{α:Type}{l:List α}{d:α}{j:Nat}(h:j<l.length):l.getD j d∈l:=by rw[getD_eq_getElem?_getD,getElem?_eq_getElem h];exact getElem_mem h
def rE:HD->Option (List (Str×Tok))
 | []=>some []
 |.str z t::l=>(rE l).map ((z,t)::·)
 |_::_=>none
def oN:∀{vs:HD}{l:List (Str×Tok)},rE vs=some l->vs=strValues l
 | [],l,h=>by cases h;rfl
 |v::vs,l,h=>by
  cases v with
  |str z t=>simp only[rE]at h;obtain⟨m,hm,rfl⟩:=map_eq_some_iff.mp h;rw[oN hm];rfl
  |_=>cases h
def chP(xs:HF):Option Obj->Bool
 | some ⟨.type "tuple", _,.seq a _,_⟩=>(match rE a.toList with
  |some l=>decide (l.map (·.1)=xs)
  |none=>false)
 |_=>false
def chS(K:Frag)(x:Str×Str):Bool:=match nsIn K mainGlobals x.1 with
 |some (some (.str z _))=>decide (z=x.2)
 |_=>false
def dfA(K:Frag)(f:Addr):Addr:=match (dAt K f).defaults with
 |.ref a=>a
 |_=>0
def z5(x:FS)(a:Addr):Obj->Obj
 |⟨oc,od,.func d,sl⟩=>⟨oc,od,.func (fnOf (a7 x.s) x.q (bW x.s) (bc x.s) (az x.s) (.ref a) d.kwdefaults d.doc d.pyModule d.annotations d.code d.closureTuple),sl⟩
 |o=>o
def Ff(b:Bool):Option Obj->Bool
 |some ⟨_,_,.seq a _,_⟩=>decide (a.toList=[.bool b])
 |_=>false
def ents(P:Params):List DictEntry->List (Str×Int)->List DictEntry
 |⟨_,.str _ t,.int _ u⟩::es,(k,v)::kvs=>⟨PyData.keyHash P k,.str k t,.int v u⟩::ents P es kvs
 |_,_=>[]
def Ay:(ents P es kvs).length=kvs.length->pW P (ents P es kvs) kvs:=by
 fun_induction ents P es kvs with
 |case1=>rename_i ih;exact fun e=>⟨⟨_,_,rfl⟩,ih (by simpa using e)⟩
 |case2=>intro e;have e:=List.eq_nil_of_length_eq_zero e.symm;subst e;trivial
def Ga(P:Params)(kvs:List (Str×Int)):Obj->Obj
 |⟨_,_,.dict es ep,_⟩=>{cls:=.type "dict",dict:=none,data:=.dict (ents P es.toList kvs).toArray ep,slots:=#[]}
 |o=>o
def okG(P:Params)(kvs:List (Str×Int)):Option Obj->Bool
 |some ⟨_,_,.dict es _,_⟩=>decide ((ents P es.toList kvs).length=kvs.length)
 |_=>false
structure FD(p:PT)(K:Frag)(mg:Hz)(y:FS×Bool):Prop where
 fn:yJ K (a7 y.1.s) y.1.q y.1.s (p.fx K y.1) (dAt K (p.fx K y.1)) (dfA K (p.fx K y.1)) [.bool y.2]
 sc:cG y.1.N (y.1.N.take y.1.k) (az y.1.s)
 bn:dy K (dAt K (p.fx K y.1)) (y.1.N.take y.1.k) []
 gl:mg (a7 y.1.s)=some (.ref (p.fx K y.1))
structure Ty(p:PT)(q:PE)(w:World)(K:Frag)(mg:Hz):Prop where
 tx:Tx p K mg
 fd:∀y∈q.D,FD p K mg y
 dc:∀y∈q.G,mg y.1=some (.ref (gAt K y.1))/\gS w K (gAt K y.1) y.2
 st:∀y∈q.S,∃t,mg y.1=some (.str y.2 t)
 tp:∀y∈q.P,mg y.1=some (.ref (gAt K y.1))/\Ew K (gAt K y.1) y.2
section
variable{p:PT}{q:PE}{w:World}{K:Frag}{mg:Hz}
def Ty.d(t:Ty p q w K mg)(j:Nat)(h:j<q.D.length:=by decide):FD p K mg (q.at j):=t.fd _ (by unfold PE.at;rw[getD_eq_getElem?_getD,getElem?_eq_getElem h];exact getElem_mem h)
def Ty.gm(t:Ty p q w K mg)(j:Nat)(h:j<q.G.length:=by decide):mg (q.gk j).1=some (.ref (gAt K (q.gk j).1)):=(t.dc _ (q.gk_mem h)).1
def Ty.gd(t:Ty p q w K mg)(j:Nat)(h:j<q.G.length:=by decide):gS w K (gAt K (q.gk j).1) (q.gk j).2:=(t.dc _ (q.gk_mem h)).2
def Ty.ss(t:Ty p q w K mg)(j:Nat)(h:j<q.S.length:=by decide):∃tk,mg (q.sk j).1=some (.str (q.sk j).2 tk):=t.st _ (k_ h)
def Ty.pm(t:Ty p q w K mg)(j:Nat)(h:j<q.P.length:=by decide):mg (q.tk j).1=some (.ref (gAt K (q.tk j).1)):=(t.tp _ (k_ h)).1
def Ty.pd(t:Ty p q w K mg)(j:Nat)(h:j<q.P.length:=by decide):Ew K (gAt K (q.tk j).1) (q.tk j).2:=(t.tp _ (k_ h)).2
end
def AR(y:FS×Bool):Prop:=∀(dT:Addr) (kV doc pm:Value) (an:Option Addr) (cdv ct:Value) (us:HD),(us++[]).length=(y.1.N.take y.1.k).length ->
 ∃k:Option (HH)->Sem (List (Str×Value)),bindArgs (fnOf (a7 y.1.s) y.1.q (bW y.1.s) (bc y.1.s) (az y.1.s) (.ref dT) kV doc pm an cdv ct) ⟨us,[]⟩=seqItems? (.ref dT) >>= k/\k (some [Value.bool y.2].toArray)=pure ((y.1.N.take y.1.k).zip (us++[]))
def bd2(h:∀(dT:Addr) (kV doc pm:Value) (an:Option Addr) (cdv ct u1 u2:Value),∃k:Option (HH)->Sem (List (Str×Value)),bindArgs (fnOf (a7 y.1.s) y.1.q (bW y.1.s) (bc y.1.s) (az y.1.s) (.ref dT) kV doc pm an cdv ct) ⟨[u1,u2],[]⟩=seqItems? (.ref dT) >>= k/\k (some [Value.bool y.2].toArray)=pure ((y.1.N.take y.1.k).zip [u1,u2]):=by intros;exact⟨_,rfl,rfl⟩)
  (hk:(y.1.N.take y.1.k).length=2:=by rfl):AR y:=fun dT kV doc pm an cdv ct us hl=>by
 rw[hk]at hl
 match us,hl with
 | [_,_],_=>exact h ..
def bd3(h:∀(dT:Addr) (kV doc pm:Value) (an:Option Addr) (cdv ct u1 u2 u3:Value),∃k:Option (HH)->Sem (List (Str×Value)),bindArgs (fnOf (a7 y.1.s) y.1.q (bW y.1.s) (bc y.1.s) (az y.1.s) (.ref dT) kV doc pm an cdv ct) ⟨[u1,u2,u3],[]⟩=seqItems? (.ref dT) >>= k/\k (some [Value.bool y.2].toArray)=pure ((y.1.N.take y.1.k).zip [u1,u2,u3]):=by intros;exact⟨_,rfl,rfl⟩)
  (hk:(y.1.N.take y.1.k).length=3:=by rfl):AR y:=fun dT kV doc pm an cdv ct us hl=>by
 rw[hk]at hl
 match us,hl with
 | [_,_,_],_=>exact h ..
def yK:List (FS×Bool)->Prop
 | []=>True
 |x::l=>AR x/\yK l
def yK.get:∀{l:List (FS×Bool)},yK l->∀x∈l,AR x
 | [],_,_,h=>nomatch h
 |y::l,⟨h1,h2⟩,x,h=>by
  rcases mem_cons.mp h with rfl|h
  ·exact h1
  ·exact h2.get x h
section
variable(p:PT)(q:PE)(P:Params)(K:Frag)
def PE.ob:List (Option Obj):=q.D.map fun y=>K.lookup (p.fx K y.1)
def PE.ol:List (Option Obj):=q.D.map fun y=>(K.lookup (p.fx K y.1)).map (z5 y.1 (dfA K (p.fx K y.1)))
def PE.ch:Bool:=q.D.all fun y=>p.chF K y.1&&y.1.c.isNone&&Ff y.2 (K.lookup (dfA K (p.fx K y.1)))
def PE.gb:List (Option Obj):=q.G.map fun y=>K.lookup (gAt K y.1)
def PE.gl:List (Option Obj):=q.G.map fun y=>(K.lookup (gAt K y.1)).map (Ga P y.2)
def PE.cs:Bool:=q.S.all (chS K)&&q.P.all fun y=>decide (nsIn K mainGlobals y.1=some (some (.ref (gAt K y.1))))&&chP y.2 (K.lookup (gAt K y.1))
def PE.cg:Bool:=q.G.all fun y=>decide (nsIn K mainGlobals y.1=some (some (.ref (gAt K y.1))))&&!(gAt K y.1==sysModules)&&okG P y.2 (K.lookup (gAt K y.1))
end
def Ty.of(X:K.In h)(N:h.Ns mainGlobals mg)(t:Tx p K mg)(hb:yK q.D)(hs:q.D.all (fun y=>scB y.1)=true)
  (e:q.ob p K=q.ol p K) (h1:q.ch p K=true) (e2:q.gb K=q.gl w.params K) (h2:q.cg w.params K=true) (h3:q.cs K=true):Ty p q w K mg:=by
 simp only[PE.ch,PE.cg,PE.cs,and_eq_true,all_eq_true,decide_eq_true_eq]at h1 h2 h3 hs;refine⟨t,fun y hy=>?_,fun y hy=>?_,fun y hy=>?_,fun y hy=>?_⟩
 ·obtain⟨⟨a1,a2⟩,a3⟩:=h1 y hy;simp only[PT.chF,and_eq_true]at a1;obtain⟨⟨⟨q1,q2⟩,q3⟩,q4⟩:=a1;have e1:K.lookup (p.fx K y.1)=(K.lookup (p.fx K y.1)).map (z5 y.1 (dfA K (p.fx K y.1))):=List.map_inj_left.mp e y hy;have F:yJ K (a7 y.1.s) y.1.q y.1.s (p.fx K y.1) (dAt K (p.fx K y.1)) (dfA K (p.fx K y.1)) [.bool y.2]:=by
   have dl:∃(o:Obj) (n:Nat),K.lookup (dfA K (p.fx K y.1))=some o/\o.data=.seq [Value.bool y.2].toArray n:=by
    unfold Ff at a3;split at a3
    ·rename_i a n _ eo
     exact⟨_,n,eo,by rw[<- of_decide_eq_true a3]⟩
    ·cases a3
   generalize dfA K (p.fx K y.1)=dT at e1 dl;cases eo:K.lookup (p.fx K y.1)with
   |none=>rw[eo]at q1;cases q1
   |some o=>
    rw[eo]at e1 q1;obtain⟨oc,od,dt,sl⟩:=o;cases dt with
    |func d=>
     have e2:(⟨oc,od,.func d,sl⟩:Obj)=z5 y.1 dT ⟨oc,od,.func d,sl⟩:=Option.some.inj e1;simp only[z5,Obj.mk.injEq,Data.func.injEq,true_and,and_true]at e2;have ed:dAt K (p.fx K y.1)=d:=by unfold dAt;rw[eo]
     rw[ed]at q2 ⊢;exact⟨⟨oc,od,d.kwdefaults,d.doc,d.pyModule,d.annotations,d.code,d.closureTuple,sl,e2,eo,q2⟩,q3,dl⟩
    |_=>cases q1
  have sc:cG y.1.N (y.1.N.take y.1.k) (az y.1.s):=by have q:=hs y hy;simp only[scB,and_eq_true,decide_eq_true_eq,all_eq_true,not_eq_true']at q;obtain⟨⟨⟨⟨⟨⟨q1,q2⟩,q3⟩,q4⟩,q5⟩,q6⟩,q7⟩:=q;exact⟨q1,q2,q3,q4,by rw[length_take,Nat.min_eq_left q5],q6,q7⟩
  refine⟨F,sc,F.binds (es:=[]) (hb.get y hy _),?_⟩;rw[Option.isNone_iff_eq_none.mp a2]at q4;exact mg_of X N (of_decide_eq_true q4)
 ·obtain⟨⟨a1,a2⟩,a3⟩:=h2 y hy;refine⟨mg_of X N a1,by simpa using a2,?_⟩;have e1:K.lookup (gAt K y.1)=(K.lookup (gAt K y.1)).map (Ga w.params y.2):=List.map_inj_left.mp e2 y hy;unfold okG at a3;split at a3
  ·rename_i a b es ep sl eo
   rw[eo]at e1;exact⟨ents w.params es.toList y.2,ep,by rw[eo];exact e1,Ay (of_decide_eq_true a3)⟩
  ·cases a3
 ·have a:=h3.1 y hy;unfold chS at a;split at a
  ·rename_i z tk e
   rw[<- of_decide_eq_true a];exact⟨tk,mg_of X N e⟩
  ·cases a
 ·obtain⟨a1,a2⟩:=h3.2 y hy;refine⟨mg_of X N a1,?_⟩;unfold chP at a2;split at a2
  ·rename_i dd a n sl eo
   split at a2
   ·rename_i l el
    have e:=oN el;refine⟨dd,l,n,sl,?_,of_decide_eq_true a2⟩;rw[eo,<- e]
   ·cases a2
  ·cases a2
section
variable{P:Program}{w:World}{K:Frag}{mg:Hz}{base:Heap}{p:PT}{hA:p.attOk}{q:PE}
abbrev OkD(p:PT)(hA:p.attOk)(P:Program)(w:World)(K:Frag)(mg:Hz)(base:Heap)(k:Nat)(x:FS)(m:HK->HL):Prop:=
 b9 P w K mg base (CXP P w) k (p.fx K x) (dAt K (p.fx K x)) (x.N.take x.k) (spM (p.T hA K) (x.N.take x.k).length m)
def okD(F:FD p K mg y)(body:∀ (cdv:Value) (A:Around) (outer:List Env) (s:Shared) (H:Hp) (E:XK),Ctx (dv (CXP P w) P w K mg base y.1.N y.1.q (az y.1.s) (p.fx K y.1) cdv A outer s H E) (p.T hA K) (WD (p.T hA K) E) k->y.1.N.Nodup ->
  SSs (dv (CXP P w) P w K mg base y.1.N y.1.q (az y.1.s) (p.fx K y.1) cdv A outer s H E) (p.T hA K) (WD (p.T hA K) E) (bc y.1.s) m):OkD p hA P w K mg base (k+1) y.1 (bj y.1.N.length m):=
 DB (T:=p.T hA K) F.fn F.sc fun a b c d e f g=>body a b c d e f g F.sc.nd
def vW(F:FD p X.K X.mg y)
  (G:OkD p hA X.prog X.w X.K X.mg X.base k y.1 m) (cx:Ctx X (p.T hA X.K) W kk) (ha:SA X (p.T hA X.K) W (e::es) ms)
  (hk:k<=kk:=by decide) (hx:a7 y.1.s=x:=by rfl) (hg:Gl X x:=by rfl) (hn:fk ms n:=by repeat' first|exact dq|apply cF) (hps:n=(y.1.N.take y.1.k).length:=by rfl)
  (hdb:(x ==("__debug__":Str))=false:=by decide) (he:starEach (e::es) X.env=(false,eval e X.env)::starEach es X.env:=by rfl) (hpl:(backTo pos (starEach es X.env)).any (·.1)=false:=by rfl) :
  SE X (p.T hA X.K) W (.Call (.Name x np) (e::es) [] pos) (ao (ax m) ms):=
 o3 G cx hk hg (by subst hx;exact F.gl) F.fn.kp F.bn hn hps ha hdb he hpl
end
section
variable{X:Cx}{T:Tb}{W:Nat->St->HJ}{Z:Zn}{F F1 B L:HB}{H H1:Hp}{Y:St}{env:En}{fp:Nat->HE}{D:Ends}
def r4:∀{xs:HK}{ws:HI}{f:HE}{i:Nat}{x:PV},RelL T F B L H xs ws f->xs[i]?=some x->∃w fx,ws[i]?=some w/\Rel T F B L H x w fx/\∀b∈fx,b∈f
 | [],_,_,i,x,_,e=>by simp at e
 |a::xs,ws,f,i,x,h,e=>by
  unfold RelL at h;obtain⟨v,ws',f1,f2,rfl,h1,h2,rfl⟩:=h;cases i with
  |zero=>cases e;exact⟨v,f1,rfl,h1,fun b hb=>mem_append_left _ hb⟩
  |succ i=>obtain⟨w,fx,e1,r,s⟩:=r4 h2 e;exact⟨w,fx,e1,r,fun b hb=>mem_append_right _ (s b hb)⟩
end
open PySem.W (fnOf Frag)
def smp:PV->Bool
 |.int _|.bl _|.str _|.non=>true
 |.lst f xs=>decide (f≠.mod)&&(bI xs).isSome
 |_=>false
def eqD(x:PV)(y:PV):Bool:=PyData.eqv y.data x.data
def ff:PV->PV->HL:=fun o x=>match o with
 | .lst _ ys=>if shp x && ys.all shp && ys.all smp && decide (ys.length <= 10000000) then (match ys.findIdx? (eqD x) with
  |some j=>.ok (.int j)
  |none=>.stuck)else .stuck
 |_=>.stuck
def gn:PV->PV->HL:=fun o x=>match o with
 |.lst _ ys=>if shp x&&ys.all shp&&ys.all smp then .ok (.int (ys.countP (eqD x)))else .stuck
 |_=>.stuck
section
variable{X:Cx}{T:Tb}{W:Nat->St->HJ}{Z:Zn}{F F1 B L:HB}{H H1:Hp}{Y:St}{env:En}{fp:Nat->HE}{D:Ends}
def Rd.inj{u u':HI}(h:Rd H a (.lst u))(h':Rd H a (.lst u')):u=u':=by rcases h with h |⟨o,h⟩<;>rcases h' with h' |⟨o',h'⟩<;>rw[h]at h'<;>cases h'<;>rfl
def jI:∀{xs:HK}{ns:HC},bI xs=some ns->xs=ns.map .int
 | [],ns,h=>by cases h;rfl
 |.int i::xs,ns,h=>by
  unfold bI at h;cases e:bI xs with
  |none=>rw[e]at h;cases h
  |some ms=>rw[e]at h;cases h;rw[jI e];rfl
 |.non::xs,ns,h|.bl _::xs,ns,h|.str _::xs,ns,h|.lst _ _::xs,ns,h|.tup _::xs,ns,h|.obj _ _ _ _::xs,ns,h|.exc _::xs,ns,h|.box _ _::xs,ns,h=>by cases h
def vE{y y':PV}(s:smp y=true)(s':smp y'=true)(r:Rel T F B L H y u fy)(r':Rel T F B L H y' u fy'):y.data=y'.data:=by
  cases y with
  |lst f xs=>
    unfold Rel at r;obtain⟨a,vs,f',rfl,h1,h2,_⟩:=r;cases y' with
    |lst g zs=>unfold Rel at r';obtain⟨b,ws,g',e,k1,k2,_⟩:=r';cases e;simp only[smp,and_eq_true,decide_eq_true_eq]at s s';obtain⟨ns,en⟩:=isSome_iff_exists.mp s.2;obtain⟨ms,em⟩:=isSome_iff_exists.mp s'.2;have e1:=dF en h2;have e2:=dF em k2;have:=Rd.inj (h1.rd s.1) (k1.rd s'.1);rw[e1,e2]at this;have e3:ns=ms:=List.map_inj_right (fun _ _ h=>V.int.inj h) |>.mp this;rw[jI en,jI em,e3];simp[PV.data]
    |_=>first |(cases s';done) |(unfold Rel at r';cases r'.1;done)
  |_=>
    first
    |(cases s;done)
    | (unfold Rel at r
       obtain⟨rfl,_⟩:=r;cases y' with
       |lst f xs=>unfold Rel at r';obtain⟨a,vs,f',e,_⟩:=r';cases e
       |_=>first |(cases s';done) |(unfold Rel at r';obtain⟨e,_⟩:=r';cases e;rfl) |(unfold Rel at r';obtain⟨e,_⟩:=r';cases e;done))
def p5(hK:X.K=T.K)(I:L2.Inv X gV Y H s)(hu:A.units+64<cLine)(rx:Rel T F B L H x v fx)(rv:bE v v')(hx:shp x=true){ys:HK}{us:HI}{fy:HE}{its:HD}(r:RelL T F B L H ys us fy)(rl:aK us its)(hs:ys.all shp=true)(hm:ys.all smp=true) :
  ∃e:Value->Bool,(∀w∈its,SeqAt.EqAt A s w v' (e w))/\its.length=ys.length/\∀(m:Nat) (y:PV) (w:Value),ys[m]?=some y->its[m]?=some w->e w=eqD x y:=by
 classical
 have hlen:its.length=ys.length:=by rw[<- rl.length,<- r.length]
 let e:Value->Bool:=fun w=>decide (∃y∈ys,∃u fy,GB w=some u/\Rel T F B L H y u fy/\eqD x y=true)
 have pl:∀(m:Nat) (y:PV) (w:Value),ys[m]?=some y->its[m]?=some w->∃u fy,bE u w/\Rel T F B L H y u fy:=fun m y w ey ew=>by obtain⟨u,fx,e1,r1,_⟩:=r4 r ey;obtain⟨w',e2,r2⟩:=rl.get e1;rw[ew]at e2;cases e2;exact⟨u,fx,r2,r1⟩
 have ev:∀(m:Nat) (y:PV) (w:Value),ys[m]?=some y->its[m]?=some w->e w=eqD x y:=fun m y w ey ew=>by
  obtain⟨u,fu,r1,r2⟩:=pl m y w ey ew;have ym:=List.mem_of_getElem? ey;show decide _=_;cases q:eqD x y with
  |true=>exact decide_eq_true ⟨y,ym,u,fu,r1.abs,r2,q⟩
  |false=>refine decide_eq_false fun hz1=>?_;obtain⟨y',hy',u',fu',a',r',q'⟩:=hz1;rw[r1.abs]at a';cases a';have:=vE (all_eq_true.mp hm y ym) (all_eq_true.mp hm y' hy') r2 r';unfold eqD at q q';rw[this]at q;rw[q]at q';cases q'
 refine⟨e,fun w hw=>?_,hlen,ev⟩;obtain⟨m,hmlt,ew⟩:=List.getElem_of_mem hw;have ew':its[m]?=some w:=by rw[getElem?_eq_getElem hmlt,ew]
 have ey:ys[m]?=some ys[m]:=getElem?_eq_getElem (by lia);obtain⟨u,fu,r1,r2⟩:=pl m _ w ey ew';rw[ev m _ w ey ew'];exact lI hK I hu r2 rx r1 rv (all_eq_true.mp hs _ (List.mem_of_getElem? ey)) hx
def v5(T:Tb)(g:PV->HK->HG):V->HI->Hp->VK->Prop:=fun o vs H Q=>∃x ys a us v F B L fx fy j,o=.ref a/\vs=[v]/\SqL T.K H a us/\Rel T F B L H x v fx/\RelL T F B L H ys us fy/\shp x=true/\ys.all shp=true/\ys.all smp=true/\g x ys=some j/\Q (.int j) H
def gIx(x:PV)(ys:HK):HG:=if ys.length<=10000000 then(ys.findIdx? (eqD x)).map fun j:Nat=>(j:Int)else none
def gCt(x:PV)(ys:HK):HG:=some (ys.countP (eqD x))
def wK(hK:X.K=T.K)(hu:X.A.units+66<cLine):MtM X "list.index" (v5 T gIx):=by
 intro gV s Y H o vs v' us' Q I rx rv h;obtain⟨x,ys,a,us,v,F,B,L,fx,fy,j,rfl,rfl,hs,r1,r2,h1,h2,h3,hg,q⟩:=h;cases rx;obtain⟨u,rfl,ru⟩:=rv.one;obtain⟨its,r,pl,_⟩:=I.list (by rw[hK];exact hs);have hu1:X.A.in1.units+64<cLine:=by show X.A.units+1+64<cLine;lia
 obtain⟨e,e1,e2,e3⟩:=p5 hK I hu1 r1 ru h1 r2 r h2 h3;unfold gIx at hg;split at hg
 case isFalse=>cases hg
 rename_i hlen
 obtain⟨k,ek,rfl⟩:=map_eq_some_iff.mp hg;obtain⟨kl,k1,k2⟩:=List.findIdx?_eq_some_iff_getElem.mp ek;obtain⟨ob,n,g,c,d,dt⟩:=pl;obtain⟨oc,od,odt,osl⟩:=ob;dsimp only at c d dt;subst c d dt;have ev:∀(m:Nat) (hm:m<its.toArray.size) (hy:m<ys.length),e its.toArray[m]=eqD x ys[m]:=fun m hm hy=>e3 m _ _ (getElem?_eq_getElem hy) (by rw[getElem?_eq_getElem (by simpa using hm)];simp);refine call_meets PySem.F.slot_list_index ⟨_,g,rfl⟩ PySem.F.entry_list_index (PySem.F.args_list_index_2 _ _) (SeqAt.list_indexAt a its.toArray n none osl u e k (by simp;lia) (by lia) ?_ fun m hm hlt=>?_) ⟨g,fun w hw=>e1 w (by simpa using hw),?_⟩
 ·rw[ev k (by simp;lia) kl];exact k1
 ·rw[ev m hm (by lia)];simpa using k2 m hlt
 ·exact⟨.int k,H,I.tok _,⟨_,rfl⟩,q⟩
def wL(hK:X.K=T.K)(hu:X.A.units+66<cLine):MtM X "list.count" (v5 T gCt):=by
 intro gV s Y H o vs v' us' Q I rx rv h;obtain⟨x,ys,a,us,v,F,B,L,fx,fy,j,rfl,rfl,hs,r1,r2,h1,h2,h3,hg,q⟩:=h;cases rx;obtain⟨u,rfl,ru⟩:=rv.one;obtain⟨its,r,pl,_⟩:=I.list (by rw[hK];exact hs);have hu1:X.A.in1.units+64<cLine:=by show X.A.units+1+64<cLine;lia
 obtain⟨e,e1,e2,e3⟩:=p5 hK I hu1 r1 ru h1 r2 r h2 h3;cases hg;obtain⟨ob,n,g,c,d,dt⟩:=pl;obtain⟨oc,od,odt,osl⟩:=ob;dsimp only at c d dt;subst c d dt;have ec:its.countP e=ys.countP (eqD x):=by
  have:∀(is:HD) (zs:HK),is.length=zs.length->(∀(m:Nat) (y:PV) (w:Value),zs[m]?=some y->is[m]?=some w->e w=eqD x y)->is.countP e=zs.countP (eqD x):=by
   intro is
   induction is with
   |nil=>intro zs hl _;cases zs with|nil=>rfl|cons=>simp at hl
   |cons w is ih=>
    intro zs hl hz;cases zs with
    |nil=>simp at hl
    |cons y zs=>rw[List.countP_cons,List.countP_cons,ih zs (by simpa using hl) fun m y w a b=>hz (m+1) y w a b,hz 0 y w rfl rfl]
  exact this its ys e2 e3
 refine call_meets PySem.F.slot_list_count ⟨_,g,rfl⟩ PySem.F.entry_list_count (PySem.F.args_list_count_2 _ _) (SeqAt.list_countAt a its.toArray n none osl u e) ⟨g,fun w hw=>e1 w (by simpa using hw),?_⟩;rw[List.toList_toArray,ec];exact⟨.int _,H,I.tok _,⟨_,rfl⟩,q⟩
def gv(g:PV->PV->HL)(mo mk:ME):ME:=fun env=>match mo env,mk env with
 |.ok (.lst f ys),.ok x=>g (.lst f ys) x
 |_,_=>.stuck
def rS{nm:Str}{id:String}{g:PV->PV->HL}{gg:PV->HK->HG}{o k:Expr}{mo mk:ME}{apos cpos:Pos}(hK:X.K=T.K)(slot:Slot "list" nm id)(hty:typeOf (.builtin id)=pure (.type "method_descriptor"))(hmt:MtM X id (v5 T gg))
  (hr:∀f ys x,g (.lst f ys) x=.stuck\/∃j,g (.lst f ys) x=.ok (.int j)/\shp x=true/\ys.all shp=true/\ys.all smp=true/\gg x ys=some j)
  (ho:SE X T W o mo) (hk:SE X T W k mk) (hbase:attributeBase o nm X.env (eval o X.env)=eval o X.env:=by rfl)
  (hst:starEach [k] X.env=[(false,eval k X.env)]:=by rfl)
  (hfew:((backTo cpos (starEach [k] X.env)).all (fun x=>!x.1)&&(backToKw cpos (keywordEach [] X.env)).all (fun x=>x.1.isSome)&&decide ([k].length+([]:List Keyword).length+(if([]:List Keyword).isEmpty then 0 else 1)<30))=true:=by rfl)
  (hline:(apos.endLine==cpos.line)=true:=by rfl):SE X T W (.Call (.Attribute o nm apos) [k] [] cpos) (gv g mo mk):=
 PE.wk (r9 (cpos:=cpos) (apos:=apos) PySem.F.plainAttrs_list slot hty hmt ho (aa hk ah hst) hbase hfew hline hst) fun Y H Q h=>by
  obtain⟨Z,F,env,fp,S,q⟩:=h;unfold gv at q;split at q
  case h_2=>exact q.elim
  rename_i f ys x em ek
  refine⟨Z,F,env,fp,S,?_⟩;rw[em];intro v H1 F1 f1 g1 r1 n1 d1 w1;have r1':=r1;unfold Rel at r1';obtain⟨a,us,fp',rfl,hl,_,_⟩:=r1';refine⟨.inl ⟨rfl,us,by rw[hK];exact hl.sq⟩,Z,F1,env,fp,S.grow g1,?_⟩;unfold ae ak;rw[ek];intro vs H2 F2 f2 g2 r2 n2 d2 w2;obtain⟨u,rfl,ru⟩:=r2.one;have r3:=r1.ext g2.ext g2.mono;unfold Rel at r3;obtain⟨b,us2,fp2,e,hl2,hr2,_⟩:=r3;cases e;rcases hr f ys x with z |⟨j,e,h1,h2,h3,h4⟩
  ·rw[z]at q;exact q.elim
  ·rw[e]at q;exact⟨x,ys,a,us2,u,F2,Z.B,Own fp,f2,fp2,j,rfl,rfl,hl2.sq,ru,hr2,h1,h2,h3,h4,q.scal (g1.trans g2) dW⟩
def uh(f:Fl)(ys:HK)(x:PV):ff (.lst f ys) x=.stuck\/∃j,ff (.lst f ys) x=.ok (.int j)/\shp x=true/\ys.all shp=true/\ys.all smp=true/\gIx x ys=some j:=by
 unfold ff;dsimp only;split
 ·rename_i h
  simp only[and_eq_true,decide_eq_true_eq]at h;cases e:ys.findIdx? (eqD x)with
  |none=>exact .inl rfl
  |some j=>exact .inr ⟨j,rfl,h.1.1.1,h.1.1.2,h.1.2,by unfold gIx;rw[if_pos h.2,e];rfl⟩
 ·exact .inl rfl
def uk(f:Fl)(ys:HK)(x:PV):gn (.lst f ys) x=.stuck\/∃j,gn (.lst f ys) x=.ok (.int j)/\shp x=true/\ys.all shp=true/\ys.all smp=true/\gCt x ys=some j:=by
 unfold gn;dsimp only;split
 ·rename_i h
  simp only[and_eq_true]at h;exact .inr ⟨_,rfl,h.1.1,h.1.2,h.2,rfl⟩
 ·exact .inl rfl
def oZ{o k:Expr}{mo mk:ME}{apos cpos:Pos}(cx:Ctx X T W kk)(hu:X.A.units+66<cLine)(ho:SE X T W o mo)(hk:SE X T W k mk)(hbase:attributeBase o "index" X.env (eval o X.env)=eval o X.env:=by rfl)
  (hst:starEach [k] X.env=[(false,eval k X.env)]:=by rfl)
  (hfew:((backTo cpos (starEach [k] X.env)).all (fun x=>!x.1)&&(backToKw cpos (keywordEach [] X.env)).all (fun x=>x.1.isSome)&&decide ([k].length+([]:List Keyword).length+(if([]:List Keyword).isEmpty then 0 else 1)<30))=true:=by rfl)
  (hline:(apos.endLine==cpos.line)=true:=by rfl):SE X T W (.Call (.Attribute o "index" apos) [k] [] cpos) (gv ff mo mk):=
 rS cx.hK PySem.F.slot_list_index PySem.F.type_list_index (wK cx.hK hu) uh ho hk hbase hst hfew hline
def vQ{o k:Expr}{mo mk:ME}{apos cpos:Pos}(cx:Ctx X T W kk)(hu:X.A.units+66<cLine)(ho:SE X T W o mo)(hk:SE X T W k mk)(hbase:attributeBase o "count" X.env (eval o X.env)=eval o X.env:=by rfl)
  (hst:starEach [k] X.env=[(false,eval k X.env)]:=by rfl)
  (hfew:((backTo cpos (starEach [k] X.env)).all (fun x=>!x.1)&&(backToKw cpos (keywordEach [] X.env)).all (fun x=>x.1.isSome)&&decide ([k].length+([]:List Keyword).length+(if([]:List Keyword).isEmpty then 0 else 1)<30))=true:=by rfl)
  (hline:(apos.endLine==cpos.line)=true:=by rfl):SE X T W (.Call (.Attribute o "count" apos) [k] [] cpos) (gv gn mo mk):=
 rS cx.hK PySem.F.slot_list_count PySem.F.type_list_count (wL cx.hK hu) uk ho hk hbase hst hfew hline
end
def n6(z:Str)(j:Nat):MS:=fun env=>match env[j]? with
 |some (some w)=>.ret (.tup [.str z,w])
 |_=>.stuck
section
variable{X:Cx}{T:Tb}{W:Nat->St->HJ}
def vz{x1}{z:Str}(hN2:X.N[j]?=some y)(hv2:Vis X.env.scope y)(hd2:(y ==("__debug__":Str))=false:=by decide)(hcd2:(y ==("__classdict__":Str))=false:=by decide) :
  SS X T W (.Return (some (.Tuple [.Constant (.str z) jj px,.Name y py] x1 tpos)) pos) (n6 z j):=
 PS.wk (nS (pos:=pos) (qr (pos:=tpos) (dM (wo (pos:=px)) (dM (te:=yR j) (fN (pos:=py) hN2 hv2 hd2 hcd2) gX)))) fun D Y H hz1=>by
  obtain⟨Z,F,env,fp,S,q⟩:=hz1;unfold n6 at q;split at q
  case h_2=>exact q.elim
  rename_i pw ej
  obtain⟨w,e2,r2⟩:=S.rel j pw ej;refine⟨w,e2,rK (by simp),fun p hp=>?_⟩;have S2:=S.grow (Gr.same S.hp.ft (Ext.upd (o:=.tup [.str z,w]) hp));obtain⟨w',e2',r2'⟩:=S2.rel j pw ej;rw[e2]at e2';cases e2';refine q F _ (.ref p) (fp j) S2.hp ?_ (S.nd j) (fun a ha=>(S2.dis j a ha).1) (S.new j);unfold Rel;refine⟨p,_,rfl,SqT.of bA,?_⟩;unfold RelL;refine⟨.str z,[w],[],fp j,rfl,by unfold Rel;exact⟨rfl,rfl⟩,?_,by simp⟩;unfold RelL;exact⟨w,[],fp j,[],rfl,r2',by unfold RelL;exact⟨rfl,rfl⟩,by simp⟩
end
section
variable{X:Cx}{T:Tb}{W:Nat->St->HJ}{Z:Zn}{F:HB}{H:Hp}{Y:St}{env:En}{fp:Nat->HE}
def mT:PV->HL
 |.str z=>.ok (.str z)
 |x=>dP x
def uO:eV X (.type "str") (fun xs H Q=>(∃i,xs=[.int i]/\i.natAbs.log2<1920/\Q (.str (toString i)) H)\/ ∃z,xs=[.str z]/\Q (.str z) H):=by
 intro gV s Y H xs us Q I r h;rcases h with h |⟨z,rfl,q⟩
 ·exact i6 gV s Y H xs us Q I r h
 ·obtain⟨u,rfl,ru⟩:=aK.one r;obtain⟨t,rfl⟩:=ru;exact PySem.P.str_of_str ⟨.str z,H,I,⟨_,rfl⟩,q⟩
def wO:Mir T W (p1 mT) (fun xs H Q=>(∃i,xs=[.int i]/\i.natAbs.log2<1920/\Q (.str (toString i)) H)\/ ∃z,xs=[.str z]/\Q (.str z) H):=by
 intro B F L Y H Q F' H' xs vs fx gr r a b c q;cases xs with
 |nil=>exact q.elim
 |cons x xs=>
  cases xs with
  |cons _ _=>exact q.elim
  |nil=>
   cases x with
   |str z=>obtain⟨v,rfl,rv⟩:=r.one;unfold Rel at rv;obtain⟨rfl,_⟩:=rv;exact .inr ⟨z,rfl,GE.scal q gr ke⟩
   |int i=>exact .inl (pD B F L Y H Q F' H' _ vs fx gr r a b c q)
   |_=>exact q.elim
def y6(hg:Gl X "str")(hm:X.mg "str"=none)(ha:SE X T W e m)(he:starEach [e] X.env=[(false,eval e X.env)]:=by rfl):SE X T W (.Call (.Name "str" p) [e] [] pos) (ao (p1 mT) (ae m ak)):=
 fq uO wO hg hm tD (aa ha ah he) (he:=he)
end
section
variable{X:Cx}{W:Nat->St->HJ}{p:PT}{hA:p.attOk}{T:Tb}
def vV(t:Tx p X.K X.mg)
  (G:b9 X.prog X.w X.K X.mg X.base (CXP X.prog X.w) k (p.fa X.K i) (dAt X.K (p.fa X.K i)) (p.ps i) (spM (p.T hA X.K) (p.ps i).length m)) (rm:c9 kk X.A) (xf:XF X (p.T hA X.K) W) (ha:SA X (p.T hA X.K) W (e::es) ms)
  (hk:k<=kk:=by decide) (hx:a7 (p.fs i).s=x:=by rfl) (hc:(p.fs i).c=none:=by rfl) (hg:Gl X x:=by rfl) (hn:fk ms n:=by repeat' first|exact dq|apply cF) (hps:n=(p.ps i).length:=by rfl)
  (hdb:(x ==("__debug__":Str))=false:=by decide) (he:starEach (e::es) X.env=(false,eval e X.env)::starEach es X.env:=by rfl) (hpl:(backTo pos (starEach es X.env)).any (·.1)=false:=by rfl) :
  SE X (p.T hA X.K) W (.Call (.Name x np) (e::es) [] pos) (ao (ax m) ms):=
 vS G rm xf hk hg (by subst hx;exact t.gl i hc) (t.fn i).kp (t.bn i) hn hps ha hdb he hpl
def vU(tn:HF)(cx:Ctx X T W kk)(hxc:XC X T W)(hi:SIc X T W tg iter mi)(hk:fj g caps.length)
  (hb:∀C s H ex,(nmC X caps tn).Nodup->SG (cxC X scope C (nmC X caps tn) s H ex) T tg g/\∀E Wb,XF ((cxC X scope C (nmC X caps tn) s H ex).tryX E []) T Wb->SE ((cxC X scope C (nmC X caps tn) s H ex).tryX E []) T Wb elt me)
  (h:jP X.env.scope scope X.N caps (nmC X caps tn) tn=true:=by kernel_rfl) (hst:X.stack=X.env::X.outer:=by rfl) (hfrm:X.env.frame=some X.env.locals:=by rfl) (hs:∀x,foldedSetIterable iter X.env x=pure x:=by intro _;rfl) :
  SE X T W (.ListComp elt [⟨tg,iter,[],0⟩] scope pos) (gw caps tn.length mi g me):=
 vR hxc hst hfrm (cOf h) cx.calm hi hk (fun C s H ex=>hb C s H ex (cOf h).nd) hs
end
end PR
namespace PR
open PySem PySem.Spec L2
open PySem.W (keepIn Frag)
open PySem.W (fnOf)
section
variable{X:Cx}{T:Tb}{W:Nat->St->HJ}{Z:Zn}{F:HB}{H:Hp}{Y:St}{env:En}{fp:Nat->HE}
def jz:PV->HL
 |.str z=>if z.length<=10000 then .ok (.str z)else .stuck
 |x=>dP x
def nL(he:SE X T W e m):SE X T W (.FormattedValue e (-1) none pos) (mUn jz m):=by
 intro gV s Y H Q I ⟨Z,F,env,fp,S,q⟩;unfold mUn at q;have hh:tE T W m Y H fun x H1=>(∃i:Int,x=.int i/\i.natAbs.log2<1920/\Q (.str (toString i)) H1)\/ ∃z,x=.str z/\z.length<=sizeLine/\Q (.str z) H1:=by
  refine tE.bq S fun x v H1 F1 f1 e1 g1 r1 n1 d1 w1=>?_;rw[e1]at q;simp only[Res.HY]at q;cases x with
  |str z=>
   simp only[jz]at q;split at q
   ·unfold Rel at r1;obtain⟨rfl,_⟩:=r1;exact .inr ⟨z,rfl,by rw[sizeLine_eq];lia,GE.scal q g1 ke⟩
   ·exact q.elim
  |int i=>
   simp only[jz,dP]at q;split at q
   ·rename_i hi
    unfold Rel at r1;obtain⟨rfl,_⟩:=r1;refine .inl ⟨i,rfl,?_,GE.scal q g1 ke⟩;by_cases h0:i.natAbs=0
    ·rw[h0];decide
    ·exact Nat.lt_trans ((Nat.log2_lt h0).mpr hi) (by decide)
   ·exact q.elim
  |_=>exact q.elim
 refine PyProof.Rows.FormattedValue_plain (thn (he gV s Y H _ I hh) fun v s1 zz=>?_);obtain⟨x,H1,I1,r1,q1⟩:=zz;rcases q1 with⟨i,rfl,hi,q1⟩ |⟨z,rfl,hz,q1⟩
 ·obtain⟨t,rfl⟩:=r1;exact PyProof.Rows.formatField_int_small hi ⟨.str _,H1,I1.tok _,⟨_,rfl⟩,q1⟩
 ·obtain⟨t,rfl⟩:=r1;exact PyProof.Rows.formatField_str (fun t' tk=>⟨.str _,H1,I1.tok _,⟨_,rfl⟩,q1⟩) hz
def mJ:List ME->Str->ME
 | [],out=>fun _=>.ok (.str out)
 |m::ms,out=>fun env=>(m env).bind fun x=>match x with
  |.str y=>if(out++y).length<=10000 then mJ ms (out++y) env else .stuck
  |_=>.stuck
inductive SJ(X:Cx)(T:Tb)(W:Nat->St->HJ):List Expr->List ME->Prop
 |nil:SJ X T W [] []
 |cons:SE X T W e m->SJ X T W es ms->SJ X T W (e::es) (m::ms)
def SJ.run(h:SJ X T W es ms):∀(out:Str) (gV:HA) (s:Shared) (Y:St) (H:Hp) (Q:VK),out.length<=10000->Inv X gV Y H s->tE T W (mJ ms out) Y H Q->wpAny (model X.prog X.w) X.A (joinParts out (evalEach es X.env)) (EP X gV Y Q) X.xe s:=by
 induction h with
 |nil=>intro out gV s Y H Q ho I ⟨Z,F,env,fp,S,q⟩;exact PyProof.Rows.joinParts_nil ⟨.str _,H,I.tok _,⟨_,rfl⟩,GE.scal q (Gr.refl S.hp.ft) ke⟩ (by rw[sizeLine_eq];lia)
 | @cons e m es ms he _ ih=>
  intro out gV s Y H Q ho I ⟨Z,F,env,fp,S,q⟩;unfold mJ at q;have hh:tE T W m Y H fun x H1=>∃y,x=.str y/\(out++y).length<=10000/\tE T W (mJ ms (out++y)) Y H1 Q:=by
   refine tE.bq S fun x v H1 F1 f1 e1 g1 r1 n1 d1 w1=>?_;rw[e1]at q;simp only[Res.HY]at q;cases x with
   |str z=>
    dsimp only at q;split at q
    ·rename_i hz
     unfold Rel at r1;refine⟨z,r1.1,hz,tE.bind (S.grow g1) (fun c e H' x=>by rw[e]at q;exact q _ (g1.ext.trans x)) (fun e=>by rw[e]at q;exact q) fun y u H2 F2 f2 e2 g2 r2 n2 d2 w2=>?_⟩;rw[e2]at q;exact q _ _ _ _ (g1.trans g2) r2 n2 d2 fun a ha=>by
      have:=w2 a ha;cases h0:H a with
      |none=>rfl
      |some o=>rw[g1.ext a o h0]at this;cases this
    ·exact q.elim
   |_=>exact q.elim
  show wpAny _ _ (joinParts out (eval e X.env::evalEach es X.env)) _ _ _;refine PyProof.Rows.joinParts_cons (thn (he gV s Y H _ I hh) fun v s1 zz=>?_);obtain⟨x,H1,I1,r1,q1⟩:=zz;obtain⟨y,rfl,hz,q1⟩:=q1;obtain⟨t,rfl⟩:=r1;exact⟨by rw[sizeLine_eq];lia,ih _ gV s1 Y H1 Q hz I1 q1⟩
def BP(h:SJ X T W (a::b::es) ms):SE X T W (.JoinedStr (a::b::es) pos) (mJ ms Str.empty):=fun gV s Y H Q I q=>PyProof.Rows.JoinedStr_many (h.run Str.empty gV s Y H Q (by decide) I q)
def Fr:V->HI->Hp->VK->Prop:=fun x vs H Q=>∃z y,x=.str z/\vs=[.str y]/\Q (.bl (PySem.Txt.endswith z y)) H
def zN:MtM X "str.endswith" Fr:=by intro gV s Y H x vs v us Q I rx rv h;obtain⟨z,y,rfl,rfl,q⟩:=h;obtain⟨t,rfl⟩:=rx;obtain⟨u,rfl,ru⟩:=aK.one rv;obtain⟨t2,rfl⟩:=ru;exact PySem.SC.endswith ⟨.bl _,H,I,rfl,q⟩
def sd(z:Str):PV->HL
 |.str y=>.ok (.bl (PySem.Txt.endswith z y))
 |_=>.stuck
def rV{o k:Expr}{mo mk:ME}{apos cpos:Pos}(ho:SE X T W o mo)(hk:SE X T W k mk)(hbase:attributeBase o "endswith" X.env (eval o X.env)=eval o X.env:=by rfl)
  (hst:starEach [k] X.env=[(false,eval k X.env)]:=by rfl)
  (hfew:((backTo cpos (starEach [k] X.env)).all (fun x=>!x.1)&&(backToKw cpos (keywordEach [] X.env)).all (fun x=>x.1.isSome)&&decide ([k].length+([]:List Keyword).length+(if([]:List Keyword).isEmpty then 0 else 1)<30))=true:=by rfl)
  (hline:(apos.endLine==cpos.line)=true:=by rfl):SE X T W (.Call (.Attribute o "endswith" apos) [k] [] cpos) (mMt sd mo mk):=
 vN PySem.F.slot_str_endswith PySem.F.type_str_endswith zN (fun {B F L F2 Y H H2 Q z v u f2} g ru q=>by
  cases v with
  |str y=>unfold Rel at ru;exact⟨z,y,rfl,by rw[ru.1],GE.scal q g fK⟩
  |_=>exact q.elim) ho hk hbase hst hfew hline
end
section
variable{env e e':En}{v:PV}{i:Nat}{r:Out}
@[simp] def d3:mC v env=.ok v:=rfl
@[simp] def bG:ak env=.ok []:=rfl
@[simp] def aS:ae a m env=(a env).bind fun x=>(m env).bind fun xs=>.ok (x::xs):=rfl
@[simp] def Gx:mUn f a env=(a env).bind f:=rfl
@[simp] def bN:mOp f a b env=(a env).bind fun x=>(b env).bind fun y=>f x y:=rfl
@[simp] def bv:ao f m env=(m env).bind f:=rfl
@[simp] def g7:bU m env=(m env).bind fun xs=>.ok (.lst .own xs):=rfl
@[simp] def qS:iJ m env=(m env).bind fun xs=>.ok (.tup xs):=rfl
@[simp] def sV:iM a env=(a env).bind fun b=>.ok (!b):=rfl
@[simp] def lE:aY a env=(a env).bind nW:=rfl
@[simp] def jM:b6 env=.ok none:=rfl
@[simp] def Aw:aP env=.ok true:=rfl
def FA:Option (Option PV)->HL
 |some (some v)=>.ok (v.HW Fl.HM)
 |_=>.stuck
@[simp] def aE(v:PV):FA (some (some v))=.ok (v.HW Fl.HM):=rfl
@[simp] def aZ:ad i env=FA env[i]?:=by
 unfold ad;cases env[i]? with
 |none=>rfl
 |some w=>cases w<;>rfl
def pBl:PV->Res Bool
 |.bl b=>.ok b
 |_=>.stuck
@[simp] def wr(b:Bool):pBl (.bl b)=.ok b:=rfl
@[simp] def cj:aA a env=(a env).bind pBl:=by rfl
def zu:PV->HL
 |.bl b=>.ok (.bl (!b))
 |_=>.stuck
@[simp] def GJ(b:Bool):zu (.bl b)=.ok (.bl (!b)):=rfl
@[simp] def GU:pI a env=(a env).bind zu:=by rfl
def FE(r:HL):PV->HL
 |.bl b=>if b then r else .ok (.bl false)
 |_=>.stuck
@[simp] def GK(r:HL)(b:Bool):FE r (.bl b)=if b then r else .ok (.bl false):=rfl
@[simp] def oq:iO a b env=(a env).bind (FE (b env)):=by
 unfold iO;congr 1;funext x;cases x with
 |bl b=>cases b<;>rfl
 |_=>rfl
def pOr(r:HL):PV->HL
 |.bl b=>if b then .ok (.bl true)else r
 |_=>.stuck
@[simp] def Ha(r:HL)(b:Bool):pOr r (.bl b)=if b then .ok (.bl true)else r:=rfl
@[simp] def DS:qH a b env=(a env).bind (pOr (b env)):=by
 unfold qH;congr 1;funext x;cases x with
 |bl b=>cases b<;>rfl
 |_=>rfl
@[simp] def Gm(g:Int->Int->PV)(i j:Int):iy g (.int i) (.int j)=.ok (g i j):=rfl
def Ba:PV->Res (HG)
 |.int i=>.ok (some i)
 |_=>.stuck
@[simp] def jx(i:Int):Ba (.int i)=.ok (some i):=rfl
@[simp] def on:dw a env=(a env).bind Ba:=by rfl
def FC(l h:HG):PV->HL
 |.lst _ xs=>.ok (.lst .own (f7 xs l h))
 |_=>.stuck
@[simp] def kW(l h:HG)(f:Fl)(xs:HK):FC l h (.lst f xs)=.ok (.lst .own (f7 xs l h)):=rfl
@[simp] def lF:cU o lo hi env=(o env).bind fun x=>(lo env).bind fun l=>(hi env).bind fun h=>FC l h x:=by rfl
def aB(v:PV):HL:=if v.has Fl.HU then .stuck else .ok v
@[simp] def bO:ax f xs=(f (mapL Fl.HN xs)).bind aB:=by unfold ax;cases f (mapL Fl.HN xs)<;>rfl
def Cy(disp:Nat->Option (HK->HL))(r:Res (HK)):PV->HL
 |.obj fl c ks vs=>match disp c with
  |some m=>r.bind fun xs=>ax m (.obj fl c ks vs::xs)
  |none=>.stuck
 |_=>.stuck
@[simp] def FB(disp:Nat->Option (HK->HL))(r:Res (HK))(fl:Fl)(c:Nat)(ks:List Nat)(vs:HK):Cy disp r (.obj fl c ks vs)=match disp c with
  |some m=>r.bind fun xs=>ax m (.obj fl c ks vs::xs)
  |none=>.stuck:=rfl
@[simp] def DT:eP disp o ms env=(o env).bind (Cy disp (ms env)):=by unfold eP;congr 1;funext x;cases x<;>rfl
@[simp] def GR:d5 m env=(m env).bind fun x=>match x with
 |.lst f xs=>if !f.HS&&gZ xs then .ok xs else .stuck
 |.tup xs=>if gZ xs then .ok xs else .stuck
 |_=>.stuck:=rfl
def r_(x:PV):Res (HK):=match bB x with
 |some xs=>.ok xs
 |none=>.stuck
@[simp] def EI(f:Fl)(xs:HK):r_ (.lst f xs)=.ok xs:=rfl
@[simp] def EH(xs:HK):r_ (.tup xs)=.ok xs:=rfl
@[simp] def sU:a8 m env=(m env).bind r_:=rfl
@[simp] def fT:d6 a b env=(a env).bind fun x=>if x then b env else .ok false:=rfl
@[simp] def DR:n9 a b env=(a env).bind fun x=>if x then .ok true else b env:=rfl
@[simp] def lG:f6 c a b env=(c env).bind fun x=>if x then a env else b env:=rfl
@[simp] def Hi:wX c f m env=(m env).bind fun xs=>ax f (.obj .own c [] []::xs):=rfl
def af(h1:a env=.next e)(h2:b e=r):au a b env=r:=by unfold au;rw[h1];exact h2
def ce(h1:a env=.ret v):au a b env=.ret v:=by unfold au;rw[h1]
def eT(h:c env=.ok true)(h2:a env=r):mBr c a b env=r:=by unfold mBr;rw[h];exact h2
def aU(h:c env=.ok false)(h2:b env=r):mBr c a b env=r:=by unfold mBr;rw[h];exact h2
def av(h:m env=.ok v)(hl:v.HV=true:=by simp)(ho:aQ i env=true:=by rfl):aH i m env=.next (env.set i (some v)):=by unfold aH;rw[h];simp[hl,ho]
def aT(h:m env=.ok v)(hl:v.HV=true:=by simp):bh m env=.ret v:=by unfold bh;rw[h];simp[hl]
def fe(h:env[i]?=some (some v)):fZ i env=.ret v:=by unfold fZ;rw[h]
def ef(h:m env=.ok v):fB m env=.next env:=by unfold fB;rw[h]
def ar:aI env=.next env:=rfl
def jK(h:m env=.ok v)(ho:env[i]?=some (some (.obj .own c ks vs)))(hl:v.HV=true)(hk:ks.contains k=false)(hn:ks.length<900) :
  lh i k m env=.next (env.set i (some (.obj .own c (ks++[k]) (vs++[v])))):=by
 unfold lh;rw[h,ho];simp only[hl,hk];simp[hn]
def eD(h:m env=.ok v)(ho:env[i]?=some (some (.lst .own xs)))(hl:v.HV=true)(hn:xs.length<10000000):cP i m env=.next (env.set i (some (.lst .own (xs++[v])))):=by unfold cP;rw[h,ho];simp[hl,hn]
def vL(h:m env=.ok v)(ho:env[i]?=some (some (.lst .own xs)))(hk:mk env=.ok (.int j))(hj:ixN xs.length j=some n)(hl:v.HV=true) :
  jE i mk m env=.next (env.set i (some (.lst .own (xs.set n v)))):=by
 unfold jE;rw[h,ho,hk];simp[hj,hl]
def fS(h:env[i]?=some (some v)):gH i env=.next (env.set i (some (v.HW Fl.HP))):=by unfold gH;rw[h]
def ay(h:m (args.map some++replicate (n-args.length) none)=.ret v):bj n m args=.ok v:=by unfold bj;rw[h]
def mL(h:m (args.map some++replicate (n-args.length) none)=.next e):bj n m args=.ok .non:=by unfold bj;rw[h]
def rY(h:m (args.map some++replicate (n-args.length) none)=.next e)(ho:e[0]?=some (some v)):o4 n m args=.ok v:=by unfold o4;rw[h];simp[ho]
def om(P:Nat->En->Prop)(h:it env=.ok xs)(h0:P 0 env)
  (step:∀(k:Nat) (x:PV) (e:En),xs[k]?=some x->P k e->∃e1 e2,g x e=some e1/\(body e1=.next e2\/body e1=.cont e2)/\P (k+1) e2):∃e2,cZ it g body env=.next e2/\P xs.length e2:=by
 unfold cZ;rw[h];dsimp only;have key:∀ (ys pre:HK) (e:En),pre ++ ys=xs->P pre.length e->∃ e2,l_ (fun x e=>match g x e with
  |some e'=>body e'
  |none=>.stuck) ys e=.next e2/\P xs.length e2:=by
  intro ys
  induction ys with
  |nil=>intro pre e hp hP;simp at hp;subst hp;exact⟨e,rfl,hP⟩
  |cons y ys ih=>
   intro pre e hp hP;obtain⟨e1,e2,h1,h2,h3⟩:=step pre.length y e (by rw[<- hp];simp) hP;obtain⟨e3,h4,h5⟩:=ih (pre++[y]) e2 (by rw[<- hp];simp) (by simpa using h3);refine⟨e3,?_,h5⟩;unfold l_;simp only[h1];rcases h2 with h2|h2<;>rw[h2]<;>exact h4
 exact key xs [] env rfl h0
def ky(P:Nat->En->Prop)(R:Out->Prop)(h:it env=.ok xs)(h0:P 0 env)
  (step:∀(k:Nat) (x:PV) (e:En),xs[k]?=some x->P k e->∃e1,g x e=some e1/\((∃e2,(body e1=.next e2\/body e1=.cont e2)/\P (k+1) e2)\/(∃e2,body e1=.brk e2/\R (.next e2))\/(∃v,body e1=.ret v/\R (.ret v))\/ ∃c e2,body e1=.exc c e2/\R (.exc c e2)))
  (fin:∀e,P xs.length e->R (.next e)):R (cZ it g body env):=by
 unfold cZ;rw[h];dsimp only;have key:∀ (ys pre:HK) (e:En),pre ++ ys=xs->P pre.length e->R (l_ (fun x e=>match g x e with
  |some e'=>body e'
  |none=>.stuck) ys e):=by
  intro ys
  induction ys with
  |nil=>intro pre e hp hP;simp at hp;subst hp;exact fin e hP
  |cons y ys ih=>
   intro pre e hp hP;obtain⟨e1,h1,h2⟩:=step pre.length y e (by rw[<- hp];simp) hP;unfold l_;simp only[h1];rcases h2 with⟨e2,h2,h3⟩ |⟨e2,h2,h3⟩ |⟨v,h2,h3⟩ |⟨c,e2,h2,h3⟩
   ·have:=ih (pre++[y]) e2 (by rw[<- hp];simp) (by simpa using h3);rcases h2 with h2|h2<;>rw[h2]<;>exact this
   ·rw[h2];exact h3
   ·rw[h2];exact h3
   ·rw[h2];exact h3
 exact key xs [] env rfl h0
def be(h:mi env=.ok xs)(hl:xs.length<=10000000)(hc:cD g mc me (bw caps k env) xs=.ok ys):aM caps k mi g mc me env=.ok (.lst .own ys):=by unfold aM;rw[h];simp only[Res.HY,hl,if_true,hc]
def aR{α:Type}{a:α->PV}{f:α->PV}:∀(xs:List α),(∀x∈xs,∃e1,g (a x).HQ env=some e1/\me e1=.ok (f x)/\(f x).has Fl.HU=false/\(f x).has Fl.HS=false)->
  cD g aP me env (xs.map a)=.ok (xs.map f)
 | [],_=>rfl
 |x::xs,h=>by obtain⟨e1,h1,h2,h3,h4⟩:=h x mem_cons_self;rw[map_cons,cD,h1];simp only[Aw,Res.HY,if_true,h2,h3,h4,Bool.or_self,false_eq_true,if_false,aR xs fun y hy=>h y (mem_cons_of_mem _ hy)];rfl
def fU{α:Type}{a:α->PV}{f:α->PV}{p:α->Bool}:∀(xs:List α),(∀x∈xs,∃e1,g (a x).HQ env=some e1/\mc e1=.ok (p x)/\(p x=true->me e1=.ok (f x)/\(f x).has Fl.HU=false/\(f x).has Fl.HS=false))->
  cD g mc me env (xs.map a)=.ok ((xs.filter p).map f)
 | [],_=>rfl
 |x::xs,h=>by
  obtain⟨e1,h1,h2,h3⟩:=h x mem_cons_self;have ih:=fU (g:=g) (mc:=mc) (me:=me) (a:=a) (f:=f) (p:=p) xs fun y hy=>h y (mem_cons_of_mem _ hy);rw[map_cons,cD,h1];cases hp:p x with
  |true=>obtain⟨h4,h5,h6⟩:=h3 hp;simp only[h2,hp,Res.HY,if_true,h4,h5,h6,Bool.or_self,false_eq_true,if_false,ih];rw[List.filter_cons_of_pos hp];rfl
  |false=>simp only[h2,hp,Res.HY,false_eq_true,if_false,ih];rw[List.filter_cons_of_neg (by simp[hp])]
end
def iL(ns:HC):HK:=ns.map .int
section
variable(ns ms:HC)(g:Fl->Fl)(p:Fl->Bool)
@[simp] def Gi:iL []=[]:=rfl
@[simp] def jH(n:Int):iL (n::ns)=.int n::iL ns:=rfl
@[simp] def fC:(iL ns).length=ns.length:=by simp[iL]
@[simp] def Gk:iL ns++iL ms=iL (ns++ms):=by simp[iL]
@[simp] def m4(k:Nat):(iL ns).drop k=iL (ns.drop k):=by simp[iL]
@[simp] def uF(k:Nat):(iL ns).take k=iL (ns.take k):=by simp[iL]
@[simp] def Gj(k:Nat):(iL ns)[k]?=(ns[k]?).map .int:=by simp[iL]
@[simp] def Gh(k:Nat)(n:Int):(iL ns).set k (.int n)=iL (ns.set k n):=by simp[iL,List.map_set]
@[simp] def bQ:mapL g (iL ns)=iL ns:=by
 induction ns with
 |nil=>rfl
 |cons n ns ih=>simp[mapL,PV.HW,ih]
@[simp] def EW:hasL p (iL ns)=false:=by
 induction ns with
 |nil=>rfl
 |cons n ns ih=>simp[hasL,PV.has,ih]
@[simp] def EY:PyData.canLayAll0 (dataL (iL ns))=true:=by
 induction ns with
 |nil=>rfl
 |cons n ns ih=>simp only[jH,dataL,PV.data,PyData.canLayAll0,ih];rfl
@[simp] def EX:PyData.depthAll (dataL (iL ns))=0:=by
 induction ns with
 |nil=>rfl
 |cons n ns ih=>simp only[jH,dataL,PV.data,PyData.depthAll,ih];rfl
@[simp] def ic(i:Int):shp (.int i)=true:=rfl
@[simp] def G6(b:Bool):shp (.bl b)=true:=rfl
@[simp] def nE:shp .non=true:=rfl
@[simp] def Fe(f:Fl):shp (.lst f (iL ns))=true:=by simp[shp,SeqAt.shaped,PV.data,PyData.canLay0,PyData.depth]
@[simp] def mK:(iL ns).all shp=true:=by
 induction ns with
 |nil=>rfl
 |cons n ns ih=>simp only[jH,all_cons,ic,ih];rfl
mutual
def lH:∀d:PyData,d.canLay0=true->PyData.eqv d d=true
 |.none,_=>rfl
 |.bool b,_|.int b,_|.str b,_=>by simp[PyData.eqv]
 |.list xs,h=>by simp only[PyData.canLay0]at h;simp only[PyData.eqv];exact eqvL_self xs h
 |.tuple xs,h=>by simp only[PyData.canLay0]at h;simp only[PyData.eqv];exact eqvL_self xs h
 |.dict xs,h=>by simp[PyData.canLay0]at h
def eqvL_self:∀ds:List PyData,PyData.canLayAll0 ds=true->PyData.eqvAll ds ds=true
 | [],_=>rfl
 |d::ds,h=>by simp only[PyData.canLayAll0,and_eq_true]at h;simp only[PyData.eqvAll,lH d h.1,eqvL_self ds h.2];rfl
end
def Ax(h:x.data=y.data)(hs:shp x=true):pEq x y=.ok (.bl true):=by
 have hy:shp y=true:=by unfold shp at hs ⊢;rw[<- h];exact hs
 have hc:=SeqAt.canLay_of_shaped hs;unfold pEq;rw[hs,hy,<- h,lH _ hc];rfl
def zL(h:x.data=y.data)(hs:shp x=true):pNe x y=.ok (.bl false):=by
 have hy:shp y=true:=by unfold shp at hs ⊢;rw[<- h];exact hs
 have hc:=SeqAt.canLay_of_shaped hs;unfold pNe;rw[hs,hy,<- h,lH _ hc];rfl
@[simp] def xL(i j:Int):pEq (.int i) (.int j)=.ok (.bl (decide (i=j))):=by unfold pEq;simp only[ic,Bool.and_self,if_true,PV.data,PyData.eqv];congr 2
@[simp] def Hc(i j:Int):pNe (.int i) (.int j)=.ok (.bl (!decide (i=j))):=by unfold pNe;simp only[ic,Bool.and_self,if_true,PV.data,PyData.eqv];congr 2
@[simp] def Hy(i j:Bool):pEq (.bl i) (.bl j)=.ok (.bl (decide (i=j))):=by cases i<;>cases j<;>rfl
@[simp] def Hw(i j:Bool):pNe (.bl i) (.bl j)=.ok (.bl (!decide (i=j))):=by cases i<;>cases j<;>rfl
@[simp] def lt_int(i j:Int):pLt (.int i) (.int j)=.ok (.bl (decide (i<j))):=rfl
@[simp] def le_int(i j:Int):pLe (.int i) (.int j)=.ok (.bl (decide (i<=j))):=rfl
@[simp] def gt_int(i j:Int):pGt (.int i) (.int j)=.ok (.bl (decide (j<i))):=rfl
@[simp] def ge_int(i j:Int):pGe (.int i) (.int j)=.ok (.bl (decide (j<=i))):=rfl
@[simp] def gh(i j:Int):bz (.int i) (.int j)=.ok (.int (i+j)):=rfl
@[simp] def sub_int(i j:Int):ug (.int i) (.int j)=.ok (.int (i-j)):=rfl
@[simp] def neg_int(i:Int):kT (.int i)=.ok (.int (-i)):=rfl
def cK(h:0<j):df (.int i) (.int j)=.ok (.int (i%j)):=by simp[df,dY,h]
def gz(h:0<j)(h2:j<1073741824):iz (.int i) (.int j)=.ok (.int (i / j)):=by simp[iz,dY,h,h2]
def fQ(h:(-(2 ^ 64)<i/\i<2 ^ 64)\/(-(2 ^ 64)<j/\j<2 ^ 64)):cT (.int i) (.int j)=.ok (.int (i*j)):=by unfold cT dY;dsimp only;rw[if_pos (by simpa using h)]
def qq(h0:0<=j)(h1:j<=1000000)(h2:i.natAbs<2 ^ 64):nX (.int i) (.int j)=.ok (.int (i ^ j.toNat)):=by unfold nX dY;dsimp only;rw[if_pos (by simp only[decide_eq_true_eq];exact⟨h0,h1,h2⟩)]
@[simp] def Fu:nX (.int 10) (.int 60)=.ok (.int (10 ^ 60)):=qq (by decide) (by decide) (by decide)
@[simp] def GN(f:Fl)(xs:HK):fP (.lst f xs)=.ok (.int xs.length):=rfl
@[simp] def GM(xs:HK):fP (.tup xs)=.ok (.int xs.length):=rfl
@[simp] def Hb(f:PV->HL)(x:PV):p1 f [x]=f x:=by simp only[p1]
@[simp] def oJ(b:Bool):nW (.bl b)=.ok b:=rfl
@[simp] def EF(i:Int):nW (.int i)=.ok (i != 0):=rfl
@[simp] def dQ(i:Int):(PV.int i).HW g=.int i:=by simp[PV.HW]
@[simp] def ku(b:Bool):(PV.bl b).HW g=.bl b:=by simp[PV.HW]
@[simp] def F5:PV.non.HW g=.non:=by simp[PV.HW]
@[simp] def gu(x:Str):(PV.str x).HW g=.str x:=by simp[PV.HW]
@[simp] def F6(x:Nat):(PV.exc x).HW g=.exc x:=by simp[PV.HW]
@[simp] def aL(f:Fl)(xs:HK):(PV.lst f xs).HW g=.lst (g f) (mapL g xs):=by simp[PV.HW]
@[simp] def lb(xs:HK):(PV.tup xs).HW g=.tup (mapL g xs):=by simp[PV.HW]
@[simp] def F4(f:Fl)(c:Nat)(ks:List Nat)(xs:HK):(PV.obj f c ks xs).HW g=.obj (g f) c ks (mapL g xs):=by simp[PV.HW]
@[simp] def bH:mapL g []=[]:=by simp[mapL]
@[simp] def aX(x:PV)(xs:HK):mapL g (x::xs)=x.HW g::mapL g xs:=by simp[mapL]
@[simp] def Ae(i:Int):(PV.int i).has p=false:=by simp[PV.has]
@[simp] def He(b:Bool):(PV.bl b).has p=false:=by simp[PV.has]
@[simp] def GP:PV.non.has p=false:=by simp[PV.has]
@[simp] def sD(x:Str):(PV.str x).has p=false:=by simp[PV.has]
@[simp] def GQ(x:Nat):(PV.exc x).has p=false:=by simp[PV.has]
@[simp] def d_(f:Fl)(xs:HK):(PV.lst f xs).has p=(p f||hasL p xs):=by simp[PV.has]
@[simp] def Ad(xs:HK):(PV.tup xs).has p=hasL p xs:=by simp[PV.has]
@[simp] def GO(f:Fl)(c:Nat)(ks:List Nat)(xs:HK):(PV.obj f c ks xs).has p=(p f||hasL p xs):=by simp[PV.has]
@[simp] def Gq:hasL p []=false:=by simp[hasL]
@[simp] def m5(x:PV)(xs:HK):hasL p (x::xs)=(x.has p||hasL p xs):=by simp[hasL]
@[simp] def eO(x:PV):x.HV=!x.has Fl.HS:=rfl
@[simp] def EZ(x:PV):x.HQ=x.HW Fl.HQ:=rfl
@[simp] def lq:Fl.own.HM=.lnt:=rfl
@[simp] def cz:Fl.frz.HM=.frz:=rfl
@[simp] def Gc:Fl.bor.HM=.bor:=rfl
@[simp] def Gb:Fl.lnt.HM=.lnt:=rfl
@[simp] def mF:Fl.own.HN=.own:=rfl
@[simp] def eA:Fl.frz.HN=.frz:=rfl
@[simp] def EG:Fl.bor.HN=.bor:=rfl
@[simp] def jd:Fl.lnt.HN=.bor:=rfl
@[simp] def Bz:Fl.own.HQ=.bor:=rfl
@[simp] def D0:Fl.frz.HQ=.frz:=rfl
@[simp] def D1:Fl.bor.HQ=.bor:=rfl
@[simp] def DZ:Fl.lnt.HQ=.bor:=rfl
@[simp] def EJ:Fl.own.HR=true:=rfl
@[simp] def EL:Fl.frz.HR=false:=rfl
@[simp] def EM:Fl.bor.HR=false:=rfl
@[simp] def EK:Fl.lnt.HR=false:=rfl
@[simp] def EN:Fl.own.HS=false:=rfl
@[simp] def EQ:Fl.frz.HS=false:=rfl
@[simp] def ER:Fl.bor.HS=false:=rfl
@[simp] def EO:Fl.lnt.HS=true:=rfl
@[simp] def ES:Fl.own.HU=false:=rfl
@[simp] def EU:Fl.frz.HU=false:=rfl
@[simp] def EV:Fl.bor.HU=true:=rfl
@[simp] def ET:Fl.lnt.HU=false:=rfl
@[simp] def cB:Fl.own.HP=.frz:=rfl
@[simp] def Dz:Fl.frz.HP=.frz:=rfl
@[simp] def DA:Fl.bor.HP=.bor:=rfl
@[simp] def Dy:Fl.lnt.HP=.lnt:=rfl
def pM(h0:0<=i)(h:ns[i.toNat]?=some n):aq (.lst f (iL ns)) (.int i)=.ok (.int n):=by have hl:i.toNat<ns.length:=(List.getElem?_eq_some_iff.mp h).1;unfold aq;simp only[bB,atI,ixN,fC,h0,if_true];rw[if_pos (by lia)];simp[h]
end
section
variable{env:En}{r:Out}
def yH(o:Out)(Q:En->Prop):Prop:=∃e,(o=.next e\/o=.cont e)/\Q e
def bZ(h1:a env=.next e)(h2:yH (b e) Q):yH (au a b env) Q:=by obtain⟨e2,h3,h4⟩:=h2;refine⟨e2,?_,h4⟩;unfold au;rw[h1];exact h3
def bR(h1:o=.next e)(h2:Q e):yH o Q:=⟨e,.inl h1,h2⟩
def da{it:MI}{g:TgM}{body bF:MS}{xs:HK}(P:Nat->En->Prop)(h:it env=.ok xs)(h0:P 0 env)
  (step:∀(k:Nat) (x:PV) (e:En),xs[k]?=some x->P k e->∃e1,g x e=some e1/\yH (body e1) (P (k+1))) (fin:∀e,P xs.length e->bF e=r):au (cZ it g body) bF env=r:=by
 obtain⟨e2,h1,h2⟩:=om P h h0 fun k x e h1 h2=>by obtain⟨e1,h3,e2,h4,h5⟩:=step k x e h1 h2;exact⟨e1,e2,h3,h4,h5⟩
 exact af h1 (fin e2 h2)
def Dv(h:-1000000<=i/\i<=1000000):inR i=true:=by
 have e:(2:Int) ^ 62=4611686018427387904:=by decide
 unfold inR;rw[decide_eq_true_eq,e]
 lia
def ze(hi:inR n=true)(h:ms env=.ok [.int n]):cM ms env=.ok (dO 0 n.toNat):=by unfold cM;rw[h,Res.HY];dsimp only;rw[if_pos hi]
def vX{n:Nat}(hi:inR (n:Int)=true)(h:ms env=.ok [.int n]):cM ms env=.ok (dO 0 n):=by have:=ze hi h;rw[toNat_natCast]at this;exact this
def Db{n:Nat}(hn:n<=1000000):-1000000 <=(n:Int)/\(n:Int)<= 1000000:=by lia
def dL{n:Nat}(h:ms env=.ok [.int n])(hn:n<=1000000):cM ms env=.ok (dO 0 n):=vX (Dv (Db hn)) h
def cv(lo:Int)(n:Nat):(dO lo n).length=n:=by simp[dO]
def ik(h:(dO lo n)[k]?=some x):k<n/\x=.int (lo+k):=by
 have hk:k<n:=by
  have:=(List.getElem?_eq_some_iff.mp h).1
  rwa [cv]at this
 refine⟨hk,?_⟩;simp[dO,hk]at h;exact h.symm
def ly{ns:HC}{k:Nat}{x:PV}(h:(iL ns)[k]?=some x):∃n,ns[k]?=some n/\x=.int n:=by simp at h;obtain⟨n,h1,h2⟩:=h;exact⟨n,h1,h2.symm⟩
def dz(h:aQ i e=true):tgN i v e=some (e.set i (some v)):=by simp[tgN,h]
end
def DW(ns:HC)(lo hi:Nat){l h:Int}(hl:l=lo)(hh:h=hi):f7 (iL ns) (some l) (some h)=iL ((ns.take hi).drop lo):=by
 subst hl hh;unfold f7;rw[HT.sIx_nat,HT.sIx_nat];simp only[fC,m4,uF];congr 1;rw[List.drop_take];rcases Nat.le_total lo ns.length with h1|h1
 ·rw[Nat.min_eq_left h1];rcases Nat.le_total hi ns.length with h2|h2
  ·rw[Nat.min_eq_left h2]
  ·rw[Nat.min_eq_right h2,take_of_length_le (by simp),take_of_length_le (by simp;lia)]
 ·rw[Nat.min_eq_right h1,List.drop_eq_nil_of_le (Nat.le_refl _),List.drop_eq_nil_of_le h1];simp
def eL(hf:f≠.mod)(hg:g≠.mod)(h:xs.length+ys.length<=10000000):bz (.lst f xs) (.lst g ys)=.ok (.lst .own (xs++ys)):=by
 unfold bz
 grind
def sA(h:k<n):ixN n (k:Int)=some k:=by unfold ixN;rw[if_pos (by lia),if_pos (by lia),toNat_natCast]
def llL(f:Fl)(xss:List (HC)):HK:=xss.map fun xs=>.lst f (iL xs)
section
variable(xss yss:List (HC))(g:Fl->Fl)(p:Fl->Bool)(f:Fl)
@[simp] def GL:llL f []=[]:=rfl
@[simp] def F8(xs:HC):llL f (xs::xss)=.lst f (iL xs)::llL f xss:=rfl
@[simp] def sx:(llL f xss).length=xss.length:=by simp[llL]
@[simp] def z1:llL f xss++llL f yss=llL f (xss++yss):=by simp[llL]
@[simp] def gq:mapL g (llL f xss)=llL (g f) xss:=by
 induction xss with
 |nil=>rfl
 |cons n ns ih=>simp[ih]
def cA(h:p f=false):hasL p (llL f xss)=false:=by
 induction xss with
 |nil=>rfl
 |cons n ns ih=>simp[ih,h]
def zY{k:Nat}{x:PV}(h:(llL f xss)[k]?=some x):∃xs,xss[k]?=some xs/\x=.lst f (iL xs):=by simp[llL]at h;obtain⟨n,h1,h2⟩:=h;exact⟨n,h1,h2.symm⟩
end
@[simp] def gF(ns:HC):bI (iL ns)=some ns:=by
 induction ns with
 |nil=>rfl
 |cons n ns ih=>simp[bI,ih]
def uB(h:ns.length<=1000):iw (.lst f (iL ns))=.ok (.int (m7 ns)):=by unfold iw;simp only[gF];rw[if_pos (by simpa using h)]
def tq:∀(l acc:HC),(acc++l).Nodup->l.foldl step_dedup acc=acc++l
 | [],acc,_=>by simp
 |x::l,acc,h=>by
  have h':((acc++[x])++ l).Nodup:=by simpa using h
  rw[foldl_cons];have hx:x∉acc:=fun hm=>by rw[nodup_append]at h;exact h.2.2 x hm x mem_cons_self rfl
  have:step_dedup acc x=acc++[x]:=by unfold step_dedup;rw[if_neg];simpa using hx
  rw[this,tq l _ h'];simp
def AE(ns:HC):(range ns.length).map (fun i=>ns.getD i 0)=ns:=by
 apply List.ext_getElem?;intro i;by_cases h:i<ns.length
 ·simp[h]
 ·simp[h]
def xU(h:ns.Nodup):m7 ns=ns.length:=by unfold m7 firstMet;rw[AE,tq ns [] (by simpa using h)];rfl
def sC(i:Int)(ns:HC):inL (.int i) (iL ns)=ns.contains i:=by
 induction ns with
 |nil=>rfl
 |cons n ns ih=>have e:inL (.int i) (iL (n::ns))=(PyData.eqv (PV.int n).data (PV.int i).data||inL (.int i) (iL ns)):=rfl;rw[e,ih,List.contains_cons];congr 1;simp only[PV.data,PyData.eqv];exact Bool.beq_comm
@[simp] def Hx(i:Int)(ns:HC)(f:Fl):pIn (.int i) (.lst f (iL ns))=.ok (.bl (ns.contains i)):=by unfold pIn;simp only[bB,ic,mK,Bool.and_self,if_true,sC]
@[simp] def FX(i:Int)(ns:HC)(f:Fl):cy (.int i) (.lst f (iL ns))=.ok (.bl (!ns.contains i)):=by unfold cy;simp only[bB,ic,mK,Bool.and_self,if_true,sC]
def Ends(o:Out):Prop:=∃e,o=.next e
section
variable{env e:En}
def fv(h:Ends (m (args.map some++replicate (n-args.length) none))):bj n m args=.ok .non:=by obtain⟨e,h⟩:=h;exact mL h
def dr(h1:a env=.next e)(h2:Ends (b e)):Ends (au a b env):=by obtain⟨e2,h2⟩:=h2;exact⟨e2,af h1 h2⟩
def jN(h:o=.next e):Ends o:=⟨e,h⟩
def xO{it:MI}{g:TgM}{body bF:MS}{xs:HK}(P:Nat->En->Prop)(h:it env=.ok xs)(h0:P 0 env)
  (step:∀(k:Nat) (x:PV) (e:En),xs[k]?=some x->P k e->∃e1,g x e=some e1/\yH (body e1) (P (k+1))) (fin:∀e,P xs.length e->Ends (bF e)):Ends (au (cZ it g body) bF env):=by
 obtain⟨e2,h1,h2⟩:=om P h h0 fun k x e h1 h2=>by obtain⟨e1,h3,e2,h4,h5⟩:=step k x e h1 h2;exact⟨e1,e2,h3,h4,h5⟩
 exact dr h1 (fin e2 h2)
end
def cq(h:m env=.ok (.lst f xs))(hf:f.HS=false)(h1:hasL Fl.HR xs=false)(h2:hasL Fl.HS xs=false):d5 m env=.ok xs:=by unfold d5;rw[h];simp[hf,gZ,h1,h2]
end PR
namespace PR
section
variable{n r s k o:Nat}{adj:Nat->Nat->Prop}{far:HC}
def gt(far:HC)(i:Nat):Int:=far.getD i 0
def mY:∀{l l':HC},l.Nodup->(∀x∈l,x∈l')->l.length<=l'.length
 | [],_,_,_=>zero_le _
 |x::l,l',nd,sub=>by
  obtain⟨h1,h2⟩:=nodup_cons.mp nd;have hx:=sub x mem_cons_self;have:=mY (l':=l'.erase x) h2 (by grind);rw[List.length_erase_of_mem hx]at this;have:=List.length_pos_of_mem hx;rw[length_cons]
  lia
def gt_mem(h:i<far.length):gt far i∈far:=by simp[gt,h]
end
end PR
namespace PR
open PySem PySem.Spec L2
def bp{x:PV}{xs:HK}{k:Nat}{y:PV}(hs:bB x=some xs)(h:xs[k]?=some y)(ho:y.has Fl.HR=false):aq x (.int k)=.ok y:=by have hl:k<xs.length:=(List.getElem?_eq_some_iff.mp h).1;unfold aq;simp only[hs,atI];rw[sA hl];simp[h,ho]
def mm(w:Int×Int):Int×Int:=(min w.1 w.2,max w.1 w.2)
end PR
namespace PR
open PySem L2 in
def gJ(o:Out)(Q:PV->Prop):Prop:=∃v,o=.ret v/\Q v
section
open PySem L2
variable{env e:En}{Q:PV->Prop}
def bu{a b:MS}(h1:a env=.next e)(h2:gJ (b e) Q):gJ (au a b env) Q:=by obtain⟨v,h,q⟩:=h2;exact⟨v,af h1 h,q⟩
def vZ{c:MT}{a b bF:MS}(hc:c env=.ok true)(h:gJ (a env) Q):gJ (au (mBr c a b) bF env) Q:=by obtain⟨v,h1,h2⟩:=h;exact⟨v,ce (eT hc h1),h2⟩
def cE{o:Out}{v:PV}(h:o=.ret v)(q:Q v):gJ o Q:=⟨v,h,q⟩
end
end PR
namespace PR
open PySem L2
section
variable{env:En}
def BH(ho:env[0]?=some (some (.obj .own c ks vs)))(ha:ms env=.ok xs)(hl:hasL Fl.HS xs=false)
  (hm:m (.obj .own c ks vs::mapL Fl.HN xs)=.ok (.obj fl c' ks' vs')) (hb:(PV.obj fl c' ks' vs').has Fl.HU=false):ld m ms env=.next (env.set 0 (some (.obj fl c' ks' vs'))):=by
 unfold ld;rw[ho];dsimp only;rw[ha];dsimp only;rw[hl,if_neg (by decide),hm];dsimp only;rw[hb,if_neg (by decide)]
end
@[simp] def Hv:nX (.int 10) (.int 59)=.ok (.int (10 ^ 59)):=qq (by decide) (by decide) (by decide)
section
variable{env:En}{g:TgM}{me:ME}
def qU(f:Int->Int)(row:HC)(h:∀x∈row,∃e1,g (.int x) env=some e1/\me e1=.ok (.int (f x))):cD g aP me env (iL row)=.ok (iL (row.map f)):=by rw[show iL (row.map f)=row.map fun x=>PV.int (f x) by simp[iL]];exact aR (a:=PV.int) (f:=fun x=>.int (f x)) row fun x hx=>let⟨e1,h1,h2⟩:=h x hx;⟨e1,h1,h2,rfl,rfl⟩
def jQ(lo:Int)(f:Nat->Int)(n:Nat)(h:∀k<n,∃e1,g (.int (lo+(k:Int))) env=some e1/\me e1=.ok (.int (f k))):cD g aP me env (dO lo n)=.ok (iL ((range n).map f)):=by rw[show iL ((range n).map f)=(range n).map fun k=>PV.int (f k) by simp[iL]];exact aR (a:=fun k:Nat=>PV.int (lo+(k:Int))) (f:=fun k=>.int (f k)) (range n) fun k hk=>let⟨e1,h1,h2⟩:=h k (mem_range.mp hk);⟨e1,h1,h2,rfl,rfl⟩
def lL(p:Nat->Bool)(f:Nat->Int)(n:Nat)(h:∀k<n,∃e1,g (.int (0+(k:Int))) env=some e1/\mc e1=.ok (p k)/\(p k=true->me e1=.ok (.int (f k)))):cD g mc me env (dO 0 n)=.ok (iL (((range n).filter p).map f)):=by rw[show iL (((range n).filter p).map f)=((range n).filter p).map fun k=>PV.int (f k) by simp[iL]];exact fU (a:=fun k:Nat=>PV.int (0+(k:Int))) (f:=fun k=>.int (f k)) (p:=p) (range n) fun k hk=>let⟨e1,h1,h2,h3⟩:=h k (mem_range.mp hk);⟨e1,h1,h2,fun z=>⟨h3 z,rfl,rfl⟩⟩
end
def lB(h0:0<=i)(h:i<cs.length):aq (.lst f (iL cs)) (.int i)=.ok (.int (gt cs i.toNat)):=by
 have:i.toNat<cs.length:=by lia
 exact pM _ h0 (by simp[gt,this])
def cut_to(xs:HK)(k:Nat)(h:k<=xs.length):f7 xs none (some (k:Int))=xs.take k:=by unfold f7;rw[HT.sIx_nat,HT.sIx_none];simp[Nat.min_eq_left h]
def dR(xs:HK)(k:Nat)(h:k<=xs.length):f7 xs (some (k:Int)) none=xs.drop k:=by unfold f7;rw[HT.sIx_nat,HT.sIx_none];rw[Nat.min_eq_left h,take_of_length_le (by simp)]
def kb(p:Int->Bool)(f:Int->Int)(row:HC)(h:∀x∈row,∃e1,g (.int x) env=some e1/\mc e1=.ok (p x)/\(p x=true->me e1=.ok (.int (f x)))):cD g mc me env (iL row)=.ok (iL ((row.filter p).map f)):=by rw[show iL ((row.filter p).map f)=(row.filter p).map fun x=>PV.int (f x) by simp[iL]];exact fU (a:=PV.int) (f:=fun x=>.int (f x)) (p:=p) row fun x hx=>let⟨e1,h1,h2,h3⟩:=h x hx;⟨e1,h1,h2,fun z=>⟨h3 z,rfl,rfl⟩⟩
def rh{Fin:En->Prop}(P:Nat->En->Prop)(step:∀m e,P m e->(c e=.ok false/\Fin e)\/(c e=.ok true/\∃m' e',m'<m/\(b e=.next e'\/b e=.cont e')/\P m' e')) :
  ∀(k m:Nat) (env:En),m<k->P m env->∃e',whL c b k env=.next e'/\Fin e'
 |0,m,_,h,_=>absurd h (not_lt_zero m)
 |k+1,m,env,h,hP=>by
  unfold whL;rcases step m env hP with⟨h1,h2⟩ |⟨h1,m',e',h2,h3,h4⟩
  ·rw[h1];exact⟨env,rfl,h2⟩
  ·obtain⟨e2,h5,h6⟩:=rh P step k m' e' (by lia) h4;rw[h1];rcases h3 with h3|h3<;>rw[h3]<;>exact⟨e2,h5,h6⟩
section
variable{env:En}{r:Out}
def kR{Q:PV->Prop}{c:MT}{b bF:MS}{Fin:En->Prop}(P:Nat->En->Prop)(m:Nat)(hm:m<100000)(h0:P m env)(step:∀m e,P m e->(c e=.ok false/\Fin e)\/(c e=.ok true/\∃m' e',m'<m/\(b e=.next e'\/b e=.cont e')/\P m' e'))(fin:∀e,Fin e->gJ (bF e) Q):gJ (au (lc c b) bF env) Q:=by obtain⟨e',h1,h2⟩:=rh P step 100000 m env hm h0;exact bu h1 (fin e' h2)
def Ev(ha:env[i]?=some (some (.int a)))(h:m env=.ok (.int b))(ho:aQ i env=true):uy i m env=.next (env.set i (some (.int (a+b)))):=by unfold uy;rw[ha,h];simp[ho]
end
def uM(cs:HC)(k:Nat)(h:k<=cs.length):f7 (iL cs) (some (k:Int)) none=iL (cs.drop k):=by rw[dR _ k (by rw[fC];exact h),m4]
@[simp] def uS(bs:List Bool):dU (bs.map .bl)=some bs:=by
 induction bs with
 |nil=>rfl
 |cons b bs ih=>simp[dU,ih]
end PR
namespace PR
def s0_{α:Type}{a b:α}{l:List α}:(a::l).set 0 b=b::l:=rfl
def s1_{α:Type}{a b:α}{l:List α}{n:Nat}:(a::l).set (n+1) b=a::l.set n b:=rfl
end PR
namespace G
open PySem L2 PR
def Ed:MS:=
 (au (mBr (aA (mOp pLt (ad 1) (ao (p1 fP) (ae (ad 0) ak))))
  (bh (mOp aq (ad 0) (ad 1)))
  aI)
 (bh (HZ 0)))
def gI:=bj 2 Ed
def Ef:MS:=
 (au (aH 3 (bU ak))
 (au (cZ (cM (ae (mOp cT (mOp cT (ad 1) (ad 1)) (ad 1)) ak)) (tgN 4)
  (au (aH 5 (ad 4))
 (au (mBr (aY (ad 2))
  (aH 5 (mOp df (mOp iz (ad 4) (ad 1)) (ad 1)))
  aI)
 (cP 3 (mOp df (mOp iz (mOp df (mOp cT (mOp cT (mOp bz (mOp df (ad 0) (mOp nX (HZ 10) (HZ 60))) (HZ 1)) (mOp bz (ad 5) (HZ 3))) (HZ 48271)) (HZ 2147483647)) (HZ 11)) (ad 1))))))
 (fZ 3)))
def Ap:=bj 6 Ef
def yt:MS:=
 (au (aH 1 (ao (ax gI) (ae (ad 0) (ae (HZ 0) ak))))
 (au (aH 2 (mOp bz (HZ 2) (mOp df (mOp iz (ad 1) (HZ 8)) (HZ 3))))
 (au (aH 3 (mOp bz (HZ 2) (mOp cT (mOp df (mOp iz (ad 1) (HZ 4)) (HZ 2)) (ao (p1 jy) (ae (mOp pLt (ad 2) (HZ 4)) ak)))))
 (au (aH 4 (mOp aq (bU (ae (mC (.str "none")) (ae (mC (.str "one")) ak))) (mOp df (mOp iz (ad 1) (HZ 2)) (HZ 2))))
 (au (aH 5 (ao (ax Ap) (ae (ao (ax gI) (ae (ad 0) (ae (HZ 1) ak))) (ae (ad 3) (ae (mC (.bl false)) ak)))))
 (au (aH 6 (ao (ax Ap) (ae (ao (ax gI) (ae (ad 0) (ae (HZ 2) ak))) (ae (ad 3) (ae (mOp pEq (mOp df (ad 1) (HZ 2)) (HZ 0)) ak)))))
 (au (mBr (aA (mOp pEq (mOp df (ad 1) (HZ 2)) (HZ 0)))
  (aH 5 (aM [0,3] 1 (cM (ae (mOp cT (mOp cT (ad 3) (ad 3)) (ad 3)) ak)) (tgN 2) aP (mOp df (ao (ax gI) (ae (ad 0) (ae (HZ 1) ak))) (ad 1))))
  aI)
 (au (aH 7 (mOp b8 (mOp b8 (mMt eX (mC (.str "")) (aM [] 1 (a8 (ad 5)) (tgN 0) aP (ao (p1 dP) (ae (ad 0) ak)))) (mC (.str " "))) (mMt eX (mC (.str "")) (aM [] 1 (a8 (ad 6)) (tgN 0) aP (ao (p1 dP) (ae (ad 0) ak))))))
 (bh (iJ (ae (ad 2) (ae (ad 3) (ae (ad 4) (ae (mJ [(mC (.str "table ")),(mUn jz (ad 2)),(mC (.str " ")),(mUn jz (ad 3)),(mC (.str " ")),(mUn jz (ad 4)),(mC (.str " ")),(mUn jz (ad 7))] PySem.Str.empty) (ae ((iO (mOp pEq (mOp df (ad 1) (HZ 2)) (HZ 0)) (mOp pEq (ad 4) (mC (.str "none"))))) ak)))))))))))))))
def xG:=bj 8 yt
def D9:MS:=
 (bh (mMt eX (mC (.str " ")) (aM [] 1 (a8 (ad 0)) (tgN 0) aP (ao (p1 dP) (ae (ad 0) ak)))))
def DH:=bj 1 D9
def Ek:MS:=
 (mBr (aA (mOp pNe (ao (p1 fP) (ae (ad 0) ak)) (ad 1)))
  (a_ 5 (ae (mC (.str "there are too few or too many words or numbers")) ak))
  aI)
def uJ:=bj 2 Ek
def Eu:MS:=
 (bh ((iO (mOp pGt (ao (p1 (eM (fun z=>decide (z.length<=10000)) fun z=>.int z.length)) (ae (ad 0) ak)) (HZ 0)) (iO (mOp pLe (ao (p1 (eM (fun z=>decide (z.length<=10000)) fun z=>.int z.length)) (ae (ad 0) ak)) (ad 1)) (ao (p1 (ul oH)) (ae (aM [] 1 (lg (ad 0)) (tgN 0) aP (mOp zw (ad 0) (mC (.str "0123456789")))) ak))))))
def uK:=bj 2 Eu
def Eb:MS:=
 (au (aH 1 (f6 (aY (dh (ad 0) (mC (.str "-")))) (iK (ad 0) (dw (HZ 1)) b6) (ad 0)))
 (au (mBr (iM (aY (ao (ax uK) (ae (ad 1) (ae (HZ 60) ak)))))
  (a_ 5 (ae (mC (.str "a number is not written by 1 to 60 figures")) ak))
  aI)
 (au (mBr ((d6 (aY (dh (ad 1) (mC (.str "0")))) (aA (mOp pNe (ad 0) (mC (.str "0"))))))
  (a_ 5 (ae (mC (.str "a number has a nought ahead, or is -0")) ak))
  aI)
 (bh (ao (p1 (eM (fun z=>decide (z.length<=640)&&(PySem.intText? z).isSome) fun z=>.int ((PySem.intText? z).getD 0))) (ae (ad 0) ak))))))
def uI:=bj 2 Eb
def Ei:MS:=
 (bh (gw [] 1 (a8 (ad 0)) (tgN 0) (ao (ax uI) (ae (ad 0) ak))))
def Aq:=bj 1 Ei
def Em:MS:=
 (au (mBr (iM (aY (ao (ax uK) (ae (ad 0) (ae (HZ 64) ak)))))
  (a_ 5 (ae (mC (.str "a list of a table is not written by 1 to 64 figures")) ak))
  aI)
 (bh (aM [] 1 (lg (ad 0)) (tgN 0) aP (ao (p1 (eM (fun z=>decide (z.length<=640)&&(PySem.intText? z).isSome) fun z=>.int ((PySem.intText? z).getD 0))) (ae (ad 0) ak)))))
def As:=bj 1 Em
def D8:MS:=
 (au (fB (ao (ax uJ) (ae (ad 0) (ae (HZ 5) ak))))
 (au (mBr (aA (mOp cy (mOp aq (ad 0) (HZ 2)) (mC (.tup [.str "none", .str "one"]))))
  (a_ 5 (ae (mC (.str "the word is another one than none and one")) ak))
  aI)
 (au (aH 1 (ao (ax uI) (ae (mOp aq (ad 0) (HZ 0)) ak)))
 (au (aH 2 (ao (ax uI) (ae (mOp aq (ad 0) (HZ 1)) ak)))
 (bh (iJ (ae (mC (.str "table")) (ae (ad 1) (ae (ad 2) (ae (mOp aq (ad 0) (HZ 2)) (ae (ao (ax As) (ae (mOp aq (ad 0) (HZ 3)) ak)) (ae (ao (ax As) (ae (mOp aq (ad 0) (HZ 4)) ak)) ak))))))))))))
def DG:=bj 3 D8
def yv:MS:=
 (au (mBr ((d6 (aA (mOp pNe (ad 0) (bU ak))) (aA (mOp pNe (ad 0) (bU (ae (mC (.str "many")) ak))))))
  (a_ 5 (ae (mC (.str "behind look stands nothing, or many")) ak))
  aI)
 (bh (iJ (ae (mC (.str "look")) (ae (mOp pEq (ad 0) (bU (ae (mC (.str "many")) ak))) ak)))))
def xI:=bj 1 yv
def yr:MS:=
 (au (aH 1 (mMt cJ (ad 0) (mC (.str " "))))
 (au (aH 2 (mOp aq (ad 1) (HZ 0)))
 (au (aH 3 (cU (ad 1) (dw (HZ 1)) b6))
 (au (mBr (aA (mUn (ph [("pass", (2)),("paint", (0)),("far", (1)),("grow", (1)),("spoil", (2)),("may", (0)),("measure", (0))]) (ad 2)))
  (au (fB (ao (ax uJ) (ae (ad 3) (ae (mUn (jZ [("pass", (2)),("paint", (0)),("far", (1)),("grow", (1)),("spoil", (2)),("may", (0)),("measure", (0))]) (ad 2)) ak))))
 (bh (ao (p1 fO) (ae (mOp bz (bU (ae (ad 2) ak)) (ao (ax Aq) (ae (ad 3) ak))) ak))))
  aI)
 (au (mBr (aA (mOp pIn (ad 2) (mC (.tup [.str "count", .str "lead", .str "state", .str "turn"]))))
  (bh (iJ (ae (ad 2) (ae (ao (ax Aq) (ae (ad 3) ak)) ak))))
  aI)
 (au (mBr (aA (mOp pEq (ad 2) (mC (.str "net"))))
  (bh (jD))
  aI)
 (au (mBr (aA (mOp pEq (ad 2) (mC (.str "table"))))
  (bh (ao (ax DG) (ae (ad 3) ak)))
  aI)
 (au (mBr (aA (mOp pEq (ad 2) (mC (.str "look"))))
  (bh (ao (ax xI) (ae (ad 3) ak)))
  aI)
 (a_ 5 (ae (mC (.str "a line begins with no known word")) ak))))))))))
def xF:=bj 4 yr
def yu:MS:=
 (bh (gw [] 1 (a8 (mMt cJ (ad 0) (mC (.str "\n")))) (tgN 0) (ao (ax xF) (ae (ad 0) ak))))
def xH:=bj 1 yu
def yn:MS:=
 (bh (f6 (aA (mOp pEq (mOp aq (mOp aq (ad 0) (HZ 0)) (HZ 0)) (mC (.str "net")))) (HZ 2) (HZ 1)))
def sQ:=bj 1 yn
def El:MS:=
 (au (aH 1 (aM [] 1 (a8 (ad 0)) (tgN 0) aP (mOp aq (ad 0) (HZ 0))))
 (au (aH 2 (ao (ax sQ) (ae (ad 0) ak)))
 (au (aH 3 (f6 (aA (mOp pEq (mOp aq (ad 1) (HZ 0)) (mC (.str "net")))) (mC (.tup [.str "paint", .str "far", .str "lead", .str "grow"])) (mC (.tup [.str "pass", .str "count", .str "table"]))))
 (au (mBr ((n9 (aA (mOp pLe (ao (p1 fP) (ae (ad 1) ak)) (ad 2))) (aA (mOp pNe (mOp aq (ad 1) (ad 2)) (mC (.str "state"))))))
  (a_ 5 (ae (mC (.str "no state stands behind the rule")) ak))
  aI)
 (au (mBr (aA (mOp cy (mOp aq (ad 1) (mOp ug (ad 2) (HZ 1))) (ad 3)))
  (a_ 5 (ae (mC (.str "no rule stands where one must, or its net is missing or too much")) ak))
  aI)
 (cZ (d5 (cU (ad 1) (dw (mOp bz (ad 2) (HZ 1))) b6)) (tgN 4)
  (mBr (aA (mOp cy (ad 4) (mC (.tup [.str "turn", .str "spoil", .str "may", .str "measure", .str "look"]))))
  (a_ 5 (ae (mC (.str "a net, a rule or a state stands behind the state")) ak))
  aI)))))))
def DL:=bj 5 El
def Ej:MS:=
 (au (mBr (aA (mOp pNe (ao (p1 fP) (ae (ad 0) ak)) (mOp cT (mOp cT (ad 1) (ad 1)) (ad 1))))
  (a_ 2 (ae (mC (.str "a table has not an entry for each own, left and right cell")) ak))
  aI)
 (cZ (d5 (ad 0)) (tgN 2)
  (mBr ((n9 (aA (mOp pLt (ad 2) (HZ 0))) (aA (mOp pGe (ad 2) (ad 1)))))
  (a_ 2 (ae (mC (.str "an entry of a table is out of bounds")) ak))
  aI)))
def Ar:=bj 3 Ej
def yo:MS:=
 (au (lh 0 0 (ad 1))
 (au (lh 0 1 (ad 2))
 (lh 0 2 (ad 3))))
def sR:=o4 4 yo
def Et:MS:=
 (au (mBr ((n9 (aA (mOp pLt (ad 1) (HZ 2))) (aA (mOp pGt (ad 1) (HZ 8)))))
  (a_ 2 (ae (mC (.str "the number of machines is out of bounds")) ak))
  aI)
 (au (mBr ((n9 (aA (mOp pLt (ad 2) (HZ 2))) (aA (mOp pGt (ad 2) (HZ 4)))))
  (a_ 2 (ae (mC (.str "the span is out of bounds")) ak))
  aI)
 (au (mBr (aA (mUn (ko [("none", (0)),("one", (1))]) (ad 3)))
  (a_ 2 (ae (mC (.str "the word is another one than none and one")) ak))
  aI)
 (au (fB (ao (ax Ar) (ae (ad 4) (ae (ad 2) ak))))
 (au (fB (ao (ax Ar) (ae (ad 5) (ae (ad 2) ak))))
 (au (lh 0 3 (mUn (jZ [("none", (0)),("one", (1))]) (ad 3)))
 (au (lh 0 4 (ao (p1 fO) (ae (ad 4) ak)))
 (au (lh 0 5 (ao (p1 fO) (ae (ad 5) ak)))
 (ld sR (ae (ad 1) (ae (ad 2) (ae (mC (.bl false)) ak))))))))))))
def DP:=o4 6 Et
def yh:MS:=
 (au (aH 1 (mOp aq (ad 0) (mUn kT (HZ 1))))
 (au (mBr (aA (mOp pEq (mOp aq (mOp aq (ad 0) (HZ 0)) (HZ 0)) (mC (.str "net"))))
  (bh (jD))
  aI)
 (au (mBr (aA (mOp pEq (mOp aq (ad 1) (HZ 0)) (mC (.str "pass"))))
  (bh (jD))
  aI)
 (au (mBr (aA (mOp pEq (mOp aq (ad 1) (HZ 0)) (mC (.str "count"))))
  (bh (jD))
  aI)
 (bh (wX 1 DP (ae (mOp aq (ad 1) (HZ 1)) (ae (mOp aq (ad 1) (HZ 2)) (ae (mOp aq (ad 1) (HZ 3)) (ae (mOp aq (ad 1) (HZ 4)) (ae (mOp aq (ad 1) (HZ 5)) ak)))))))))))
def sO:=bj 2 yh
def yp:MS:=
 (au (mBr (aA (mOp pNe (ao (p1 fP) (ae (ad 1) ak)) (mUn (aW 0) (ad 0))))
  (a_ 3 (ae (mC (.str "there are not as many registers as machines")) ak))
  aI)
 (bh (aM [0] 1 (a8 (ad 1)) (tgN 1) aP (mOp df (ad 1) (mUn (aW 1) (ad 0))))))
def xE:=bj 2 yp
def cV:Nat->Option (HK->HL)
 |1=>some xE
 |_=>none
def Eo:MS:=
 (au (aH 3 (mOp aq (ad 1) (mOp df (mOp ug (ad 2) (HZ 1)) (mUn (aW 0) (ad 0)))))
 (au (aH 4 (mOp aq (ad 1) (mOp df (mOp bz (ad 2) (HZ 1)) (mUn (aW 0) (ad 0)))))
 (au (aH 5 (mOp bz (mOp bz (mOp cT (mOp cT (mOp aq (ad 1) (ad 2)) (mUn (aW 1) (ad 0))) (mUn (aW 1) (ad 0))) (mOp cT (ad 3) (mUn (aW 1) (ad 0)))) (ad 4)))
 (bh (f6 (aA (mOp pEq (ad 2) (HZ 0))) (mOp aq (mUn (aW 4) (ad 0)) (ad 5)) (mOp aq (mUn (aW 5) (ad 0)) (ad 5)))))))
def DM:=bj 6 Eo
def fD:Nat->Option (HK->HL)
 |1=>some DM
 |_=>none
def D_:MS:=
 (bh (aM [0,1] 1 (cM (ae (mUn (aW 0) (ad 0)) ak)) (tgN 2) (aA (mOp pNe (eP fD (ad 0) (ae (ad 1) (ae (ad 2) ak))) (mOp aq (ad 1) (ad 2)))) (ad 2)))
def DI:=bj 2 D_
def bJ:Nat->Option (HK->HL)
 |1=>some DI
 |_=>none
def Er:MS:=
 (bh (mOp pEq (ao (p1 fP) (ae (eP bJ (ad 0) (ae (ad 1) ak)) ak)) (mUn (aW 3) (ad 0))))
def DN:=bj 2 Er
def cC:Nat->Option (HK->HL)
 |1=>some DN
 |_=>none
def ye:MS:=
 (bh (mMt eX (mC (.str " ")) (aM [] 1 (a8 (ad 0)) (tgN 0) aP (ao (p1 mT) (ae (ad 0) ak)))))
def j_:=bj 1 ye
def ya:MS:=
 (bh (ao (ax j_) (ae (mOp bz (ad 1) (bU (ae (f6 (aY (eP cC (ad 0) (ae (ad 1) ak))) (mC (.str "calm")) (mC (.str "wild"))) ak))) ak)))
def m6:=bj 2 ya
def Eg:MS:=
 (au (mBr ((d6 (aY (mUn (aW 2) (ad 0))) (aA (mOp pGt (ao (p1 fP) (ae (ad 1) ak)) (HZ 1)))))
  (a_ 4 (ae (mC (.str "a rule that is alone gets one machine at a turn")) ak))
  aI)
 (au (cZ (d5 (ad 1)) (tgN 2)
  (mBr ((n9 (aA (mOp pLt (ad 2) (HZ 0))) (aA (mOp pGe (ad 2) (mUn (aW 0) (ad 0))))))
  (a_ 4 (ae (mC (.str "a name is no machine")) ak))
  aI))
 (mBr (aA (mOp pNe (mUn iw (ad 1)) (ao (p1 fP) (ae (ad 1) ak))))
  (a_ 4 (ae (mC (.str "a machine is named twice")) ak))
  aI)))
def DJ:=bj 3 Eg
def Ec:MS:=
 (au (fB (ao (ax DJ) (ae (ad 0) (ae (ad 2) ak))))
 (bh (aM [2,0,1] 1 (cM (ae (mUn (aW 0) (ad 0)) ak)) (tgN 3) aP (f6 (aA (mOp pIn (ad 3) (ad 0))) (eP fD (ad 1) (ae (ad 2) (ae (ad 3) ak))) (mOp aq (ad 2) (ad 3))))))
def An:=bj 3 Ec
def du:Nat->Option (HK->HL)
 |1=>some An
 |_=>none
def yd:MS:=
 (au (aH 3 (eP du (ad 0) (ae (ad 1) (ae (ad 2) ak))))
 (au (aH 4 (aM [2] 1 (a8 (eP bJ (ad 0) (ae (ad 1) ak))) (tgN 1) (aA (mOp pIn (ad 1) (ad 0))) (ad 1)))
 (qG 4 3)))
def xB:=bj 5 yd
def yz:MS:=
 (au (aH 3 (eP cV (ad 0) (ae (ad 1) ak)))
 (au (aH 4 (bU ak))
 (au (gH 2) (au (cZ (d5 (ad 2)) (tgN 5)
  (au (cP 4 (mFz (ao (ax xB) (ae (ad 0) (ae (ad 3) (ae (ad 5) ak))))))
 (aH 3 (mOp aq (mOp aq (ad 4) (mUn kT (HZ 1))) (HZ 1)))))
 (fZ 4)))))
def xJ:=bj 6 yz
def lU:MS:=
 (au (mBr (aA (mOp pEq (mOp aq (ad 2) (HZ 0)) (mC (.str "turn"))))
  (bh (mOp aq (ao (ax xJ) (ae (ad 0) (ae (ad 1) (ae (bU (ae (mOp aq (ad 2) (HZ 1)) ak)) ak)))) (HZ 0)))
  aI)
 (au (mBr (aA (mOp pEq (mOp aq (ad 2) (HZ 0)) (mC (.str "spoil"))))
  (bh (iJ (ae (bU ak) (ae (eP cV (ad 0) (ae (jD) ak)) ak))))
  aI)
 (bh (iJ (ae (bU ak) (ae (ad 1) ak))))))
def sT:=bj 3 lU
def Ep:MS:=
 (bh (f6 (aA (mOp pGt (ao (p1 fP) (ae (ad 0) ak)) (HZ 0))) (ao (ax j_) (ae (ad 0) ak)) (mC (.str "-"))))
def At:=bj 1 Ep
def Hj:MS:=
 (a_ 7 (ae (mC (.str "this rule has no measure")) ak))
def Gw:=bj 2 Hj
def gQ:Nat->Option (HK->HL)
 |1=>some Gw
 |_=>none
def Ee:MS:=
 (mBr ((d6 (aY (ad 1)) (aY (mUn (aW 2) (ad 0)))))
  (a_ 4 (ae (mC (.str "a rule that is alone gets one machine at a turn")) ak))
  aI)
def Ao:=bj 2 Ee
def yq:MS:=
 (au (aH 1 (HZ 1))
 (au (cZ (cM (ae (mUn (aW 0) (ad 0)) ak)) (tgN 2)
  (au (aH 1 (mOp cT (ad 1) (mUn (aW 1) (ad 0))))
 (mBr (aA (mOp pGt (ad 1) (HZ 256)))
  (wY)
  aI)))
 (fZ 1)))
def pS:=bj 3 yq
def Eh:MS:=
 (au (mBr (aA (mOp pGt (ao (ax pS) (ae (ad 0) ak)) (HZ 256)))
  (a_ 6 (ae (mC (.str "the rule has too many states")) ak))
  aI)
 (mBr ((d6 (aY (ad 1)) (aA (mOp pGt (mUn (aW 0) (ad 0)) (HZ 4)))))
  (a_ 6 (ae (mC (.str "the rule has too many machines for many at once")) ak))
  aI))
def DK:=bj 2 Eh
def yk:MS:=
 (au (aH 2 (bU ak))
 (au (aH 3 (ad 1))
 (au (cZ (cM (ae (mUn (aW 0) (ad 0)) ak)) (tgN 4)
  (au (cP 2 (mOp df (ad 3) (mUn (aW 1) (ad 0))))
 (aH 3 (mOp iz (ad 3) (mUn (aW 1) (ad 0))))))
 (bh (mUn fw (ad 2))))))
def ka:=bj 5 yk
def yf:MS:=
 (au (aH 1 (bU (ae (bU ak) ak)))
 (au (cZ (d5 (ad 0)) (tgN 2)
  (au (gH 1) (aH 1 (mOp bz (ad 1) (aM [2] 1 (a8 (ad 1)) (tgN 1) aP (mOp bz (ad 1) (bU (ae (ad 0) ak))))))))
 (au (gH 1) (bh (cU (ad 1) (dw (HZ 1)) b6)))))
def sN:=bj 3 yf
def yc:MS:=
 (au (fB (ao (ax Ao) (ae (ad 0) (ae (ad 2) ak))))
 (au (aH 3 (eP bJ (ad 0) (ae (ad 1) ak)))
 (au (aH 4 (f6 (aY (ad 2)) (ao (ax sN) (ae (ad 3) ak)) (aM [] 1 (a8 (ad 3)) (tgN 0) aP (bU (ae (ad 0) ak)))))
 (au (gH 4) (bh (aM [0,1] 1 (a8 (ad 4)) (tgN 2) aP (iJ (ae (ad 2) (ae (eP du (ad 0) (ae (ad 1) (ae (ad 2) ak))) ak)))))))))
def sK:=bj 5 yc
def yw:MS:=
 (au (aH 2 (HZ 0))
 (au (cZ (d5 (ad 1)) (tgN 3)
  (aH 2 (mOp bz (mOp cT (ad 2) (mUn (aW 1) (ad 0))) (ad 3))))
 (fZ 2)))
def pT:=bj 4 yw
def yg:MS:=
 (au (cZ (iN (ad 2)) (tgT 2 (dA (tgN 3) (dA (tgN 4) mG)))
  (cZ (d5 (ad 4)) (tgT 2 (dA (tgN 5) (dA (tgN 6) mG)))
  (mBr ((d6 (aY (mOp aq (ad 1) (ad 3))) (iM (aY (mOp aq (ad 1) (ao (ax pT) (ae (ad 0) (ae (ad 6) ak))))))))
  (bh (iJ (ae (mC (.str "leaves")) (ae (ao (ax ka) (ae (ad 0) (ae (ad 3) ak))) (ae (ad 5) ak)))))
  aI)))
 (bh (mC .non)))
def xC:=bj 7 yg
def yb:MS:=
 (au (cZ (iN (ad 2)) (tgT 2 (dA (tgN 3) (dA (tgN 4) mG)))
  (mBr ((d6 (iM (aY (mOp aq (ad 1) (ad 3)))) (aA (mOp pEq (ao (p1 fP) (ae (ad 4) ak)) (HZ 0)))))
  (bh (iJ (ae (mC (.str "stuck")) (ae (ao (ax ka) (ae (ad 0) (ae (ad 3) ak))) ak))))
  aI))
 (bh (mC .non)))
def xA:=bj 5 yb
def Ea:MS:=
 (au (aH 2 (aM [] 1 (a8 (ad 0)) (tgN 0) aP (f6 (aY (ad 0)) (HZ 0) (mC .non))))
 (au (aH 3 (mC (.bl true)))
 (au (lc (aY (ad 3))
  (au (aH 3 (mC (.bl false)))
 (cZ (iN (ad 1)) (tgT 2 (dA (tgN 4) (dA (tgN 5) mG)))
  (mBr ((d6 (aA (mOp gj (mOp aq (ad 2) (ad 4)) (mC .non))) (aA (mOp cy (mC .non) (aM [2] 1 (a8 (ad 5)) (tgN 1) aP (mOp aq (ad 0) (ad 1)))))))
  (au (jE 2 (ad 4) (mOp bz (HZ 1) (ao (p1 (gM bC)) (ae (aM [2] 1 (a8 (ad 5)) (tgN 1) aP (mOp aq (ad 0) (ad 1))) ak))))
 (aH 3 (mC (.bl true))))
  aI))))
 (fZ 2))))
def Am:=bj 6 Ea
def yj:MS:=
 (au (aH 2 (bU (ae (gv ff (ad 0) (mC .non)) ak)))
 (au (lc (aA (mOp pEq (gv gn (ad 2) (mOp aq (ad 2) (mUn kT (HZ 1)))) (HZ 1)))
  (cP 2 (mOp aq (aM [0] 1 (a8 (mOp aq (ad 1) (mOp aq (ad 2) (mUn kT (HZ 1))))) (tgN 1) (aA (mOp gj (mOp aq (ad 0) (ad 1)) (mC .non))) (ad 1)) (HZ 0))))
 (bh (cU (ad 2) (dw (gv ff (ad 2) (mOp aq (ad 2) (mUn kT (HZ 1))))) b6))))
def sP:=bj 3 yj
def Es:MS:=
 (au (aH 3 (aM [0] 1 (a8 (ad 2)) (tgN 1) aP (aM [0] 1 (a8 (ad 1)) (tgN 1) aP (ao (ax pT) (ae (ad 0) (ae (mOp aq (ad 1) (HZ 1)) ak))))))
 (au (aH 4 (ao (ax Am) (ae (ad 1) (ae (ad 3) ak))))
 (au (mBr (aA (mOp pIn (mC .non) (ad 4)))
  (bh (iJ (ae (mC (.str "round")) (ae (aM [0] 1 (a8 (ao (ax sP) (ae (ad 4) (ae (ad 3) ak)))) (tgN 1) aP (ao (ax ka) (ae (ad 0) (ae (ad 1) ak)))) ak))))
  aI)
 (n6 "calm" 4))))
def DO:=bj 5 Es
def x9:MS:=
 (au (fB (ao (ax Ao) (ae (ad 0) (ae (ad 1) ak))))
 (au (fB (ao (ax DK) (ae (ad 0) (ae (ad 1) ak))))
 (au (aH 2 (aM [0] 1 (cM (ae (ao (ax pS) (ae (ad 0) ak)) ak)) (tgN 1) aP (ao (ax ka) (ae (ad 0) (ae (ad 1) ak)))))
 (au (aH 3 (aM [0] 1 (a8 (ad 2)) (tgN 1) aP (eP cC (ad 0) (ae (ad 1) ak))))
 (au (aH 4 (aM [0,1] 1 (a8 (ad 2)) (tgN 2) aP (ao (ax sK) (ae (ad 0) (ae (ad 2) (ae (ad 1) ak))))))
 (au (gH 4) (au (aH 5 (ao (ax xC) (ae (ad 0) (ae (ad 3) (ae (ad 4) ak)))))
 (au (mBr (aA (mOp gj (ad 5) (mC .non)))
  (aH 5 (ao (ax xA) (ae (ad 0) (ae (ad 3) (ae (ad 4) ak)))))
  aI)
 (au (mBr (aA (mOp gj (ad 5) (mC .non)))
  (aH 5 (ao (ax DO) (ae (ad 0) (ae (ad 3) (ae (ad 4) ak)))))
  aI)
 (fZ 5))))))))))
def xy:=bj 6 x9
def oF:MS:=
 (au (mBr (aA (mOp pEq (mOp aq (ad 0) (HZ 0)) (mC (.str "calm"))))
  (bh (ao (ax j_) (ae (bU (ae (mC (.str "calm")) (ae (ao (p1 (gM bC)) (ae (mOp aq (ad 0) (HZ 1)) ak)) ak))) ak)))
  aI)
 (au (mBr (aA (mOp pEq (mOp aq (ad 0) (HZ 0)) (mC (.str "round"))))
  (bh (mC (.str "round")))
  aI)
 (bh (ao (ax j_) (ae (mOp bz (bU (ae (mOp aq (ad 0) (HZ 0)) ak)) (mOp aq (ad 0) (HZ 1))) ak)))))
def DF:=bj 1 oF
def lT:MS:=
 (au (aH 3 (mOp aq (ad 1) (HZ 1)))
 (au (mBr (aA (mOp pEq (mOp aq (ad 2) (HZ 0)) (mC (.str "turn"))))
  (bh (ao (ax j_) (ae (bU (ae (ao (ax At) (ae (mOp aq (ad 1) (HZ 0)) ak)) (ae (mC (.str ":")) (ae (ao (ax m6) (ae (ad 0) (ae (ad 3) ak))) ak)))) ak)))
  aI)
 (au (mBr (aA (mOp pEq (mOp aq (ad 2) (HZ 0)) (mC (.str "spoil"))))
  (bh (ao (ax m6) (ae (ad 0) (ae (ad 3) ak))))
  aI)
 (au (mBr (aA (mOp pEq (mOp aq (ad 2) (HZ 0)) (mC (.str "may"))))
  (bh (ao (ax At) (ae (eP bJ (ad 0) (ae (ad 3) ak)) ak)))
  aI)
 (au (mBr (aA (mOp pEq (mOp aq (ad 2) (HZ 0)) (mC (.str "measure"))))
  (bh (ao (p1 dP) (ae (eP gQ (ad 0) (ae (ad 3) ak)) ak)))
  aI)
 (bh (ao (ax DF) (ae (ao (ax xy) (ae (ad 0) (ae (mOp aq (ad 2) (HZ 1)) ak))) ak))))))))
def sM:=bj 4 lT
def x_:MS:=
 (au (aH 1 (ao (ax xH) (ae (ad 0) ak)))
 (au (gH 1) (au (fB (ao (ax DL) (ae (ad 1) ak)))
 (au (aH 2 (ao (ax sQ) (ae (ad 1) ak)))
 (au (aH 3 (ao (ax sO) (ae (cU (ad 1) b6 (dw (ad 2))) ak)))
 (au (aH 4 (eP cV (ad 3) (ae (mOp aq (mOp aq (ad 1) (ad 2)) (HZ 1)) ak)))
 (au (gH 4) (au (aH 5 (bU (ae (ao (ax m6) (ae (ad 3) (ae (ad 4) ak))) ak)))
 (au (cZ (d5 (cU (ad 1) (dw (mOp bz (ad 2) (HZ 1))) b6)) (tgN 6)
  (au (aH 7 (ao (ax sT) (ae (ad 3) (ae (ad 4) (ae (ad 6) ak)))))
 (au (gH 7) (au (aH 4 (mOp aq (ad 7) (HZ 1)))
 (cP 5 (ao (ax sM) (ae (ad 3) (ae (ad 7) (ae (ad 6) ak)))))))))
 (fZ 5))))))))))
def j9:=bj 8 x_
def yx:MS:=
 (au (aH 2 (mOp aq (mMt cJ (mOp aq (ad 0) (HZ 0)) (mC (.str " "))) (mUn kT (HZ 1))))
 (au (aH 3 (HZ 0))
 (au (cZ (d5 (cU (ad 0) (dw (HZ 1)) b6)) (tgN 4)
  (au (aH 5 (mOp aq (mMt cJ (ad 4) (mC (.str " "))) (mUn kT (HZ 1))))
 (au (mBr ((n9 ((d6 (aA (mOp pEq (ad 2) (mC (.str "calm")))) (aA (mOp pNe (ad 5) (mC (.str "calm")))))) (aA (mOp cy (ad 2) (bU (ae (mC (.str "calm")) (ae (mC (.str "wild")) ak)))))))
  (bh (mC (.bl false)))
  aI)
 (au (mBr ((d6 (aA (mOp pEq (ad 2) (mC (.str "wild")))) (iM (aY (dh (ad 4) (mC (.str "- : ")))))))
  (uy 3 (HZ 1))
  aI)
 (aH 2 (ad 5))))))
 (bh (mOp pLe (ad 3) (ad 1))))))
def sS:=bj 6 yx
def yi:MS:=
 (au (aH 3 (bU (ae (mC (.str "turn")) ak)))
 (au (cZ (cM (ae (ad 1) ak)) (tgN 4)
  (aH 3 (mOp bz (ad 3) (aM [4] 1 (a8 (ad 3)) (tgN 1) aP (mOp b8 (mOp b8 (ad 1) (mC (.str " "))) (ao (p1 dP) (ae (ad 0) ak)))))))
 (au (aH 5 (mC (.bl false)))
 (au (gH 3) (au (cZ (d5 (ad 3)) (tgN 6)
  (au (aH 7 (ao (ax j9) (ae (mMt eX (mC (.str "\n")) (bU (ae (ad 0) (ae (mOp b8 (mC (.str "state ")) (ad 2)) (ae (ad 6) ak))))) ak)))
 (au (mBr (aA (mOp pNe (mOp aq (ad 7) (HZ 0)) (mOp b8 (ad 2) (mC (.str " calm")))))
  (bh (mC (.bl false)))
  aI)
 (aH 5 ((qH (ad 5) (mMt sd (mOp aq (ad 7) (HZ 1)) (mC (.str " wild")))))))))
 (fZ 5))))))
def xD:=bj 8 yi
def yA:MS:=
 (au (aH 1 (ao (ax xG) (ae (ad 0) ak)))
 (au (aH 2 (mOp pEq (mOp df (ao (ax gI) (ae (ad 0) (ae (HZ 3) ak))) (HZ 2)) (HZ 1)))
 (au (aH 3 (aM [0] 1 (cM (ae (mOp aq (ad 1) (HZ 0)) ak)) (tgN 1) aP (mOp ug (mOp df (ao (ax gI) (ae (ad 0) (ae (mOp bz (HZ 4) (ad 1)) ak))) (mOp cT (HZ 2) (mOp nX (HZ 10) (HZ 59)))) (mOp nX (HZ 10) (HZ 59)))))
 (au (aH 4 (bU (ae (mOp aq (ad 1) (HZ 3)) (ae (mOp b8 (mC (.str "state ")) (ao (ax DH) (ae (ad 3) ak))) (ae (mC (.str "may")) (ae (mOp b8 (mC (.str "look")) (mOp kU (mC (.str " many")) (ao (p1 jy) (ae (ad 2) ak)))) ak))))))
 (au (cZ (d5 (cU (ad 0) (dw (HZ 7)) (dw (HZ 67)))) (tgN 5)
  (au (aH 6 (bU (ae (mOp df (mOp iz (ad 5) (HZ 3)) (mOp aq (ad 1) (HZ 0))) ak)))
 (au (mBr (aY (ad 2))
  (aH 6 (aM [5] 1 (cM (ae (mOp aq (ad 1) (HZ 0)) ak)) (tgN 1) (aA (mOp pEq (mOp pq (mOp wq (mOp iz (ad 0) (HZ 3)) (ad 1)) (HZ 1)) (HZ 1))) (ad 1)))
  aI)
 (cP 4 (mMt eX (mC (.str " ")) (mOp bz (bU (ae (mC (.str "turn")) ak)) (aM [] 1 (a8 (ad 6)) (tgN 0) aP (ao (p1 dP) (ae (ad 0) ak)))))))))
 (au (aH 7 (ao (ax j9) (ae (mMt eX (mC (.str "\n")) (ad 4)) ak)))
 (au (mBr (aA (mOp pNe (ao (p1 fP) (ae (ad 7) ak)) (mOp ug (ao (p1 fP) (ae (ad 4) ak)) (HZ 1))))
  (bh (mC (.bl false)))
  aI)
 (au (aH 8 (mMt cJ (mOp aq (ad 7) (HZ 2)) (mC (.str " "))))
 (au (aH 9 (mMt eX (mC (.str " ")) (cU (ad 8) (dw (HZ 1)) b6)))
 (au (mBr ((d6 (aA (mOp pEq (mOp aq (ad 8) (HZ 0)) (mC (.str "calm")))) (aA (mOp pEq (ao (p1 fP) (ae (ad 8) ak)) (HZ 2)))))
  (au (aH 10 (mMt sd (mOp aq (ad 7) (HZ 0)) (mC (.str " wild"))))
 (bh ((iO ((qH (pI (ad 10)) (mOp pNe (mOp aq (ad 7) (HZ 1)) (mC (.str "-"))))) (ao (ax sS) (ae (mOp bz (bU (ae (mOp aq (ad 7) (HZ 0)) ak)) (cU (ad 7) (dw (HZ 3)) b6)) (ae (ao (p1 (eM (fun z=>decide (z.length<=640)&&(PySem.intText? z).isSome) fun z=>.int ((PySem.intText? z).getD 0))) (ae (mOp aq (ad 8) (HZ 1)) ak)) ak)))))))
  aI)
 (au (mBr (aY (mOp aq (ad 1) (HZ 4)))
  (bh (mC (.bl false)))
  aI)
 (au (mBr (aA (mOp pEq (mOp aq (ad 8) (HZ 0)) (mC (.str "stuck"))))
  (bh (mOp pEq (ao (ax j9) (ae (mMt eX (mC (.str "\n")) (bU (ae (mOp aq (ad 1) (HZ 3)) (ae (mOp b8 (mC (.str "state ")) (ad 9)) (ae (mC (.str "may")) ak))))) ak)) (bU (ae (mOp b8 (ad 9) (mC (.str " wild"))) (ae (mC (.str "-")) ak)))))
  aI)
 (au (mBr (aA (mOp pEq (mOp aq (ad 8) (HZ 0)) (mC (.str "leaves"))))
  (bh (ao (ax xD) (ae (mOp aq (ad 1) (HZ 3)) (ae (mOp aq (ad 1) (HZ 0)) (ae (ad 9) ak)))))
  aI)
 (bh (mOp pEq (ad 8) (bU (ae (mC (.str "round")) ak)))))))))))))))))
def xK:=bj 11 yA
end G
namespace G
open PySem L2 PR
def top(i:Nat):Stmt:=PySem.Challenge.pw_calmring_k53_whole_looked_through.main.body.getD i (.Pass ⟨0,0,0,0⟩)
def tF(q:Str)(i k:Nat)(N:HF):FS:=⟨q,top i,k,N,none⟩
def tM(c:Nat)(q:Str)(i j k:Nat)(N:HF):FS:=⟨q,Ac (top i) j,k,N,some c⟩
def mE(c:Nat)(n:Str)(i:Nat):Nat×Str×Nat:=(c,n,i)
noncomputable def pt:PT:={
 F:=[tF "_law_cell_at" 111 2 ["_law_script", "_law_k"],
  tF "_law_entries" 113 3 ["_law_cell","_law_span","_law_left_here","_law_row","_law_k","_law_place"],
  tF "_law_table" 114 1 ["_law_script","_law_first","_law_size","_law_span","_law_word","_law_firsts","_law_others","_law_ends"],
  tF "_law_joined" 112 1 ["_law_numbers"],
  tF "refuse_count" 94 2 ["words","count"],
  tF "has_figures_alone" 93 2 ["word","most"],
  tF "read_number" 84 1 ["word","figures"],
  tF "read_numbers" 87 1 ["words"],
  tF "read_entries" 91 1 ["word"],
  tF "read_table" 90 1 ["words","size","span"],
  tF "read_look" 92 1 ["words"],
  tF "read_line" 86 1 ["line","words","first","rest"],
  tF "read_text" 85 1 ["text"],
  tF "state_at" 100 1 ["lines"],
  tF "refuse_order" 101 1 ["lines","kinds","first","rules","kind"],
  tF "refuse_table" 76 2 ["table","span","number"],
  tM 0 "Rule.__init__" 13 0 4 ["self","size","span","alone"],
  tM 1 "TableRule.__init__" 75 0 6 ["self","size","span","word","firsts","others"],
  tF "rule_of" 102 1 ["lines","line"],
  tM 0 "Rule.read" 13 1 2 ["self","registers"],
  tM 1 "TableRule.due" 75 1 3 ["self","cells","at","left","right","entry"],
  tM 0 "Rule.movers" 13 3 2 ["self","cells"],
  tM 1 "TableRule.calm" 75 2 2 ["self","cells"],
  tF "joined" 109 1 ["things"],
  tF "shown" 106 2 ["rule","cells"],
  tF "refuse_turn" 14 2 ["rule","named","at"],
  tM 0 "Rule.turned" 13 5 3 ["self","cells","named"],
  tF "row_of" 23 3 ["rule","cells","named","behind","done"],
  tF "run" 22 3 ["rule","registers","turns","cells","rows","named"],
  tF "row_behind" 104 3 ["rule","cells","line"],
  tF "machines_shown" 107 1 ["machines"],
  tM 0 "Rule.measure" 13 6 2 ["self","cells"],
  tF "refuse_many" 46 2 ["rule","many"],
  tF "states_of" 48 1 ["rule","count","at"],
  tF "refuse_great" 47 2 ["rule","many"],
  tF "cells_of" 43 2 ["rule","number","cells","left","at"],
  tF "sets_of" 49 1 ["movers","sets","at"],
  tF "number_of" 42 2 ["rule","cells","number","cell"],
  tF "leaving" 50 3 ["rule","calms","ways","number","pairs","named","behind"],
  tF "stuck" 51 3 ["rule","calms","ways","number","pairs"],
  tF "ranks_found" 53 2 ["calms","follows","ranks","grown","number","behind"],
  tF "round_in" 54 2 ["ranks","follows","way"],
  tF "round_or_ranks" 52 3 ["rule","calms","ways","follows","ranks"],
  tF "look_shown" 108 1 ["found"],
  tF "answer" 105 3 ["rule","row","line","cells"],
  tF "play" 99 1 ["text","lines","first","rule","cells","answers","line","row"],
  tF "_law_walked" 115 2 ["_law_answers","_law_most","_law_word","_law_wild","_law_answer","_law_behind"],
  tF "_law_left" 116 3 ["_law_table_here","_law_size","_law_cells","_law_texts","_law_at","_law_found","_law_text","_law_answers"],
  tF "law" 117 1 ["_law_script","_law_told","_law_many","_law_registers","_law_lines","_law_cell","_law_named","_law_answers","_law_words","_law_cells","_law_wild"]]
 C:=["Rule","TableRule","DownRule","PaintRule","CountRule","LeastRule","FarRule","LeadRule","GrowRule","Net","PassRule"]
 X:=["CalmError","BadNet","BadRule","BadState","BadTurn","BadText","TooGreat","NoMeasure"]
 A:=["size","span","alone","calm_movers","firsts","others"]
 M:=[mE 1 "read" 19,mE 1 "due" 20,mE 1 "movers" 21,mE 1 "calm" 22,mE 1 "turned" 26,mE 1 "measure" 31]
 Mk:=[(1,17)]
 U:=[(0,16)]
 B:=["len","int","range","str","all","tuple","set","list","reversed","enumerate","max"]
 I:=[("MOST_FIGURES",60),("MOST_ENTRIES",64),("LEAST_RING_tables",2),("GREATEST_RING_tables",8),("LEAST_SPAN",2),("GREATEST_SPAN",4),("MOST_STATES",256),("MOST_AT_ONCE",4)]
 KT:=[]
 HT:=[]}
def pe:PE:=⟨[(tF "nexts" 44 3 ["rule","cells","many","movers","turns"],false),(tF "look" 45 2 ["rule","many","states","calms","ways","found"],false)],[("NUMBERS",[("pass",(2)),("paint",(0)),("far",(1)),("grow",(1)),("spoil",(2)),("may",(0)),("measure",(0))]),("CALM_MOVERS",[("none",(0)),("one",(1))])],[("FIGURES","0123456789")],[("TABLE_WORDS",["none","one"]),("ROWS",["count","lead","state","turn"]),("NET_RULES",["paint","far","lead","grow"]),("BARE_RULES",["pass","count","table"]),("DOINGS",["turn","spoil","may","measure","look"])]⟩
def hA:pt.attOk:=⟨by decide +kernel,by decide +kernel⟩
abbrev T(K:PySem.W.Frag):Tb:=pt.T hA K
section
variable{P:Program}{w:World}{K:PySem.W.Frag}{mg:Hz}{base:Heap}(t:Ty pt pe w K mg)(hB:K.In base)
include t hB
theorem mV:OkF pt hA P w K mg base 1 0 gI:=okC 0 t.tx fun _ _ _ _ _ _ cx nd=>
 (ag (aN (oP (sv 1) (dD cx.hK rfl (t.tx.b 0) (sv 0))) (aj (aC (aJ cx (sv 0) (sv 1) (fun _ _=>rfl)))) aD)
 (aj (aC (ai))))
theorem Bg:OkF pt hA P w K mg base 1 1 Ap:=okC 1 t.tx fun _ _ _ _ _ _ cx nd=>
 (ag (aV nd (cS ah))
 (ag (b_ cx.po cx.calm (gB rfl (t.tx.b 2) (aa (cR (cR (sv 1) (sv 1)) (sv 1)) ah)) (sgN nd) (ag (aV nd (sv 4))
 (ag (aN (br cx.hK (sv 2)) (aj (aV nd (cb (gc (sv 4) (sv 1)) (sv 1)))) aD)
 (aj (ub cx (cb (gc (cb (cR (cR (bY (cb (sv 0) (ql (ai) (ai))) (ai)) (bY (sv 5) (ai))) (ai)) (ai)) (ai)) (sv 1)))))))
 (aj (eW rfl (Or.inl rfl)))))
theorem C1:OkF pt hA P w K mg base 2 2 xG:=okC 2 t.tx fun _ _ _ _ _ _ cx nd=>
 (ag (aV nd (aF t.tx (mV t hB) cx (aa (sv 0) (aa (ai) ah))))
 (ag (aV nd (bY (ai) (cb (gc (sv 1) (ai)) (ai))))
 (ag (aV nd (bY (ai) (cR (cb (gc (sv 1) (ai)) (ai)) (oY rfl (t.tx.b 1) (Fj (sv 2) (ai))))))
 (ag (aV nd (aJ cx (cS (aa (ap) (aa (ap) ah))) (cb (gc (sv 1) (ai)) (ai)) (fun _ _=>rfl)))
 (ag (aV nd (aF t.tx (Bg t hB) cx (aa (aF t.tx (mV t hB) cx (aa (sv 0) (aa (ai) ah))) (aa (sv 3) (aa (gL) ah)))))
 (ag (aV nd (aF t.tx (Bg t hB) cx (aa (aF t.tx (mV t hB) cx (aa (sv 0) (aa (ai) ah))) (aa (sv 3) (aa (jW cx.hK cx.hu (cb (sv 1) (ai)) (ai)) ah)))))
 (ag (aN (bX cx.hK cx.hu (cb (sv 1) (ai)) (ai)) (aj (ig ["_law_k"] cx nd (dB rfl (t.tx.b 2) (aa (cR (cR (sv 3) (sv 3)) (sv 3)) ah)) cQ (fun _ _ _ _ nd=>⟨(sgN nd),a9,(cb (aF t.tx (mV t hB) cx.comp (aa (sv 0) (aa (ai) ah))) (sv 1))⟩))) aD)
 (ag (aV nd (dJ (dJ (d9 cx.hK (ap) (cX ["_law_entry"] cx (bt cx.hK (sv 5)) cQ (fun _ _ _ _ nd=>⟨(sgN nd),a9,(gC rfl (t.tx.b 3) (sv 0))⟩))) (ap)) (d9 cx.hK (ap) (cX ["_law_entry"] cx (bt cx.hK (sv 6)) cQ (fun _ _ _ _ nd=>⟨(sgN nd),a9,(gC rfl (t.tx.b 3) (sv 0))⟩)))))
 (aj (aC (l9 (aa (sv 2) (aa (sv 3) (aa (sv 4) (aa (BP (.cons (ap) (.cons (nL (sv 2)) (.cons (ap) (.cons (nL (sv 3)) (.cons (ap) (.cons (nL (sv 4)) (.cons (ap) (.cons (nL (sv 7)) .nil))))))))) (aa ((nM (jW cx.hK cx.hu (cb (sv 1) (ai)) (ai)) (kQ (jW cx.hK cx.hu (sv 4) (ap))))) ah))))))))))))))))
theorem FK:OkF pt hA P w K mg base 1 3 DH:=okC 3 t.tx fun _ _ _ _ _ _ cx nd=>
 (aj (aC (d9 cx.hK (ap) (cX ["_law_number"] cx (bt cx.hK (sv 0)) cQ (fun _ _ _ _ nd=>⟨(sgN nd),a9,(gC rfl (t.tx.b 3) (sv 0))⟩)))))
theorem Bl:OkF pt hA P w K mg base 1 4 uJ:=okC 4 t.tx fun _ _ _ _ _ _ cx nd=>
 (aj (aN (fX cx.hK cx.hu (dD cx.hK rfl (t.tx.b 0) (sv 0)) (sv 1)) (aj (bL 5 t.tx cx hB bK (aa (ap) ah))) aD))
theorem Bp:OkF pt hA P w K mg base 1 5 uK:=okC 5 t.tx fun _ _ _ _ _ _ cx nd=>
 (aj (aC ((nM (Fm (rR rfl (t.tx.b 0) (sv 0)) (ai)) (nM (A3 (rR rfl (t.tx.b 0) (sv 0)) (sv 1)) (kQ (BZ cx.hK cx.calm rfl (t.tx.b 4) (cX ["sign"] cx (rP (sv 0)) cQ (fun _ _ _ _ nd=>⟨(sgN nd),a9,(BX (sv 0) (vO rfl (t.ss 0)))⟩)))))))))
theorem wA:OkF pt hA P w K mg base 2 6 uI:=okC 6 t.tx fun _ _ _ _ _ _ cx nd=>
 (ag (aV nd (db (br cx.hK (jk (sv 0) (ap))) (t9 (sv 0) (cN (ai)) dI) (sv 0)))
 (ag (aN (kH (br cx.hK (aF t.tx (Bp t hB) cx (aa (sv 1) (aa (de rfl (t.tx.c 0)) ah))))) (aj (bL 5 t.tx cx hB bK (aa (ap) ah))) aD)
 (ag (aN (SW.st (eE (br cx.hK (jk (sv 1) (ap))) (c_ (fX cx.hK cx.hu (sv 0) (ap))))) (aj (bL 5 t.tx cx hB bK (aa (ap) ah))) aD)
 (aj (aC (nK rfl (t.tx.b 1) (sv 0)))))))
theorem Bj:OkF pt hA P w K mg base 3 7 Aq:=okC 7 t.tx fun _ _ _ _ _ _ cx nd=>
 (aj (aC (vU ["word"] cx uY (bt cx.hK (sv 0)) cQ (fun _ _ _ _ nd=>⟨(sgN nd),fun E Wb xf=>(vV t.tx (wA t hB) cx.room xf (aa (sv 0) ah))⟩))))
theorem Bm:OkF pt hA P w K mg base 2 8 As:=okC 8 t.tx fun _ _ _ _ _ _ cx nd=>
 (ag (aN (kH (br cx.hK (aF t.tx (Bp t hB) cx (aa (sv 0) (aa (de rfl (t.tx.c 1)) ah))))) (aj (bL 5 t.tx cx hB bK (aa (ap) ah))) aD)
 (aj (aC (cX ["figure"] cx (rP (sv 0)) cQ (fun _ _ _ _ nd=>⟨(sgN nd),a9,(nK rfl (t.tx.b 1) (sv 0))⟩)))))
theorem FJ:OkF pt hA P w K mg base 3 9 DG:=okC 9 t.tx fun _ _ _ _ _ _ cx nd=>
 (ag (d8 (aF t.tx (Bl t hB) cx (aa (sv 0) (aa (ai) ah))))
 (ag (aN (f8 cx.hK cx.hu2 (aJ cx (sv 0) (ai) (fun _ _=>rfl)) (f_ (xs:=["none", "one"]) cx.hK rfl (t.pm 0) (t.pd 0) (by decide))) (aj (bL 5 t.tx cx hB bK (aa (ap) ah))) aD)
 (ag (aV nd (aF t.tx (wA t hB) cx (aa (aJ cx (sv 0) (ai) (fun _ _=>rfl)) ah)))
 (ag (aV nd (aF t.tx (wA t hB) cx (aa (aJ cx (sv 0) (ai) (fun _ _=>rfl)) ah)))
 (aj (aC (l9 (aa (ap) (aa (sv 1) (aa (sv 2) (aa (aJ cx (sv 0) (ai) (fun _ _=>rfl)) (aa (aF t.tx (Bm t hB) cx (aa (aJ cx (sv 0) (ai) (fun _ _=>rfl)) ah)) (aa (aF t.tx (Bm t hB) cx (aa (aJ cx (sv 0) (ai) (fun _ _=>rfl)) ah)) ah)))))))))))))
theorem C3:OkF pt hA P w K mg base 1 10 xI:=okC 10 t.tx fun _ _ _ _ _ _ cx nd=>
 (ag (aN (SW.st (eE (fX cx.hK cx.hu (sv 0) (cS ah)) (c_ (fX cx.hK cx.hu (sv 0) (cS (aa (ap) ah)))))) (aj (bL 5 t.tx cx hB bK (aa (ap) ah))) aD)
 (aj (aC (l9 (aa (ap) (aa (jW cx.hK cx.hu (sv 0) (cS (aa (ap) ah))) ah))))))
theorem CZ:OkF pt hA P w K mg base 4 11 xF:=okC 11 t.tx fun _ _ _ _ _ _ cx nd=>
 (ag (aV nd (f9 (sv 0) (ap)))
 (ag (aV nd (aJ cx (sv 1) (ai) (fun _ _=>rfl)))
 (ag (aV nd (cL cx.hK (sv 1) (cN (ai)) dI))
 (ag (aN (yV rfl (t.gm 0) (t.gd 0) (sv 2)) (ag (d8 (aF t.tx (Bl t hB) cx (aa (sv 3) (aa (rT rfl (t.gm 0) (t.gd 0) (sv 2) (fun _ _=>rfl)) ah))))
 (aj (aC (kP cx.hK rfl (t.tx.b 5) lS (bY (cS (aa (sv 2) ah)) (aF t.tx (Bj t hB) cx (aa (sv 3) ah))))))) aD)
 (ag (aN (rG cx.hK cx.hu2 (sv 2) (f_ (xs:=["count", "lead", "state", "turn"]) cx.hK rfl (t.pm 1) (t.pd 1) (by decide))) (aj (aC (l9 (aa (sv 2) (aa (aF t.tx (Bj t hB) cx (aa (sv 3) ah)) ah))))) aD)
 (ag (aN (bX cx.hK cx.hu (sv 2) (ap)) (aj (aC (kO))) aD)
 (ag (aN (bX cx.hK cx.hu (sv 2) (ap)) (aj (aC (aF t.tx (FJ t hB) cx (aa (sv 3) ah)))) aD)
 (ag (aN (bX cx.hK cx.hu (sv 2) (ap)) (aj (aC (aF t.tx (C3 t hB) cx (aa (sv 3) ah)))) aD)
 (aj (bL 5 t.tx cx hB bK (aa (ap) ah)))))))))))
theorem C2:OkF pt hA P w K mg base 5 12 xH:=okC 12 t.tx fun _ _ _ _ _ _ cx nd=>
 (aj (aC (vU ["line"] cx uY (bt cx.hK (f9 (sv 0) (ap))) cQ (fun _ _ _ _ nd=>⟨(sgN nd),fun E Wb xf=>(vV t.tx (CZ t hB) cx.room xf (aa (sv 0) ah))⟩))))
theorem wB:OkF pt hA P w K mg base 1 13 sQ:=okC 13 t.tx fun _ _ _ _ _ _ cx nd=>
 (aj (aC (db (bX cx.hK cx.hu (aJ cx (aJ cx (sv 0) (ai) (fun _ _=>rfl)) (ai) (fun _ _=>rfl)) (ap)) (ai) (ai))))
theorem FR:OkF pt hA P w K mg base 2 14 DL:=okC 14 t.tx fun _ _ _ _ _ _ cx nd=>
 (ag (ig ["line"] cx nd (bt cx.hK (sv 0)) cQ (fun _ _ _ _ nd=>⟨(sgN nd),a9,(aJ cx.comp (sv 0) (ai) (fun _ _=>rfl))⟩))
 (ag (aV nd (aF t.tx (wB t hB) cx (aa (sv 0) ah)))
 (ag (aV nd (db (bX cx.hK cx.hu (aJ cx (sv 1) (ai) (fun _ _=>rfl)) (ap)) (f_ (xs:=["paint", "far", "lead", "grow"]) cx.hK rfl (t.pm 2) (t.pd 2) (by decide)) (f_ (xs:=["pass", "count", "table"]) cx.hK rfl (t.pm 3) (t.pd 3) (by decide))))
 (ag (aN (SW.st (mH (Fb (dD cx.hK rfl (t.tx.b 0) (sv 1)) (sv 2)) (jg (fX cx.hK cx.hu (aJ cx (sv 1) (sv 2) (fun _ _=>rfl)) (ap))))) (aj (bL 5 t.tx cx hB bK (aa (ap) ah))) aD)
 (ag (aN (f8 cx.hK cx.hu2 (aJ cx (sv 1) (nJ (sv 2) (ai)) (fun _ _=>rfl)) (sv 3)) (aj (bL 5 t.tx cx hB bK (aa (ap) ah))) aD)
 (aj (b_ cx.po cx.calm (eK cx.hK (cL cx.hK (sv 1) (cN (bY (sv 2) (ai))) dI)) (sgN nd) (aj (aN (f8 cx.hK cx.hu2 (sv 4) (f_ (xs:=["turn","spoil","may","measure","look"]) cx.hK rfl (t.pm 4) (t.pd 4) (by decide))) (aj (bL 5 t.tx cx hB bK (aa (ap) ah))) aD)))))))))
theorem Bk:OkF pt hA P w K mg base 1 15 Ar:=okC 15 t.tx fun _ _ _ _ _ _ cx nd=>
 (ag (aN (fX cx.hK cx.hu (dD cx.hK rfl (t.tx.b 0) (sv 0)) (cR (cR (sv 1) (sv 1)) (sv 1))) (aj (bL 2 t.tx cx hB bK (aa (ap) ah))) aD)
 (aj (b_ cx.po cx.calm (eK cx.hK (sv 0)) (sgN nd) (aj (aN (SW.st (mH (oP (sv 2) (ai)) (jg (AU (sv 2) (sv 1))))) (aj (bL 2 t.tx cx hB bK (aa (ap) ah))) aD)))))
theorem CW:OkI pt hA P w K mg base 1 16 sR:=okI 16 t.tx fun _ _ _ _ _ _ cx nd=>
 (ag (sFld 0 t.tx cx (sv 1))
 (ag (sFld 1 t.tx cx (sv 2))
 (aj (sFld 2 t.tx cx (sv 3)))))
theorem FW:OkI pt hA P w K mg base 3 17 DP:=okI 17 t.tx fun _ _ _ _ _ _ cx nd=>
 (ag (aN (SW.st (mH (oP (sv 1) (de rfl (t.tx.c 2))) (jg (kI (sv 1) (de rfl (t.tx.c 3)))))) (aj (bL 2 t.tx cx hB bK (aa (ap) ah))) aD)
 (ag (aN (SW.st (mH (oP (sv 2) (de rfl (t.tx.c 4))) (jg (kI (sv 2) (de rfl (t.tx.c 5)))))) (aj (bL 2 t.tx cx hB bK (aa (ap) ah))) aD)
 (ag (aN (tZ rfl (t.gm 1) (t.gd 1) (sv 3)) (aj (bL 2 t.tx cx hB bK (aa (ap) ah))) aD)
 (ag (d8 (aF t.tx (Bk t hB) cx (aa (sv 4) (aa (sv 2) ah))))
 (ag (d8 (aF t.tx (Bk t hB) cx (aa (sv 5) (aa (sv 2) ah))))
 (ag (sFld 3 t.tx cx (rT rfl (t.gm 1) (t.gd 1) (sv 3) (fun _ _=>rfl)))
 (ag (sFld 4 t.tx cx (kP cx.hK rfl (t.tx.b 5) lS (sv 4)))
 (ag (sFld 5 t.tx cx (kP cx.hK rfl (t.tx.b 5) lS (sv 5)))
 (aj (G7 0 t.tx (CW t hB) cx (aa (sv 1) (aa (sv 2) (aa (gL) ah)))))))))))))
theorem CT:OkF pt hA P w K mg base 5 18 sO:=okC 18 t.tx fun _ _ _ _ _ _ cx nd=>
 (ag (aV nd (aJ cx (sv 0) (gW (ai)) (fun _ _=>rfl)))
 (ag (aN (bX cx.hK cx.hu (aJ cx (aJ cx (sv 0) (ai) (fun _ _=>rfl)) (ai) (fun _ _=>rfl)) (ap)) (aj (aC (kO))) aD)
 (ag (aN (bX cx.hK cx.hu (aJ cx (sv 1) (ai) (fun _ _=>rfl)) (ap)) (aj (aC (kO))) aD)
 (ag (aN (bX cx.hK cx.hu (aJ cx (sv 1) (ai) (fun _ _=>rfl)) (ap)) (aj (aC (kO))) aD)
 (aj (aC (G8 1 t.tx (FW t hB) cx (aa (aJ cx (sv 1) (ai) (fun _ _=>rfl)) (aa (aJ cx (sv 1) (ai) (fun _ _=>rfl)) (aa (aJ cx (sv 1) (ai) (fun _ _=>rfl)) (aa (aJ cx (sv 1) (ai) (fun _ _=>rfl)) (aa (aJ cx (sv 1) (ai) (fun _ _=>rfl)) ah))))))))))))
theorem CY:OkF pt hA P w K mg base 1 19 xE:=okC 19 t.tx fun _ _ _ _ _ _ cx nd=>
 (ag (aN (fX cx.hK cx.hu (dD cx.hK rfl (t.tx.b 0) (sv 1)) (cI 0 t.tx cx (sv 0))) (aj (bL 3 t.tx cx hB bK (aa (ap) ah))) aD)
 (aj (aC (cX ["number"] cx (bt cx.hK (sv 1)) cQ (fun _ _ _ _ nd=>⟨(sgN nd),a9,(cb (sv 1) (cI 1 t.tx cx.comp (sv 0)))⟩)))))
omit t hB in
theorem fg{X:Cx}(t:Ty pt pe X.w X.K X.mg)(hB:X.K.In X.base):mz X (T X.K) 1 "read" ["self","registers"] [] cV:=fun c _ hc e=>match c,hc,e with
 |1,_,e=>dm 0 t.tx (CY t hB) e
 |0,_,e|2,_,e|3,_,e|4,_,e|5,_,e|6,_,e|7,_,e|8,_,e|9,_,e|10,_,e=>nomatch e
 |_+11,h,_=>dno (n:=11) h
theorem FT:OkF pt hA P w K mg base 1 20 DM:=okC 20 t.tx fun _ _ _ _ _ _ cx nd=>
 (ag (aV nd (aJ cx (sv 1) (cb (nJ (sv 2) (ai)) (cI 0 t.tx cx (sv 0))) (fun _ _=>rfl)))
 (ag (aV nd (aJ cx (sv 1) (cb (bY (sv 2) (ai)) (cI 0 t.tx cx (sv 0))) (fun _ _=>rfl)))
 (ag (aV nd (bY (bY (cR (cR (aJ cx (sv 1) (sv 2) (fun _ _=>rfl)) (cI 1 t.tx cx (sv 0))) (cI 1 t.tx cx (sv 0))) (cR (sv 3) (cI 1 t.tx cx (sv 0)))) (sv 4)))
 (aj (aC (db (bX cx.hK cx.hu (sv 2) (ai)) (aJ cx (cI 4 t.tx cx (sv 0)) (sv 5) (fun _ _=>rfl)) (aJ cx (cI 5 t.tx cx (sv 0)) (sv 5) (fun _ _=>rfl))))))))
omit t hB in
theorem iA{X:Cx}(t:Ty pt pe X.w X.K X.mg)(hB:X.K.In X.base):mz X (T X.K) 1 "due" ["self","cells","at"] [] fD:=fun c _ hc e=>match c,hc,e with
 |1,_,e=>dm 1 t.tx (FT t hB) e
 |0,_,e|2,_,e|3,_,e|4,_,e|5,_,e|6,_,e|7,_,e|8,_,e|9,_,e|10,_,e=>nomatch e
 |_+11,h,_=>dno (n:=11) h
theorem FL:OkF pt hA P w K mg base 2 21 DI:=okC 21 t.tx fun _ _ _ _ _ _ cx nd=>
 (aj (aC (cX ["at"] cx (dB rfl (t.tx.b 2) (aa (cI 0 t.tx cx (sv 0)) ah)) cQ (fun _ _ _ _ nd=>⟨(sgN nd),(kj (fX cx.comp.hK cx.comp.hu (ii t.tx (iA t hB) cx.comp (sv 0) (aa (sv 1) (aa (sv 2) ah))) (aJ cx.comp (sv 1) (sv 2) (fun _ _=>rfl)))),(sv 2)⟩))))
omit t hB in
theorem cO{X:Cx}(t:Ty pt pe X.w X.K X.mg)(hB:X.K.In X.base):mz X (T X.K) 2 "movers" ["self","cells"] [] bJ:=fun c _ hc e=>match c,hc,e with
 |1,_,e=>dm 2 t.tx (FL t hB) e
 |0,_,e|2,_,e|3,_,e|4,_,e|5,_,e|6,_,e|7,_,e|8,_,e|9,_,e|10,_,e=>nomatch e
 |_+11,h,_=>dno (n:=11) h
theorem FU:OkF pt hA P w K mg base 3 22 DN:=okC 22 t.tx fun _ _ _ _ _ _ cx nd=>
 (aj (aC (jW cx.hK cx.hu (dD cx.hK rfl (t.tx.b 0) (ii t.tx (cO t hB) cx (sv 0) (aa (sv 1) ah))) (cI 3 t.tx cx (sv 0)))))
omit t hB in
theorem gN{X:Cx}(t:Ty pt pe X.w X.K X.mg)(hB:X.K.In X.base):mz X (T X.K) 3 "calm" ["self","cells"] [] cC:=fun c _ hc e=>match c,hc,e with
 |1,_,e=>dm 3 t.tx (FU t hB) e
 |0,_,e|2,_,e|3,_,e|4,_,e|5,_,e|6,_,e|7,_,e|8,_,e|9,_,e|10,_,e=>nomatch e
 |_+11,h,_=>dno (n:=11) h
theorem kY:OkF pt hA P w K mg base 1 23 j_:=okC 23 t.tx fun _ _ _ _ _ _ cx nd=>
 (aj (aC (d9 cx.hK (ap) (cX ["thing"] cx (bt cx.hK (sv 0)) cQ (fun _ _ _ _ nd=>⟨(sgN nd),a9,(y6 rfl (t.tx.b 3) (sv 0))⟩)))))
theorem qx:OkF pt hA P w K mg base 4 24 m6:=okC 24 t.tx fun _ _ _ _ _ _ cx nd=>
 (aj (aC (aF t.tx (kY t hB) cx (aa (bY (sv 1) (cS (aa (db (br cx.hK (ii t.tx (gN t hB) cx (sv 0) (aa (sv 1) ah))) (ap) (ap)) ah))) ah))))
theorem FO:OkF pt hA P w K mg base 1 25 DJ:=okC 25 t.tx fun _ _ _ _ _ _ cx nd=>
 (ag (aN (SW.st (eE (br cx.hK (cI 2 t.tx cx (sv 0))) (c_ (kI (dD cx.hK rfl (t.tx.b 0) (sv 1)) (ai))))) (aj (bL 4 t.tx cx hB bK (aa (ap) ah))) aD)
 (ag (b_ cx.po cx.calm (eK cx.hK (sv 1)) (sgN nd) (aj (aN (SW.st (mH (oP (sv 2) (ai)) (jg (AU (sv 2) (cI 0 t.tx cx (sv 0)))))) (aj (bL 4 t.tx cx hB bK (aa (ap) ah))) aD)))
 (aj (aN (fX cx.hK cx.hu (t_ cx.hK cx.calm rfl (t.tx.b 0) rfl (t.tx.b 6) (sv 1)) (dD cx.hK rfl (t.tx.b 0) (sv 1))) (aj (bL 4 t.tx cx hB bK (aa (ap) ah))) aD))))
theorem FN:OkF pt hA P w K mg base 2 26 An:=okC 26 t.tx fun _ _ _ _ _ _ cx nd=>
 (ag (d8 (aF t.tx (FO t hB) cx (aa (sv 0) (aa (sv 2) ah))))
 (aj (aC (cX ["at"] cx (dB rfl (t.tx.b 2) (aa (cI 0 t.tx cx (sv 0)) ah)) cQ (fun _ _ _ _ nd=>⟨(sgN nd),a9,(db (rG cx.comp.hK cx.comp.hu2 (sv 3) (sv 0)) (ii t.tx (iA t hB) cx.comp (sv 1) (aa (sv 2) (aa (sv 3) ah))) (aJ cx.comp (sv 2) (sv 3) (fun _ _=>rfl)))⟩)))))
omit t hB in
theorem fY{X:Cx}(t:Ty pt pe X.w X.K X.mg)(hB:X.K.In X.base):mz X (T X.K) 2 "turned" ["self","cells","named"] [] du:=fun c _ hc e=>match c,hc,e with
 |1,_,e=>dm 4 t.tx (FN t hB) e
 |0,_,e|2,_,e|3,_,e|4,_,e|5,_,e|6,_,e|7,_,e|8,_,e|9,_,e|10,_,e=>nomatch e
 |_+11,h,_=>dno (n:=11) h
theorem CO:OkF pt hA P w K mg base 3 27 xB:=okC 27 t.tx fun _ _ _ _ _ _ cx nd=>
 (ag (aV nd (ii t.tx (fY t hB) cx (sv 0) (aa (sv 1) (aa (sv 2) ah))))
 (ag (ig ["at"] cx nd (bt cx.hK (ii t.tx (cO t hB) cx (sv 0) (aa (sv 1) ah))) cQ (fun _ _ _ _ nd=>⟨(sgN nd),(kj (rG cx.comp.hK cx.comp.hu2 (sv 1) (sv 0))),(sv 1)⟩))
 (aj (vy rfl (Or.inl rfl) rfl (Or.inl rfl)))))
theorem C6:OkF pt hA P w K mg base 4 28 xJ:=okC 28 t.tx fun _ _ _ _ _ _ cx nd=>
 (ag (aV nd (ii t.tx (fg t hB) cx (sv 0) (aa (sv 1) ah)))
 (ag (aV nd (cS ah))
 (fI (i:=2) (ag (b_ cx.po cx.calm (eK cx.hK (sv 2)) (sgN nd) (ag (ub cx (Fn (aF t.tx (CO t hB) cx (aa (sv 0) (aa (sv 3) (aa (sv 5) ah))))))
 (aj (aV nd (aJ cx (aJ cx (sv 4) (gW (ai)) (fun _ _=>rfl)) (ai) (fun _ _=>rfl))))))
 (aj (eW rfl (Or.inl rfl)))))))
theorem C5:OkF pt hA P w K mg base 5 29 sT:=okC 29 t.tx fun _ _ _ _ _ _ cx nd=>
 (ag (aN (bX cx.hK cx.hu (aJ cx (sv 2) (ai) (fun _ _=>rfl)) (ap)) (aj (aC (aJ cx (aF t.tx (C6 t hB) cx (aa (sv 0) (aa (sv 1) (aa (cS (aa (aJ cx (sv 2) (ai) (fun _ _=>rfl)) ah)) ah)))) (ai) (fun _ _=>rfl)))) aD)
 (ag (aN (bX cx.hK cx.hu (aJ cx (sv 2) (ai) (fun _ _=>rfl)) (ap)) (aj (aC (l9 (aa (cS ah) (aa (ii t.tx (fg t hB) cx (sv 0) (aa (kO) ah)) ah))))) aD)
 (aj (aC (l9 (aa (cS ah) (aa (sv 1) ah)))))))
theorem Bo:OkF pt hA P w K mg base 2 30 At:=okC 30 t.tx fun _ _ _ _ _ _ cx nd=>
 (aj (aC (db (kI (dD cx.hK rfl (t.tx.b 0) (sv 0)) (ai)) (aF t.tx (kY t hB) cx (aa (sv 0) ah)) (ap))))
theorem FQ:OkF pt hA P w K mg base 1 31 Gw:=okC 31 t.tx fun _ _ _ _ _ _ cx nd=>
 (aj (bL 7 t.tx cx hB bK (aa (ap) ah)))
omit t hB in
theorem jA{X:Cx}(t:Ty pt pe X.w X.K X.mg)(hB:X.K.In X.base):mz X (T X.K) 1 "measure" ["self","cells"] [] gQ:=fun c _ hc e=>match c,hc,e with
 |1,_,e=>dm 5 t.tx (FQ t hB) e
 |0,_,e|2,_,e|3,_,e|4,_,e|5,_,e|6,_,e|7,_,e|8,_,e|9,_,e|10,_,e=>nomatch e
 |_+11,h,_=>dno (n:=11) h
theorem Be:OkF pt hA P w K mg base 1 32 Ao:=okC 32 t.tx fun _ _ _ _ _ _ cx nd=>
 (aj (aN (SW.st (eE (br cx.hK (sv 1)) (c_ (br cx.hK (cI 2 t.tx cx (sv 0)))))) (aj (bL 4 t.tx cx hB bK (aa (ap) ah))) aD))
theorem wC:OkF pt hA P w K mg base 1 33 pS:=okC 33 t.tx fun _ _ _ _ _ _ cx nd=>
 (ag (aV nd (ai))
 (ag (b_ cx.po cx.calm (gB rfl (t.tx.b 2) (aa (cI 0 t.tx cx (sv 0)) ah)) (sgN nd) (ag (aV nd (cR (sv 1) (cI 1 t.tx cx (sv 0))))
 (aj (aN (kI (sv 1) (de rfl (t.tx.c 6))) (aj (vB)) aD))))
 (aj (eW rfl (Or.inl rfl)))))
theorem FP:OkF pt hA P w K mg base 2 34 DK:=okC 34 t.tx fun _ _ _ _ _ _ cx nd=>
 (ag (aN (kI (aF t.tx (wC t hB) cx (aa (sv 0) ah)) (de rfl (t.tx.c 6))) (aj (bL 6 t.tx cx hB bK (aa (ap) ah))) aD)
 (aj (aN (SW.st (eE (br cx.hK (sv 1)) (c_ (kI (cI 0 t.tx cx (sv 0)) (de rfl (t.tx.c 7)))))) (aj (bL 6 t.tx cx hB bK (aa (ap) ah))) aD)))
theorem nY:OkF pt hA P w K mg base 1 35 ka:=okC 35 t.tx fun _ _ _ _ _ _ cx nd=>
 (ag (aV nd (cS ah))
 (ag (aV nd (sv 1))
 (ag (b_ cx.po cx.calm (gB rfl (t.tx.b 2) (aa (cI 0 t.tx cx (sv 0)) ah)) (sgN nd) (ag (ub cx (cb (sv 3) (cI 1 t.tx cx (sv 0))))
 (aj (aV nd (gc (sv 3) (cI 1 t.tx cx (sv 0)))))))
 (aj (aC (qm cx.hK cx.calm rfl (t.tx.b 7) rfl (t.tx.b 8) (sv 2)))))))
theorem CQ:OkF pt hA P w K mg base 1 36 sN:=okC 36 t.tx fun _ _ _ _ _ _ cx nd=>
 (ag (aV nd (cS (aa (cS ah) ah)))
 (ag (b_ cx.po cx.calm (eK cx.hK (sv 0)) (sgN nd) (fI (i:=1) (aj (aV nd (bY (sv 1) (cX ["named"] cx (bt cx.hK (sv 1)) cQ (fun _ _ _ _ nd=>⟨(sgN nd),a9,(bY (sv 1) (cS (aa (sv 0) ah)))⟩)))))))
 (fI (i:=1) (aj (aC (cL cx.hK (sv 1) (cN (ai)) dI))))))
theorem CN:OkD pt hA P w K mg base 3 (pe.at 0).1 sK:=okD (t.d 0) fun _ _ _ _ _ _ cx nd=>
 (ag (d8 (aF t.tx (Be t hB) cx (aa (sv 0) (aa (sv 2) ah))))
 (ag (aV nd (ii t.tx (cO t hB) cx (sv 0) (aa (sv 1) ah)))
 (ag (aV nd (db (br cx.hK (sv 2)) (aF t.tx (CQ t hB) cx (aa (sv 3) ah)) (cX ["at"] cx (bt cx.hK (sv 3)) cQ (fun _ _ _ _ nd=>⟨(sgN nd),a9,(cS (aa (sv 0) ah))⟩))))
 (fI (i:=4) (aj (aC (cX ["named"] cx (bt cx.hK (sv 4)) cQ (fun _ _ _ _ nd=>⟨(sgN nd),a9,(l9 (aa (sv 2) (aa (ii t.tx (fY t hB) cx.comp (sv 0) (aa (sv 1) (aa (sv 2) ah))) ah)))⟩))))))))
theorem wD:OkF pt hA P w K mg base 1 37 pT:=okC 37 t.tx fun _ _ _ _ _ _ cx nd=>
 (ag (aV nd (ai))
 (ag (b_ cx.po cx.calm (eK cx.hK (sv 1)) (sgN nd) (aj (aV nd (bY (cR (sv 2) (cI 1 t.tx cx (sv 0))) (sv 3)))))
 (aj (eW rfl (Or.inl rfl)))))
theorem CS:OkF pt hA P w K mg base 2 38 xC:=okC 38 t.tx fun _ _ _ _ _ _ cx nd=>
 (ag (b_ cx.po cx.calm (kN cx.hK rfl (t.tx.b 9) (sv 2)) (nH cx.hK cx.calm (dN nd rfl (Or.inl rfl) (dN nd rfl (Or.inl rfl) kn))) (aj (b_ cx.po cx.calm (eK cx.hK (sv 4)) (nH cx.hK cx.calm (dN nd rfl (Or.inl rfl) (dN nd rfl (Or.inl rfl) kn))) (aj (aN (SW.st (eE (br cx.hK (aJ cx (sv 1) (sv 3) (fun _ _=>rfl))) (c_ (kH (br cx.hK (aJ cx (sv 1) (aF t.tx (wD t hB) cx (aa (sv 0) (aa (sv 6) ah))) (fun _ _=>rfl))))))) (aj (aC (l9 (aa (ap) (aa (aF t.tx (nY t hB) cx (aa (sv 0) (aa (sv 3) ah))) (aa (sv 5) ah)))))) aD)))))
 (aj (aC (fb))))
theorem CM:OkF pt hA P w K mg base 2 39 xA:=okC 39 t.tx fun _ _ _ _ _ _ cx nd=>
 (ag (b_ cx.po cx.calm (kN cx.hK rfl (t.tx.b 9) (sv 2)) (nH cx.hK cx.calm (dN nd rfl (Or.inl rfl) (dN nd rfl (Or.inl rfl) kn))) (aj (aN (SW.st (eE (kH (br cx.hK (aJ cx (sv 1) (sv 3) (fun _ _=>rfl)))) (c_ (bX cx.hK cx.hu (dD cx.hK rfl (t.tx.b 0) (sv 4)) (ai))))) (aj (aC (l9 (aa (ap) (aa (aF t.tx (nY t hB) cx (aa (sv 0) (aa (sv 3) ah))) ah))))) aD)))
 (aj (aC (fb))))
theorem FM:OkF pt hA P w K mg base 1 40 Am:=okC 40 t.tx fun _ _ _ _ _ _ cx nd=>
 (ag (aV nd (cX ["calm"] cx (bt cx.hK (sv 0)) cQ (fun _ _ _ _ nd=>⟨(sgN nd),a9,(db (br cx.comp.hK (sv 0)) (ai) (fb))⟩)))
 (ag (aV nd (gL))
 (ag (oQ cx.po (br cx.hK (sv 3)) (ag (aV nd (gL))
 (aj (b_ cx.po cx.calm (kN cx.hK rfl (t.tx.b 9) (sv 1)) (nH cx.hK cx.calm (dN nd rfl (Or.inl rfl) (dN nd rfl (Or.inl rfl) kn))) (aj (aN (SW.st (eE (nA (aJ cx (sv 2) (sv 4) (fun _ _=>rfl)) (fb)) (c_ (f8 cx.hK cx.hu2 (fb) (cX ["other"] cx (bt cx.hK (sv 5)) cQ (fun _ _ _ _ nd=>⟨(sgN nd),a9,(aJ cx.comp (sv 0) (sv 1) (fun _ _=>rfl))⟩)))))) (ag (vx rfl (Or.inr (Or.inl rfl)) (sv 4) (bY (ai) (rQ cx.hK cx.calm rfl (t.tx.b 10) (cX ["other"] cx (bt cx.hK (sv 5)) cQ (fun _ _ _ _ nd=>⟨(sgN nd),a9,(aJ cx.comp (sv 0) (sv 1) (fun _ _=>rfl))⟩)))))
 (aj (aV nd (gL)))) aD))))))
 (aj (eW rfl (Or.inr (Or.inl rfl)))))))
theorem CV:OkF pt hA P w K mg base 1 41 sP:=okC 41 t.tx fun _ _ _ _ _ _ cx nd=>
 (ag (aV nd (cS (aa (oZ cx cx.hu2 (sv 0) (fb)) ah)))
 (ag (oQ cx.po (bX cx.hK cx.hu (vQ cx cx.hu2 (sv 2) (aJ cx (sv 2) (gW (ai)) (fun _ _=>rfl))) (ai)) (aj (ub cx (aJ cx (cX ["other"] cx (bt cx.hK (aJ cx (sv 1) (aJ cx (sv 2) (gW (ai)) (fun _ _=>rfl)) (fun _ _=>rfl))) cQ (fun _ _ _ _ nd=>⟨(sgN nd),(kj (nA (aJ cx.comp (sv 0) (sv 1) (fun _ _=>rfl)) (fb))),(sv 1)⟩)) (ai) (fun _ _=>rfl)))))
 (aj (aC (cL cx.hK (sv 2) (cN (oZ cx cx.hu2 (sv 2) (aJ cx (sv 2) (gW (ai)) (fun _ _=>rfl)))) dI)))))
theorem FV:OkF pt hA P w K mg base 2 42 DO:=okC 42 t.tx fun _ _ _ _ _ _ cx nd=>
 (ag (ig ["pairs"] cx nd (bt cx.hK (sv 2)) cQ (fun _ _ _ _ nd=>⟨(sgN nd),a9,(cX ["pair"] cx.comp (bt cx.comp.hK (sv 1)) cQ (fun _ _ _ _ nd=>⟨(sgN nd),a9,(aF t.tx (wD t hB) cx.comp.comp (aa (sv 0) (aa (aJ cx.comp.comp (sv 1) (ai) (fun _ _=>rfl)) ah)))⟩))⟩))
 (ag (aV nd (aF t.tx (FM t hB) cx (aa (sv 1) (aa (sv 3) ah))))
 (ag (aN (rG cx.hK cx.hu2 (fb) (sv 4)) (aj (aC (l9 (aa (ap) (aa (cX ["number"] cx (bt cx.hK (aF t.tx (CV t hB) cx (aa (sv 4) (aa (sv 3) ah)))) cQ (fun _ _ _ _ nd=>⟨(sgN nd),a9,(aF t.tx (nY t hB) cx.comp (aa (sv 0) (aa (sv 1) ah)))⟩)) ah))))) aD)
 (aj (vz rfl (Or.inl rfl))))))
theorem CL:OkD pt hA P w K mg base 4 (pe.at 1).1 xy:=okD (t.d 1) fun _ _ _ _ _ _ cx nd=>
 (ag (d8 (aF t.tx (Be t hB) cx (aa (sv 0) (aa (sv 1) ah))))
 (ag (d8 (aF t.tx (FP t hB) cx (aa (sv 0) (aa (sv 1) ah))))
 (ag (ig ["number"] cx nd (dB rfl (t.tx.b 2) (aa (aF t.tx (wC t hB) cx (aa (sv 0) ah)) ah)) cQ (fun _ _ _ _ nd=>⟨(sgN nd),a9,(aF t.tx (nY t hB) cx.comp (aa (sv 0) (aa (sv 1) ah)))⟩))
 (ag (ig ["cells"] cx nd (bt cx.hK (sv 2)) cQ (fun _ _ _ _ nd=>⟨(sgN nd),a9,(ii t.tx (gN t hB) cx.comp (sv 0) (aa (sv 1) ah))⟩))
 (ag (ig ["cells"] cx nd (bt cx.hK (sv 2)) cQ (fun _ _ _ _ nd=>⟨(sgN nd),a9,(vW (t.d 0) (CN t hB) cx.comp (aa (sv 0) (aa (sv 2) (aa (sv 1) ah))))⟩))
 (fI (i:=4) (ag (aV nd (aF t.tx (CS t hB) cx (aa (sv 0) (aa (sv 3) (aa (sv 4) ah)))))
 (ag (aN (nA (sv 5) (fb)) (aj (aV nd (aF t.tx (CM t hB) cx (aa (sv 0) (aa (sv 3) (aa (sv 4) ah)))))) aD)
 (ag (aN (nA (sv 5) (fb)) (aj (aV nd (aF t.tx (FV t hB) cx (aa (sv 0) (aa (sv 3) (aa (sv 4) ah)))))) aD)
 (aj (eW rfl (Or.inl rfl))))))))))))
theorem FH:OkF pt hA P w K mg base 2 43 DF:=okC 43 t.tx fun _ _ _ _ _ _ cx nd=>
 (ag (aN (bX cx.hK cx.hu (aJ cx (sv 0) (ai) (fun _ _=>rfl)) (ap)) (aj (aC (aF t.tx (kY t hB) cx (aa (cS (aa (ap) (aa (rQ cx.hK cx.calm rfl (t.tx.b 10) (aJ cx (sv 0) (ai) (fun _ _=>rfl))) ah))) ah)))) aD)
 (ag (aN (bX cx.hK cx.hu (aJ cx (sv 0) (ai) (fun _ _=>rfl)) (ap)) (aj (aC (ap))) aD)
 (aj (aC (aF t.tx (kY t hB) cx (aa (bY (cS (aa (aJ cx (sv 0) (ai) (fun _ _=>rfl)) ah)) (aJ cx (sv 0) (ai) (fun _ _=>rfl))) ah))))))
theorem CP:OkF pt hA P w K mg base 5 44 sM:=okC 44 t.tx fun _ _ _ _ _ _ cx nd=>
 (ag (aV nd (aJ cx (sv 1) (ai) (fun _ _=>rfl)))
 (ag (aN (bX cx.hK cx.hu (aJ cx (sv 2) (ai) (fun _ _=>rfl)) (ap)) (aj (aC (aF t.tx (kY t hB) cx (aa (cS (aa (aF t.tx (Bo t hB) cx (aa (aJ cx (sv 1) (ai) (fun _ _=>rfl)) ah)) (aa (ap) (aa (aF t.tx (qx t hB) cx (aa (sv 0) (aa (sv 3) ah))) ah)))) ah)))) aD)
 (ag (aN (bX cx.hK cx.hu (aJ cx (sv 2) (ai) (fun _ _=>rfl)) (ap)) (aj (aC (aF t.tx (qx t hB) cx (aa (sv 0) (aa (sv 3) ah))))) aD)
 (ag (aN (bX cx.hK cx.hu (aJ cx (sv 2) (ai) (fun _ _=>rfl)) (ap)) (aj (aC (aF t.tx (Bo t hB) cx (aa (ii t.tx (cO t hB) cx (sv 0) (aa (sv 3) ah)) ah)))) aD)
 (ag (aN (bX cx.hK cx.hu (aJ cx (sv 2) (ai) (fun _ _=>rfl)) (ap)) (aj (aC (gC rfl (t.tx.b 3) (ii t.tx (jA t hB) cx (sv 0) (aa (sv 3) ah))))) aD)
 (aj (aC (aF t.tx (FH t hB) cx (aa (vW (t.d 1) (CL t hB) cx (aa (sv 0) (aa (aJ cx (sv 2) (ai) (fun _ _=>rfl)) ah))) ah)))))))))
theorem qw:OkF pt hA P w K mg base 6 45 j9:=okC 45 t.tx fun _ _ _ _ _ _ cx nd=>
 (ag (aV nd (aF t.tx (C2 t hB) cx (aa (sv 0) ah)))
 (fI (i:=1) (ag (d8 (aF t.tx (FR t hB) cx (aa (sv 1) ah)))
 (ag (aV nd (aF t.tx (wB t hB) cx (aa (sv 1) ah)))
 (ag (aV nd (aF t.tx (CT t hB) cx (aa (cL cx.hK (sv 1) dI (cN (sv 2))) ah)))
 (ag (aV nd (ii t.tx (fg t hB) cx (sv 3) (aa (aJ cx (aJ cx (sv 1) (sv 2) (fun _ _=>rfl)) (ai) (fun _ _=>rfl)) ah)))
 (fI (i:=4) (ag (aV nd (cS (aa (aF t.tx (qx t hB) cx (aa (sv 3) (aa (sv 4) ah))) ah)))
 (ag (b_ cx.po cx.calm (eK cx.hK (cL cx.hK (sv 1) (cN (bY (sv 2) (ai))) dI)) (sgN nd) (ag (aV nd (aF t.tx (C5 t hB) cx (aa (sv 3) (aa (sv 4) (aa (sv 6) ah)))))
 (fI (i:=7) (ag (aV nd (aJ cx (sv 7) (ai) (fun _ _=>rfl)))
 (aj (ub cx (aF t.tx (CP t hB) cx (aa (sv 3) (aa (sv 7) (aa (sv 6) ah))))))))))
 (aj (eW rfl (Or.inl rfl))))))))))))
theorem C4:OkF pt hA P w K mg base 1 46 sS:=okC 46 t.tx fun _ _ _ _ _ _ cx nd=>
 (ag (aV nd (aJ cx (f9 (aJ cx (sv 0) (ai) (fun _ _=>rfl)) (ap)) (gW (ai)) (fun _ _=>rfl)))
 (ag (aV nd (ai))
 (ag (b_ cx.po cx.calm (eK cx.hK (cL cx.hK (sv 0) (cN (ai)) dI)) (sgN nd) (ag (aV nd (aJ cx (f9 (sv 4) (ap)) (gW (ai)) (fun _ _=>rfl)))
 (ag (aN (SW.st (mH (SW.st (eE (bX cx.hK cx.hu (sv 2) (ap)) (c_ (fX cx.hK cx.hu (sv 5) (ap))))) (jg (f8 cx.hK cx.hu2 (sv 2) (cS (aa (ap) (aa (ap) ah))))))) (aj (aC (gL))) aD)
 (ag (aN (SW.st (eE (bX cx.hK cx.hu (sv 2) (ap)) (c_ (kH (br cx.hK (jk (sv 4) (ap))))))) (aj (BL nd rfl (Or.inl rfl) (ai))) aD)
 (aj (aV nd (sv 5)))))))
 (aj (aC (A3 (sv 3) (sv 1)))))))
theorem CU:OkF pt hA P w K mg base 7 47 xD:=okC 47 t.tx fun _ _ _ _ _ _ cx nd=>
 (ag (aV nd (cS (aa (ap) ah)))
 (ag (b_ cx.po cx.calm (gB rfl (t.tx.b 2) (aa (sv 1) ah)) (sgN nd) (aj (aV nd (bY (sv 3) (cX ["_law_text"] cx (bt cx.hK (sv 3)) cQ (fun _ _ _ _ nd=>⟨(sgN nd),a9,(dJ (dJ (sv 1) (ap)) (gC rfl (t.tx.b 3) (sv 0)))⟩))))))
 (ag (aV nd (gL))
 (fI (i:=3) (ag (b_ cx.po cx.calm (eK cx.hK (sv 3)) (sgN nd) (ag (aV nd (aF t.tx (qw t hB) cx (aa (d9 cx.hK (ap) (cS (aa (sv 0) (aa (dJ (ap) (sv 2)) (aa (sv 6) ah))))) ah)))
 (ag (aN (fX cx.hK cx.hu (aJ cx (sv 7) (ai) (fun _ _=>rfl)) (dJ (sv 2) (ap))) (aj (aC (gL))) aD)
 (aj (aV nd ((AZ (sv 5) (kQ (rV (aJ cx (sv 7) (ai) (fun _ _=>rfl)) (ap))))))))))
 (aj (eW rfl (Or.inl rfl))))))))
theorem C7:OkF pt hA P w K mg base 8 48 xK:=okC 48 t.tx fun _ _ _ _ _ _ cx nd=>
 (ag (aV nd (aF t.tx (C1 t hB) cx (aa (sv 0) ah)))
 (ag (aV nd (jW cx.hK cx.hu (cb (aF t.tx (mV t hB) cx (aa (sv 0) (aa (ai) ah))) (ai)) (ai)))
 (ag (ig ["_law_at"] cx nd (dB rfl (t.tx.b 2) (aa (aJ cx (sv 1) (ai) (fun _ _=>rfl)) ah)) cQ (fun _ _ _ _ nd=>⟨(sgN nd),a9,(nJ (cb (aF t.tx (mV t hB) cx.comp (aa (sv 0) (aa (bY (ai) (sv 1)) ah))) (cR (ai) (ql (ai) (ai)))) (ql (ai) (ai)))⟩))
 (ag (aV nd (cS (aa (aJ cx (sv 1) (ai) (fun _ _=>rfl)) (aa (dJ (ap) (aF t.tx (FK t hB) cx (aa (sv 3) ah))) (aa (ap) (aa (dJ (ap) (vM (ap) (oY rfl (t.tx.b 1) (sv 2)))) ah))))))
 (ag (b_ cx.po cx.calm (eK cx.hK (cL cx.hK (sv 0) (cN (ai)) (cN (ai)))) (sgN nd) (ag (aV nd (cS (aa (cb (gc (sv 5) (ai)) (aJ cx (sv 1) (ai) (fun _ _=>rfl))) ah)))
 (ag (aN (br cx.hK (sv 2)) (aj (ig ["_law_at"] cx nd (dB rfl (t.tx.b 2) (aa (aJ cx (sv 1) (ai) (fun _ _=>rfl)) ah)) cQ (fun _ _ _ _ nd=>⟨(sgN nd),(kj (bX cx.comp.hK cx.comp.hu (y_ (BS (gc (sv 0) (ai)) (sv 1)) (ai)) (ai))),(sv 1)⟩))) aD)
 (aj (ub cx (d9 cx.hK (ap) (bY (cS (aa (ap) ah)) (cX ["_law_at"] cx (bt cx.hK (sv 6)) cQ (fun _ _ _ _ nd=>⟨(sgN nd),a9,(gC rfl (t.tx.b 3) (sv 0))⟩)))))))))
 (ag (aV nd (aF t.tx (qw t hB) cx (aa (d9 cx.hK (ap) (sv 4)) ah)))
 (ag (aN (fX cx.hK cx.hu (dD cx.hK rfl (t.tx.b 0) (sv 7)) (nJ (dD cx.hK rfl (t.tx.b 0) (sv 4)) (ai))) (aj (aC (gL))) aD)
 (ag (aV nd (f9 (aJ cx (sv 7) (ai) (fun _ _=>rfl)) (ap)))
 (ag (aV nd (d9 cx.hK (ap) (cL cx.hK (sv 8) (cN (ai)) dI)))
 (ag (aN (SW.st (eE (bX cx.hK cx.hu (aJ cx (sv 8) (ai) (fun _ _=>rfl)) (ap)) (c_ (bX cx.hK cx.hu (dD cx.hK rfl (t.tx.b 0) (sv 8)) (ai))))) (ag (aV nd (rV (aJ cx (sv 7) (ai) (fun _ _=>rfl)) (ap)))
 (aj (aC ((nM ((AZ (BT (sv 10)) (kQ (Fh cx.hK cx.hu (aJ cx (sv 7) (ai) (fun _ _=>rfl)) (ap))))) (kQ (aF t.tx (C4 t hB) cx (aa (bY (cS (aa (aJ cx (sv 7) (ai) (fun _ _=>rfl)) ah)) (cL cx.hK (sv 7) (cN (ai)) dI)) (aa (nK rfl (t.tx.b 1) (aJ cx (sv 8) (ai) (fun _ _=>rfl))) ah))))))))) aD)
 (ag (aN (br cx.hK (aJ cx (sv 1) (ai) (fun _ _=>rfl))) (aj (aC (gL))) aD)
 (ag (aN (bX cx.hK cx.hu (aJ cx (sv 8) (ai) (fun _ _=>rfl)) (ap)) (aj (aC (jW cx.hK cx.hu (aF t.tx (qw t hB) cx (aa (d9 cx.hK (ap) (cS (aa (aJ cx (sv 1) (ai) (fun _ _=>rfl)) (aa (dJ (ap) (sv 9)) (aa (ap) ah))))) ah)) (cS (aa (dJ (sv 9) (ap)) (aa (ap) ah)))))) aD)
 (ag (aN (bX cx.hK cx.hu (aJ cx (sv 8) (ai) (fun _ _=>rfl)) (ap)) (aj (aC (aF t.tx (CU t hB) cx (aa (aJ cx (sv 1) (ai) (fun _ _=>rfl)) (aa (aJ cx (sv 1) (ai) (fun _ _=>rfl)) (aa (sv 9) ah)))))) aD)
 (aj (aC (jW cx.hK cx.hu (sv 8) (cS (aa (ap) ah))))))))))))))))))
end
end G
namespace G
open PySem L2 PR
def sg(z:Str):List Nat:=z.cps.toList
def bP(z:Str):z.length=(sg z).length:=by simp[sg,Str.length]
def AY(l:List Nat):sg ⟨l.toArray⟩=l:=by simp[sg]
def dC(x y:Str):sg (x++y)=sg x++sg y:=by show(x.cps++y.cps).toList=_;unfold sg;simp
def fJ{x y:Str}(h:sg x=sg y):x=y:=by cases x;cases y;congr 1;exact Array.toList_inj.mp h
def eh(x y:Str):(x++y).length=x.length+y.length:=by rw[bP,dC,length_append,<- bP,<- bP]
def pos(c:Nat):List Nat->Nat->List Nat
 | [],_=>[]
 |a::r,k=>if a=c then k::pos c r (k+1)else pos c r (k+1)
def spl(c:Nat):List Nat->List Nat->List (List Nat)
 |acc,[]=>[acc]
 |acc,d::r=>if d=c then acc::spl c [] r else spl c (acc++[d]) r
def tX(z:Str)(c k:Nat):Builtin.Str.subAt z ⟨#[c]⟩ k=decide (((sg z).drop k).take 1=[c]):=by
 have e:(z.cps.extract k (k+1)).toList=((sg z).drop k).take 1:=by have:=StrLaws.strSub_toList z k (k+1);rw[show k+1-k=1 by lia]at this;exact this
 show(z.cps.extract k (k+1)== #[c])=_;rw[Bool.eq_iff_iff,decide_eq_true_iff,beq_iff_eq];constructor
 ·intro h;rw[<- e,h]
 ·intro h;apply Array.toList_inj.mp;rw[e,h]
def kq(z:Str)(c:Nat):∀(n k:Nat) (st:Array Nat×Nat),k+n=z.length+1->st.fst.size<=k->st.snd<=k ->
  (forIn (List.range' k n) st (StrLaws.occBody z ⟨#[c]⟩ z.length (z.length+1))).run.fst.toList=st.fst.toList++pos c ((sg z).drop k) k
 |0,k,st,h,_,_=>by have:(sg z).drop k=[]:=List.drop_eq_nil_iff.mpr (by rw[<- bP];lia);rw[this];simp[pos]
 |n+1,k,st,h,h1,h2=>by
  rw[List.range'_succ,List.forIn_cons];unfold StrLaws.occBody;have hs:=tX z c k;by_cases hk:k<z.length
  ·have hk':k <(sg z).length:=by rw[<- bP];exact hk
   have hd:(sg z).drop k=(sg z)[k]::(sg z).drop (k+1):=drop_eq_getElem_cons hk';have ht:((sg z).drop k).take 1=[(sg z)[k]]:=by rw[hd];rfl
   rw[ht]at hs;by_cases e:(sg z)[k]=c
   ·rw[if_pos ⟨⟨⟨by lia,h2⟩,by show k+1<=_;lia⟩,by rw[hs];simp[e]⟩];refine(kq z c n (k+1) (st.fst.push k,k+1) (by lia) (by simp;lia) (Nat.le_refl _)).trans ?_;rw[hd];simp[pos,e]
   ·rw[if_neg (by rw[hs];simp[e])];refine(kq z c n (k+1) (st.fst,st.snd) (by lia) (by show st.fst.size<=_;lia) (by show st.snd<=_;lia)).trans ?_;rw[hd];simp[pos,e]
  ·rw[if_neg (fun q=>by have:k+1<=z.length:=q.1.2;lia)];refine(kq z c n (k+1) (st.fst,st.snd) (by lia) (by show st.fst.size<=_;lia) (by show st.snd<=_;lia)).trans ?_;have e1:(sg z).drop k=[]:=List.drop_eq_nil_iff.mpr (by rw[<- bP];lia);have e2:(sg z).drop (k+1)=[]:=List.drop_eq_nil_iff.mpr (by rw[<- bP];lia);rw[e1,e2];simp[pos]
def jw(z:Str)(c:Nat):∀(r:List Nat) (a k:Nat),a<=k->r=(sg z).drop k->(StrLaws.partsFrom z 1 a (pos c r k)).map sg=spl c (((sg z).drop a).take (k-a)) r
 | [],a,k,h,e=>by have hk:(sg z).length<=k:=List.drop_eq_nil_iff.mp e.symm;have e1:sg (Builtin.Str.strSub z a z.length)=((sg z).drop a).take (z.length-a):=StrLaws.strSub_toList z a z.length;show [sg (Builtin.Str.strSub z a z.length)]=[_];rw[e1,take_of_length_le (by rw[length_drop,<- bP];lia),take_of_length_le (by rw[length_drop];lia)]
 |d::r,a,k,h,e=>by
  have hr:r=(sg z).drop (k+1):=by rw[<- List.tail_drop,<- e];rfl
  by_cases q:d=c
  ·have e1:sg (Builtin.Str.strSub z a k)=((sg z).drop a).take (k-a):=StrLaws.strSub_toList z a k;simp only[pos,spl,if_pos q];show sg (Builtin.Str.strSub z a k)::(StrLaws.partsFrom z 1 (k+1) (pos c r (k+1))).map sg=_;rw[jw z c r (k+1) (k+1) (Nat.le_refl _) hr,Nat.sub_self,List.take_zero,e1]
  ·simp only[pos,spl,if_neg q];rw[jw z c r a (k+1) (by lia) hr];have hg:((sg z).drop a)[k-a]?=some d:=by rw[List.getElem?_drop,show a+(k-a)=k by lia];have:=congrArg List.head? e;rw[List.head?_drop]at this;exact this.symm
   rw[show k+1-a=(k-a)+1 by lia,List.take_add_one,hg];rfl
def t8(z:Str)(c:Nat)(hc:c<256):(PySem.Txt.split z ⟨#[c]⟩).map sg=spl c [] (sg z):=by
 have ho:Builtin.Str.occurrences z ⟨#[c]⟩ 0 z.length (z.length+1)=pos c (sg z) 0:=by rw[StrLaws.occ_eq];have:=kq z c (z.length+1) 0 (#[],0) (by lia) (Nat.le_refl _) (Nat.le_refl _);simpa using this
 have kz:¬Builtin.Str.strKind z<Builtin.Str.strKind ⟨#[c]⟩:=by
  have:Builtin.Str.strKind ⟨#[c]⟩=1:=by simp[Builtin.Str.strKind,hc]
  rw[this];unfold Builtin.Str.strKind;split
  ·decide
  ·split<;>decide
 have p:=jw z c (sg z) 0 0 (Nat.le_refl _) rfl;rw[Nat.sub_self,List.take_zero]at p;have l1:(⟨#[c]⟩:Str).length=1:=rfl;unfold PySem.Txt.split;rw[l1];by_cases h0:z.length<1
 ·rw[if_pos (by simp[h0])];have:sg z=[]:=length_eq_zero_iff.mp (by rw[<- bP];lia);simp[this,spl]
 ·rw[if_neg (by simp[kz];lia),ho];by_cases he:pos c (sg z) 0=[]
  ·rw[if_pos (by simp[he])];rw[he]at p;have w:=StrLaws.sub_whole z;have p':[sg (Builtin.Str.strSub z 0 z.length)]=spl c [] (sg z):=p;rw[w]at p';exact p'
  ·rw[if_neg (by simp[he]),StrLaws.partsBetween_eq];exact p
def oS{c:Nat}:∀(m acc:List Nat),(∀d∈m,d≠c)->spl c acc m=[acc++m]
 | [],acc,_=>by simp[spl]
 |d::m,acc,h=>by rw[spl,if_neg (h d (by simp)),oS m _ fun x hx=>h x (by simp[hx])];simp
def oR{c:Nat}:∀(m acc bF:List Nat),(∀d∈m,d≠c)->spl c acc (m++c::bF)=(acc++m)::spl c [] bF
 | [],acc,bF,_=>by simp[spl]
 |d::m,acc,bF,h=>by rw[cons_append,spl,if_neg (h d (by simp)),oR m _ bF fun x hx=>h x (by simp[hx])];simp
def oU(c:Nat):∀(ls:HF),ls≠[]->(∀z∈ls,∀d∈sg z,d≠c)->spl c [] (sg (Str.join ⟨#[c]⟩ ls))=ls.map sg
 | [],h,_=>absurd rfl h
 | [z],_,h=>by show spl c [] (sg z)=[sg z];rw[oS _ _ (h z (by simp))];rfl
 |z::y::r,_,h=>by have ih:=oU c (y::r) (by simp) fun x hx=>h x (by simp at hx ⊢;exact .inr hx);show spl c [] (sg (z ++⟨#[c]⟩++ Str.join ⟨#[c]⟩ (y::r)))=_;rw[dC,dC,append_assoc,show sg (⟨#[c]⟩:Str)++ sg (Str.join ⟨#[c]⟩ (y::r))=c::sg (Str.join ⟨#[c]⟩ (y::r))from rfl,oR _ _ _ (h z (by simp)),ih];rfl
def qg(c:Nat)(hc:c<256)(ls:HF)(h0:ls≠[])(h:∀z∈ls,∀d∈sg z,d≠c):PySem.Txt.split (PySem.Txt.join ⟨#[c]⟩ ls) ⟨#[c]⟩=ls:=by have e:PySem.Txt.join ⟨#[c]⟩ ls=Str.join ⟨#[c]⟩ ls:=StrLaws.glued_eq_join _ _;have:=t8 (PySem.Txt.join ⟨#[c]⟩ ls) c hc;rw[e,oU c ls h0 h]at this;rw[e];exact(List.map_inj_right fun _ _ q=>fJ q).mp this
def iR(c:Nat)(n:Nat):∀(ls:HF),(∀z∈ls,z.length<=n)->(Str.join ⟨#[c]⟩ ls).length<=ls.length*(n+1)
 | [],_=>by simp[Str.join,Str.length,Str.empty]
 | [z],h=>by
  show z.length<=1*(n+1);have:=h z (by simp)
  lia
 |z::y::r,h=>by
  have ih:=iR c n (y::r) fun x hx=>h x (by simp at hx ⊢;exact .inr hx);show(z ++⟨#[c]⟩++ Str.join ⟨#[c]⟩ (y::r)).length <=(r.length+1+1)*(n+1);have l1:(⟨#[c]⟩:Str).length=1:=rfl;rw[eh,eh,l1];have:=h z (by simp);have e:(y::r).length=r.length+1:=rfl;rw[e]at ih;have e2:(r.length+1+1)*(n+1)=(r.length+1)*(n+1)+(n+1):=Nat.succ_mul _ _
  lia
def sL(zs:HF):HK:=zs.map .str
@[simp] def vT(zs:HF):(sL zs).length=zs.length:=by simp[sL]
@[simp] def jp(g:Fl->Fl):∀zs:HF,mapL g (sL zs)=sL zs
 | []=>by simp[sL,mapL]
 |z::zs=>by show mapL g (.str z::sL zs)=.str z::sL zs;rw[aX,jp g zs,gu]
@[simp] def B0(p:Fl->Bool):∀zs:HF,hasL p (sL zs)=false
 | []=>by simp[sL,hasL]
 |z::zs=>by show hasL p (.str z::sL zs)=false;rw[m5,B0 p zs,sD];rfl
def rX:∀zs:HF,gT (sL zs)=some zs
 | []=>rfl
 |z::zs=>by show(gT (sL zs)).map (z::·)=_;rw[rX zs];rfl
def bD{f:Fl}{i:Int}{zs:HF}{z:Str}(h0:0<=i)(h:zs[i.toNat]?=some z):aq (.lst f (sL zs)) (.int i)=.ok (.str z):=by have hl:i.toNat<zs.length:=(List.getElem?_eq_some_iff.mp h).1;unfold aq;simp only[bB,atI,ixN,vT,h0,if_true];rw[if_pos (by lia)];simp[sL,h]
def isD(c:Nat):Bool:=decide (48<=c/\c<=57)
def Du:∀c,c<128->inS ⟨#[c]⟩ "0123456789"=isD c:=by decide +kernel
def kG(z:Str)(k:Nat)(y:Str)(hy:sg y=[k]):PySem.Txt.startswith z y=decide ((sg z).head?=some k):=by
 have ey:y=⟨#[k]⟩:=fJ hy;subst ey;unfold PySem.Txt.startswith Builtin.Str.subAt;cases e:sg z with
 |nil=>
  have h0:z.cps.size=0:=by
   have:z.length=0:=by rw[bP,e];rfl
   exact this
  simp[Str.length,h0]
 |cons c r=>have hz:z=⟨(c::r).toArray⟩:=fJ (by rw[AY];exact e);subst hz;simp[Str.length];rw[Bool.eq_iff_iff];simp
def yX{z:Str}{c:Nat}{r:List Nat}(h:sg z=c::r):sg (PySem.Txt.slice z (some 1) none)=r:=by
 have hl:z.length=r.length+1:=by rw[bP,h];rfl
 rw[PyProof.Rows.slice_from_eq (b:=(z.length:Int)) (by decide) (by lia) rfl,AY];have:z.cps.toList=c::r:=h;rw[this,hl];simp
def fig(l:List Nat):List Nat:=if l.head?=some 45 then l.tail else l
def okF(M:Nat)(l:List Nat):Bool:=decide (0<l.length)&&(decide (l.length<=M)&&l.all isD)
def bad(l:List Nat):Bool:=!okF 60 (fig l) ||(decide ((fig l).head?=some 48)&&decide (l≠[48]))
def yC{z:Str}(h:∀c∈sg z,c<128):asc z=true:=by unfold asc;rw[<- all_toList,all_eq_true];intro c hc;exact decide_eq_true (h c hc)
def xq{z:Str}(M:Nat)(hl:z.length<=10000)(ha:∀c∈sg z,c<128):uK [.str z,.int M]=.ok (.bl (okF M (sg z))):=by
 refine ay ?_;show Eu [some (.str z),some (.int M)]=_;unfold Eu;have hc:aM [] 1 (lg (ad 0)) (tgN 0) aP (mOp zw (ad 0) (mC (.str "0123456789"))) [some (.str z),some (.int M)]=.ok (.lst .own ((sg z).map fun c=>.bl (isD c))):=by
  refine be (xs:=PR.jV z) ?_ (by
   have:=bP z;show(z.cps.toList.map _).length<=_;rw[length_map];unfold sg at this
   lia) ?_
  ·unfold lg;simp[yC ha]
  ·refine aR (sg z) fun c hc=>⟨[some (.str ⟨#[c]⟩)],?_,?_,by simp,by simp⟩
   ·simp[tgN,aQ,bw,PV.HQ,b7]
   ·have:=Du c (ha c hc);simp[zw,mU,this]
 have hz:eM (fun z=>decide (z.length<=10000)) (fun z=>.int z.length) (.str z)=.ok (.int (sg z).length):=by rw[<- bP];simp[eM,hl]
 refine aT ?_ (by simp);unfold okF;have hi:((sg z).length:Int)<= M ↔(sg z).length<=M:=by lia
 by_cases h1:0 <(sg z).length
 ·by_cases h2:(sg z).length<=M
  ·have e:((sg z).map fun c=>PV.bl (isD c))=((sg z).map isD).map .bl:=by simp
   have hb:ul oH (.lst .own ((sg z).map fun c=>PV.bl (isD c)))=.ok (.bl ((sg z).all isD)):=by rw[e];unfold ul;dsimp only;rw[uS];simp[oH,List.all_map]
   simp only[oq,bN,bv,aS,bG,aZ,hc];simp[hz,p1,h1,h2,hb,hi]
  ·simp[hz,p1,h1,h2,hi]
 ·simp[hz,p1,h1]
def ji{env:En}{i:Nat}{z y:Str}(h:env[i]?=some (some (.str z))):dh (ad i) (mC (.str y)) env=.ok (.bl (PySem.Txt.startswith z y)):=by unfold dh;simp only[aZ,h,d3];simp
def wI(z w:Str)(hz:∀c∈sg z,c<128)(hw:PyData.strOk w=true):pNe (.str z) (.str w)=.ok (.bl (decide (sg z≠sg w))):=by
 have e:PyData.eqv (PV.str z).data (PV.str w).data=decide (sg z=sg w):=by
  rw[Bool.eq_iff_iff,decide_eq_true_iff];constructor
  ·intro h;have:z=w:=by simpa[PV.data,PyData.eqv]using h
   rw[this]
  ·intro h;rw[fJ h];simp[PV.data,PyData.eqv]
 have ok:PyData.strOk z=true:=by unfold PyData.strOk;rw[<- all_toList,all_eq_true];intro c hc;exact decide_eq_true (Nat.lt_trans (hz c hc) (by decide))
 unfold pNe;rw[e];simp[shp,SeqAt.shaped,PV.data,PyData.canLay0,PyData.depth,ok,hw]
def Ak{l:List Nat}{c:Nat}(h:c∈fig l):c∈l:=by
 unfold fig at h;split at h
 ·exact List.mem_of_mem_tail h
 ·exact h
def Al(l:List Nat):(fig l).length<=l.length:=by unfold fig;split<;>simp
def Aj{z:Str}(hl:z.length<=10000):∃y:Str,sg y=fig (sg z)/\f6 (aY (dh (ad 0) (mC (.str "-")))) (iK (ad 0) (dw (HZ 1)) b6) (ad 0) [some (.str z),none]=.ok (.str y):=by
 have hs:=ji (env:=[some (.str z),none]) (i:=0) (z:=z) (y:="-") rfl;rw[kG z 45 "-" (by decide)]at hs;by_cases h:(sg z).head?=some 45
 ·obtain⟨r,hr⟩:∃r,sg z=45::r:=by
   cases e:sg z with
   |nil=>rw[e]at h;cases h
   |cons c r=>rw[e]at h;simp at h;exact⟨r,by rw[h]⟩
  refine⟨PySem.Txt.slice z (some 1) none,by rw[yX hr];unfold fig;rw[if_pos h,hr];rfl,?_⟩;unfold f6 aY iK;simp[hs,h,hl]
 ·refine⟨z,by unfold fig;rw[if_neg h],?_⟩;unfold f6 aY;simp[hs,h]
def ud{z:Str}{n:Int}(hl:z.length<=640)(ha:∀c∈sg z,c<128)(hb:bad (sg z)=false)(hi:PySem.intText? z=some n):uI [.str z]=.ok (.int n):=by
 obtain⟨y,hy,hf⟩:=Aj (z:=z) (by lia);have yl:y.length<=640:=by
  have:=Al (sg z);rw[bP,hy];rw[bP]at hl
  lia
 have ho:=xq (z:=y) 60 (by lia) fun c hc=>ha c (Ak (by rw[<- hy];exact hc));rw[hy]at ho;have h0:∀e:En,e[1]?=some (some (.str y))->dh (ad 1) (mC (.str "0")) e=.ok (.bl (decide ((fig (sg z)).head?=some 48))):=fun e he=>by rw[ji he,kG y 48 "0" (by decide),hy]
 have hne:pNe (.str z) (.str "0")=.ok (.bl (decide (sg z≠[48]))):=by rw[wI z "0" ha (by decide +kernel)];rfl
 have h1:okF 60 (fig (sg z))=true:=by
  unfold bad at hb;cases q:okF 60 (fig (sg z))with
  |true=>rfl
  |false=>rw[q]at hb;simp at hb
 have h2:¬((fig (sg z)).head?=some 48/\sg z≠[48]):=fun q=>by
  have:bad (sg z)=true:=by simp[bad,q]
  rw[this]at hb;cases hb
 rw[h1]at ho;have ho':uK [.str y,.int 60]=.ok (.bl true):=ho;refine ay ?_;show Eb [some (.str z),none]=_;unfold Eb;refine af (av (v:=.str y) hf) ?_;simp only[s0_,s1_];refine af (aU (by simp[ho',aB]) ar) ?_;refine af (aU ?_ ar) ?_
 ·simp only[fT];unfold aY;rw[h0 _ rfl];by_cases q:(fig (sg z)).head?=some 48
  ·have:sg z=[48]:=Classical.byContradiction fun w=>h2 ⟨q,w⟩;simp[q,hne,this]
  ·simp[q]
 ·exact aT (by simp[p1,eM,hl,hi]) (by simp)
def dg(m:Nat):List Nat:=(toDigits 10 m).map Char.toNat
def iW:∀m,m<10->dg m=[48+m]:=by decide
def tm{m:Nat}(h:¬m<10):dg m=dg (m / 10)++ [48+m%10]:=by have hm:m%10<10:=Nat.mod_lt m (by decide);have t:toDigits 10 (m / 10)++ toDigits 10 (m%10)=toDigits 10 (10*(m / 10)+m%10):=Nat.toDigits_append_toDigits (by decide) (by lia) hm;rw[Nat.div_add_mod]at t;unfold dg;rw[<- t,map_append];have:=iW (m%10) hm;unfold dg at this;rw[this]
structure Hs(m:Nat):Prop where
 ne:dg m≠[]
 all:∀c∈dg m,48<=c/\c<=57
 hd:(dg m).head?=some 48->m=0
def xS(m:Nat):Hs m:=by
 induction m using Nat.strongRecOn with
 |_ m ih=>
  by_cases h:m<10
  ·refine⟨?_,?_,?_⟩<;>rw[iW m h]
   ·simp
   ·intro c hc;simp at hc;lia
   ·intro e;simp at e;lia
  ·obtain⟨h1,h2,h3⟩:=ih (m / 10) (by lia);refine⟨?_,?_,?_⟩<;>rw[tm h]
   ·simp
   ·intro c hc;rcases mem_append.mp hc with hc|hc
    ·exact h2 c hc
    ·simp at hc;lia
   ·intro e;cases q:dg (m / 10)with
    |nil=>exact absurd q h1
    |cons a r=>
     rw[q]at e;have:=h3 (by rw[q];simpa using e)
     lia
def xT:∀(k m:Nat),1<=k->m<10 ^ k->(dg m).length<=k
 |0,_,h,_=>absurd h (by decide)
 |k+1,m,_,h=>by
  by_cases q:m<10
  ·rw[iW m q];simp
  ·rw[tm q,length_append];have:m / 10<10 ^ k:=by rw[Nat.pow_succ]at h;exact Nat.div_lt_of_lt_mul (by lia)
   by_cases k0:k=0
   ·subst k0;simp at this;lia
   ·have:=xT k (m / 10) (by lia) this;simp
    lia
def WdN(l:List Nat):Prop:=∃d:List Nat,d≠[]/\(∀c∈d,48<=c/\c<=57)/\d.length<=60/\(d.head?=some 48->d=[48])/\(l=d \/(l=45::d/\d≠[48]))
def qi(m:Nat):sg (PySem.Str.ofString (toString ((m:Nat):Int)))=dg m:=PySem.W.KIN.signs_num m
def BO{m:Nat}(h:0<m):sg (PySem.Str.ofString (toString (-(m:Int))))=45::dg m:=by
 obtain⟨k,rfl⟩:∃k,m=k+1:=⟨m-1,by lia⟩
 unfold sg;rw[PyProof.Rows.signs_ofString];show(Int.repr (-((k+1:Nat):Int))).toList.map Char.toNat=_;have e:(-((k+1:Nat):Int))=Int.negSucc k:=rfl;rw[e];show("-"++Nat.repr (k+1)).toList.map Char.toNat=_;rw[String.toList_append,Nat.toList_repr,map_append];rfl
def Gy{m:Nat}(h:m<10 ^ 60):dg m≠[]/\(∀c∈dg m,48<=c/\c<=57)/\(dg m).length<=60/\((dg m).head?=some 48->dg m=[48]):=by have o:=xS m;exact⟨o.ne,o.all,xT 60 m (by decide) h,fun e=>by rw[o.hd e];rfl⟩
def iC{n:Int}(h:n.natAbs<10 ^ 60):WdN (sg (PySem.Str.ofString (toString n)))/\PySem.intText? (PySem.Str.ofString (toString n))=some n:=by
 obtain⟨w1,w2,w3,w4⟩:=Gy h;by_cases q:0<=n
 ·obtain⟨m,rfl⟩:=Int.eq_ofNat_of_zero_le q;have e:=qi m;have e0:(m:Int).natAbs=m:=rfl;rw[e0]at w1 w2 w3 w4;refine⟨⟨dg m,w1,w2,w3,w4,.inl e⟩,?_⟩;have:=PySem.intText_digits (x:=PySem.Str.ofString (toString ((m:Nat):Int))) (by show PySem.NumText.AllDigits (sg _);rw[e];exact w2) (by show sg _≠[];rw[e];exact w1) (by rw[bP,e];lia);rw[this];have v:PySem.NumText.digitsVal (sg (PySem.Str.ofString (toString ((m:Nat):Int))))=m:=by rw[e];exact PySem.W.KIN.val_back m
  unfold sg at v;rw[v]
 ·obtain⟨m,rfl,m0⟩:∃m:Nat,n=-(m:Int)/\0<m:=⟨n.natAbs,by lia,by lia⟩
  have e:=BO m0;have e0:(-(m:Int)).natAbs=m:=by lia
  rw[e0]at w1 w2 w3 w4;have n0:dg m≠[48]:=fun z=>by
   have:=(xS m).hd (by rw[z];rfl)
   lia
  refine⟨⟨dg m,w1,w2,w3,w4,.inr ⟨e,n0⟩⟩,?_⟩;have:=PySem.intText_neg (x:=PySem.Str.ofString (toString (-(m:Int)))) e w2 w1 (by rw[bP,e];simp;lia);rw[this];have v:PySem.NumText.digitsVal (dg m)=m:=PySem.W.KIN.val_back m;rw[v]
def xj{c:Nat}(h:48<=c/\c<=57):isD c=true:=decide_eq_true h
def Dx{l:List Nat}(h:WdN l):bad l=false:=by
 obtain⟨d,h1,h2,h3,h4,h5⟩:=h;have hd:d.head?≠some 45:=fun e=>by
  cases d with
  |nil=>cases e
  |cons a r=>simp at e;have:=h2 a (by simp);lia
 have ok:okF 60 d=true:=by have:0<d.length:=length_pos_iff.mpr h1;have al:d.all isD=true:=all_eq_true.mpr fun c hc=>xj (h2 c hc);simp[okF,this,h3,al]
 rcases h5 with rfl |⟨rfl,h6⟩
 ·have e:fig l=l:=by unfold fig;rw[if_neg hd]
  unfold bad;rw[e,ok];by_cases q:l.head?=some 48
  ·simp[h4 q]
  ·simp[q]
 ·have e:fig (45::d)=d:=by unfold fig;simp
  unfold bad;rw[e,ok];by_cases q:d.head?=some 48
  ·exact absurd (h4 q) h6
  ·simp[q]
def tn(n:Int):Str:=PySem.Str.ofString (toString n)
def Nm(n:Int):Prop:=n.natAbs<10 ^ 60
structure Nt(n:Int):Prop where
 len:(tn n).length<=61
 sgs:∀c∈sg (tn n),c=45 \/(48<=c/\c<=57)
 rd:uI [.str (tn n)]=.ok (.int n)
 st:dP (.int n)=.ok (.str (tn n))
def nt{n:Int}(h:Nm n):Nt n:=by
 obtain⟨w,i⟩:=iC h;have b:=Dx w;obtain⟨d,h1,h2,h3,h4,h5⟩:=w;have sgs:∀c∈sg (tn n),c=45 \/(48<=c/\c<=57):=fun c hc=>by
  unfold tn at hc;rcases h5 with e |⟨e,_⟩<;>rw[e]at hc
  ·exact .inr (h2 c hc)
  ·rcases mem_cons.mp hc with q|q
   ·exact .inl q
   ·exact .inr (h2 c q)
 have len:(tn n).length<=61:=by
  rw[bP];unfold tn;rcases h5 with e |⟨e,_⟩<;>rw[e]
  ·lia
  ·simp;lia
 refine⟨len,sgs,ud (by lia) (fun c hc=>by have:=sgs c hc;lia) b i,?_⟩;have big:n.natAbs<2 ^ 1000:=Nat.lt_trans h (by decide +kernel);unfold dP;dsimp only;rw[if_pos big];rfl
def C_{n:Int}(h:Nm n)(h0:0<=n):(∀c∈sg (tn n),48<=c/\c<=57):=by obtain⟨m,rfl⟩:=Int.eq_ofNat_of_zero_le h0;have e:sg (tn ((m:Nat):Int))=dg m:=qi m;rw[e];exact(xS m).all
def kK:(" ":Str)=⟨#[32]⟩:=by decide +kernel
def pC:("\n":Str)=⟨#[10]⟩:=by decide +kernel
def Bq{env:En}{i:Nat}{g:Str->PV->HL}{z:Str}{v:PV}(h:env[i]?=some (some (.str z))):mMt g (ad i) (mC v) env=g z v:=by unfold mMt;rw[aZ,h];simp only[aE,gu,Res.HY,d3]
def kJ{c:Nat}(hc:c<256){ls:HF}(h0:ls≠[])(hl:ls.length<=1000)(hn:∀z∈ls,(∀d∈sg z,d≠c)/\z.length<=900):cJ (PySem.Txt.join ⟨#[c]⟩ ls) (.str ⟨#[c]⟩)=.ok (.lst .own (sL ls)):=by have hb:=iR c 900 ls fun z hz=>(hn z hz).2;have e:PySem.Txt.join ⟨#[c]⟩ ls=Str.join ⟨#[c]⟩ ls:=StrLaws.glued_eq_join _ _;have hs:=qg c hc ls h0 fun z hz=>(hn z hz).1;unfold cJ;dsimp only;rw[if_pos ⟨rfl,by rw[e];lia⟩,hs];rfl
def mP{f:Fl}{xs:HK}{k:Int}(h:(xs.length:Int)=k):uJ [.lst f xs,.int k]=.ok .non:=by
 refine mL (e:=[some (.lst f xs),some (.int k)]) ?_;show Ek [some (.lst f xs),some (.int k)]=_;unfold Ek;refine aU ?_ ar;have:(mapL Fl.HM xs).length=xs.length:=by
  clear h
  induction xs with
  |nil=>simp
  |cons x l ih=>simp[ih]
 simp[this,h]
def dgt(f:HC):Str:=PySem.Txt.join "" (f.map tn)
def Fg(f:HC):Prop:=1<=f.length/\f.length<=64/\∀d∈f,0<=d/\d<=9
def ve{d:Int}(h0:0<=d)(h9:d<=9):sg (tn d)=[48+d.toNat]:=by obtain⟨m,rfl⟩:=Int.eq_ofNat_of_zero_le h0;have e:sg (tn ((m:Nat):Int))=dg m:=qi m;rw[e,iW m (by lia)];rfl
def vJ:∀{f:HC},(∀d∈f,0<=d/\d<=9)->sg (dgt f)=f.map fun d=>48+d.toNat:=by
 intro f;have e:dgt f=Str.join "" (f.map tn):=StrLaws.glued_eq_join _ _;rw[e];clear e;have e0:sg ("":Str)=[]:=by decide +kernel
 induction f with
 |nil=>intro _;exact e0
 |cons d f ih=>
  intro h;have hd:=ve (h d (by simp)).1 (h d (by simp)).2;cases f with
  |nil=>show sg (tn d)=_;rw[hd];rfl
  |cons d' f=>have ih':=ih fun x hx=>h x (by simp at hx ⊢;exact .inr hx);show sg (tn d++""++Str.join "" ((d'::f).map tn))=_;rw[dC,dC,hd,e0,ih'];rfl
def lJ{f:HC}(h:Fg f):As [.str (dgt f)]=.ok (.lst .own (iL f)):=by
 obtain⟨l1,l64,hf⟩:=h;have e:=vJ hf;have lz:(dgt f).length=f.length:=by rw[bP,e];simp
 have asc:∀c∈sg (dgt f),c<128:=fun c hc=>by
  rw[e]at hc;obtain⟨d,hd,rfl⟩:=mem_map.mp hc;have:=hf d hd
  lia
 have ho:=xq (z:=dgt f) 64 (by lia) asc;have ok:okF 64 (sg (dgt f))=true:=by
  unfold okF;have al:(sg (dgt f)).all isD=true:=by rw[e,all_eq_true];intro c hc;obtain⟨d,hd,rfl⟩:=mem_map.mp hc;have:=hf d hd;exact xj (by lia)
  rw[al,<- bP,lz];simp
  lia
 rw[ok]at ho;have ho':uK [.str (dgt f),.int 64]=.ok (.bl true):=ho;refine ay ?_;show Em [some (.str (dgt f))]=_;unfold Em;refine af (aU (by simp[ho',aB]) ar) (aT ?_);have hsg:PR.jV (dgt f)=f.map fun d=>PV.str (tn d):=by unfold PR.jV;have e':(dgt f).cps.toList=f.map fun d=>48+d.toNat:=e;rw[e',map_map];refine map_congr_left fun d hd=>?_;have:=ve (hf d hd).1 (hf d hd).2;show PV.str _=PV.str _;congr 1;refine(fJ ?_).symm;rw[this];rfl
 refine be (xs:=PR.jV (dgt f)) ?_ (by rw[hsg];simp;lia) ?_
 ·unfold lg;simp[yC asc]
 ·rw[hsg];refine aR (f:=fun d=>PV.int d) f fun d hd=>⟨[some (.str (tn d))],?_,?_,by simp,by simp⟩
  ·simp[tgN,aQ,bw,PV.HQ,b7]
  ·have hN:Nm d:=by
    unfold Nm;have h9:d.natAbs<=9:=by have:=hf d hd;lia
    exact Nat.lt_of_le_of_lt h9 (by decide +kernel)
   have hi:=(iC hN).2;have hl:=(nt hN).len;have hl':(tn d).length<=640:=by lia
   have hi':PySem.intText? (tn d)=some d:=hi;simp[p1,eM,hl',hi']
inductive Sd
 |row (h:Str) (ns:HC)
 |num (h:Str) (ns:HC)
 |tab (a b:Int) (w:Str) (f o:HC)
 |lk (b:Bool)
def rZ:HF:=["count","lead","state","turn"]
def pz:List (Str×Nat):=[("pass",2),("paint",0),("far",1),("grow",1),("spoil",2),("may",0),("measure",0)]
def SOk:Sd->Prop
 |.row h ns=>h∈rZ/\ns.length<=4/\∀n∈ns,Nm n
 |.num h ns=>(h,ns.length)∈ pz/\∀n∈ns,Nm n
 |.tab a b w f o=>Nm a/\Nm b/\(w="none"\/w="one")/\Fg f/\Fg o
 |.lk _=>True
def pvS(g:Fl):Sd->PV
 |.row h ns=>.tup [.str h,.lst g (iL ns)]
 |.num h ns=>.tup (.str h::iL ns)
 |.tab a b w f o=>.tup [.str "table",.int a,.int b,.str w,.lst g (iL f),.lst g (iL o)]
 |.lk b=>.tup [.str "look",.bl b]
def cW:Sd->HF
 |.row h ns|.num h ns=>h::ns.map tn
 |.tab a b w f o=>["table",tn a,tn b,w,dgt f,dgt o]
 |.lk b=>"look" :: if b then ["many"]else []
def line(s:Sd):Str:=PySem.Txt.join ⟨#[32]⟩ (cW s)
def Wc(z:Str):Prop:=(∀c∈sg z,c≠32/\c≠10)/\z.length<=130
def wcB(z:Str):Bool:=(sg z).all (fun c=>decide (c≠32)&&decide (c≠10))&&decide (z.length<=130)
def fm{z:Str}(h:wcB z=true):Wc z:=by simp only[wcB,and_eq_true,all_eq_true,decide_eq_true_eq]at h;exact h
def jU{n:Int}(h:Nm n):Wc (tn n):=by have t:=nt h;exact⟨fun c hc=>by have:=t.sgs c hc;lia,by have:=t.len;lia⟩
def nv{f:HC}(h:Fg f):Wc (dgt f):=by
 have e:=vJ h.2.2;refine⟨fun c hc=>?_,by rw[bP,e];simp;have:=h.2.1;lia⟩;rw[e]at hc;obtain⟨d,hd,rfl⟩:=mem_map.mp hc
 lia
def yN:rZ.all wcB=true:=by decide +kernel
def yO:(pz.map (·.1)).all wcB=true:=by decide +kernel
def kC{s:Sd}(h:SOk s):(cW s≠[]/\(cW s).length<=6)/\∀z∈cW s,Wc z:=by
 cases s with
 |row hd ns=>
  obtain⟨h1,h2,h3⟩:=h;refine⟨⟨by simp[cW],by simp[cW];lia⟩,fun z hz=>?_⟩;rcases mem_cons.mp hz with rfl|hz
  ·exact fm (all_eq_true.mp yN _ h1)
  ·obtain⟨n,hn,rfl⟩:=mem_map.mp hz;exact jU (h3 n hn)
 |num hd ns=>
  obtain⟨h1,h3⟩:=h;have l2:ns.length<=2:=by
   have:(pz.all fun q=>decide (q.2<=2))=true:=by decide +kernel
   exact of_decide_eq_true (all_eq_true.mp this _ h1)
  refine⟨⟨by simp[cW],by simp[cW];lia⟩,fun z hz=>?_⟩;rcases mem_cons.mp hz with rfl|hz
  ·exact fm (all_eq_true.mp yO _ (mem_map.mpr ⟨_,h1,rfl⟩))
  ·obtain⟨n,hn,rfl⟩:=mem_map.mp hz;exact jU (h3 n hn)
 |tab a b w f o=>
  obtain⟨h1,h2,h3,h4,h5⟩:=h;refine⟨⟨by simp[cW],by simp[cW]⟩,fun z hz=>?_⟩;simp only[cW,mem_cons,not_mem_nil,or_false]at hz;rcases hz with rfl|rfl|rfl|rfl|rfl|rfl
  ·exact fm (by decide +kernel)
  ·exact jU h1
  ·exact jU h2
  ·rcases h3 with rfl|rfl<;>exact fm (by decide +kernel)
  ·exact nv h4
  ·exact nv h5
 |lk b=>
  refine⟨⟨by simp[cW],by cases b<;>simp[cW]⟩,fun z hz=>?_⟩;cases b with
  |true=>
   simp only[cW,if_true,mem_cons,not_mem_nil,or_false]at hz;rcases hz with rfl|rfl<;>exact fm (by decide +kernel)
  |false=>simp only[cW,false_eq_true,if_false,mem_cons,not_mem_nil,or_false]at hz;rw[hz];exact fm (by decide +kernel)
def lu(k:Nat):∀(ls:HF) (c:Nat),c∈sg (Str.join ⟨#[k]⟩ ls)->c=k\/∃z∈ls,c∈sg z
 | [],c,h=>by
  have:sg (Str.join ⟨#[k]⟩ [])=[]:=by show sg Str.empty=[];decide +kernel
  rw[this]at h;cases h
 | [z],c,h=>.inr ⟨z,by simp,h⟩
 |z::y::r,c,h=>by
  have e:sg (Str.join ⟨#[k]⟩ (z::y::r))=sg z ++([k]++ sg (Str.join ⟨#[k]⟩ (y::r))):=by show sg (z ++⟨#[k]⟩++ Str.join ⟨#[k]⟩ (y::r))=_;rw[dC,dC,append_assoc];rfl
  rw[e]at h;rcases mem_append.mp h with h|h
  ·exact .inr ⟨z,by simp,h⟩
  ·rcases mem_append.mp h with h|h
   ·exact .inl (mem_singleton.mp h)
   ·rcases lu k (y::r) c h with q |⟨x,hx,q⟩
    ·exact .inl q
    ·exact .inr ⟨x,mem_cons_of_mem _ hx,q⟩
def iP{s:Sd}(h:SOk s):(∀c∈sg (line s),c≠10)/\(line s).length<=900:=by
 obtain⟨⟨w0,w6⟩,wz⟩:=kC h;have e:line s=Str.join ⟨#[32]⟩ (cW s):=StrLaws.glued_eq_join _ _;refine⟨fun c hc=>?_,?_⟩
 ·rw[e]at hc;rcases lu 32 _ c hc with q |⟨z,hz,q⟩
  ·lia
  ·exact((wz z hz).1 c q).2
 ·rw[e];have:=iR 32 130 (cW s) fun z hz=>(wz z hz).2
  lia
def qI{s:Sd}(h:SOk s):cJ (line s) (.str " ")=.ok (.lst .own (sL (cW s))):=by obtain⟨⟨w0,w6⟩,wz⟩:=kC h;rw[kK];exact kJ (by decide) w0 (by lia) fun z hz=>⟨fun d hd=>((wz z hz).1 d hd).1,by have:=(wz z hz).2;lia⟩
def isB(x:HL)(r:Bool):Bool:=match x with
 |.ok (.bl b)=>b==r
 |_=>false
def aO{x:HL}{r:Bool}(h:isB x r=true):x=.ok (.bl r):=by
 unfold isB at h;split at h
 ·rw[eq_of_beq h]
 ·cases h
def isS(x:HL)(z:Str):Bool:=match x with
 |.ok (.str y)=>y==z
 |_=>false
def Dt{x:HL}{z:Str}(h:isS x z=true):x=.ok (.str z):=by
 unfold isS at h;split at h
 ·rw[eq_of_beq h]
 ·cases h
def eZ{env:En}{m:ME}{f:Fl}{sep:Str}{ls:HF}(hs:sep.length<=10)(hl:ls.length<=100)(hn:∀z∈ls,z.length<=900)(hm:m env=.ok (.lst f (sL ls))):mMt eX (mC (.str sep)) m env=.ok (.str (PySem.Txt.join sep ls)):=by
 unfold mMt;rw[d3,hm];simp only[Res.HY];unfold eX;dsimp only;rw[rX];dsimp only;rw[if_pos];unfold JoinOk;rw [StrLaws.joinFits (B:=900) hn (by
  have:ls.length*sep.length<=100*10:=Nat.mul_le_mul hl hs
  lia)]
 rfl
def jh{env:En}{m:ME}{ns:HC}(hN:∀n∈ns,Nm n)(hl:ns.length<=1000)(hm:(m env).bind r_=.ok (iL ns)):aM [] 1 (a8 m) (tgN 0) aP (ao (p1 dP) (ae (ad 0) ak)) env=.ok (.lst .own (sL (ns.map tn))):=by
 refine be (xs:=iL ns) (by rw[sU];exact hm) (by simp;lia) ?_;have e:sL (ns.map tn)=ns.map fun n=>PV.str (tn n):=by simp[sL]
 rw[e];refine aR (f:=fun n=>PV.str (tn n)) ns fun n hn=>⟨[some (.int n)],by simp[tgN,aQ,bw,PV.HQ,b7],?_,by simp,by simp⟩
 have t:=(nt (hN n hn)).st;simp[p1,t]
def jt{f g:Fl}{zs ys:HF}(hf:f≠.mod)(hg:g≠.mod)(h:zs.length+ys.length<=1000):bz (.lst f (sL zs)) (.lst g (sL ys))=.ok (.lst .own (sL (zs++ys))):=by rw[eL hf hg (by simp;lia)];simp[sL]
def k8{f:Fl}{ns:HC}(hN:∀n∈ns,Nm n)(hl:ns.length<=1000):Aq [.lst f (sL (ns.map tn))]=.ok (.lst .own (iL ns)):=by
 refine ay ?_;show Ei [some (.lst f (sL (ns.map tn)))]=_;unfold Ei;refine aT ?_ (by simp);unfold gw;have e:sL (ns.map tn)=ns.map fun n=>PV.str (tn n):=by simp[sL]
 have i:a8 (ad 0) [some (.lst f (sL (ns.map tn)))]=.ok (ns.map fun n=>PV.str (tn n)):=by rw[<- e];simp
 rw[i];simp only[Res.HY,length_map];rw[if_pos (by lia),aR (f:=fun n=>PV.int n) ns fun n hn=>⟨[some (.str (tn n))],by simp[tgN,aQ,bw,PV.HQ,b7],?_,by simp,by simp⟩]
 ·rfl
 ·have t:=(nt (hN n hn)).rd;simp[t,aB]
def vi{f:Fl}{a b:Int}{w:Str}{u o:HC}(h:SOk (.tab a b w u o)):DG [.lst f (sL [tn a,tn b,w,dgt u,dgt o])]=.ok (pvS .own (.tab a b w u o)):=by
 obtain⟨h1,h2,h3,h4,h5⟩:=h;generalize hL:sL [tn a,tn b,w,dgt u,dgt o]=l;have lm:∀g:Fl->Fl,mapL g l=l:=fun g=>by rw[<- hL];simp
 have ll:l.length=5:=by rw[<- hL];rfl
 have i0:aq (.lst f.HM l) (.int 0)=.ok (.str (tn a)):=by rw[<- hL];exact bD (by decide) rfl
 have i1:aq (.lst f.HM l) (.int 1)=.ok (.str (tn b)):=by rw[<- hL];exact bD (by decide) rfl
 have i2:aq (.lst f.HM l) (.int 2)=.ok (.str w):=by rw[<- hL];exact bD (by decide) rfl
 have i3:aq (.lst f.HM l) (.int 3)=.ok (.str (dgt u)):=by rw[<- hL];exact bD (by decide) rfl
 have i4:aq (.lst f.HM l) (.int 4)=.ok (.str (dgt o)):=by rw[<- hL];exact bD (by decide) rfl
 have rc:uJ [.lst f.HM.HN l,.int 5]=.ok .non:=mP (by rw[ll];rfl);have nn:cy (.str w) (.tup [.str "none",.str "one"])=.ok (.bl false):=by rcases h3 with rfl|rfl<;>exact aO (by decide +kernel)
 have ta:=(nt h1).rd;have tb:=(nt h2).rd;have e1:=lJ h4;have e2:=lJ h5;refine ay ?_;show D8 [some (.lst f l),none,none]=_;unfold D8;refine af (ef (v:=.non) (by simp[lm,rc,aB])) ?_;refine af (aU (by simp[lm,i2,nn]) ar) ?_;refine af (av (v:=.int a) (by simp[lm,i0,ta,aB])) ?_;simp only[s0_,s1_];refine af (av (v:=.int b) (by simp[lm,i1,tb,aB])) ?_;simp only[s0_,s1_];exact aT (by simp[lm,i2,i3,i4,e1,e2,aB,pvS]) (by simp[pvS])
def F_{f:Fl}(b:Bool):xI [.lst f (sL (if b then ["many"]else []))]=.ok (pvS .own (.lk b)):=by
 refine ay ?_;show yv [some (.lst f (sL (if b then ["many"]else [])))]=_;unfold yv;have d:∀g:Fl,(PV.lst g (sL (if b then ["many"]else []))).data=(PV.lst .own (sL (if b then ["many"]else []))).data:=fun g=>by simp[PV.data]
 have sh:∀g:Fl,shp (.lst g (sL (if b then ["many"]else [])))=true:=fun g=>by unfold shp;rw[d g];cases b<;>decide +kernel
 have eq1:∀(g:Fl) (zs:HF),shp (.lst .own (sL zs))=true->pNe (.lst g (sL (if b then ["many"]else []))) (.lst .own (sL zs))=.ok (.bl (!PyData.eqv (PV.lst .own (sL (if b then ["many"]else []))).data (PV.lst .own (sL zs)).data)):=fun g zs hz=>by unfold pNe;rw[sh g,hz,d g];rfl
 have eq2:∀(g:Fl) (zs:HF),shp (.lst .own (sL zs))=true->pEq (.lst g (sL (if b then ["many"]else []))) (.lst .own (sL zs))=.ok (.bl (PyData.eqv (PV.lst .own (sL (if b then ["many"]else []))).data (PV.lst .own (sL zs)).data)):=fun g zs hz=>by unfold pEq;rw[sh g,hz,d g];rfl
 have n1:∀g,pNe (.lst g (sL (if b then ["many"]else []))) (.lst .own [])=.ok (.bl b):=fun g=>by rw[show([]:HK)=sL []from rfl,eq1 g [] (by decide +kernel)];cases b<;>congr 2<;>decide +kernel
 have n2:∀g,pNe (.lst g (sL (if b then ["many"]else []))) (.lst .own [.str "many"])=.ok (.bl !b):=fun g=>by rw[show [PV.str "many"]=sL ["many"]from rfl,eq1 g ["many"] (by decide +kernel)];cases b<;>congr 2<;>decide +kernel
 have n3:∀g,pEq (.lst g (sL (if b then ["many"]else []))) (.lst .own [.str "many"])=.ok (.bl b):=fun g=>by rw[show [PV.str "many"]=sL ["many"]from rfl,eq2 g ["many"] (by decide +kernel)];cases b<;>congr 2<;>decide +kernel
 refine af (aU ?_ ar) (aT ?_ (by simp[pvS]))
 ·simp only[fT,cj,bN,aZ,g7,bG,aS,d3,getElem?_cons_zero,aE,aL,jp,Res.HY,n1,n2,wr];cases b<;>rfl
 ·simp only[qS,aS,bG,bN,aZ,g7,d3,getElem?_cons_zero,aE,aL,jp,Res.HY,n3,pvS]
abbrev KV:List (Str×Int):=[("pass",(2)),("paint",(0)),("far",(1)),("grow",(1)),("spoil",(2)),("may",(0)),("measure",(0))]
def Dk:pz.all (fun q=>PR.look KV q.1==some (q.2:Int))=true:=by decide +kernel
def Dj:rZ.all (fun h=>(PR.look KV h).isNone&&isB (pIn (.str h) (.tup [.str "count",.str "lead",.str "state",.str "turn"])) true)=true:=by decide +kernel
def uA{s:Sd}(h:SOk s):xF [.str (line s)]=.ok (pvS .own s):=by
 have hs:=qI h;obtain⟨⟨w0,w6⟩,wz⟩:=kC h;obtain⟨hd,tl,hw⟩:∃hd tl,cW s=hd::tl:=by
  cases e:cW s with
  |nil=>exact absurd e w0
  |cons a b=>exact⟨a,b,rfl⟩
 rw[hw]at hs;have tl5:tl.length<=5:=by rw[hw]at w6;simp at w6;exact w6
 have i0:aq (.lst .lnt (sL (hd::tl))) (.int 0)=.ok (.str hd):=bD (by decide) rfl;have c:f7 (sL (hd::tl)) (some 1) none=sL tl:=dR _ 1 (by simp);refine ay ?_;show yr [some (.str (line s)),none,none,none]=_;unfold yr;refine af (av (v:=.lst .own (sL (hd::tl))) (by rw[Bq rfl];exact hs)) ?_;simp only[s0_,s1_];refine af (av (v:=.str hd) (by simp[i0])) ?_;simp only[s0_,s1_];refine af (av (v:=.lst .own (sL tl)) (by simp[c])) ?_;simp only[s0_,s1_];have kin:∀{r:Bool}{env:En},env[2]?=some (some (.str hd))->(PR.look KV hd).isSome=r->aA (mUn (ph KV) (ad 2)) env=.ok r:=fun {r env} he hr=>by simp only[cj,Gx,aZ,he,aE,gu,Res.HY];unfold ph;dsimp only;rw[hr];rfl
 cases s with
 |num h' ns=>
  obtain⟨rfl,rfl⟩:h'=hd/\ns.map tn=tl:=by have:h'::ns.map tn=hd::tl:=hw;exact⟨List.cons.inj this |>.1,List.cons.inj this |>.2⟩
  obtain⟨h1,h3⟩:=h;have kv:=eq_of_beq (all_eq_true.mp Dk _ h1);have kv':PR.look KV h'=some (ns.length:Int):=kv;refine ce (eT (kin rfl (by rw[kv'];rfl)) ?_);have gd:jZ KV (.str h')=.ok (.int ns.length):=by unfold jZ;dsimp only;rw[kv']
  have rc:uJ [.lst .bor (sL (ns.map tn)),.int ns.length]=.ok .non:=mP (by simp);have rn:=k8 (f:=.bor) h3 (by simp at tl5;lia);refine af (ef (v:=.non) (by simp[gd,rc,aB])) (aT ?_ (by simp[pvS]));have pl:bz (.lst .own [.str h']) (.lst .own (iL ns))=.ok (.lst .own (.str h'::iL ns)):=by rw[eL (by simp) (by simp) (by simp at tl5 ⊢;lia)];rfl
  simp[rn,aB,pl,p1,fO,bB,pvS]
 |row h' ns=>
  obtain⟨rfl,rfl⟩:h'=hd/\ns.map tn=tl:=by have:h'::ns.map tn=hd::tl:=hw;exact⟨List.cons.inj this |>.1,List.cons.inj this |>.2⟩
  obtain⟨h1,h2,h3⟩:=h;have kv:=all_eq_true.mp Dj _ h1;simp only[and_eq_true]at kv;have q:=aO kv.2;refine af (aU (kin rfl (by cases e:PR.look KV h' with|none=>rfl|some x=>have:=kv.1;rw[e]at this;cases this)) ar) ?_;have rn:=k8 (f:=.bor) h3 (by simp at tl5;lia);refine ce (eT (by simp[q]) (aT ?_ (by simp[pvS])));simp[rn,aB,pvS]
 |tab a b w f o=>
  obtain⟨rfl,rfl⟩:(("table":Str))=hd/\[tn a,tn b,w,dgt f,dgt o]=tl:=by have:("table":Str)::[tn a,tn b,w,dgt f,dgt o]=hd::tl:=hw;exact⟨List.cons.inj this |>.1,List.cons.inj this |>.2⟩
  have q2:pIn (.str "table") (.tup [.str "count",.str "lead",.str "state",.str "turn"])=.ok (.bl false):=aO (by decide +kernel);have q3:pEq (.str "table") (.str "net")=.ok (.bl false):=aO (by decide +kernel);have q4:pEq (.str "table") (.str "table")=.ok (.bl true):=aO (by decide +kernel);have rn:=vi (f:=.bor) h;have nb:(pvS .own (.tab a b w f o)).has Fl.HU=false:=by simp[pvS]
  refine af (aU (kin rfl (by decide +kernel)) ar) (af (aU (by simp[q2]) ar) (af (aU (by simp[q3]) ar) (ce (eT (by simp[q4]) (aT ?_ (by simp[pvS]))))));simp[rn,aB,nb]
 |lk b=>
  obtain⟨rfl,rfl⟩:(("look":Str))=hd/\(if b then(["many"]:HF)else [])=tl:=by have:("look":Str)::(if b then(["many"]:HF)else [])=hd::tl:=hw;exact⟨List.cons.inj this |>.1,List.cons.inj this |>.2⟩
  have q2:pIn (.str "look") (.tup [.str "count",.str "lead",.str "state",.str "turn"])=.ok (.bl false):=aO (by decide +kernel);have q3:pEq (.str "look") (.str "net")=.ok (.bl false):=aO (by decide +kernel);have q4:pEq (.str "look") (.str "table")=.ok (.bl false):=aO (by decide +kernel);have q5:pEq (.str "look") (.str "look")=.ok (.bl true):=aO (by decide +kernel);have rn:=F_ (f:=.bor) b;have nb:(pvS .own (.lk b)).has Fl.HU=false:=by simp[pvS]
  refine af (aU (kin rfl (by decide +kernel)) ar) (af (aU (by simp[q2]) ar) (af (aU (by simp[q3]) ar) (af (aU (by simp[q4]) ar) (ce (eT (by simp[q5]) (aT ?_ (by simp[pvS])))))));simp only[bv,aS,bG,aZ,getElem?_cons_zero,getElem?_cons_succ,aE,aL,jp,lq,Res.HY,bO,aX,bH,jd,rn];simp[aB,nb]
def ir(g:Fl->Fl)(f:Fl)(s:Sd):(pvS f s).HW g=pvS (g f) s:=by cases s<;>simp[pvS]
def pH{g:Fl->Fl}{α:Type}{a b:α->PV}:∀(l:List α),(∀x∈l,(a x).HW g=b x)->mapL g (l.map a)=l.map b
 | [],_=>by simp
 |x::l,h=>by rw[map_cons,aX,h x (by simp),pH l fun y hy=>h y (by simp[hy])];rfl
def pO{p:Fl->Bool}:∀(l:HK),(∀x∈l,x.has p=false)->hasL p l=false
 | [],_=>by simp
 |x::l,h=>by rw[m5,h x (by simp),pO l fun y hy=>h y (by simp[hy])];rfl
def pX(g:Fl->Fl)(f:Fl)(ss:List Sd):mapL g (ss.map (pvS f))=ss.map (pvS (g f)):=pH ss fun s _=>ir g f s
def iu(p:Fl->Bool)(f:Fl)(hp:p f=false)(s:Sd):(pvS f s).has p=false:=by cases s<;>simp[pvS,hp]
def gy(p:Fl->Bool)(f:Fl)(hp:p f=false)(ss:List Sd):hasL p (ss.map (pvS f))=false:=pO _ fun x hx=>by obtain⟨s,_,rfl⟩:=mem_map.mp hx;exact iu p f hp s
def v2{ss:List Sd}(h0:ss≠[])(hl:ss.length<=100)(h:∀s∈ss,SOk s):xH [.str (PySem.Txt.join ⟨#[10]⟩ (ss.map line))]=.ok (.lst .own (ss.map (pvS .own))):=by
 refine ay ?_;show yu [some (.str (PySem.Txt.join ⟨#[10]⟩ (ss.map line)))]=_;unfold yu;have nl:=gy Fl.HS .own rfl ss;refine aT ?_ (by simp[nl]);unfold gw;have hs:cJ (PySem.Txt.join ⟨#[10]⟩ (ss.map line)) (.str "\n")=.ok (.lst .own (sL (ss.map line))):=by rw[pC];refine kJ (by decide) (by simp[h0]) (by simp;lia) fun z hz=>?_;obtain⟨s,hs,rfl⟩:=mem_map.mp hz;exact iP (h s hs)
 have i:a8 (mMt cJ (ad 0) (mC (.str "\n"))) [some (.str (PySem.Txt.join ⟨#[10]⟩ (ss.map line)))]=.ok (ss.map fun s=>PV.str (line s)):=by rw[sU,Bq rfl,hs];simp[sL]
 rw[i];simp only[Res.HY,length_map];rw[if_pos (by lia),aR (f:=pvS .own) ss fun s hs=>⟨[some (.str (line s))],by simp[tgN,aQ,bw,PV.HQ,b7],?_,iu _ _ rfl s,iu _ _ rfl s⟩]
 ·rfl
 ·have t:=uA (h s hs);have nb:=iu Fl.HU .own rfl s;simp[t,aB,nb]
def cell(ns:HC)(k:Nat):Int:=ns.getD k 0
def kB{fl:Fl}(ns:HC)(k:Nat)(h:Scr fl):gI [.lst fl (iL ns),.int k]=.ok (.int (cell ns k)):=by
 refine ay ?_;show Ed [some (.lst fl (iL ns)),some (.int k)]=_;unfold Ed cell;by_cases hk:k<ns.length
 ·refine ce (eT (by simp[h.HM,hk]) (aT ?_));simp only[bN,aZ];simp[h.HM];rw[pM ns (by lia) (n:=ns.getD k 0) (by simp[hk])];simp[hk]
 ·refine af (aU (by simp[h.HM,hk]) ar) (aT (by simp[List.getElem?_eq_none (Nat.le_of_not_lt hk)]))
abbrev tab(fl:Fl)(n:Nat)(sp wi:Int)(fs os:HC):PV:=.obj fl 1 [3,4,5,0,1,2] [.int wi,.tup (iL fs),.tup (iL os),.int n,.int sp,.bl false]
def Wd(w:Str)(wi:Int):Prop:=w="none" /\ wi=0\/w="one" /\ wi=1
structure kc(sp:Int)(t:HC):Prop where
 len:(t.length:Int)=sp*sp*sp
 rng:∀x∈t,0<=x/\x<sp
def oV{sp:Int}(h1:2<=sp)(h2:sp<=4):sp=2\/sp=3\/sp=4:=by lia
def uN{sp:Int}(h1:2<=sp)(h2:sp<=4):cT (.int sp) (.int sp)=.ok (.int (sp*sp))/\cT (.int (sp*sp)) (.int sp)=.ok (.int (sp*sp*sp))/\4<=sp*sp/\sp*sp<=16/\8<=sp*sp*sp/\sp*sp*sp<=64:=by rcases oV h1 h2 with rfl|rfl|rfl<;>exact⟨rfl,rfl,by decide,by decide,by decide,by decide⟩
def plc(sp c l r:Int):Int:=c*sp*sp+l*sp+r
def nV{sp c l r:Int}(h1:2<=sp)(h2:sp<=4)(hc:0<=c/\c<sp)(hl:0<=l/\l<sp)(hr:0<=r/\r<sp):0<=plc sp c l r/\plc sp c l r<sp*sp*sp:=by unfold plc;rcases oV h1 h2 with rfl|rfl|rfl<;>lia
def Cm{sp c l r:Int}(h1:2<=sp)(h2:sp<=4):cT (.int c) (.int sp)=.ok (.int (c*sp))/\cT (.int (c*sp)) (.int sp)=.ok (.int (c*sp*sp))/\cT (.int l) (.int sp)=.ok (.int (l*sp)):=
 ⟨fQ (.inr ⟨by lia,by lia⟩),fQ (.inr ⟨by lia,by lia⟩),fQ (.inr ⟨by lia,by lia⟩)⟩
def lft(n i:Nat):Nat:=if i=0 then n-1 else i-1
def rgt(n i:Nat):Nat:=if i+1<n then i+1 else 0
def eS(n:Nat)(sp:Int)(fs os cs:HC)(i:Nat):Int:=gt (if i=0 then fs else os) (plc sp (gt cs i) (gt cs (lft n i)) (gt cs (rgt n i))).toNat
def InC(sp:Int)(cs:HC):Prop:=∀c∈cs,0<=c/\c<sp
def mM{sp:Int}{t:HC}{f:Fl}(hf:f=.bor\/f=.frz)(h1:2<=sp)(h2:sp<=4)(ht:kc sp t):Ar [.lst f (iL t),.int sp]=.ok .non:=by
 obtain⟨m1,m2,_⟩:=uN h1 h2;have hf1:f.HM=f:=by rcases hf with rfl|rfl<;>rfl
 have hf2:f.HS=false:=by rcases hf with rfl|rfl<;>rfl
 refine fv ?_;show Ends (Ej [some (.lst f (iL t)),some (.int sp),none]);unfold Ej;refine dr (aU (by simp[hf1,p1,fP,bB,m1,m2,ht.len]) ar) ?_;refine ky (fun _ e=>∃x,e=[some (.lst f (iL t)),some (.int sp),x]) (fun r=>∃e,r=.next e) (xs:=iL t) (cq (f:=f) (by simp[hf1]) hf2 (by simp) (by simp)) ⟨_,rfl⟩ (fun k x e hx hP=>?_) (fun e hP=>⟨e,rfl⟩);obtain⟨y,rfl⟩:=hP;obtain⟨z,hz,rfl⟩:=ly hx;have:=ht.rng z (List.mem_of_getElem? hz);exact⟨_,dz rfl,.inl ⟨_,.inl (aU (by simp[show ¬z<0 by lia,show ¬sp<=z by lia]) ar),_,rfl⟩⟩
section
variable{n:Nat}{sp wi:Int}{fs os cs:HC}
def vk{sp:Int}{t:HC}{p:Int}(ht:kc sp t)(h:0<=p/\p<sp*sp*sp):(aq (.tup (iL t)) (.int p)=.ok (.int (gt t p.toNat)))/\∀f,aq (.lst f (iL t)) (.int p)=.ok (.int (gt t p.toNat)):=by
 obtain⟨k,rfl⟩:∃k:Nat,p=(k:Int):=⟨p.toNat,by lia⟩
 have hl:k<t.length:=by have:=ht.len;lia
 refine⟨?_,fun f=>lB h.1 (by lia)⟩;exact bp rfl (by simp[iL,gt,hl]) (by simp)
end
def qt(s x:Int):Nat->Int
 |0=>x
 |k+1=>qt s x k / s
def dgs(s x:Int):Nat->HC
 |0=>[]
 |k+1=>qt s x k%s::dgs s x k
def v7{s x:Int}(hs:0<s)(h0:0<=x):∀k,0<=qt s x k/\qt s x k<=x
 |0=>⟨h0,Int.le_refl _⟩
 |k+1=>by have⟨h1,h2⟩:=v7 hs h0 k;exact⟨Int.ediv_nonneg h1 (by lia),Int.le_trans (Int.ediv_le_self _ h1) h2⟩
def A8{s x:Int}(hs:0<s){n:Nat}(hx:x<s ^ n):∀k,k<=n->qt s x k<s ^ (n-k)
 |0,_=>hx
 |k+1,h=>by
  have h1:=A8 hs hx k (by lia);have e:n-k=n-(k+1)+1:=by lia
  rw[e,Int.pow_succ]at h1;exact Int.ediv_lt_of_lt_mul hs h1
def Ca{s x:Int}(hs:0<s)(h0:0<=x){n:Nat}(hx:x<s ^ n):qt s x n=0:=by
 have h1:=A8 hs hx n (Nat.le_refl _);have h2:=(v7 hs h0 n).1;rw[Nat.sub_self,Int.pow_zero]at h1
 lia
@[simp] def AD(s x:Int):∀k,(dgs s x k).length=k
 |0=>rfl
 |k+1=>by simp[dgs,AD s x k]
def xR{s x:Int}(hs:0<s):∀k,InC s (dgs s x k)
 |0,_,h=>nomatch h
 |k+1,c,h=>by
  rcases mem_cons.mp h with rfl|h
  ·exact⟨emod_nonneg _ (by lia),emod_lt_of_pos _ hs⟩
  ·exact xR hs k c h
def qp{s:Int}(hs:0<s)(x m:Int)(k:Nat):∀j,j<=k->qt s (x+m*s ^ k) j=qt s x j+m*s ^ (k-j)
 |0,_=>rfl
 |j+1,h=>by
  have e:k-j=k-(j+1)+1:=by lia
  show qt s (x+m*s ^ k) j / s=qt s x j / s+m*s ^ (k-(j+1));rw[qp hs x m k j (by lia),e,Int.pow_succ,<- Int.mul_assoc,Int.add_mul_ediv_right _ _ (by lia)]
def tj{s:Int}(hs:0<s)(x m:Int)(k:Nat):∀j,j<=k->dgs s (x+m*s ^ k) j=dgs s x j
 |0,_=>rfl
 |j+1,h=>by
  have e:k-j=k-(j+1)+1:=by lia
  show qt s (x+m*s ^ k) j%s::dgs s (x+m*s ^ k) j=qt s x j%s::dgs s x j;rw[tj hs x m k j (by lia),qp hs x m k j (by lia),e,Int.pow_succ,<- Int.mul_assoc,Int.add_mul_emod_self_right]
def num(s:Int)(cs:HC):Int:=cs.foldl (fun a c=>a*s+c) 0
def lC(s:Int):∀(cs:HC) (a:Int),cs.foldl (fun a c=>a*s+c) a=a*s ^ cs.length+num s cs
 | [],a=>by simp[num]
 |c::cs,a=>by
  have h1:=lC s cs (a*s+c);have h2:=lC s cs (0*s+c);unfold num at *;rw[foldl_cons,foldl_cons,h1,h2,length_cons,Int.pow_succ];have e:a*(s ^ cs.length*s)=a*s*s ^ cs.length:=by rw[Int.mul_comm (s ^ cs.length) s,Int.mul_assoc]
  rw[e,Int.add_mul,Int.zero_mul,Int.zero_add]
  lia
def iE(s c:Int)(cs:HC):num s (c::cs)=num s cs+c*s ^ cs.length:=by
 have:=lC s cs (0*s+c);rw[Int.zero_mul,Int.zero_add]at this;unfold num at *;rw[foldl_cons,Int.zero_mul,Int.zero_add,this]
 lia
def iD{s:Int}(hs:0<s):∀cs:HC,InC s cs->0<=num s cs/\num s cs<s ^ cs.length
 | [],_=>by simp[num]
 |c::cs,h=>by
  obtain⟨h1,h2⟩:=iD hs cs fun x hx=>h x (mem_cons_of_mem _ hx);obtain⟨c0,c1⟩:=h c mem_cons_self;rw[iE,length_cons,Int.pow_succ];have p:0<=c*s ^ cs.length:=Int.mul_nonneg c0 (by lia);have q:(c+1)*s ^ cs.length<=s*s ^ cs.length:=Int.mul_le_mul_of_nonneg_right (by lia) (by lia);rw[Int.add_mul,Int.one_mul]at q;rw[Int.mul_comm (s ^ cs.length) s]
  lia
def s_{s:Int}(hs:0<s):∀cs:HC,InC s cs->dgs s (num s cs) cs.length=cs
 | [],_=>rfl
 |c::cs,h=>by have ht:InC s cs:=fun x hx=>h x (mem_cons_of_mem _ hx);obtain⟨h1,h2⟩:=iD hs cs ht;obtain⟨c0,c1⟩:=h c mem_cons_self;rw[iE,length_cons];show qt s (num s cs+c*s ^ cs.length) cs.length%s::dgs s (num s cs+c*s ^ cs.length) cs.length=c::cs;rw[tj hs _ _ _ _ (Nat.le_refl _),qp hs _ _ _ _ (Nat.le_refl _),Ca hs h1 h2,s_ hs cs ht,Nat.sub_self,Int.pow_zero,Int.mul_one,Int.zero_add,emod_eq_of_lt c0 c1]
def Dw{a b:HC}(hl:a.length=b.length)(h:∀i,i<a.length->gt a i=gt b i):a=b:=by apply List.ext_getElem hl;intro i h1 h2;have:=h i h1;simpa[gt,h1,h2]using this
def pQ(a:Int)(l:HC):gt (a::l) 0=a:=rfl
def pP(a:Int)(l:HC)(i:Nat):gt (a::l) (i+1)=gt l i:=by simp[gt]
structure Bf(f:Fl):Prop where
 le:f.HM=f
 tb:f.HN=f
 bo:f.HQ=f
 fz:f.HP=f
 nl:f.HS=false
 no:f.HR=false
 nm:f≠.mod
def qW:Bf .bor:=⟨rfl,rfl,rfl,rfl,rfl,rfl,by decide⟩
def jS:Bf .frz:=⟨rfl,rfl,rfl,rfl,rfl,rfl,by decide⟩
structure Ky(n:Nat)(s:Int)(fs os:HC):Prop where
 n2:2<=n
 n8:n<=8
 s2:2<=s
 s4:s<=4
 hf:kc s fs
 ho:kc s os
 big:s ^ n<=256
structure Ce(n:Nat)(s:Int)(cs:HC):Prop where
 len:cs.length=n
 inn:InC s cs
def mv(n:Nat)(s:Int)(fs os cs:HC):HC:=((range n).filter fun i=>decide (eS n s fs os cs i≠gt cs i)).map fun i:Nat=>(i:Int)
def stp(n:Nat)(s:Int)(fs os cs nm:HC):HC:=(range n).map fun i:Nat=>if nm.contains (i:Int)then eS n s fs os cs i else gt cs i
def bf(l:HC):List (HC):=l.foldl (fun S a=>S++S.map (·++[a])) [[]]
def trn(n:Nat)(s:Int)(fs os:HC)(many:Bool)(cs:HC):List (HC):=if many then(bf (mv n s fs os cs)).drop 1 else(mv n s fs os cs).map fun a=>[a]
structure i_(l0:HC)(S:List (HC)):Prop where
 ex:∃S',S=[]::S'/\(∀nm∈S',nm≠[]/\(∀a∈nm,a∈l0)/\nm.Nodup)/\(l0≠[]->S'≠[])
 len:S.length=2 ^ l0.length
def i_.step{l0:HC}{S:List (HC)}{a:Int}(h:i_ l0 S)(ha:a∉l0):i_ (l0++[a]) (S++S.map (·++[a])):=by
 obtain⟨⟨S',rfl,h1,h2⟩,hl⟩:=h;refine⟨⟨S' ++([]::S').map (·++[a]),rfl,fun nm hm=>?_,fun _=>by simp⟩,?_⟩
 ·rcases mem_append.mp hm with hm|hm
  ·obtain⟨p1,p2,p3⟩:=h1 nm hm;exact⟨p1,fun x hx=>mem_append_left _ (p2 x hx),p3⟩
  ·obtain⟨m,hm2,rfl⟩:=mem_map.mp hm;have hm':(∀x∈m,x∈l0)/\m.Nodup:=by
    rcases mem_cons.mp hm2 with e|hm2
    ·subst e;exact⟨fun x hx=>(nomatch hx),nodup_nil⟩
    ·exact(h1 m hm2).2
   refine⟨by simp,fun x hx=>?_,?_⟩
   ·rcases mem_append.mp hx with hx|hx
    ·exact mem_append_left _ (hm'.1 x hx)
    ·exact mem_append_right _ hx
   ·rw[nodup_append];exact⟨hm'.2,by simp,fun x hx y hy e=>ha (by rw[mem_singleton]at hy;rw[<- hy,<- e];exact hm'.1 x hx)⟩
 ·rw[length_append,length_map,hl,length_append,List.length_singleton,Nat.pow_succ]
  lia
def i_.fold:∀(l l0:HC) (S:List (HC)),i_ l0 S->(l0++l).Nodup->i_ (l0++l) (l.foldl (fun S a=>S++S.map (·++[a])) S)
 | [],l0,S,h,_=>by simpa using h
 |a::l,l0,S,h,hn=>by
  have hn':((l0++[a])++ l).Nodup:=by simpa using hn
  have ha:a∉l0:=fun hm=>by rw[nodup_append]at hn;exact hn.2.2 a hm a mem_cons_self rfl
  have:=i_.fold l (l0++[a]) _ (h.step ha) hn';simpa using this
def d7{l:HC}(h:l.Nodup):i_ l (bf l):=by have:=i_.fold l [] [[]] ⟨⟨[],rfl,fun _ w=>(nomatch w),fun w=>absurd rfl w⟩,rfl⟩ (by simpa using h);rw[List.nil_append]at this;exact this
section
variable{n:Nat}{s:Int}{fs os cs:HC}{fc:Fl}{w:Int}
def fA:(mv n s fs os cs).Nodup:=by unfold mv;have:((range n).filter fun i=>decide (eS n s fs os cs i≠gt cs i)).Nodup:=Pairwise.filter _ List.nodup_range;exact Pairwise.map _ (fun a b (h:a≠b)=>by lia) this
def nZ{a:Int}(h:a∈mv n s fs os cs):∃i:Nat,a=i/\i<n/\eS n s fs os cs i≠gt cs i:=by unfold mv at h;obtain⟨i,hi,rfl⟩:=mem_map.mp h;obtain⟨h1,h2⟩:=mem_filter.mp hi;exact⟨i,rfl,mem_range.mp h1,by simpa using h2⟩
def jB:(mv n s fs os cs).length<=n:=by
 unfold mv;rw[length_map];have:=List.length_filter_le (fun i=>decide (eS n s fs os cs i≠gt cs i)) (range n)
 rwa [List.length_range]at this
def rz{many:Bool}{nm:HC}(h:nm∈trn n s fs os many cs):nm≠[]/\(∀a∈nm,a∈mv n s fs os cs)/\nm.Nodup:=by
 unfold trn at h;cases many with
 |true=>obtain⟨⟨S',e,h1,_⟩,_⟩:=d7 (fA (n:=n) (s:=s) (fs:=fs) (os:=os) (cs:=cs));rw[if_pos rfl,e]at h;exact h1 nm h
 |false=>rw[if_neg (by decide)]at h;obtain⟨a,ha,rfl⟩:=mem_map.mp h;exact⟨by simp,fun x hx=>by rw[mem_singleton.mp hx];exact ha,by simp⟩
def yQ{many:Bool}:trn n s fs os many cs=[]↔ mv n s fs os cs=[]:=by
 unfold trn;cases many with
 |true=>
  obtain⟨⟨S',e,_,h2⟩,hl⟩:=d7 (fA (n:=n) (s:=s) (fs:=fs) (os:=os) (cs:=cs));rw[if_pos rfl,e];show S'=[]↔ _;constructor
  ·intro h;by_cases q:mv n s fs os cs=[]
   ·exact q
   ·exact absurd h (h2 q)
  ·intro h;rw[e,h]at hl;simpa using hl
 |false=>simp
def rA{many:Bool}(h:n<=8):(trn n s fs os many cs).length<=256:=by
 have hm:=jB (n:=n) (s:=s) (fs:=fs) (os:=os) (cs:=cs);unfold trn;cases many with
 |true=>
  obtain⟨_,hl⟩:=d7 (fA (n:=n) (s:=s) (fs:=fs) (os:=os) (cs:=cs));have:2 ^ (mv n s fs os cs).length<=2 ^ 8:=Nat.pow_le_pow_right (by decide) (by lia);simp
  lia
 |false=>simp;lia
def qe{nm:HC}{i:Nat}(hi:i<n):gt (stp n s fs os cs nm) i=if nm.contains (i:Int)then eS n s fs os cs i else gt cs i:=by unfold stp;simp only[gt];rw[getD_eq_getElem?_getD,getElem?_map,List.getElem?_range hi];rfl
def AC(K:Ky n s fs os)(C:Ce n s cs){i:Nat}(hi:i<n):0<=eS n s fs os cs i/\eS n s fs os cs i<s:=by
 have ll:lft n i<n:=by unfold lft;split<;>lia
 have rl:rgt n i<n:=by unfold rgt;split<;>lia
 have hl:=C.len;have ci:=C.inn _ (gt_mem (far:=cs) (i:=i) (by lia));have cl:=C.inn _ (gt_mem (far:=cs) (i:=lft n i) (by lia));have cr:=C.inn _ (gt_mem (far:=cs) (i:=rgt n i) (by lia));have pin:=nV K.s2 K.s4 ci cl cr;unfold eS;generalize plc s (gt cs i) (gt cs (lft n i)) (gt cs (rgt n i))=p at pin;split
 ·have:=K.hf.len;exact K.hf.rng _ (gt_mem (by lia))
 ·have:=K.ho.len;exact K.ho.rng _ (gt_mem (by lia))
def eH(K:Ky n s fs os)(C:Ce n s cs)(nm:HC):Ce n s (stp n s fs os cs nm):=by
 refine⟨by simp[stp],fun c hc=>?_⟩;unfold stp at hc;obtain⟨i,hi,rfl⟩:=mem_map.mp hc;have hi:=mem_range.mp hi;split
 ·exact AC K C hi
 ·exact C.inn _ (gt_mem (by have:=C.len;lia))
def sZ(hB:Bf fc)(K:Ky n s fs os)(C:Ce n s cs){i:Nat}(hi:i<n):DM [tab .bor n s w fs os,.lst fc (iL cs),.int i]=.ok (.int (eS n s fs os cs i)):=by
 have n2:=K.n2;have hn:=C.len;have hc:=C.inn;have np:(0:Int)<n:=by lia
 have hl:((i:Int)-1)%(n:Int)=(lft n i:Nat):=by
  unfold lft;split
  ·rename_i e
   subst e;have:((0:Nat):Int)-1=((n:Int)-1)+n*(-1):=by lia
   rw[this,Int.add_mul_emod_self_left,emod_eq_of_lt (by lia) (by lia)]
   lia
  ·rw[emod_eq_of_lt (by lia) (by lia)];lia
 have hr:((i:Int)+1)%(n:Int)=(rgt n i:Nat):=by
  unfold rgt;split
  ·rw[emod_eq_of_lt (by lia) (by lia)];lia
  ·have:(i:Int)+1=n:=by lia
   rw[this,Int.emod_self];rfl
 have ll:lft n i<n:=by unfold lft;split<;>lia
 have rl:rgt n i<n:=by unfold rgt;split<;>lia
 have ix:∀(k:Nat),k<n->∀f,aq (.lst f (iL cs)) (.int (k:Int))=.ok (.int (gt cs k)):=fun k hk f=>by simpa using lB (f:=f) (cs:=cs) (i:=k) (by lia) (by lia)
 have ci:=hc _ (gt_mem (far:=cs) (i:=i) (by lia));have cl:=hc _ (gt_mem (far:=cs) (i:=lft n i) (by lia));have cr:=hc _ (gt_mem (far:=cs) (i:=rgt n i) (by lia));have pin:=nV K.s2 K.s4 ci cl cr;obtain⟨q1,q2,q3⟩:=Cm (c:=gt cs i) (l:=gt cs (lft n i)) (r:=gt cs (rgt n i)) K.s2 K.s4;obtain⟨tf,_⟩:=vk K.hf pin;obtain⟨to,_⟩:=vk K.ho pin;refine ay ?_;show Eo [some (tab .bor n s w fs os),some (.lst fc (iL cs)),some (.int i),none,none,none]=_;unfold Eo;refine af (av (v:=.int (gt cs (lft n i))) (by simp[hB.le,aW,dG,cK np,hl,ix _ ll])) ?_;simp only[s0_,s1_];refine af (av (v:=.int (gt cs (rgt n i))) (by simp[hB.le,aW,dG,cK np,hr,ix _ rl])) ?_;simp only[s0_,s1_];refine af (av (v:=.int (plc s (gt cs i) (gt cs (lft n i)) (gt cs (rgt n i)))) (by simp[hB.le,aW,dG,ix _ hi,q1,q2,q3,plc])) ?_;simp only[s0_,s1_];refine aT ?_ (by simp);unfold eS;by_cases e:i=0
 ·subst e;simp[aW,dG,tf]
 ·simp[aW,dG,to,e,show ¬(i:Int)=0 by lia]
def gE(hB:Bf fc)(K:Ky n s fs os)(C:Ce n s cs):DI [tab .bor n s w fs os,.lst fc (iL cs)]=.ok (.lst .own (iL (mv n s fs os cs))):=by
 have hn:=C.len;have n8:=K.n8;refine ay ?_;show D_ [some (tab .bor n s w fs os),some (.lst fc (iL cs))]=_;unfold D_ mv;refine aT ?_ (by simp);refine be (xs:=dO 0 n) (dL (n:=n) (by simp[aW,dG]) (by lia)) (by rw[cv];lia) (lL (fun k=>decide (eS n s fs os cs k≠gt cs k)) (fun k=>(k:Int)) n fun k hk=>⟨[some (tab .bor n s w fs os),some (.lst fc (iL cs)),some (.int (0+k))],by simp[tgN,aQ,bw,PV.HQ,hB.bo],?_,fun _=>by simp⟩);have gk:aq (.lst fc (iL cs)) (.int (k:Int))=.ok (.int (gt cs k)):=by simpa using lB (f:=fc) (cs:=cs) (i:=k) (by lia) (by lia)
 simp[hB.le,hB.tb,fD,sZ hB K C hk,gk,aB]
def tz(hB:Bf fc)(K:Ky n s fs os)(C:Ce n s cs):DN [tab .bor n s w fs os,.lst fc (iL cs)]=.ok (.bl (decide (((mv n s fs os cs).length:Int)=w))):=by
 refine ay ?_;show Er [some (tab .bor n s w fs os),some (.lst fc (iL cs))]=_;unfold Er;refine aT ?_ (by simp);have e:∀k:Nat,((k:Int)=0)↔ k=0:=fun k=>by lia
 simp[hB.le,hB.tb,bJ,gE hB K C,aB,aW,dG,-length_eq_zero_iff]
def kS{nm:HC}{f:Fl}(hf:Bf f)(hd:nm.Nodup)(hr:∀x∈nm,0<=x/\x<n)(hl:nm.length<=1000):DJ [tab .bor n s w fs os,.lst f (iL nm)]=.ok .non:=by
 refine fv ?_;show Ends (Eg [some (tab .bor n s w fs os),some (.lst f (iL nm)),none]);unfold Eg;refine dr (aU (by simp[aW,dG]) ar) ?_;refine xO (fun _ e=>∃x,e=[some (tab .bor n s w fs os),some (.lst f (iL nm)),x]) (xs:=iL nm) (cq (f:=f) (by simp[hf.le]) hf.nl (by simp) (by simp)) ⟨_,rfl⟩ (fun k x e hx hP=>?_) (fun e hP=>?_)
 ·obtain⟨y,rfl⟩:=hP;obtain⟨m,hm,rfl⟩:=ly hx;obtain⟨h1,h2⟩:=hr m (List.mem_of_getElem? hm);refine⟨_,dz rfl,bR (aU ?_ ar) ⟨_,rfl⟩⟩;simp[aW,dG,show ¬m<0 by lia,show ¬(n:Int)<= m by lia]
 ·obtain⟨y,rfl⟩:=hP;exact jN (aU (by simp[hf.le,uB hl,xU hd]) ar)
def zK{many:Bool}{nm:HC}(h:nm∈trn n s fs os many cs):nm.Nodup/\(∀x∈nm,0<=x/\x<n)/\nm.length<=n:=by
 obtain⟨_,h2,h3⟩:=rz h;refine⟨h3,fun x hx=>?_,?_⟩
 ·obtain⟨i,rfl,hi,_⟩:=nZ (h2 x hx)
  lia
 ·exact Nat.le_trans (mY h3 h2) jB
def mD{nm:HC}(hB:Bf fc)(K:Ky n s fs os)(C:Ce n s cs)(h:nm.Nodup/\(∀x∈nm,0<=x/\x<n)/\nm.length<=n):An [tab .bor n s w fs os,.lst fc (iL cs),.lst .frz (iL nm)]=.ok (.lst .own (iL (stp n s fs os cs nm))):=by
 obtain⟨g1,g2,g3⟩:=h;have hn:=C.len;have n8:=K.n8;refine ay ?_;show Ec [some (tab .bor n s w fs os),some (.lst fc (iL cs)),some (.lst .frz (iL nm))]=_;unfold Ec stp;have rf:=kS (w:=w) (n:=n) (s:=s) (fs:=fs) (os:=os) jS g1 g2 (by lia);refine af (ef (v:=.non) (by simp[rf,aB])) (aT ?_);refine be (xs:=dO 0 n) (dL (n:=n) (by simp[aW,dG]) (by lia)) (by rw[cv];lia) (jQ 0 (fun i:Nat=>if nm.contains (i:Int)then eS n s fs os cs i else gt cs i) n fun k hk=>⟨[some (.lst .frz (iL nm)),some (tab .bor n s w fs os),some (.lst fc (iL cs)),some (.int (0+k))],by simp[tgN,aQ,bw,PV.HQ,hB.bo],?_⟩);have gk:aq (.lst fc (iL cs)) (.int (k:Int))=.ok (.int (gt cs k)):=by simpa using lB (f:=fc) (cs:=cs) (i:=k) (by lia) (by lia)
 have dk:=sZ (w:=w) hB K C hk;by_cases q:nm.contains (k:Int)=true
 ·simp only[q,if_true];simp at q;simp[q,hB.le,hB.tb,fD,dk,aB]
 ·simp only[q];simp at q;simp[q,hB.le,gk]
def tQ{many:Bool}{nm:HC}(hB:Bf fc)(K:Ky n s fs os)(C:Ce n s cs)(h:nm∈trn n s fs os many cs):An [tab .bor n s w fs os,.lst fc (iL cs),.lst .frz (iL nm)]=.ok (.lst .own (iL (stp n s fs os cs nm))):=mD hB K C (zK h)
def zZ(S:List (HC)):mapL Fl.HP (llL .own S)=llL .frz S:=by rw[gq];rfl
def la(g:Fl->Fl):∀xs ys:HK,mapL g (xs++ys)=mapL g xs++mapL g ys
 | [],ys=>by simp
 |x::xs,ys=>by simp[la g xs ys]
def pN(p:Fl->Bool):∀xs ys:HK,hasL p (xs++ys)=(hasL p xs||hasL p ys)
 | [],ys=>by simp
 |x::xs,ys=>by simp[pN p xs ys,Bool.or_assoc]
def qj{l:HC}(hl:l.length<=8)(hd:l.Nodup):sN [.lst .bor (iL l)]=.ok (.lst .own (llL .frz ((bf l).drop 1))):=by
 refine ay ?_;show yf [some (.lst .bor (iL l)),none,none]=_;unfold yf;refine af (av (v:=.lst .own [.lst .own []]) (by simp)) ?_;simp only[s0_,s1_];refine da (fun k e=>∃xs x2,e=[some (.lst .bor (iL l)),some (.lst .own xs),x2]/\mapL Fl.HP xs=llL .frz (bf (l.take k))) (xs:=iL l) (cq (f:=.bor) (by simp) rfl (by simp) (by simp)) ⟨[.lst .own []],none,rfl,by simp[bf]⟩ (fun k x e hx hP=>?_) (fun e hP=>?_)
 ·obtain⟨xs,x2,rfl,hxs⟩:=hP;obtain⟨a,ha,rfl⟩:=ly hx;have hk:k<l.length:=(List.getElem?_eq_some_iff.mp ha).1;have hS:(bf (l.take k)).length<=256:=by
   rw[(d7 (Sublist.nodup (List.take_sublist k l) hd)).len];have:2 ^ (l.take k).length<=2 ^ 8:=Nat.pow_le_pow_right (by decide) (by rw[length_take];lia)
   lia
  have hN:∀nm∈bf (l.take k),nm.length<=8:=fun nm hm=>by
   obtain⟨⟨S',e,h1,_⟩,_⟩:=d7 (Sublist.nodup (List.take_sublist k l) hd);rw[e]at hm;rcases mem_cons.mp hm with rfl|hm
   ·simp
   ·obtain⟨_,h2,h3⟩:=h1 nm hm;have:=mY h3 h2;rw[length_take]at this
    lia
  have e1:bf (l.take (k+1))=bf (l.take k)++(bf (l.take k)).map (·++[a]):=by unfold bf;rw[List.take_succ,ha];simp
  refine⟨_,dz rfl,?_⟩;simp only[s0_,s1_];refine bZ (fS (v:=.lst .own xs) rfl) ?_;simp only[s0_,s1_,aL,hxs,cB];generalize bf (l.take k)=S at *;have cp:aM [2] 1 (a8 (ad 1)) (tgN 1) aP (mOp bz (ad 1) (bU (ae (ad 0) ak))) [some (.lst .bor (iL l)),some (.lst .frz (llL .frz S)),some (.int a)]=.ok (.lst .own (llL .own (S.map (·++[a])))):=by
   refine be (xs:=llL .frz S) (by simp) (by simp;lia) ?_;have:=aR (env:=bw [2] 1 [some (.lst .bor (iL l)),some (.lst .frz (llL .frz S)),some (.int a)]) (g:=tgN 1) (me:=mOp bz (ad 1) (bU (ae (ad 0) ak))) (a:=fun nm:HC=>PV.lst .frz (iL nm)) (f:=fun nm=>PV.lst .own (iL (nm++[a]))) S fun nm hm=>⟨[some (.int a),some (.lst .frz (iL nm))],by simp[tgN,aQ,bw,PV.HQ],?_,by simp,by simp⟩
   ·rw[show llL .own (S.map (·++[a]))=S.map fun nm=>PV.lst .own (iL (nm++[a])) by simp[llL]];exact this
   ·have:=hN nm hm;simp;rw[eL (by decide) (by decide) (by simp;lia)];simp[iL]
  refine bR (av (v:=.lst .own (llL .frz S++llL .own (S.map (·++[a])))) ?_ ?_ rfl) ⟨_,_,rfl,?_⟩
  ·simp only[bN,cp];simp;rw[eL (by decide) (by decide) (by simp;lia)]
  ·simp only[eO,d_];rw[pN,cA _ _ _ rfl,cA _ _ _ rfl];rfl
  ·rw[la,zZ,gq,e1,<- z1];rfl
 ·obtain⟨xs,x2,rfl,hxs⟩:=hP;rw[fC,List.take_length]at hxs;refine af (fS (v:=.lst .own xs) rfl) ?_;simp only[s0_,s1_,aL,hxs,cB];refine aT (v:=.lst .own (llL .frz ((bf l).drop 1))) ?_ (by simp only[eO,d_];rw[cA _ _ _ rfl];rfl);have:=dR (llL .frz (bf l)) 1 (by rw[sx,(d7 hd).len];exact Nat.pow_pos (by decide));simp;rw[show((1:Nat):Int)=1 from rfl]at this;rw[this];simp[llL]
def nxV(f:Fl)(n:Nat)(s:Int)(fs os:HC)(many:Bool)(cs:HC):HK:=(trn n s fs os many cs).map fun nm=>.tup [.lst .frz (iL nm),.lst f (iL (stp n s fs os cs nm))]
def gY{p:Fl->Bool}{f:Fl}{many:Bool}(h1:p .frz=false)(h2:p f=false):hasL p (nxV f n s fs os many cs)=false:=by
 unfold nxV
 induction trn n s fs os many cs with
 |nil=>simp
 |cons a l ih=>simp[ih,h1,h2]
def kZ{g:Fl->Fl}{f:Fl}{many:Bool}(h1:g .frz=.frz):mapL g (nxV f n s fs os many cs)=nxV (g f) n s fs os many cs:=by
 unfold nxV
 induction trn n s fs os many cs with
 |nil=>simp
 |cons a l ih=>simp[ih,h1]
def gf(many:Bool):Ao [tab .bor n s w fs os,.bl many]=.ok .non:=by refine fv ?_;show Ends (Ee [some (tab .bor n s w fs os),some (.bl many)]);unfold Ee;exact jN (aU (by cases many<;>simp[aW,dG]) ar)
def wH{many:Bool}(hB:Bf fc)(K:Ky n s fs os)(C:Ce n s cs):sK [tab .bor n s w fs os,.lst fc (iL cs),.bl many]=.ok (.lst .own (nxV .own n s fs os many cs)):=by
 have n8:=K.n8;have ml:=jB (n:=n) (s:=s) (fs:=fs) (os:=os) (cs:=cs);have md:=fA (n:=n) (s:=s) (fs:=fs) (os:=os) (cs:=cs);refine ay ?_;show yc [some (tab .bor n s w fs os),some (.lst fc (iL cs)),some (.bl many),none,none]=_;unfold yc;refine af (ef (v:=.non) (by simp[gf,aB])) ?_;refine af (av (v:=.lst .own (iL (mv n s fs os cs))) (by simp[hB.le,hB.tb,bJ,gE hB K C,aB])) ?_;simp only[s0_,s1_];obtain⟨f,hf,hl,e⟩:∃f:Fl,f.HP=.frz/\f.HS=false/\(f6 (aY (ad 2)) (ao (ax sN) (ae (ad 3) ak)) (aM [] 1 (a8 (ad 3)) (tgN 0) aP (bU (ae (ad 0) ak)))) [some (tab .bor n s w fs os),some (.lst fc (iL cs)),some (.bl many),some (.lst .own (iL (mv n s fs os cs))),none]=.ok (.lst .own (llL f (trn n s fs os many cs))):=by
  cases many with
  |true=>refine⟨.frz,rfl,rfl,?_⟩;have:=qj (l:=mv n s fs os cs) (by lia) md;have hb:hasL Fl.HU (llL .frz ((bf (mv n s fs os cs)).drop 1))=false:=cA _ _ _ rfl;simp only[lG,lE,aZ,bv,aS,bG,bO];simp only[getElem?_cons_zero,getElem?_cons_succ,aE,ku,aL,bQ,Res.HY,oJ,if_true,lq,aX,bH,bO,jd,this,trn];unfold aB;rw[d_,hb];rfl
  |false=>
   refine⟨.own,rfl,rfl,?_⟩;have:=aR (env:=bw [] 1 [some (tab .bor n s w fs os),some (.lst fc (iL cs)),some (.bl false),some (.lst .own (iL (mv n s fs os cs))),none]) (g:=tgN 0) (me:=bU (ae (ad 0) ak)) (a:=PV.int) (f:=fun a=>PV.lst .own (iL [a])) (mv n s fs os cs) fun a ha=>⟨[some (.int a)],by simp[tgN,aQ,b7,bw],by simp,by simp,by simp⟩
   have c:=be (caps:=[]) (k:=1) (mi:=a8 (ad 3)) (env:=[some (tab .bor n s w fs os),some (.lst fc (iL cs)),some (.bl false),some (.lst .own (iL (mv n s fs os cs))),none]) (xs:=iL (mv n s fs os cs)) (by simp) (by simp;lia) this;simp only[lG,lE,aZ];simp only[getElem?_cons_zero,getElem?_cons_succ,aE,ku,Res.HY,oJ,false_eq_true,if_false,c];simp[trn,llL]
 refine af (av e (by simp only[eO,d_];rw[cA _ _ _ hl];rfl) rfl) ?_;simp only[s0_,s1_];refine af (fS (v:=.lst .own (llL f (trn n s fs os many cs))) rfl) ?_;simp only[s0_,s1_,aL,gq,hf,cB];refine aT (v:=.lst .own (nxV .own n s fs os many cs)) ?_ (by simp only[eO,d_];rw[gY rfl rfl];rfl);refine be (xs:=llL .frz (trn n s fs os many cs)) (by simp) (by have:=rA (n:=n) (s:=s) (fs:=fs) (os:=os) (cs:=cs) (many:=many) n8;simp;lia) ?_;exact aR (a:=fun nm:HC=>PV.lst .frz (iL nm)) (f:=fun nm=>PV.tup [.lst .frz (iL nm),.lst .own (iL (stp n s fs os cs nm))]) (trn n s fs os many cs) fun nm hm=>⟨[some (tab .bor n s w fs os),some (.lst fc (iL cs)),some (.lst .frz (iL nm))],by simp[tgN,aQ,bw,PV.HQ,hB.bo],by simp[hB.le,hB.tb,du,tQ hB K C hm,aB],by simp,by simp⟩
def wF(s c:Int)(l:HC):num s (l++[c])=num s l*s+c:=by simp[num]
def iB(hB:Bf fc)(K:Ky n s fs os):pT [tab .bor n s w fs os,.lst fc (iL cs)]=.ok (.int (num s cs)):=by
 have s2:=K.s2;have s4:=K.s4;refine ay ?_;show yw [some (tab .bor n s w fs os),some (.lst fc (iL cs)),none,none]=_;unfold yw;refine af (av (v:=.int 0) (by simp)) ?_;simp only[s0_,s1_];refine da (fun k e=>∃x3,e=[some (tab .bor n s w fs os),some (.lst fc (iL cs)),some (.int (num s (cs.take k))),x3]) (xs:=iL cs) (cq (f:=fc) (by simp[hB.le]) hB.nl (by simp) (by simp)) ⟨none,rfl⟩ (fun k y e hy hP=>?_) (fun e hP=>?_)
 ·obtain⟨x3,rfl⟩:=hP;obtain⟨z,hz,rfl⟩:=ly hy;refine⟨_,dz rfl,?_⟩;simp only[s0_,s1_];have mm:cT (.int (num s (cs.take k))) (.int s)=.ok (.int (num s (cs.take k)*s)):=fQ (.inr ⟨by lia,by lia⟩);refine bR (av (v:=.int (num s (cs.take (k+1)))) ?_) ⟨_,rfl⟩;rw[List.take_succ,hz,Option.toList_some,wF];simp[aW,dG,mm]
 ·obtain⟨x3,rfl⟩:=hP;rw[fC,List.take_length];exact fe rfl
def e9(K:Ky n s fs os)(x:Int):ka [tab .bor n s w fs os,.int x]=.ok (.lst .own (iL (dgs s x n))):=by
 have s2:=K.s2;have s4:=K.s4;have n8:=K.n8;have hs:0<s:=by lia
 refine ay ?_;show yk [some (tab .bor n s w fs os),some (.int x),none,none,none]=_;unfold yk;refine af (av (v:=.lst .own []) (by simp)) ?_;simp only[s0_,s1_];refine af (av (v:=.int x) (by simp)) ?_;simp only[s0_,s1_];refine da (fun k e=>∃x4,e=[some (tab .bor n s w fs os),some (.int x),some (.lst .own (iL (dgs s x k).reverse)),some (.int (qt s x k)),x4]) (dL (n:=n) (by simp[aW,dG]) (by lia)) ⟨none,rfl⟩ (fun k y e hy hP=>?_) (fun e hP=>?_)
 ·obtain⟨x4,rfl⟩:=hP;obtain⟨hk,rfl⟩:=ik hy;refine⟨_,dz rfl,?_⟩;simp only[s0_,s1_];refine bZ (eD (v:=.int (qt s x k%s)) (xs:=iL (dgs s x k).reverse) (by simp[aW,dG,cK hs]) rfl (by simp) (by simp;lia)) ?_;simp only[s0_,s1_];refine bR (av (v:=.int (qt s x (k+1))) (by simp[aW,dG,gz hs (show s<1073741824 by lia),qt])) ⟨some (.int (0+(k:Int))),?_⟩;simp[dgs,iL]
 ·obtain⟨x4,rfl⟩:=hP;rw[cv];refine aT ?_ (by simp);have lr:∀f:Fl,fw (.lst f (iL (dgs s x n).reverse))=.ok (.lst .own (iL (dgs s x n))):=fun f=>by unfold fw;dsimp only;rw[gF];dsimp only;rw[if_pos (by simp;lia),List.reverse_reverse];rfl
  simp[lr]
def sB{s:Int}(h:1<=s){a:Nat}:∀d,1<=s ^ a/\s ^ a<=s ^ (a+d)
 |0=>by
  refine⟨?_,Int.le_refl _⟩;have:0<s ^ a:=Int.pow_pos (by lia)
  lia
 |d+1=>by
  obtain⟨h1,h2⟩:=sB h (a:=a) d;refine⟨h1,?_⟩;rw[<- Nat.add_assoc,Int.pow_succ];have:s ^ (a+d)*1<=s ^ (a+d)*s:=Int.mul_le_mul_of_nonneg_left h (by lia)
  lia
def h_(K:Ky n s fs os):pS [tab .bor n s w fs os]=.ok (.int (s ^ n)):=by
 have s2:=K.s2;have s4:=K.s4;have n8:=K.n8;have big:=K.big;refine ay ?_;show yq [some (tab .bor n s w fs os),none,none]=_;unfold yq;refine af (av (v:=.int 1) (by simp)) ?_;simp only[s0_,s1_];refine da (fun k e=>∃x2,e=[some (tab .bor n s w fs os),some (.int (s ^ k)),x2]) (dL (n:=n) (by simp[aW,dG]) (by lia)) ⟨none,by rw[Int.pow_zero]⟩ (fun k y e hy hP=>?_) (fun e hP=>?_)
 ·obtain⟨x4,rfl⟩:=hP;obtain⟨hk,rfl⟩:=ik hy;have h1:=(sB (s:=s) (by lia) (a:=k+1) (n-(k+1))).2;rw[show k+1+(n-(k+1))=n by lia]at h1;refine⟨_,dz rfl,?_⟩;simp only[s0_,s1_];have mm:cT (.int (s ^ k)) (.int s)=.ok (.int (s ^ (k+1))):=by rw[Int.pow_succ];exact fQ (.inr ⟨by lia,by lia⟩)
  refine bZ (av (v:=.int (s ^ (k+1))) (by simp[aW,dG,mm])) ?_;simp only[s0_,s1_];refine bR (aU ?_ ar) ⟨_,rfl⟩;generalize s ^ (k+1)=u at *;simp[show ¬256<u by lia]
 ·obtain⟨x4,rfl⟩:=hP;rw[cv];exact fe rfl
def kf(K:Ky n s fs os){many:Bool}(h4:many=true->n<=4):DK [tab .bor n s w fs os,.bl many]=.ok .non:=by
 have big:=K.big;refine fv ?_;show Ends (Eh [some (tab .bor n s w fs os),some (.bl many)]);unfold Eh;have st:=h_ (w:=w) K;generalize s ^ n=u at *;refine dr (aU (by simp[st,aB,show ¬256<u by lia]) ar) ?_;refine jN (aU ?_ ar);cases many with
 |false=>simp
 |true=>
  have:=h4 rfl;simp[aW,dG]
  lia
end
def y3{it:MI}{g:TgM}{body bF:MS}{xs:HK}{env:En}{R:Out->Prop}(P:Nat->En->Prop)(h:it env=.ok xs)(h0:P 0 env)
  (step:∀(k:Nat) (x:PV) (e:En),xs[k]?=some x->P k e->∃e1,g x e=some e1/\((∃e2,body e1=.next e2/\P (k+1) e2)\/ ∃v,body e1=.ret v/\R (.ret v)))
  (fin:∀e,P xs.length e->R (bF e)):R (au (cZ it g body) bF env):=by
 have:=ky (g:=g) (body:=body) P (fun o=>R (match o with | .next e=>bF e | o=>o)) h h0 (fun k x e hx hP=>by
  obtain⟨e1,h1,h2⟩:=step k x e hx hP;refine⟨e1,h1,?_⟩;rcases h2 with⟨e2,h2,h3⟩ |⟨v,h2,h3⟩
  ·exact .inl ⟨e2,.inl h2,h3⟩
  ·exact .inr (.inr (.inl ⟨v,h2,h3⟩))) fin
 unfold au;exact this
def o6{it:MI}{g:TgM}{body bF:MS}{xs:HK}{env:En}{Q:PV->Prop}(P:Nat->En->Prop)(h:it env=.ok xs)(h0:P 0 env)
  (step:∀(k:Nat) (x:PV) (e:En),xs[k]?=some x->P k e->∃e1,g x e=some e1/\((∃e2,body e1=.next e2/\P (k+1) e2)\/ ∃v,body e1=.ret v/\Q v))
  (fin:∀e,P xs.length e->gJ (bF e) Q):gJ (au (cZ it g body) bF env) Q:=
 y3 (R:=fun o=>gJ o Q) P h h0 (fun k x e hx hP=>by
  obtain⟨e1,h1,h2⟩:=step k x e hx hP;exact⟨e1,h1,h2.imp id fun⟨v,a,b⟩=>⟨v,a,v,rfl,b⟩⟩) fin
def zx{it:MI}{g:TgM}{body:MS}{xs:HK}{env:En}{A:En->Prop}{B:PV->Prop}(P:Nat->En->Prop)(h:it env=.ok xs)(h0:P 0 env)
  (step:∀(k:Nat) (x:PV) (e:En),xs[k]?=some x->P k e->∃e1,g x e=some e1/\((∃e2,body e1=.next e2/\P (k+1) e2)\/ ∃v,body e1=.ret v/\B v))
  (fin:∀e,P xs.length e->A e):(∃e2,cZ it g body env=.next e2/\A e2)\/ ∃v,cZ it g body env=.ret v/\B v:=
 ky (g:=g) (body:=body) P (fun o=>(∃ e2,o=.next e2/\A e2) \/ ∃ v,o=.ret v/\B v) h h0 (fun k x e hx hP=>by
  obtain⟨e1,h1,h2⟩:=step k x e hx hP;refine⟨e1,h1,?_⟩;rcases h2 with⟨e2,h2,h3⟩ |⟨v,h2,h3⟩
  ·exact .inl ⟨e2,.inl h2,h3⟩
  ·exact .inr (.inr (.inl ⟨v,h2,.inr ⟨v,rfl,h3⟩⟩))) fun e hP=>.inl ⟨e,rfl,fin e hP⟩
def sI{α:Type}{p:α->Bool}:∀{l:List α}{j:Nat}{x:α},l[j]?=some x->p x=true->(∀i<j,∀y,l[i]?=some y->p y=false)->l.find? p=some x
 | [],j,x,h,_,_=>by simp at h
 |a::l,0,x,h,hp,_=>by simp at h;subst h;simp[hp]
 |a::l,j+1,x,h,hp,hn=>by have h0:=hn 0 (by lia) a rfl;have:=sI (l:=l) (j:=j) (x:=x) (by simpa using h) hp fun i hi y hy=>hn (i+1) (by lia) y (by simpa using hy);simp[h0,this]
def Ai{α:Type}{p:α->Bool}{l:List α}(h:∀(i:Nat) (y:α),l[i]?=some y->p y=false):l.find? p=none:=by rw[List.find?_eq_none];intro x hx q;obtain⟨i,hi⟩:=List.getElem?_of_mem hx;rw[h i x hi]at q;cases q
structure Pz where
 n:Nat
 s:Int
 fs:HC
 os:HC
 w:Int
 many:Bool
namespace Pz
variable(z:Pz)
abbrev K:Prop:=Ky z.n z.s z.fs z.os
abbrev T:PV:=tab .bor z.n z.s z.w z.fs z.os
abbrev N:Nat:=(z.s ^ z.n).toNat
abbrev dg(k:Nat):HC:=dgs z.s k z.n
abbrev cal(cs:HC):Bool:=decide (((mv z.n z.s z.fs z.os cs).length:Int)=z.w)
abbrev tr(cs:HC):List (HC):=trn z.n z.s z.fs z.os z.many cs
abbrev sp(cs nm:HC):HC:=stp z.n z.s z.fs z.os cs nm
abbrev nu(cs nm:HC):Int:=num z.s (z.sp cs nm)
def St:List (HC):=(range z.N).map z.dg
def cm:List Bool:=z.St.map z.cal
def cmV:HK:=z.cm.map .bl
def nx(f:Fl)(cs:HC):HK:=nxV f z.n z.s z.fs z.os z.many cs
def wy(f:Fl):HK:=z.St.map fun cs=>.lst f (z.nx f cs)
def fol(cs:HC):HC:=(z.tr cs).map (z.nu cs)
def Fw:List (HC):=z.St.map z.fol
def lvC(cs:HC):Option (HC):=if z.cal cs then(z.tr cs).find? (fun nm=>!z.cal (z.sp cs nm))else none
def skC(cs:HC):Bool:=!z.cal cs&&(z.tr cs).isEmpty
end Pz
def gG(g:Fl->Fl):∀l:List Bool,mapL g (l.map .bl)=l.map .bl
 | []=>by simp
 |b::l=>by simp[gG g l]
def tB(p:Fl->Bool):∀l:List Bool,hasL p (l.map .bl)=false
 | []=>by simp
 |b::l=>by simp[tB p l]
def qP{l:List Bool}{k:Nat}{b:Bool}(h:l[k]?=some b)(f:Fl):aq (.lst f (l.map .bl)) (.int k)=.ok (.bl b):=bp rfl (by simp[h]) (by simp)
section
variable{z:Pz}
def lW:z.St.length=z.N:=by simp[Pz.St]
def yE{k:Nat}(h:k<z.N):z.St[k]?=some (z.dg k):=by simp[Pz.St,h]
def Ey{k:Nat}{cs:HC}(h:z.St[k]?=some cs):k<z.N/\cs=z.dg k:=by
 have hk:k<z.N:=by rw[<- lW];exact(List.getElem?_eq_some_iff.mp h).1
 rw[yE hk]at h;cases h;exact⟨hk,rfl⟩
def fE(K:z.K)(x:Int):Ce z.n z.s (dgs z.s x z.n):=⟨by simp,xR (by have:=K.s2;lia) _⟩
def g_(K:z.K){cs:HC}(C:Ce z.n z.s cs):0<=num z.s cs/\(num z.s cs).toNat<z.N/\z.dg (num z.s cs).toNat=cs:=by have s2:=K.s2;have:=iD (s:=z.s) (by lia) cs C.inn;rw[C.len]at this;refine⟨this.1,by show _ <(z.s ^ z.n).toNat;lia,?_⟩;have e:=s_ (s:=z.s) (by lia) cs C.inn;rw[C.len]at e;show dgs z.s ((num z.s cs).toNat:Int) z.n=cs;rw[toNat_of_nonneg this.1,e]
def EB(K:z.K):z.N<=256:=by have:=K.big;show(z.s ^ z.n).toNat<=256;lia
def qV:z.cm.length=z.N:=by simp[Pz.cm,lW]
def lM{k:Nat}(h:k<z.N):z.cm[k]?=some (z.cal (z.dg k)):=by simp only[Pz.cm,getElem?_map,yE h,map_some]
def DX(K:z.K){cs:HC}(C:Ce z.n z.s cs)(f:Fl):aq (.lst f z.cmV) (.int (num z.s cs))=.ok (.bl (z.cal cs)):=by
 obtain⟨h0,h1,h2⟩:=g_ K C;have:=lM h1;rw[h2]at this;have:=qP this f
 rwa [toNat_of_nonneg h0]at this
def jc{g:Fl->Fl}{f:Fl}(h1:g .frz=.frz):mapL g (z.wy f)=z.wy (g f):=by
 unfold Pz.wy Pz.nx
 induction z.St with
 |nil=>simp
 |cons a l ih=>simp[ih,kZ h1]
def p_{p:Fl->Bool}{f:Fl}(h1:p .frz=false)(h2:p f=false):hasL p (z.wy f)=false:=by
 unfold Pz.wy Pz.nx
 induction z.St with
 |nil=>simp
 |cons a l ih=>simp[ih,gY h1 h2,h2]
def AT{m:ME}{e:En}(h:m e=.ok (.lst .frz (z.wy .frz))):iN m e=.ok (enP 0 (z.wy .frz)):=by unfold iN;rw[h];simp[gZ,p_ (p:=Fl.HR) (f:=.frz) rfl rfl,p_ (p:=Fl.HS) (f:=.frz) rfl rfl]
def p9{f:Fl}:(z.wy f).length=z.N:=by simp[Pz.wy,lW]
def uZ{f:Fl}{k:Nat}{x:PV}(h:(z.wy f)[k]?=some x):k<z.N/\x=.lst f (z.nx f (z.dg k)):=by unfold Pz.wy at h;rw[getElem?_map]at h;obtain⟨cs,h1,rfl⟩:=map_eq_some_iff.mp h;obtain⟨h2,rfl⟩:=Ey h1;exact⟨h2,rfl⟩
def C8{f:Fl}{cs:HC}{k:Nat}{x:PV}(h:(z.nx f cs)[k]?=some x):∃nm,(z.tr cs)[k]?=some nm/\x=.tup [.lst .frz (iL nm),.lst f (iL (z.sp cs nm))]:=by unfold Pz.nx nxV at h;rw[getElem?_map]at h;obtain⟨nm,h1,rfl⟩:=map_eq_some_iff.mp h;exact⟨nm,h1,rfl⟩
def qy{f:Fl}{cs:HC}:(z.nx f cs).length=(z.tr cs).length:=by simp[Pz.nx,nxV]
def qJ(K:z.K):∃ r,xC [z.T,.lst .bor z.cmV,.lst .frz (z.wy .frz)]=.ok r/\((r=.non/\∀ k < z.N,z.lvC (z.dg k)=none) \/
  ∃k nm,k<z.N/\z.lvC (z.dg k)=some nm/\(∀j<k,z.lvC (z.dg j)=none)/\r=.tup [.str "leaves",.lst .own (iL (z.dg k)),.lst .frz (iL nm)]):=by
 suffices hh:gJ (yg [some z.T,some (.lst .bor z.cmV),some (.lst .frz (z.wy .frz)),none,none,none,none]) (fun r=>(r=.non/\∀k<z.N,z.lvC (z.dg k)=none)\/ ∃k nm,k<z.N/\z.lvC (z.dg k)=some nm/\(∀j<k,z.lvC (z.dg j)=none)/\r=.tup [.str "leaves",.lst .own (iL (z.dg k)),.lst .frz (iL nm)]) by obtain⟨v,h1,h2⟩:=hh;exact⟨v,ay h1,h2⟩
 unfold yg;refine o6 (fun k e=>(∃x3 x4 x5 x6,e=[some z.T,some (.lst .bor z.cmV),some (.lst .frz (z.wy .frz)),x3,x4,x5,x6])/\∀j<k,z.lvC (z.dg j)=none) (AT (z:=z) (by simp[jc (g:=Fl.HM) (f:=.frz) rfl])) ⟨⟨_,_,_,_,rfl⟩,fun _ h=>absurd h (not_lt_zero _)⟩ (fun k y e hy hP=>?_) (fun e hP=>?_)
 ·obtain⟨⟨x3,x4,x5,x6,rfl⟩,hn⟩:=hP;rw[iV]at hy;obtain⟨x,hx,rfl⟩:=map_eq_some_iff.mp hy;obtain⟨hk,rfl⟩:=uZ hx;have C:=fE K (k:Int);refine⟨[some z.T,some (.lst .bor z.cmV),some (.lst .frz (z.wy .frz)),some (.int k),some (.lst .frz (z.nx .frz (z.dg k))),x5,x6],by rw[Int.zero_add];rfl,?_⟩;have ck:aq (.lst .bor z.cmV) (.int k)=.ok (.bl (z.cal (z.dg k))):=qP (lM hk) _;have hcm:∀g,mapL g z.cmV=z.cmV:=fun g=>gG g _;refine zx (fun i e=>(∃x5 x6,e=[some z.T,some (.lst .bor z.cmV),some (.lst .frz (z.wy .frz)),some (.int k),some (.lst .frz (z.nx .frz (z.dg k))),x5,x6])/\∀j<i,∀nm,(z.tr (z.dg k))[j]?=some nm->(z.cal (z.dg k)&&!z.cal (z.sp (z.dg k) nm))=false) (xs:=z.nx .frz (z.dg k))
   (cq (f:=.frz) (by simp[Pz.nx,G.kZ (g:=Fl.HM) (f:=.frz) rfl]) rfl (G.gY rfl rfl) (G.gY rfl rfl)) ⟨⟨_,_,rfl⟩,fun _ h=>absurd h (not_lt_zero _)⟩ (fun i y e hy hP=>?_) (fun e hP=>?_)
  ·obtain⟨⟨x5,x6,rfl⟩,hm⟩:=hP;obtain⟨nm,hnm,rfl⟩:=C8 hy;refine⟨[some z.T,some (.lst .bor z.cmV),some (.lst .frz (z.wy .frz)),some (.int k),some (.lst .frz (z.nx .frz (z.dg k))),some (.lst .frz (iL nm)),some (.lst .frz (iL (z.sp (z.dg k) nm)))],rfl,?_⟩;have D:=eH K C nm;have no:=iB (w:=z.w) (cs:=z.sp (z.dg k) nm) jS K;have cn:=DX K D .bor;cases hc:z.cal (z.dg k)&&!z.cal (z.sp (z.dg k) nm)with
   |false=>
    refine .inl ⟨_,aU ?_ ar,⟨_,_,rfl⟩,fun j hj nm' hj'=>?_⟩
    ·rcases Bool.and_eq_false_iff.mp hc with h|h
     ·rw[h]at ck;simp[hcm,ck]
     ·rw[Bool.not_eq_false']at h;rw[h]at cn;cases h2:z.cal (z.dg k)with
      |false=>rw[h2]at ck;simp[hcm,ck]
      |true=>rw[h2]at ck;simp[hcm,ck,no,aB,cn]
    ·by_cases e:j=i
     ·subst e;rw[hnm]at hj';cases hj';exact hc
     ·exact hm j (by lia) nm' hj'
   |true=>
    obtain⟨h1,h2⟩:=Bool.and_eq_true_iff.mp hc;have h3:z.cal (z.sp (z.dg k) nm)=false:=by simpa using h2
    have ck':=ck;have cn':=cn;rw[h1]at ck';rw[h3]at cn';refine .inr ⟨.tup [.str "leaves",.lst .own (iL (z.dg k)),.lst .frz (iL nm)],eT (by simp[hcm,ck',no,aB,cn']) (aT (by simp[e9 K,aB])),.inr ⟨k,nm,hk,?_,hn,rfl⟩⟩;unfold Pz.lvC;rw[if_pos h1];refine sI hnm h2 fun j hj y hy=>?_;have:=hm j hj y hy;rw[h1,Bool.true_and]at this;exact this
  ·obtain⟨⟨x5,x6,rfl⟩,hm⟩:=hP;refine⟨⟨_,_,_,_,rfl⟩,fun j hj=>?_⟩;by_cases e:j=k
   ·subst e;unfold Pz.lvC;split
    ·rename_i h1
     refine Ai fun i y hy=>?_;have:=hm i (by rw[qy];exact(List.getElem?_eq_some_iff.mp hy).1) y hy;rw[h1,Bool.true_and]at this;exact this
    ·rfl
   ·exact hn j (by lia)
 ·obtain⟨⟨x3,x4,x5,x6,rfl⟩,hn⟩:=hP;rw[iU,p9]at hn;exact cE (aT (by simp)) (.inl ⟨rfl,hn⟩)
def vt(K:z.K):∃ r,xA [z.T,.lst .bor z.cmV,.lst .frz (z.wy .frz)]=.ok r/\((r=.non/\∀ k < z.N,z.skC (z.dg k)=false) \/
  ∃k,k<z.N/\z.skC (z.dg k)=true/\(∀j<k,z.skC (z.dg j)=false)/\r=.tup [.str "stuck",.lst .own (iL (z.dg k))]):=by
 suffices hh:gJ (yb [some z.T,some (.lst .bor z.cmV),some (.lst .frz (z.wy .frz)),none,none]) (fun r=>(r=.non/\∀k<z.N,z.skC (z.dg k)=false)\/ ∃k,k<z.N/\z.skC (z.dg k)=true/\(∀j<k,z.skC (z.dg j)=false)/\r=.tup [.str "stuck",.lst .own (iL (z.dg k))]) by obtain⟨v,h1,h2⟩:=hh;exact⟨v,ay h1,h2⟩
 unfold yb;refine o6 (fun k e=>(∃x3 x4,e=[some z.T,some (.lst .bor z.cmV),some (.lst .frz (z.wy .frz)),x3,x4])/\∀j<k,z.skC (z.dg j)=false) (AT (z:=z) (by simp[jc (g:=Fl.HM) (f:=.frz) rfl])) ⟨⟨_,_,rfl⟩,fun _ h=>absurd h (not_lt_zero _)⟩ (fun k y e hy hP=>?_) (fun e hP=>?_)
 ·obtain⟨⟨x3,x4,rfl⟩,hn⟩:=hP;rw[iV]at hy;obtain⟨x,hx,rfl⟩:=map_eq_some_iff.mp hy;obtain⟨hk,rfl⟩:=uZ hx;refine⟨[some z.T,some (.lst .bor z.cmV),some (.lst .frz (z.wy .frz)),some (.int k),some (.lst .frz (z.nx .frz (z.dg k)))],by rw[Int.zero_add];rfl,?_⟩;have ck:aq (.lst .bor z.cmV) (.int k)=.ok (.bl (z.cal (z.dg k))):=qP (lM hk) _;have hcm:∀g,mapL g z.cmV=z.cmV:=fun g=>gG g _;have hnm:mapL Fl.HM (z.nx .frz (z.dg k))=z.nx .frz (z.dg k):=G.kZ (g:=Fl.HM) (f:=.frz) rfl;have hl:(decide (((z.nx .frz (z.dg k)).length:Int)=0))=(z.tr (z.dg k)).isEmpty:=by
   rw[qy];cases z.tr (z.dg k)with
   |nil=>rfl
   |cons a l=>simp;lia
  cases hc:z.skC (z.dg k)with
  |false=>
   refine .inl ⟨_,aU ?_ ar,⟨_,_,rfl⟩,fun j hj=>?_⟩
   ·cases h2:z.cal (z.dg k)with
    |true=>rw[h2]at ck;simp[hcm,ck]
    |false=>unfold Pz.skC at hc;rw[h2,Bool.not_false,Bool.true_and]at hc;rw[h2]at ck;rw[hc]at hl;simp only[decide_eq_false_iff_not]at hl;simp[hcm,ck,hnm,hl,-Int.natCast_eq_zero,-length_eq_zero_iff]
   ·by_cases e:j=k
    ·rw[e];exact hc
    ·exact hn j (by lia)
  |true=>
   have hc':=hc;unfold Pz.skC at hc';obtain⟨h1,h2⟩:=Bool.and_eq_true_iff.mp hc';have h3:z.cal (z.dg k)=false:=by simpa using h1
   rw[h3]at ck;rw[h2]at hl;simp only[decide_eq_true_iff]at hl;exact .inr ⟨.tup [.str "stuck",.lst .own (iL (z.dg k))],eT (by simp[hcm,ck,hnm,hl,-Int.natCast_eq_zero,-length_eq_zero_iff]) (aT (by simp[e9 K,aB])),.inr ⟨k,hk,hc,hn,rfl⟩⟩
 ·obtain⟨⟨x3,x4,rfl⟩,hn⟩:=hP;rw[iU,p9]at hn;exact cE (aT (by simp)) (.inl ⟨rfl,hn⟩)
end
def rO:HG->PV
 |some v=>.int v
 |none=>.non
def rL(r:List (HG)):HK:=r.map rO
def B5(g:Fl->Fl)(o:HG):(rO o).HW g=rO o:=by cases o<;>simp[rO]
def jr(p:Fl->Bool)(o:HG):(rO o).has p=false:=by cases o<;>simp[rO]
def dX(g:Fl->Fl):∀r,mapL g (rL r)=rL r
 | []=>by simp[rL]
 |o::r=>by have:=dX g r;unfold rL at *;simp[this,B5]
def nQ(p:Fl->Bool):∀r,hasL p (rL r)=false
 | []=>by simp[rL]
 |o::r=>by have:=nQ p r;unfold rL at *;simp[this,jr]
def km:∀r,(rL r).all shp=true
 | []=>rfl
 |o::r=>by have:=km r;unfold rL at *;rw[map_cons,all_cons,this];cases o<;>rfl
def qN:∀r,inL .non (rL r)=r.any isNone
 | []=>rfl
 |o::r=>by have:=qN r;unfold rL inL at *;rw[map_cons,any_cons,this,any_cons];cases o<;>rfl
def pA(r:List (HG))(f:Fl):cy .non (.lst f (rL r))=.ok (.bl (!r.any isNone)):=by unfold cy;simp only[bB,nE,km,Bool.and_self,if_true,qN]
def Go(r:List (HG))(f:Fl):pIn .non (.lst f (rL r))=.ok (.bl (r.any isNone)):=by unfold pIn;simp only[bB,nE,km,Bool.and_self,if_true,qN]
def qO{r:List (HG)}{k:Nat}{o:HG}(h:r[k]?=some o)(f:Fl):aq (.lst f (rL r)) (.int k)=.ok (rO o):=
 bp rfl (by simp[rL,h]) (jr _ _)
def n_(o:HG):gj (rO o) .non=.ok (.bl o.isNone):=by cases o<;>rfl
def iH:∀l:HC,l≠[]->bC l∈l/\∀x∈l,x<=bC l
 | [],h=>absurd rfl h
 | [a],_=>by simp[bC]
 |a::b::l,_=>by
  obtain⟨h1,h2⟩:=iH (b::l) (by simp);simp only[bC];refine⟨?_,fun x hx=>?_⟩
  ·rcases Int.le_total a (bC (b::l))with q|q
   ·rw[Int.max_eq_right q];exact mem_cons_of_mem _ h1
   ·rw[Int.max_eq_left q];exact mem_cons_self
  ·rcases mem_cons.mp hx with rfl|hx
   ·lia
   ·have:=h2 x hx
    lia
def og(r:List (HG))(y:Int):HG:=r.getD y.toNat none
def mW{r:List (HG)}{y:Int}(h:y.toNat<r.length):r[y.toNat]?=some (og r y):=by simp[og,h]
structure Rk(Fw:List (HC))(cs:List Bool)(r:List (HG)):Prop where
 len:r.length=Fw.length
 ok:∀(k:Nat) (v:Int),r[k]?=some (some v)->(cs[k]?=some true/\v=0)\/(cs[k]?=some false/\∃l:HC,(Fw.getD k []).map (og r)=l.map some/\v=1+bC l)
 no:∀k:Nat,r[k]?=some none->cs[k]?=some false
structure yI(Fw:List (HC))(cs:List Bool):Prop where
 rng:∀k<Fw.length,∀y∈Fw.getD k [],0<=y/\y.toNat<Fw.length
 ne:∀k:Nat,cs[k]?=some false->Fw.getD k []≠ []
 len:cs.length=Fw.length
def Rk.step{Fw:List (HC)}{cs:List Bool}{r:List (HG)}{k:Nat}{l:HC}(F:yI Fw cs)(h:Rk Fw cs r)(hk:r[k]?=some none)(hl:(Fw.getD k []).map (og r)=l.map some):Rk Fw cs (r.set k (some (1+bC l))):=by
 have kl:k<r.length:=(List.getElem?_eq_some_iff.mp hk).1;have hlen:=h.len;have st:∀j,(r.set k (some (1+bC l)))[j]?=if j=k then some (some (1+bC l))else r[j]?:=fun j=>by
  rw[List.getElem?_set];by_cases e:k=j
  ·subst e;simp[kl]
  ·rw[if_neg e,if_neg fun q=>e q.symm]
 have og1:∀(y:Int) (v:Int),og r y=some v->og (r.set k (some (1+bC l))) y=some v:=fun y v hy=>by
  unfold og at *;rw[getD_eq_getElem?_getD]at hy ⊢;rw[st];by_cases e:y.toNat=k
  ·rw[e,hk]at hy;cases hy
  ·rw[if_neg e];exact hy
 have keep:∀(j:Nat) (l':HC),(Fw.getD j []).map (og r)=l'.map some->(Fw.getD j []).map (og (r.set k (some (1+bC l))))=l'.map some:=fun j l'=>by
  generalize Fw.getD j []=F
  induction F generalizing l' with
  |nil=>exact fun h=>h
  |cons y F ih=>
   intro h;cases l' with
   |nil=>simp at h
   |cons a l'=>simp only[map_cons,List.cons.injEq]at h ⊢;exact⟨og1 y a h.1,ih l' h.2⟩
 refine⟨by simpa using h.len,fun j v hj=>?_,fun j hj=>?_⟩
 ·rw[st]at hj;by_cases e:j=k
  ·subst e;rw[if_pos rfl]at hj;cases hj;exact .inr ⟨h.no j hk,l,keep j l hl,rfl⟩
  ·rw[if_neg e]at hj;exact(h.ok j v hj).imp id fun⟨a,l',b,c⟩=>⟨a,l',keep j l' b,c⟩
 ·rw[st]at hj;by_cases e:j=k
  ·rw[if_pos e]at hj;cases hj
  ·rw[if_neg e]at hj;exact h.no j hj
def nns(r:List (HG)):Nat:=(r.filter isNone).length
def sf:∀{r:List (HG)}{k:Nat} (v:Int),r[k]?=some none->nns (r.set k (some v))+1=nns r
 | [],k,v,h=>by simp at h
 |o::r,0,v,h=>by simp at h;subst h;simp[nns]
 |o::r,k+1,v,h=>by have:=sf (r:=r) (k:=k) v (by simpa using h);unfold nns at *;rw[s1_];cases o<;>simp<;>lia
def nP(l:HC):rL (l.map some)=iL l:=by simp[rL,iL,rO]
def B6(r:List (HG))(k:Nat)(v:Int):(rL r).set k (.int v)=rL (r.set k (some v)):=by simp[rL,List.map_set,rO]
def lV:∀{l:List (HG)},l.any isNone=false->l=(l.map fun o=>o.getD 0).map some
 | [],_=>rfl
 |none::l,h=>by simp at h
 |some v::l,h=>by have:=lV (l:=l) (by simpa using h);simp only[map_cons,Option.getD_some];rw[<- this]
def Cl(Fw:List (HC))(r:List (HG)):Prop:=∀k,r[k]?=some none->∃y∈Fw.getD k [],r[y.toNat]?=some none
def qo{Fw:List (HC)}{cs:List Bool}{r:List (HG)}{k:Nat}{F:HC}{x0 x1 x3 x4:Option PV}(hr:Rk Fw cs r)(W:yI Fw cs)(hk:Fw[k]?=some F)(hF:F.length<=1000):aM [2] 1 (a8 (ad 5)) (tgN 1) aP (mOp aq (ad 0) (ad 1)) [x0,x1,some (.lst .own (rL r)),x3,x4,some (.lst .bor (iL F))]=.ok (.lst .own (rL (F.map (og r)))):=by
 have kl:k<Fw.length:=(List.getElem?_eq_some_iff.mp hk).1;have eF:Fw.getD k []=F:=by simp[getD_eq_getElem?_getD,hk]
 refine be (xs:=iL F) (by simp) (by simp;lia) ?_;rw[show rL (F.map (og r))=F.map fun y=>rO (og r y) by simp[rL]];refine aR (a:=PV.int) (f:=fun y=>rO (og r y)) F fun y hy=>⟨[some (.lst .bor (rL r)),some (.int y)],by simp[tgN,aQ,bw,PV.HQ,dX],?_,jr _ _,jr _ _⟩
 obtain⟨y0,y1⟩:=W.rng k kl y (by rw[eF];exact hy);have:=qO (mW (r:=r) (y:=y) (by rw[hr.len];exact y1)) .bor;rw[toNat_of_nonneg y0]at this;simp[dX,this]
def v3{Fw:List (HC)}{calms:List Bool}(W:yI Fw calms)(hl:Fw.length<=1000)(hF:∀F∈Fw,F.length<=1000) :
  ∃r,Am [.lst .bor (calms.map .bl),.lst .bor (llL .bor Fw)]=.ok (.lst .own (rL r))/\Rk Fw calms r/\Cl Fw r:=by
 have bmap:∀(g:Fl->Fl),mapL g (calms.map .bl)=calms.map .bl:=fun g=>gG g _;have hc:=W.len
 suffices hh:gJ (Ea [some (.lst .bor (calms.map .bl)),some (.lst .bor (llL .bor Fw)),none,none,none,none]) (fun x=>∃r,x=.lst .own (rL r)/\Rk Fw calms r/\Cl Fw r) by obtain⟨x,e,r,rfl,hr,cl⟩:=hh;exact⟨r,ay e,hr,cl⟩
 unfold Ea;have c0:aM [] 1 (a8 (ad 0)) (tgN 0) aP (f6 (aY (ad 0)) (HZ 0) (mC .non)) [some (.lst .bor (calms.map .bl)),some (.lst .bor (llL .bor Fw)),none,none,none,none]=.ok (.lst .own (rL (calms.map fun b=>if b then some 0 else none))):=by refine be (xs:=calms.map .bl) (by simp[bmap]) (by simp;lia) ?_;rw[show rL (calms.map fun b=>if b then some (0:Int)else none)=calms.map fun b=>rO (if b then some 0 else none) by simp[rL]];exact aR (a:=PV.bl) (f:=fun b=>rO (if b then some 0 else none)) calms fun b hb=>⟨[some (.bl b)],by simp[tgN,aQ,b7,bw],by cases b<;>simp[rO],jr _ _,jr _ _⟩
 refine bu (av c0 (by simp[nQ]) rfl) ?_;simp only[s0_,s1_];refine bu (av (v:=.bl true) (by simp)) ?_;simp only[s0_,s1_];have R0:Rk Fw calms (calms.map fun b=>if b then some 0 else none):=by
  refine⟨by simpa using W.len,fun k v hk=>?_,fun k hk=>?_⟩
  ·rw[getElem?_map]at hk;obtain⟨b,hb,e⟩:=map_eq_some_iff.mp hk;cases b with
   |false=>simp at e
   |true=>simp at e;exact .inl ⟨hb,e.symm⟩
  ·rw[getElem?_map]at hk;obtain⟨b,hb,e⟩:=map_eq_some_iff.mp hk;cases b with
   |true=>simp at e
   |false=>exact hb
 generalize(calms.map fun b=>if b then some (0:Int)else none)=r0 at *;have ns0:nns r0<=1000:=by
  have:=List.length_filter_le isNone r0;unfold nns;have:=R0.len
  lia
 refine kR (Fin:=fun e=>∃r x3 x4 x5,e=[some (.lst .bor (calms.map .bl)),some (.lst .bor (llL .bor Fw)),some (.lst .own (rL r)),x3,x4,x5]/\Rk Fw calms r/\Cl Fw r) (fun m e=>∃r g x4 x5,e=[some (.lst .bor (calms.map .bl)),some (.lst .bor (llL .bor Fw)),some (.lst .own (rL r)),some (.bl g),x4,x5]/\Rk Fw calms r/\(g=true->m=nns r+1)/\(g=false->m=0/\Cl Fw r)) (nns r0+1) (by lia) ⟨r0,true,_,_,rfl,R0,fun _=>rfl,fun h=>by cases h⟩ (fun m e hP=>?_) (fun e hP=>?_)
 ·obtain⟨r,g,x4,x5,rfl,hr,hg1,hg2⟩:=hP;cases g with
  |false=>exact .inl ⟨by simp,r,_,_,_,rfl,hr,(hg2 rfl).2⟩
  |true=>
   refine .inr ⟨by simp,?_⟩;have it:iN (ad 1) [some (.lst .bor (calms.map .bl)),some (.lst .bor (llL .bor Fw)),some (.lst .own (rL r)),some (.bl false),x4,x5]=.ok (enP 0 (llL .bor Fw)):=by unfold iN;simp[gZ,cA Fw Fl.HR .bor rfl,cA Fw Fl.HS .bor rfl]
   refine Exists.elim (om (g:=tgT 2 (dA (tgN 4) (dA (tgN 5) mG))) (body:=mBr ((d6 (aA (mOp gj (mOp aq (ad 2) (ad 4)) (mC .non))) (aA (mOp cy (mC .non) (aM [2] 1 (a8 (ad 5)) (tgN 1) aP (mOp aq (ad 0) (ad 1)))))))
  (au (jE 2 (ad 4) (mOp bz (HZ 1) (ao (p1 (gM bC)) (ae (aM [2] 1 (a8 (ad 5)) (tgN 1) aP (mOp aq (ad 0) (ad 1))) ak))))
 (aH 3 (mC (.bl true))))
  aI) (fun k e=>∃r' g x4 x5,e=[some (.lst .bor (calms.map .bl)),some (.lst .bor (llL .bor Fw)),some (.lst .own (rL r')),some (.bl g),x4,x5]/\Rk Fw calms r'/\nns r'<=nns r/\(g=true->nns r'<nns r)/\(g=false->r'=r/\∀j<k,r[j]?=some none->∃y∈Fw.getD j [],r[y.toNat]?=some none)) it ⟨r,false,_,_,rfl,hr,Nat.le_refl _,nofun,fun _=>⟨rfl,fun j hj=>absurd hj (not_lt_zero _)⟩⟩ (fun k x e hx hP=>?_)) (fun e2 b=>?_)
   rotate_left
   ·obtain⟨b1,b2⟩:=b;rw[iU,sx]at b2;obtain⟨r',g,y4,y5,rfl,hr',_,g1,g2⟩:=b2;have eb:=af (a:=aH 3 (mC (.bl false))) (env:=[some (.lst .bor (calms.map .bl)),some (.lst .bor (llL .bor Fw)),some (.lst .own (rL r)),some (.bl true),x4,x5]) (av (v:=.bl false) (by simp)) b1;cases g with
    |true=>exact⟨nns r'+1,_,by have:=hg1 rfl;have:=g1 rfl;lia,.inl eb,r',true,_,_,rfl,hr',fun _=>rfl,fun h=>by cases h⟩
    |false=>obtain⟨e3,cl⟩:=g2 rfl;subst e3;refine⟨0,_,by have:=hg1 rfl;lia,.inl eb,r',false,_,_,rfl,hr',nofun,fun _=>⟨rfl,fun k hk=>cl k ?_ hk⟩⟩;rw[<- hr.len];exact(List.getElem?_eq_some_iff.mp hk).1
   ·obtain⟨r',g,x4,x5,rfl,hr',q0,q1,q2⟩:=hP;rw[iV]at hx;obtain⟨z,hz,rfl⟩:=map_eq_some_iff.mp hx;obtain⟨F,hkF,rfl⟩:=zY _ _ hz;have kl:k<Fw.length:=(List.getElem?_eq_some_iff.mp hkF).1;have eF:Fw.getD k []=F:=by simp[getD_eq_getElem?_getD,hkF]
    have cm:=qo (x0:=some (.lst .bor (calms.map .bl))) (x1:=some (.lst .bor (llL .bor Fw))) (x3:=some (.bl g)) (x4:=some (.int k)) hr' W hkF (hF F (List.mem_of_getElem? hkF));obtain⟨o,ho⟩:∃o,r'[k]?=some o:=⟨_,getElem?_eq_getElem (by rw[hr'.len];exact kl)⟩
    have ix:∀f,aq (.lst f (rL r')) (.int k)=.ok (rO o):=qO ho;refine⟨[some (.lst .bor (calms.map .bl)),some (.lst .bor (llL .bor Fw)),some (.lst .own (rL r')),some (.bl g),some (.int k),some (.lst .bor (iL F))],?_⟩;rw[Int.zero_add];cases o with
    |some v=>
     refine⟨_,rfl,.inl (aU (by simp[dX,ix,n_]) ar),r',g,_,_,rfl,hr',q0,q1,fun h=>?_⟩;obtain⟨e3,cl⟩:=q2 h;refine⟨e3,fun j hj hn=>?_⟩;by_cases e4:j=k
     ·rw[e4,<- e3,ho]at hn;cases hn
     ·exact cl j (by lia) hn
    |none=>
     cases an:(F.map (og r')).any isNone with
     |true=>
      refine⟨_,rfl,.inl (aU (by simp only[fT,cj,bN,d3,cm];simp[dX,ix,n_,pA,an,-List.any_map]) ar),r',g,_,_,rfl,hr',q0,q1,fun h=>?_⟩;obtain⟨e3,cl⟩:=q2 h;refine⟨e3,fun j hj hn=>?_⟩;by_cases e4:j=k
      ·rw[e4,eF];obtain⟨o,h1,h2⟩:=any_eq_true.mp an;obtain⟨y,hy,rfl⟩:=mem_map.mp h1;obtain⟨y0,y1⟩:=W.rng k kl y (by rw[eF];exact hy);refine⟨y,hy,?_⟩;rw[<- e3,mW (by rw[hr'.len];exact y1)];cases h:og r' y with
       |none=>rfl
       |some v=>rw[h]at h2;simp at h2
      ·exact cl j (by lia) hn
     |false=>
      have e5:=lV an;generalize(F.map (og r')).map (fun o=>o.getD 0)=l at e5;have ne:l≠[]:=fun e=>by rw[e]at e5;exact W.ne k (hr'.no k ho) (by rw[eF];exact List.map_eq_nil_iff.mp e5)
      have mx:gM bC (.lst .own (iL l))=.ok (.int (bC l)):=by unfold gM;simp only[bB,gF];rw[if_neg (by cases l<;>simp_all)]
      have st:=sf (1+bC l) ho;have ni:cy .non (.lst .own (iL l))=.ok (.bl true):=by rw[<- nP,pA];simp
      rw[e5,nP]at cm;refine⟨_,rfl,.inl (eT (by simp only[fT,cj,bN,d3,cm];simp[dX,ix,n_,ni]) (af (vL (v:=.int (1+bC l)) (xs:=rL r') (j:=k) (n:=k) (by simp only[bN,d3,bv,aS,bG,cm];simp[mx]) rfl (by simp) (sA (by simp[rL,hr'.len];exact kl)) (by simp)) (av (v:=.bl true) (by simp)))),?_⟩;simp only[s0_,s1_,B6];exact⟨_,true,_,_,rfl,hr'.step W ho (by rw[eF];exact e5),by lia,fun _=>by lia,fun h=>by cases h⟩
 ·obtain⟨r,x3,x4,x5,rfl,hr,cl⟩:=hP;exact cE (fe rfl) ⟨r,rfl,hr,cl⟩
def rJ:∀r,(rL r).all smp=true
 | []=>rfl
 |o::r=>by have:=rJ r;unfold rL at *;rw[map_cons,all_cons,this];cases o<;>rfl
def lD:∀r:List (HG),(rL r).findIdx? (eqD .non)=r.findIdx? isNone
 | []=>rfl
 |o::r=>by have:=lD r;unfold rL at *;rw[map_cons,findIdx?_cons,findIdx?_cons,this];cases o<;>rfl
def xk{r:List (HG)}(hl:r.length<=1000)(h:r.any isNone=true)(f:Fl):∃j:Nat,ff (.lst f (rL r)) .non=.ok (.int j)/\r[j]?=some none:=by
 unfold ff;simp only[nE,km,rJ,Bool.and_self,Bool.true_and,decide_eq_true_eq];rw[if_pos (by simp[rL];lia),lD];cases e:r.findIdx? isNone with
 |none=>rw[List.findIdx?_eq_none_iff]at e;obtain⟨o,h1,h2⟩:=any_eq_true.mp h;rw[e o h1]at h2;cases h2
 |some j=>
  refine⟨j,rfl,?_⟩;obtain⟨h1,h2,_⟩:=List.findIdx?_eq_some_iff_getElem.mp e;rw[getElem?_eq_getElem h1];cases h3:r[j]with
  |none=>rfl
  |some v=>rw[h3]at h2;cases h2
def nG:∀l:HC,(iL l).all shp=true
 | []=>rfl
 |a::l=>by have:=nG l;unfold iL at *;rw[map_cons,all_cons,this];rfl
def nB:∀l:HC,(iL l).all smp=true
 | []=>rfl
 |a::l=>by have:=nB l;unfold iL at *;rw[map_cons,all_cons,this];rfl
def sW(a b:Int):eqD (.int a) (.int b)=(b==a):=rfl
def xX(l:HC)(a:Int)(f:Fl):gn (.lst f (iL l)) (.int a)=.ok (.int (l.count a)):=by
 have:∀l:HC,(iL l).countP (eqD (.int a))=l.count a:=fun l=>by
  induction l with
  |nil=>rfl
  |cons b l ih=>have e:iL (b::l)=.int b::iL l:=rfl;rw[e,List.countP_cons,ih,sW,List.count_cons]
 unfold gn;simp only[nG,nB,Bool.and_true,this];rfl
def xl{l:HC}{a:Int}(hl:l.length<=1000)(h:a∈l)(f:Fl):∃j:Nat,ff (.lst f (iL l)) (.int a)=.ok (.int j)/\l[j]?=some a/\∀i<j,l[i]?≠some a:=by
 have fi:∀l:HC,(iL l).findIdx? (eqD (.int a))=l.findIdx? (·==a):=fun l=>by
  induction l with
  |nil=>rfl
  |cons b l ih=>have e:iL (b::l)=.int b::iL l:=rfl;rw[e,findIdx?_cons,findIdx?_cons,ih,sW]
 unfold ff;simp only[nG,nB,Bool.and_true,and_eq_true,decide_eq_true_eq];rw[if_pos ⟨rfl,by simp;lia⟩,fi];cases e:l.findIdx? (·==a)with
 |none=>rw[List.findIdx?_eq_none_iff]at e;have:=e a h;simp at this
 |some j=>
  obtain⟨h1,h2,h3⟩:=List.findIdx?_eq_some_iff_getElem.mp e;refine⟨j,rfl,?_,fun i hi q=>?_⟩
  ·rw[getElem?_eq_getElem h1,eq_of_beq h2]
  ·obtain⟨h4,h5⟩:=List.getElem?_eq_some_iff.mp q;exact h3 i hi (by rw[h5];simp)
def xm{l:HC}(h:l≠[])(f:Fl):aq (.lst f (iL l)) (.int (-1))=.ok (.int (l.getLast h)):=by
 have hl:0<l.length:=length_pos_iff.mpr h;have hn:ixN (iL l).length (-1)=some (l.length-1):=by
  unfold ixN;simp
  lia
 have h1:(iL l)[l.length-1]?=some (.int (l.getLast h)):=by rw[List.getLast_eq_getElem];simp[iL,show l.length-1<l.length by lia]
 have:atI (iL l) (-1)=some (.int (l.getLast h)):=by unfold atI;rw[hn];exact h1
 unfold aq;simp only[bB];rw[this];simp
structure Wk(Fw:List (HC))(r:List (HG))(l:HC):Prop where
 ne:l≠[]
 un:∀y∈l,0<=y/\r[y.toNat]?=some none
 nx:∀i,i+1<l.length->gt l (i+1)∈ Fw.getD (gt l i).toNat []
 nd:l.dropLast.Nodup
def oj{l:HC}{a:Int}{i:Nat}(h:i<l.length):gt (l++[a]) i=gt l i:=by simp[gt,getElem?_append_left h]
def Af{l:HC}{a:Int}:gt (l++[a]) l.length=a:=by simp[gt]
def sE{l:HC}(h:l≠[]):gt l (l.length-1)=l.getLast h:=by have hl:0<l.length:=length_pos_iff.mpr h;rw[List.getLast_eq_getElem];simp[gt,show l.length-1<l.length by lia]
def Wk.more{Fw:List (HC)}{r:List (HG)}{l:HC}(h:Wk Fw r l)(hn:l.Nodup){y:Int}(hy:y∈Fw.getD (l.getLast h.ne).toNat [])(hy0:0<=y)(hr:r[y.toNat]?=some none):Wk Fw r (l++[y]):=by
 have hl:0<l.length:=length_pos_iff.mpr h.ne;refine⟨by simp,fun a ha=>?_,fun i hi=>?_,by simpa using hn⟩
 ·rcases mem_append.mp ha with ha|ha
  ·exact h.un a ha
  ·rw[mem_singleton.mp ha];exact⟨hy0,hr⟩
 ·rw[length_append,List.length_singleton]at hi;by_cases e:i+1<l.length
  ·rw[oj e,oj (by lia)];exact h.nx i e
  ·have:i=l.length-1:=by lia
   subst this;rw[show l.length-1+1=l.length by lia,Af,oj (by lia),sE h.ne];exact hy
def lK{l:HC}(h:l≠[]):l.count (l.getLast h)=l.dropLast.count (l.getLast h)+1:=by have e:=List.dropLast_concat_getLast h;generalize l.getLast h=a at *;rw[<- e,List.count_append];simp
def xP{l:HC}(h:l≠[])(hd:l.dropLast.Nodup)(hc:l.count (l.getLast h)=1):l.Nodup:=by
 have e:=List.dropLast_concat_getLast h;rw[<- e,nodup_append];refine⟨hd,by simp,fun a ha b hb q=>?_⟩;rw[mem_singleton.mp hb]at q;have:=lK h;have h2:0<l.dropLast.count (l.getLast h):=List.count_pos_iff.mpr (by rw[<- q];exact ha)
 lia
def o5{Fw:List (HC)}{cs:List Bool}{r:List (HG)}(W:yI Fw cs)(hr:Rk Fw cs r)(cl:Cl Fw r)(hl:Fw.length<=256)(hF:∀F∈Fw,F.length<=1000)(hn:r.any isNone=true) :
  ∃wl:HC,sP [.lst .bor (rL r),.lst .bor (llL .bor Fw)]=.ok (.lst .own (iL wl))/\2<=wl.length/\wl.length<=257/\(∀y∈wl,0<=y/\r[y.toNat]?=some none)/\(∀i,i+1<wl.length->gt wl (i+1)∈ Fw.getD (gt wl i).toNat [])/\gt wl 0=gt wl (wl.length-1):=by
 have rl:=hr.len;have wlen:∀{l:HC},Wk Fw r l->l.length<=257:=fun {l} h=>by
  have:=mY (l':=(range Fw.length).map fun k:Nat=>(k:Int)) h.nd fun x hx=>by obtain⟨h1,h2⟩:=h.un x ((List.dropLast_sublist l).subset hx);have:=(List.getElem?_eq_some_iff.mp h2).1;exact mem_map.mpr ⟨x.toNat,mem_range.mpr (by lia),by lia⟩
  rw[List.length_dropLast,length_map,List.length_range]at this
  lia
 suffices hh:gJ (yj [some (.lst .bor (rL r)),some (.lst .bor (llL .bor Fw)),none]) (fun v=>∃wl:HC,v=.lst .own (iL wl)/\2<=wl.length/\wl.length<=257/\(∀y∈wl,0<=y/\r[y.toNat]?=some none)/\(∀i,i+1<wl.length->gt wl (i+1)∈ Fw.getD (gt wl i).toNat [])/\gt wl 0=gt wl (wl.length-1)) by obtain⟨v,h1,wl,rfl,h2⟩:=hh;exact⟨wl,ay h1,h2⟩
 unfold yj;obtain⟨j0,ij,rj⟩:=xk (by lia) hn .bor;refine bu (av (v:=.lst .own (iL [(j0:Int)])) (by simp[gv,dX,ij])) ?_;simp only[s0_,s1_];refine kR (Fin:=fun e=>∃l,e=[some (.lst .bor (rL r)),some (.lst .bor (llL .bor Fw)),some (.lst .own (iL l))]/\∃h:Wk Fw r l,l.count (l.getLast h.ne)≠ 1) (fun m e=>∃l,e=[some (.lst .bor (rL r)),some (.lst .bor (llL .bor Fw)),some (.lst .own (iL l))]/\Wk Fw r l/\m=258-l.length) 257 (by decide)
  ⟨[(j0:Int)],rfl,⟨by simp,fun y hy=>by rw[mem_singleton.mp hy];exact⟨by lia,by simpa using rj⟩,fun i hi=>by simp at hi,by simp⟩,rfl⟩ (fun m e hP=>?_) (fun e hP=>?_)
 ·obtain⟨l,rfl,hw,rfl⟩:=hP;have hll:=wlen hw;have i1:=fun f=>xm hw.ne f;have ct:(aA (mOp pEq (gv gn (ad 2) (mOp aq (ad 2) (mUn kT (HZ 1)))) (HZ 1))) [some (.lst .bor (rL r)),some (.lst .bor (llL .bor Fw)),some (.lst .own (iL l))]=.ok (decide (l.count (l.getLast hw.ne)=1)):=by
   simp[gv,i1,xX]
   lia
  by_cases hc:l.count (l.getLast hw.ne)=1
  ·refine .inr ⟨by rw[ct,decide_eq_true hc],?_⟩;obtain⟨y0,ry⟩:=hw.un _ (List.getLast_mem hw.ne);obtain⟨y,hy,hyr⟩:=cl _ ry;have kl:(l.getLast hw.ne).toNat<Fw.length:=by rw[<- rl];exact(List.getElem?_eq_some_iff.mp ry).1
   have eF:Fw[(l.getLast hw.ne).toNat]?=some (Fw.getD (l.getLast hw.ne).toNat []):=by simp[getD_eq_getElem?_getD,kl]
   have rng:=W.rng _ kl;have hFl:=hF _ (List.mem_of_getElem? eF);generalize eG:Fw.getD (l.getLast hw.ne).toNat []=F at *;have ix:aq (.lst .bor (llL .bor Fw)) (.int (l.getLast hw.ne))=.ok (.lst .bor (iL F)):=by
    have:=bp (x:=.lst .bor (llL .bor Fw)) (k:=(l.getLast hw.ne).toNat) (y:=.lst .bor (iL F)) rfl (by simp[llL,eF]) (by simp)
    rwa [toNat_of_nonneg y0]at this
   have cp:(aM [0] 1 (a8 (mOp aq (ad 1) (mOp aq (ad 2) (mUn kT (HZ 1))))) (tgN 1) (aA (mOp gj (mOp aq (ad 0) (ad 1)) (mC .non))) (ad 1)) [some (.lst .bor (rL r)),some (.lst .bor (llL .bor Fw)),some (.lst .own (iL l))]=.ok (.lst .own (iL (F.filter fun y=>(og r y).isNone))):=by
    refine be (xs:=iL F) (by simp[i1,ix]) (by simp;lia) ?_;have:=kb (env:=bw [0] 1 [some (.lst .bor (rL r)),some (.lst .bor (llL .bor Fw)),some (.lst .own (iL l))]) (g:=tgN 1) (mc:=aA (mOp gj (mOp aq (ad 0) (ad 1)) (mC .non))) (me:=ad 1) (fun y=>(og r y).isNone) (fun y=>y) F fun x hx=>⟨[some (.lst .bor (rL r)),some (.int x)],by simp[tgN,aQ,bw,PV.HQ,dX],?_,fun _=>by simp⟩
    ·simpa using this
    ·obtain⟨x0,x1⟩:=rng x hx;have:=qO (mW (r:=r) (y:=x) (by lia)) .bor;rw[toNat_of_nonneg x0]at this;simp[dX,this,n_]
   obtain⟨b,G,eB⟩:∃b G,F.filter (fun y=>(og r y).isNone)=b::G:=by
    have:y ∈ F.filter fun y=>(og r y).isNone:=mem_filter.mpr ⟨hy,by
     have:=mW (r:=r) (y:=y) ((List.getElem?_eq_some_iff.mp hyr).1);rw[hyr]at this;rw[<- Option.some.inj this];rfl⟩
    cases e:F.filter (fun y=>(og r y).isNone)with
    |nil=>rw[e]at this;exact nomatch this
    |cons b G=>exact⟨b,G,rfl⟩
   obtain⟨hb1,hb2⟩:=mem_filter.mp (show b∈F.filter (fun y=>(og r y).isNone) by rw[eB];exact mem_cons_self);obtain⟨b0,b1⟩:=rng b hb1;have hbr:r[b.toNat]?=some none:=by
    rw[mW (by lia)];cases h:og r b with
    |none=>rfl
    |some v=>rw[h]at hb2;cases hb2
   rw[eB]at cp;have ib:aq (.lst .own (iL (b::G))) (.int 0)=.ok (.int b):=by simpa[gt]using lB (f:=.own) (cs:=b::G) (i:=0) (by lia) (by simp)
   refine⟨_,_,?_,.inl (eD (v:=.int b) (xs:=iL l) (by simp only[bN,cp];simpa using ib) rfl (by simp) (by simp;lia)),l++[b],by simp[iL],hw.more (xP hw.ne hw.nd hc) (by rw[eG];exact hb1) b0 hbr,rfl⟩;rw[length_append,List.length_singleton]
   lia
  ·exact .inl ⟨by rw[ct,decide_eq_false hc],l,rfl,hw,hc⟩
 ·obtain⟨l,rfl,hw,hc⟩:=hP;have hll:=wlen hw;have hl0:0<l.length:=length_pos_iff.mpr hw.ne;obtain⟨j,pj,lj,jm⟩:=xl (by lia) (List.getLast_mem hw.ne) .lnt;have jl:j<l.length:=(List.getElem?_eq_some_iff.mp lj).1;have j2:j<l.length-1:=by
   have cp:0<l.count (l.getLast hw.ne):=List.count_pos_iff.mpr (List.getLast_mem hw.ne);have e2:=lK hw.ne;have h2:l.getLast hw.ne∈l.dropLast:=List.count_pos_iff.mp (by lia);obtain⟨i,hi⟩:=List.getElem?_of_mem h2;have il:=(List.getElem?_eq_some_iff.mp hi).1;rw[List.length_dropLast]at il;have:l[i]?=some (l.getLast hw.ne):=by rw[<- hi,List.getElem?_dropLast,if_pos il]
   refine Nat.lt_of_le_of_lt (Nat.le_of_not_lt fun q=>jm i q this) il
  have gd:∀i,gt (l.drop j) i=gt l (j+i):=fun i=>by simp[gt]
  refine cE (aT (v:=.lst .own (iL (l.drop j))) ?_) ⟨l.drop j,rfl,by rw[length_drop];lia,by rw[length_drop];lia,fun y hy=>hw.un y (List.mem_of_mem_drop hy),fun i hi=>?_,?_⟩
  ·have:=uM l j (by lia);simp[gv,xm hw.ne,pj,this]
  ·rw[length_drop]at hi;rw[gd,gd];exact hw.nx (j+i) (by lia)
  ·rw[gd,gd,length_drop,show j+(l.length-j-1)=l.length-1 by lia,sE hw.ne,Nat.add_zero];simp[gt,lj]
structure RkA(z:Pz)(R:HC):Prop where
 len:R.length=z.N
 ok:∀k<z.N,gt R k=if z.cal (z.dg k)then 0 else 1+bC ((z.fol (z.dg k)).map fun y=>gt R y.toNat)
structure RdA(z:Pz)(wl:HC):Prop where
 l2:2<=wl.length
 l7:wl.length<=257
 un:∀y∈wl,0<=y/\y.toNat<z.N/\z.cal (z.dg y.toNat)=false
 nx:∀i,i+1<wl.length->gt wl (i+1)∈ z.fol (z.dg (gt wl i).toNat)
 ro:gt wl 0=gt wl (wl.length-1)
def rdV(z:Pz)(f:Fl)(wl:HC):HK:=llL f (wl.map fun y=>z.dg y.toNat)
inductive Ans(z:Pz):PV->Prop
 |lv (k:Nat) (nm:HC):k<z.N->z.lvC (z.dg k)=some nm->(∀j<k,z.lvC (z.dg j)=none)->Ans z (.tup [.str "leaves",.lst .own (iL (z.dg k)),.lst .frz (iL nm)])
 |sk (k:Nat):(∀j<z.N,z.lvC (z.dg j)=none)->k<z.N->z.skC (z.dg k)=true->(∀j<k,z.skC (z.dg j)=false)->Ans z (.tup [.str "stuck",.lst .own (iL (z.dg k))])
 |rd (wl:HC):(∀j<z.N,z.lvC (z.dg j)=none)->(∀j<z.N,z.skC (z.dg j)=false)->RdA z wl->Ans z (.tup [.str "round",.lst .own (rdV z .own wl)])
 |rk (R:HC):(∀j<z.N,z.lvC (z.dg j)=none)->(∀j<z.N,z.skC (z.dg j)=false)->RkA z R->Ans z (.tup [.str "calm",.lst .own (iL R)])
section
variable{z:Pz}
def lZ:z.Fw.length=z.N:=by simp[Pz.Fw,lW]
def tL{k:Nat}(h:k<z.N):z.Fw.getD k []=z.fol (z.dg k):=by simp[Pz.Fw,getD_eq_getElem?_getD,yE h]
def kA(K:z.K){k:Nat}{y:Int}(hy:y∈z.fol (z.dg k)):0<=y/\y.toNat<z.N:=by obtain⟨nm,_,rfl⟩:=mem_map.mp hy;obtain⟨h0,h1,_⟩:=g_ K (eH K (fE K (k:Int)) nm);exact⟨h0,h1⟩
def va(K:z.K)(cs:HC):(z.tr cs).length<=256:=rA K.n8
def sG(K:z.K):∀F∈z.Fw,F.length<=1000:=fun F hF=>by
 obtain⟨cs,_,rfl⟩:=mem_map.mp hF;have:=va K cs;simp only[Pz.fol,length_map]
 lia
def Gu(K:z.K)(hs:∀k<z.N,z.skC (z.dg k)=false):yI z.Fw z.cm:=by
 refine⟨fun k hk y hy=>?_,fun k hk q=>?_,by rw[qV,lZ]⟩
 ·rw[lZ]at hk ⊢;rw[tL hk]at hy;exact kA K hy
 ·have kl:k<z.N:=by rw[<- qV];exact(List.getElem?_eq_some_iff.mp hk).1
  rw[lM kl]at hk;have h1:=hs k kl;unfold Pz.skC at h1;rw[Option.some.inj hk]at h1;rw[tL kl]at q;rw[List.map_eq_nil_iff.mp q]at h1;simp at h1
def gx(a b:PV)(h:b.has Fl.HR=false):aq (.tup [a,b]) (.int 1)=.ok b:=bp (x:=.tup [a,b]) (k:=1) (y:=b) rfl rfl h
def B3(K:z.K)(hv:∀k<z.N,z.lvC (z.dg k)=none)(hs:∀k<z.N,z.skC (z.dg k)=false):∃v,DO [z.T,.lst .bor z.cmV,.lst .frz (z.wy .frz)]=.ok v/\Ans z v:=by
 have hN:=EB K;have W:=Gu K hs;obtain⟨r,hr,Rr,cl⟩:=v3 W (by rw[lZ];lia) (sG K)
 suffices hh:gJ (Es [some z.T,some (.lst .bor z.cmV),some (.lst .frz (z.wy .frz)),none,none]) (Ans z) by obtain⟨v,h1,h2⟩:=hh;exact⟨v,ay h1,h2⟩
 unfold Es;have cp:aM [0] 1 (a8 (ad 2)) (tgN 1) aP (aM [0] 1 (a8 (ad 1)) (tgN 1) aP (ao (ax pT) (ae (ad 0) (ae (mOp aq (ad 1) (HZ 1)) ak)))) [some z.T,some (.lst .bor z.cmV),some (.lst .frz (z.wy .frz)),none,none]=.ok (.lst .own (llL .own z.Fw)):=by
  refine be (xs:=z.wy .frz) (by simp[jc (g:=Fl.HM) (f:=.frz) rfl]) (by rw[p9];lia) ?_;rw[show llL .own z.Fw=z.St.map fun cs=>PV.lst .own (iL (z.fol cs)) by simp[llL,Pz.Fw]];refine aR (a:=fun cs=>PV.lst .frz (z.nx .frz cs)) (f:=fun cs=>PV.lst .own (iL (z.fol cs))) z.St fun cs hcs=>⟨[some z.T,some (.lst .frz (z.nx .frz cs))],by simp[tgN,aQ,bw,PV.HQ,Pz.nx,kZ (g:=Fl.HQ) (f:=.frz) rfl],?_,by simp,by simp⟩
  have tl:=va K cs;refine be (xs:=z.nx .frz cs) (by simp[Pz.nx,kZ (g:=Fl.HM) (f:=.frz) rfl]) (by rw[qy];lia) ?_;rw[show iL (z.fol cs)=(z.tr cs).map fun nm=>PV.int (z.nu cs nm) by simp[Pz.fol,iL]];refine aR (a:=fun nm=>PV.tup [.lst .frz (iL nm),.lst .frz (iL (z.sp cs nm))]) (f:=fun nm=>PV.int (z.nu cs nm)) (z.tr cs) fun nm hm=>⟨[some z.T,some (.tup [.lst .frz (iL nm),.lst .frz (iL (z.sp cs nm))])],by simp[tgN,aQ,bw,PV.HQ],?_,by simp,by simp⟩
  have nk:=iB (w:=z.w) (fc:=.frz) (cs:=z.sp cs nm) jS K;have it:=gx (.lst .frz (iL nm)) (.lst .frz (iL (z.sp cs nm))) (by simp);simp[it,nk,aB]
 have hcm:∀g,mapL g z.cmV=z.cmV:=fun g=>gG g _;refine bu (av cp (by simp only[eO,d_];rw[cA _ _ _ rfl];rfl) rfl) ?_;simp only[s0_,s1_];have hr':Am [.lst .bor z.cmV,.lst .bor (llL .bor z.Fw)]=.ok (.lst .own (rL r)):=hr;refine bu (av (v:=.lst .own (rL r)) (by simp[hcm,hr',aB,nQ]) (by simp[nQ]) rfl) ?_;simp only[s0_,s1_];have ni:∀f,pIn .non (.lst f (rL r))=.ok (.bl (r.any isNone)):=fun f=>Go r f;cases an:r.any isNone with
 |true=>
  obtain⟨wl,h1,h2,h3,h4,h5,h6⟩:=o5 W Rr cl (by rw[lZ];exact hN) (sG K) an;rw[an]at ni;have un:∀y∈wl,0<=y/\y.toNat<z.N/\z.cal (z.dg y.toNat)=false:=fun y hy=>by
   obtain⟨a,b⟩:=h4 y hy;have c:=Rr.no _ b;have kl:y.toNat<z.N:=by rw[<- qV];exact(List.getElem?_eq_some_iff.mp c).1
   rw[lM kl]at c;exact⟨a,kl,Option.some.inj c⟩
  have cp:(aM [0] 1 (a8 (ao (ax sP) (ae (ad 4) (ae (ad 3) ak)))) (tgN 1) aP (ao (ax ka) (ae (ad 0) (ae (ad 1) ak)))) [some z.T,some (.lst .bor z.cmV),some (.lst .frz (z.wy .frz)),some (.lst .own (llL .own z.Fw)),some (.lst .own (rL r))]=.ok (.lst .own (rdV z .own wl)):=by
   refine be (xs:=iL wl) (by simp[dX,h1,aB]) (by simp;lia) ?_;rw[show rdV z .own wl=wl.map fun y=>PV.lst .own (iL (z.dg y.toNat)) by simp[rdV,llL]];refine aR (a:=PV.int) (f:=fun y=>PV.lst .own (iL (z.dg y.toNat))) wl fun y hy=>⟨[some z.T,some (.int y)],by simp[tgN,aQ,bw,PV.HQ],?_,by simp,by simp⟩
   have:=e9 (w:=z.w) K y;simp[this,aB,Pz.dg,toNat_of_nonneg (un y hy).1]
  refine vZ (by simp[dX,ni]) (cE (v:=.tup [.str "round",.lst .own (rdV z .own wl)]) (aT (by simp only[qS,aS,d3,bG,cp];simp) (by simp[rdV,cA _ Fl.HS .own rfl])) (.rd wl hv hs ⟨h2,h3,un,fun i hi=>?_,h6⟩));have:=h5 i hi
  rwa [tL (un _ (gt_mem (by lia))).2.1]at this
 |false=>
  rw[an]at ni;refine bu (aU (by simp[dX,ni]) ar) ?_;have e2:=lV an;generalize(r.map fun o=>o.getD 0)=R at e2;subst e2;rw[nP];have rl:=Rr.len;rw[length_map,lZ]at rl;have ge:∀k,k<z.N->(R.map some)[k]?=some (some (gt R k)):=fun k hk=>by simp[gt,show k<R.length by lia]
  refine cE (v:=.tup [.str "calm",.lst .own (iL R)]) (by simp[n6]) (.rk R hv hs ⟨rl,fun k hk=>?_⟩);rcases Rr.ok k _ (ge k hk)with⟨h1,h2⟩ |⟨h1,l,h2,h3⟩
  ·rw[lM hk]at h1;rw[if_pos (Option.some.inj h1),h2]
  ·rw[lM hk]at h1;rw[if_neg (by rw[Option.some.inj h1];decide),h3,<- show l=(z.fol (z.dg k)).map (fun y=>gt R y.toNat)from ?_];rw[tL hk]at h2;have:(z.fol (z.dg k)).map (og (R.map some))=((z.fol (z.dg k)).map fun y=>gt R y.toNat).map some:=by rw[map_map];refine map_congr_left fun y hy=>?_;have:=mW (r:=R.map some) (y:=y) (by rw[length_map,rl];exact(kA K hy).2);rw[ge _ (kA K hy).2]at this;exact(Option.some.inj this).symm
   rw[this]at h2;exact(List.map_inj_right (fun _ _ h=>Option.some.inj h)).mp h2.symm
def Ans.own{v:PV}(h:Ans z v)(p:Fl->Bool)(h1:p .own=false)(h2:p .frz=false):v.has p=false:=by cases h<;>simp[h1,h2,rdV,cA _ p .own h1]
def zX(K:z.K)(h4:z.many=true->z.n<=4):∃v,xy [z.T,.bl z.many]=.ok v/\Ans z v:=by
 have hN:=EB K;have s2:=K.s2;have pp:0<z.s ^ z.n:=Int.pow_pos (by lia)
 suffices hh:gJ (x9 [some z.T,some (.bl z.many),none,none,none,none]) (Ans z) by obtain⟨v,h1,h2⟩:=hh;exact⟨v,ay h1,h2⟩
 unfold x9;refine bu (ef (v:=.non) (by simp[gf,aB])) ?_;refine bu (ef (v:=.non) (by simp[kf K h4,aB])) ?_;have hS:z.s ^ z.n=(z.N:Int):=by show _=(((z.s ^ z.n).toNat:Nat):Int);lia
 have st:=h_ (w:=z.w) K;rw[hS]at st;have c1:aM [0] 1 (cM (ae (ao (ax pS) (ae (ad 0) ak)) ak)) (tgN 1) aP (ao (ax ka) (ae (ad 0) (ae (ad 1) ak))) [some z.T,some (.bl z.many),none,none,none,none]=.ok (.lst .own (llL .own z.St)):=by refine be (xs:=dO 0 z.N) (dL (n:=z.N) (by simp[st,aB]) (by lia)) (by rw[cv];lia) ?_;rw[show llL .own z.St=(range z.N).map fun k:Nat=>PV.lst .own (iL (z.dg k)) by simp[llL,Pz.St]];exact aR (a:=fun k:Nat=>PV.int (0+(k:Int))) (f:=fun k:Nat=>PV.lst .own (iL (z.dg k))) (range z.N) fun k hk=>⟨[some z.T,some (.int (0+(k:Int)))],by simp[tgN,aQ,bw,PV.HQ],by simp[e9 K,aB],by simp,by simp⟩
 have sl:z.St.length<=256:=by rw[lW];exact hN
 have sm:∀cs∈z.St,Ce z.n z.s cs:=fun cs h=>by obtain⟨k,_,rfl⟩:=mem_map.mp h;exact fE K k
 refine bu (av c1 (by simp only[eO,d_];rw[cA _ _ _ rfl];rfl) rfl) ?_;simp only[s0_,s1_];have c2:aM [0] 1 (a8 (ad 2)) (tgN 1) aP (eP cC (ad 0) (ae (ad 1) ak)) [some z.T,some (.bl z.many),some (.lst .own (llL .own z.St)),none,none,none]=.ok (.lst .own z.cmV):=by refine be (xs:=llL .lnt z.St) (by simp) (by simp;lia) ?_;rw[show z.cmV=z.St.map fun cs=>PV.bl (z.cal cs) by simp only[Pz.cmV,Pz.cm,map_map];rfl];exact aR (a:=fun cs=>PV.lst .lnt (iL cs)) (f:=fun cs=>PV.bl (z.cal cs)) z.St fun cs hcs=>⟨[some z.T,some (.lst .bor (iL cs))],by simp[tgN,aQ,bw,PV.HQ],by simp[cC,tz qW K (sm cs hcs),aB],by simp,by simp⟩
 have hcm:∀g,mapL g z.cmV=z.cmV:=fun g=>gG g _;have hch:∀p,hasL p z.cmV=false:=fun p=>tB p _;refine bu (av c2 (by simp[hch]) rfl) ?_;simp only[s0_,s1_];have c3:aM [0,1] 1 (a8 (ad 2)) (tgN 2) aP (ao (ax sK) (ae (ad 0) (ae (ad 2) (ae (ad 1) ak)))) [some z.T,some (.bl z.many),some (.lst .own (llL .own z.St)),some (.lst .own z.cmV),none,none]=.ok (.lst .own (z.wy .own)):=by
  refine be (xs:=llL .lnt z.St) (by simp) (by simp;lia) ?_;refine aR (a:=fun cs=>PV.lst .lnt (iL cs)) (f:=fun cs=>PV.lst .own (z.nx .own cs)) z.St fun cs hcs=>⟨[some z.T,some (.bl z.many),some (.lst .bor (iL cs))],by simp[tgN,aQ,bw,PV.HQ],?_,?_,?_⟩
  ·simp[wH qW K (sm cs hcs),aB,gY (p:=Fl.HU) (f:=.own) rfl rfl,Pz.nx]
  ·simp[gY (p:=Fl.HU) (f:=.own) rfl rfl,Pz.nx]
  ·simp[gY (p:=Fl.HS) (f:=.own) rfl rfl,Pz.nx]
 refine bu (av c3 (by simp[p_ (p:=Fl.HS) (f:=.own) rfl rfl]) rfl) ?_;simp only[s0_,s1_];refine bu (fS (v:=.lst .own (z.wy .own)) rfl) ?_;simp only[s0_,s1_,aL,jc (g:=Fl.HP) (f:=.own) rfl,cB];have wl:=jc (z:=z) (g:=Fl.HM) (f:=.frz) rfl;have wt:=jc (z:=z) (g:=Fl.HN) (f:=.frz) rfl;simp only[cz,eA]at wl wt;obtain⟨r1,e1,h1⟩:=qJ K;have b1:∀p:Fl->Bool,p .own=false->p .frz=false->r1.has p=false:=fun p q1 q2=>by rcases h1 with⟨rfl,_⟩ |⟨k,nm,_,_,_,rfl⟩<;>simp[q1,q2]
 refine bu (av (v:=r1) (by simp[wl,wt,hcm,e1,aB,b1 Fl.HU rfl rfl]) (by simp[b1 Fl.HS rfl rfl]) rfl) ?_;simp only[s0_,s1_];rcases h1 with⟨rfl,hv⟩ |⟨k,nm,hk,g1,g2,rfl⟩
 ·obtain⟨r2,e2,h2⟩:=vt K;have b2:∀p:Fl->Bool,p .own=false->p .frz=false->r2.has p=false:=fun p q1 q2=>by rcases h2 with⟨rfl,_⟩ |⟨k,_,_,_,rfl⟩<;>simp[q1,q2]
  refine bu (eT (by simp[gj,PV.isNon]) (av (v:=r2) (by simp[wl,wt,hcm,e2,aB,b2 Fl.HU rfl rfl]) (by simp[b2 Fl.HS rfl rfl]) rfl)) ?_;simp only[s0_,s1_];rcases h2 with⟨rfl,hs⟩ |⟨k,hk,g1,g2,rfl⟩
  ·obtain⟨v,e3,h3⟩:=B3 K hv hs;refine bu (eT (by simp[gj,PV.isNon]) (av (v:=v) (by simp[wl,wt,hcm,e3,aB,h3.own Fl.HU rfl rfl]) (by simp[h3.own Fl.HS rfl rfl]) rfl)) ?_;simp only[s0_,s1_];exact cE (fe rfl) h3
  ·refine bu (aU (by simp[gj,PV.isNon]) ar) ?_;exact cE (fe rfl) (.sk k hv hk g1 g2)
 ·refine bu (aU (by simp[gj,PV.isNon]) ar) ?_;refine bu (aU (by simp[gj,PV.isNon]) ar) ?_;exact cE (fe rfl) (.lv k nm hk g1 g2)
end
def kd:Sd->Str
 |.row h _|.num h _=>h
 |.tab _ _ _ _ _=>"table"
 |.lk _=>"look"
def vG:rZ.all (fun z=>shp (.str z))=true:=by decide +kernel
def vH:pz.all (fun q=>shp (.str q.1))=true:=by decide +kernel
def vI:shp (.str "table")=true/\shp (.str "look")=true:=by decide +kernel
def qK{s:Sd}(h:SOk s):shp (.str (kd s))=true:=by
 cases s with
 |row hd ns=>exact all_eq_true.mp vG _ h.1
 |num hd ns=>exact all_eq_true.mp vH _ h.1
 |tab _ _ _ _ _=>exact vI.1
 |lk _=>exact vI.2
def A9(g:Fl)(s:Sd):aq (pvS g s) (.int 0)=.ok (.str (kd s)):=by cases s<;>exact bp (k:=0) rfl rfl rfl
def zb{a b:Str}(ha:shp (.str a)=true)(hb:shp (.str b)=true):pEq (.str a) (.str b)=.ok (.bl (decide (a=b)))/\pNe (.str a) (.str b)=.ok (.bl (!decide (a=b))):=by
 have:PyData.eqv (PV.str a).data (PV.str b).data=decide (a=b):=by simp only[PV.data,PyData.eqv];by_cases h:a=b<;>simp[h]
 constructor
 ·unfold pEq;rw[ha,hb,this];rfl
 ·unfold pNe;rw[ha,hb,this];rfl
def Bu{a:Str}{zs:HF}(ha:shp (.str a)=true)(h:∀z∈zs,shp (.str z)=true)(hm:a∈zs):cy (.str a) (.tup (sL zs))=.ok (.bl false):=by
 unfold cy;simp only[bB];have h1:(sL zs).all shp=true:=all_eq_true.mpr fun v hv=>by obtain⟨z,hz,rfl⟩:=mem_map.mp hv;exact h z hz
 have h2:inL (.str a) (sL zs)=true:=by unfold inL sL;rw[List.any_map,any_eq_true];exact⟨a,hm,by simp[PV.data,PyData.eqv]⟩
 rw[ha,h1,h2];rfl
def qX:HF:=["pass","count","table"]
def doi:HF:=["turn","spoil","may","measure","look"]
def Da:(qX++doi ++(["net","state"]:HF)).all (fun z=>shp (.str z))=true:=by decide +kernel
def mX{z:Str}(h:z∈qX++doi ++(["net","state"]:HF)):shp (.str z)=true:=all_eq_true.mp Da z h
structure Tx(A:List Sd)(s:Sd)(r:List Sd):Prop where
 ok:∀y∈A++s::r,SOk y
 len:(A++s::r).length<=100
 fst:∃a A',A=a::A'/\A.length=1/\kd a≠"net"
 lst:∃A' b,A=A'++[b]/\kd b∈qX
 st:kd s="state"
 dos:∀y∈r,kd y∈doi
def bo(R:PV):PV:=(R.HW Fl.HM).HW Fl.HN
def Nw(f:Fl):Prop:=f.HP=.frz/\f.HS=false/\f.HU=false
def Stp(R:PV)(cs:HC)(y:Sd)(cs':HC)(z:Str):Prop:=∃(f g:Fl) (dn:HC),Nw f/\Nw g/\sT [bo R,.lst .frz (iL cs),pvS .frz y]=.ok (.tup [.lst f (iL dn),.lst g (iL cs')])/\sM [bo R,.tup [.lst .frz (iL dn),.lst .frz (iL cs')],pvS .frz y]=.ok (.str z)
inductive lX(R:PV):HC->List Sd->HF->Prop
 |nil:lX R cs [] []
 |cons:Stp R cs y cs' z->lX R cs' r zs->lX R cs (y::r) (z::zs)
section
variable{A r:List Sd}{s:Sd}
abbrev ftx(A r:List Sd)(s:Sd):HK:=(A++s::r).map (pvS .frz)
def jL{g:Fl->Fl}(h:g .frz=.frz)(ss:List Sd):mapL g (ss.map (pvS .frz))=ss.map (pvS .frz):=by rw[pX,h]
def v8{ss:List Sd}{i:Nat}{z:Sd}(hz:ss[i]?=some z)(f:Fl):aq (.lst f (ss.map (pvS .frz))) (.int i)=.ok (pvS .frz z):=
 bp rfl (by simp[hz]) (iu _ _ rfl z)
def oO(X:Tx A s r):sQ [.lst .frz (ftx A r s)]=.ok (.int A.length):=by
 obtain⟨a,A',e,hn,nn⟩:=X.fst;have hz:=X.ok a (by simp[e]);refine ay ?_;show yn [some (.lst .frz (ftx A r s))]=_;unfold yn;refine aT ?_ (by simp);have i0:=v8 (ss:=A++s::r) (i:=0) (z:=a) (by simp[e]) .frz;have e1:=(zb (qK hz) (mX (z:="net") (by decide +kernel))).1;have m1:mapL Fl.HM (ftx A r s)=ftx A r s:=jL rfl _;have ee:(mOp pEq (mOp aq (mOp aq (ad 0) (HZ 0)) (HZ 0)) (mC (.str "net"))) [some (.lst .frz (ftx A r s))]=.ok (.bl (decide (kd a="net"))):=by simp only[bN,aZ,d3,getElem?_cons_zero,aE,aL,cz,m1,Res.HY];rw[show(0:Int)=((0:Nat):Int)from rfl,i0];simp only[Res.HY];rw[show((0:Nat):Int)=0 from rfl,A9];simp only[Res.HY,e1]
 simp only[lG,cj,ee];rw[hn];simp[nn]
def wu(X:Tx A s r):DL [.lst .frz (ftx A r s)]=.ok .non:=by
 have sa:=oO X;obtain⟨a,A',ea,hn,nn⟩:=X.fst;obtain⟨A2,b,eb,hb⟩:=X.lst;have hl:=X.len;obtain⟨ss,hss⟩:∃ss,A++s::r=ss:=⟨_,rfl⟩
 have ok:=X.ok;have m1:mapL Fl.HM (ss.map (pvS .frz))=ss.map (pvS .frz):=jL rfl ss;have m2:mapL Fl.HN (ss.map (pvS .frz))=ss.map (pvS .frz):=jL rfl ss;unfold ftx at sa ⊢;rw[hss]at sa hl ok ⊢;obtain⟨K,hK⟩:∃K,ss.map kd=K:=⟨_,rfl⟩
 have n0:1<=A.length:=by rw[eb];simp
 have hKl:K.length=ss.length:=by rw[<- hK];simp
 have kL:A.length<K.length:=by rw[hKl,<- hss];simp
 have k0:K[0]?=some (kd a):=by rw[<- hK,<- hss,ea];rfl
 have k1:K[A.length]?=some ("state":Str):=by rw[<- hK,<- hss,<- X.st];simp
 have k2:K[A.length-1]?=some (kd b):=by
  rw[<- hK,<- hss];have:A.length=A2.length+1:=by rw[eb];simp
  rw[this,eb];simp
 have kd':∀y∈K.drop (A.length+1),y∈doi:=fun y hy=>by rw[<- hK,<- hss,map_append,map_cons,show A.map kd++kd s::r.map kd=(A.map kd++[kd s])++ r.map kd by simp,List.drop_left' (by simp)]at hy;obtain⟨z,hz,rfl⟩:=mem_map.mp hy;exact X.dos z hz
 have ks:shp (.str "state")=true:=mX (by decide +kernel);refine fv ?_;show Ends (El [some (.lst .frz (ss.map (pvS .frz))),none,none,none,none]);unfold El;have c1:aM [] 1 (a8 (ad 0)) (tgN 0) aP (mOp aq (ad 0) (HZ 0)) [some (.lst .frz (ss.map (pvS .frz))),none,none,none,none]=.ok (.lst .own (sL K)):=by
  refine be (xs:=ss.map (pvS .frz)) (by simp[m1]) (by simp;lia) ?_;rw[show sL K=ss.map fun y=>PV.str (kd y) by rw[<- hK];simp[sL]];refine aR (a:=pvS .frz) (f:=fun y=>.str (kd y)) ss fun y hy=>⟨[some (pvS .frz y)],?_,?_,by simp,by simp⟩
  ·have:(pvS .frz y).HQ=pvS .frz y:=ir Fl.HQ .frz y;rw[this];cases y<;>rfl
  ·simp only[bN,aZ,d3,getElem?_cons_zero,aE,Res.HY];rw[ir,cz,A9]
 refine dr (av c1) ?_;simp only[s0_,s1_];refine dr (av (v:=.int A.length) (by simp[m1,m2,sa,aB])) ?_;simp only[s0_,s1_];have i0:∀f,aq (.lst f (sL K)) (.int 0)=.ok (.str (kd a)):=fun f=>bD (by lia) k0;have i1:∀f,aq (.lst f (sL K)) (.int A.length)=.ok (.str "state"):=fun f=>bD (by lia) (by simpa using k1);have i2:∀f,aq (.lst f (sL K)) (.int ((A.length:Int)-1))=.ok (.str (kd b)):=fun f=>bD (by lia) (by rw[show((A.length:Int)-1).toNat=A.length-1 by lia];exact k2);have e1:=(zb (qK (ok a (by rw[<- hss,ea];simp))) (mX (z:="net") (by decide +kernel))).1;have e2:=(zb ks ks).2;have e3:=Bu (qK (ok b (by rw [<- hss,eb];simp))) (zs:=qX) (fun k hk=>mX (by
  simp[hk])) hb
 refine dr (av (v:=.tup (sL (qX))) ?_) ?_
 ·rw[decide_eq_false nn]at e1;simp[i0,e1];rfl
 simp only[s0_,s1_];refine dr (aU (by simp[i1,e2];lia) ar) ?_;refine dr (aU (by simp only[cj,bN,aZ,d3];simp[i2,e3]) ar) ?_;have cu:f7 (sL K) (some ((A.length:Int)+1)) none=sL (K.drop (A.length+1)):=by have:=dR (sL K) (A.length+1) (by simp;lia);rw[show((A.length+1:Nat):Int)=(A.length:Int)+1 by lia]at this;rw[this];simp[sL]
 refine ky (fun _ e=>∃x4,e=[some (.lst .frz (ss.map (pvS .frz))),some (.lst .own (sL K)),some (.int A.length),some (.tup (sL (qX))),x4]) (fun o=>∃e,o=.next e) (xs:=sL (K.drop (A.length+1))) ?_ ⟨none,rfl⟩ (fun k x e hx hP=>?_) (fun e hP=>⟨e,rfl⟩)
 ·refine cq (f:=.own) ?_ rfl (by simp) (by simp);simp only[lF,bN,on,jM,aZ,d3,getElem?_cons_zero,getElem?_cons_succ,aE,aL,jp,dQ,Res.HY,jx,kW,gh,cu]
 ·obtain⟨x4,rfl⟩:=hP;unfold sL at hx;rw[getElem?_map]at hx;obtain⟨y,hy,rfl⟩:=map_eq_some_iff.mp hx;have hm:=kd' y (List.mem_of_getElem? hy);have e4:cy (.str y) (.tup [.str "turn",.str "spoil",.str "may",.str "measure",.str "look"])=.ok (.bl false):=Bu (zs:=doi) (mX (by simp[hm])) (fun k hk=>mX (by simp[hk])) hm;exact⟨_,dz rfl,.inl ⟨_,.inl (aU (by simp only[cj,bN,aZ,d3];simp[e4]) ar),_,rfl⟩⟩
def cut_to(xs:HK)(k:Nat)(h:k<=xs.length):f7 xs none (some (k:Int))=xs.take k:=by unfold f7;rw[HT.sIx_nat,HT.sIx_none];rw[Nat.min_eq_left h];simp
def lpB:MS:=(au (aH 7 (ao (ax sT) (ae (ad 3) (ae (ad 4) (ae (ad 6) ak)))))
 (au (gH 7) (au (aH 4 (mOp aq (ad 7) (HZ 1)))
 (cP 5 (ao (ax sM) (ae (ad 3) (ae (ad 7) (ae (ad 6) ak))))))))
def F7{R:PV}{x0:Option PV}{L:PV}{n:Int}{cs cs':HC}{y:Sd}{z:Str}{an:HF}{x7:Option PV}(h:Stp R cs y cs' z)(hl:an.length<=200):∃v,lpB [x0,some L,some (.int n),some R,some (.lst .frz (iL cs)),some (.lst .own (sL an)),some (pvS .frz y),x7]=.next [x0,some L,some (.int n),some R,some (.lst .frz (iL cs')),some (.lst .own (sL (an++[z]))),some (pvS .frz y),some v]:=by
 obtain⟨f,g,dn,⟨f1,f2,f3⟩,⟨g1,g2,g3⟩,e1,e2⟩:=h;refine⟨.tup [.lst .frz (iL dn),.lst .frz (iL cs')],?_⟩;have i1:aq (.tup [.lst .frz (iL dn),.lst .frz (iL cs')]) (.int 1)=.ok (.lst .frz (iL cs')):=bp (k:=1) rfl rfl (by simp);unfold lpB;refine af (av (v:=.tup [.lst f (iL dn),.lst g (iL cs')]) ?_ (by simp[f2,g2]) rfl) ?_
 ·simp only[bv,aS,bG,aZ,getElem?_cons_zero,getElem?_cons_succ,aE,Res.HY,bO,aX,bH,ir,aL,bQ,cz,eA];rw[show(R.HW Fl.HM).HW Fl.HN=bo R from rfl,e1];simp[aB,f3,g3]
 simp only[s0_,s1_];refine af (fS (v:=.tup [.lst f (iL dn),.lst g (iL cs')]) rfl) ?_;simp only[s0_,s1_,lb,aX,bH,aL,bQ,f1,g1];refine af (av (v:=.lst .frz (iL cs')) (by simp[i1]) (by simp) (by simp[aQ])) ?_;simp only[s0_,s1_];refine(eD (v:=.str z) (xs:=sL an) ?_ rfl (by simp) (by simp;lia)).trans (by simp[sL]);simp only[bv,aS,bG,aZ,getElem?_cons_zero,getElem?_cons_succ,aE,Res.HY,bO,aX,bH,lb,aL,cz,eA,ir,bQ];rw[show(R.HW Fl.HM).HW Fl.HN=bo R from rfl,e2];simp[aB]
def zo{R:PV}{regs cs:HC}{z0:Str}{zs:HF}(X:Tx A s r)(hs:s=.row "state" regs)(hR:sO [.lst .own (A.map (pvS .frz))]=.ok R)(rb:R.has Fl.HU=false)(rl:R.has Fl.HS=false)
  (hC:Cy cV (.ok [.lst .frz (iL regs)]) (R.HW Fl.HM)=.ok (.lst .own (iL cs))) (h0:m6 [bo R,.lst .frz (iL cs)]=.ok (.str z0)) (hP:lX R cs r zs):j9 [.str (PySem.Txt.join ⟨#[10]⟩ ((A++s::r).map line))]=.ok (.lst .own (sL (z0::zs))):=by
 have hl:=X.len;have rt:=v2 (by simp) hl X.ok;have oo:=wu X;have so:=oO X;have m1:mapL Fl.HM ((A++s::r).map (pvS .frz))=(A++s::r).map (pvS .frz):=jL rfl _;have m2:mapL Fl.HN ((A++s::r).map (pvS .frz))=(A++s::r).map (pvS .frz):=jL rfl _;refine ay ?_;show x_ [some (.str (PySem.Txt.join ⟨#[10]⟩ ((A++s::r).map line))),none,none,none,none,none,none,none]=_;unfold x_;refine af (av (v:=.lst .own ((A++s::r).map (pvS .own))) ?_ (by simp only[eO,d_];rw[gy _ _ rfl];rfl) rfl) ?_
 ·simp only[bv,aS,bG,aZ,getElem?_cons_zero,aE,gu,Res.HY,bO,aX,bH,rt];unfold aB;rw[d_,gy _ _ rfl];rfl
 simp only[s0_,s1_];refine af (fS (v:=.lst .own ((A++s::r).map (pvS .own))) rfl) ?_;simp only[s0_,s1_,aL,pX,cB];refine af (ef (v:=.non) (by simp only[bv,aS,bG,aZ,getElem?_cons_zero,getElem?_cons_succ,aE,aL,cz,eA,m1,m2,Res.HY,bO,aX,bH,oo];simp[aB])) ?_;refine af (av (v:=.int A.length) (by simp only[bv,aS,bG,aZ,getElem?_cons_zero,getElem?_cons_succ,aE,aL,cz,eA,m1,m2,Res.HY,bO,aX,bH,so];simp[aB])) ?_;simp only[s0_,s1_];have cu:=cut_to ((A++s::r).map (pvS .frz)) A.length (by simp);rw[map_append,List.take_left' (by simp)]at cu;rw[<- map_append]at cu;have mA:mapL Fl.HN (A.map (pvS .frz))=A.map (pvS .frz):=jL rfl A;refine af (av (v:=R) ?_ (by simp[rl]) rfl) ?_
 ·simp only[bv,aS,bG,lF,jM,on,aZ,getElem?_cons_zero,getElem?_cons_succ,aE,aL,dQ,cz,m1,Res.HY,jx,kW,cu,bO,aX,bH,mF,mA,hR];simp[aB,rb]
 simp only[s0_,s1_];have ix:aq (.lst .frz ((A++s::r).map (pvS .frz))) (.int A.length)=.ok (pvS .frz s):=v8 (by simp) .frz;have ix1:aq (pvS .frz s) (.int 1)=.ok (.lst .frz (iL regs)):=by rw[hs];exact bp (k:=1) rfl rfl (by simp)
 refine af (av (v:=.lst .own (iL cs)) ?_ (by simp) (by simp[aQ])) ?_
 ·rw[<- hC,DT];simp only[aZ,aS,bN,d3,bG,getElem?_cons_zero,getElem?_cons_succ,aE,aL,cz,m1,dQ,Res.HY,ix,ix1]
 simp only[s0_,s1_];refine af (fS (v:=.lst .own (iL cs)) rfl) ?_;simp only[s0_,s1_,aL,bQ,cB];refine af (av (v:=.lst .own (sL [z0])) ?_ (by simp) (by simp[aQ])) ?_
 ·simp only[g7,bv,aS,bG,aZ,getElem?_cons_zero,getElem?_cons_succ,aE,Res.HY,bO,aX,bH,aL,bQ,cz,eA];rw[show(R.HW Fl.HM).HW Fl.HN=bo R from rfl,h0];rfl
 simp only[s0_,s1_];have cf:=dR ((A++s::r).map (pvS .frz)) (A.length+1) (by simp);rw[show(A++s::r).map (pvS .frz)=((A++[s]).map (pvS .frz))++ r.map (pvS .frz) by simp,List.drop_left' (by simp),show((A.length+1:Nat):Int)=(A.length:Int)+1 by lia]at cf;rw[show((A++[s]).map (pvS .frz))++ r.map (pvS .frz)=(A++s::r).map (pvS .frz) by simp]at cf;refine da (xs:=r.map (pvS .frz)) (fun k e=>∃cs an zs' x6 x7,e=[some (.str (PySem.Txt.join ⟨#[10]⟩ ((A++s::r).map line))),some (.lst .frz ((A++s::r).map (pvS .frz))),some (.int A.length),some R,some (.lst .frz (iL cs)),some (.lst .own (sL an)),x6,x7]/\lX R cs (r.drop k) zs'/\an++zs'=z0::zs/\an.length=k+1) ?_ ⟨cs,[z0],zs,none,none,rfl,hP,rfl,rfl⟩ (fun k x e hx hP=>?_) (fun e hP=>?_)
 ·refine cq (f:=.own) ?_ rfl (gy _ _ rfl r) (gy _ _ rfl r);simp only[lF,bN,on,jM,aZ,d3,getElem?_cons_zero,getElem?_cons_succ,aE,aL,cz,m1,dQ,Res.HY,jx,kW,gh,cf]
 ·obtain⟨cs,an,zs',x6,x7,rfl,hP,ez,el⟩:=hP;rw[getElem?_map]at hx;obtain⟨y,hy,rfl⟩:=map_eq_some_iff.mp hx;have kl:=(List.getElem?_eq_some_iff.mp hy).1;rw[drop_eq_getElem_cons kl]at hP;have ey:r[k]=y:=by simpa[getElem?_eq_getElem kl]using hy
  rw[ey]at hP;cases hP with
  |cons h1 h2=>simp at hl;obtain⟨v,e⟩:=F7 (x0:=some (.str (PySem.Txt.join ⟨#[10]⟩ ((A++s::r).map line)))) (L:=.lst .frz ((A++s::r).map (pvS .frz))) (n:=A.length) (an:=an) (x7:=x7) h1 (by lia);refine⟨_,by cases y<;>rfl,bR e ⟨_,_,_,_,_,rfl,h2,by simpa using ez,by simp[el]⟩⟩
 ·obtain⟨cs,an,zs',x6,x7,rfl,hP,ez,el⟩:=hP;rw[length_map,drop_length]at hP;cases hP;rw[append_nil]at ez;subst ez;exact fe rfl
end
def sj(ls:HF):Str:=PySem.Txt.join ⟨#[32]⟩ ls
def tx:PV->Str
 |.int n=>tn n
 |.str z=>z
 |_=>""
def Th(x:PV):Prop:=(∃n,x=.int n/\Nm n)\/ ∃z:Str,x=.str z/\z.length<=900
def vg(g:Fl->Fl):∀{xs:HK},(∀x∈xs,Th x)->mapL g xs=xs
 | [],_=>by simp
 |x::xs,h=>by rw[aX,vg g fun y hy=>h y (mem_cons_of_mem _ hy)];rcases h x mem_cons_self with⟨n,rfl,_⟩ |⟨z,rfl,_⟩<;>simp
def eC{f:Fl}{xs:HK}(h:∀x∈xs,Th x)(hl:xs.length<=100):j_ [.lst f xs]=.ok (.str (sj (xs.map tx))):=by
 refine ay ?_;show ye [some (.lst f xs)]=_;unfold ye;refine aT ?_ (by simp);rw[kK];refine eZ (f:=.own) (by decide +kernel) (by simpa using hl) (fun z hz=>?_) ?_
 ·obtain⟨x,hx,rfl⟩:=mem_map.mp hz;rcases h x hx with⟨n,rfl,hn⟩ |⟨z,rfl,hz'⟩
  ·have:=(nt hn).len;show(tn n).length<=900
   lia
  ·exact hz'
 ·refine be (xs:=xs) (by simp[vg _ h]) (by lia) ?_;rw[show sL (xs.map tx)=xs.map fun x=>PV.str (tx x) by simp[sL]];have:=aR (g:=tgN 0) (me:=ao (p1 mT) (ae (ad 0) ak)) (env:=[none]) (a:=fun x:PV=>x) (f:=fun x=>PV.str (tx x)) xs fun x hx=>⟨[some x],by rcases h x hx with ⟨n,rfl,hn⟩ | ⟨z,rfl,hz⟩ <;> simp [tgN,aQ,PV.HQ,b7],by
   rcases h x hx with⟨n,rfl,hn⟩ |⟨z,rfl,hz⟩
   ·simp[p1,mT,(nt hn).st,tx]
   ·simp[p1,mT,tx],by simp,by simp⟩
  simpa[bw]using this
def ki(l:HC):(iL l).map tx=l.map tn:=by simp[iL,tx]
def bg{a:Int}(h0:0<=a)(h:a<1000):Nm a:=by
 have:a.natAbs<1000:=by lia
 exact Nat.lt_trans this (by decide +kernel)
def md(l:HC):Str:=if l=[]then "-" else sj (l.map tn)
def Sml(l:HC):Prop:=l.length<=90/\∀a∈l,0<=a/\a<1000
def Sml.th{l:HC}(h:Sml l):∀x∈iL l,Th x:=fun x hx=>by obtain⟨a,ha,rfl⟩:=mem_map.mp hx;exact .inl ⟨a,rfl,bg (h.2 a ha).1 (h.2 a ha).2⟩
def j4{f:Fl}{l:HC}(h:Sml l):At [.lst f (iL l)]=.ok (.str (md l)):=by
 refine ay ?_;show Ep [some (.lst f (iL l))]=_;unfold Ep;have j:=eC (f:=f.HM.HN) h.th (by simpa using Nat.le_trans h.1 (by lia));rw[ki]at j;refine aT ?_ (by simp);unfold md;cases l with
 |nil=>simp
 |cons a l=>rw[lG];simp only[cj,bN,bv,aS,bG,aZ,getElem?_cons_zero,aE,aL,bQ,Res.HY,bO,aX,bH,j];simp[aB,show(0:Int) <(l.length:Int)+1 by lia]
def cw(b:Bool):Str:=if b then "calm" else "wild"
def xV(b:Bool):(cw b).length=4:=by cases b<;>decide +kernel
section
variable{n:Nat}{s:Int}{fs os cs:HC}{w:Int}
def cal(n:Nat)(s:Int)(fs os:HC)(w:Int)(cs:HC):Bool:=decide (((mv n s fs os cs).length:Int)=w)
def swd(n:Nat)(s:Int)(fs os:HC)(w:Int)(cs:HC):HF:=cs.map tn++[cw (cal n s fs os w cs)]
def Ce.sml(K:Ky n s fs os)(C:Ce n s cs):Sml cs:=⟨by rw[C.len];have:=K.n8;lia,fun a ha=>by have:=C.inn a ha;have:=K.s4;lia⟩
def qz(K:Ky n s fs os):Sml (mv n s fs os cs):=⟨by have:=jB (n:=n) (s:=s) (fs:=fs) (os:=os) (cs:=cs);have:=K.n8;lia,fun a ha=>by
 obtain⟨i,rfl,hi,_⟩:=nZ ha;have:=K.n8
 lia⟩
def u_{f:Fl}{rs:HC}(K:Ky n s fs os)(hn:rs.length=n):xE [tab .bor n s w fs os,.lst f (iL rs)]=.ok (.lst .own (iL (rs.map (· % s)))):=by have n8:=K.n8;have s2:=K.s2;refine ay ?_;show yp [some (tab .bor n s w fs os),some (.lst f (iL rs))]=_;unfold yp;refine af (aU (by simp[aW,dG,hn]) ar) (aT ?_);refine be (xs:=iL rs) (by simp) (by simp;lia) ?_;exact qU (· % s) rs fun x hx=>⟨[some (tab .bor n s w fs os),some (.int x)],by simp[tgN,aQ,bw,PV.HQ],by simp[aW,dG,cK (show 0<s by lia)]⟩
def oX{f:Fl}(hB:Bf f)(K:Ky n s fs os)(C:Ce n s cs):m6 [tab .bor n s w fs os,.lst f (iL cs)]=.ok (.str (sj (swd n s fs os w cs))):=by
 refine ay ?_;show ya [some (tab .bor n s w fs os),some (.lst f (iL cs))]=_;unfold ya;refine aT ?_ (by simp);have c:=tz (w:=w) hB K C;have S:=Ce.sml K C;have hl:=S.1;have j:j_ [.lst .own (iL cs++[.str (cw (cal n s fs os w cs))])]=.ok (.str (sj (swd n s fs os w cs))):=by
  rw[eC (fun x hx=>?_) (by simp;lia),map_append,ki]
  ·rfl
  ·rcases mem_append.mp hx with hx|hx
   ·exact S.th x hx
   ·rw[mem_singleton.mp hx];exact .inr ⟨_,rfl,by rw[xV];lia⟩
 have p:bz (.lst f (iL cs)) (.lst .own [.str (cw (cal n s fs os w cs))])=.ok (.lst .own (iL cs++[.str (cw (cal n s fs os w cs))])):=eL hB.nm (by simp) (by simp;lia);have e:f6 (aY (eP cC (ad 0) (ae (ad 1) ak))) (mC (.str "calm")) (mC (.str "wild")) [some (tab .bor n s w fs os),some (.lst f (iL cs))]=.ok (.str (cw (cal n s fs os w cs))):=by
  rw[lG];have:aY (eP cC (ad 0) (ae (ad 1) ak)) [some (tab .bor n s w fs os),some (.lst f (iL cs))]=.ok (cal n s fs os w cs):=by simp[cC,hB.le,hB.tb,c,aB,cal]
  rw[this];cases cal n s fs os w cs<;>rfl
 simp only[bv,aS,bG,bN,g7,e,aZ,getElem?_cons_zero,getElem?_cons_succ,aE,aL,bQ,hB.le,Res.HY,p,bO,aX,bH];have m:mapL Fl.HN (iL cs++[PV.str (cw (cal n s fs os w cs))])=iL cs++[PV.str (cw (cal n s fs os w cs))]:=by rw[la];simp
 rw[mF,m];rw[j];simp[aB]
end
section
variable{n:Nat}{s:Int}{fs os cs nm:HC}{w:Int}
abbrev oK(n:Nat)(s w:Int)(fs os:HC):PV:=tab .own n s w fs os
def jR:bo (oK n s w fs os)=tab .bor n s w fs os:=by simp[bo]
def Gd(n:Nat)(nm:HC):Prop:=nm.Nodup/\(∀x∈nm,0<=x/\x<n)/\nm.length<=n
def dn(n:Nat)(s:Int)(fs os cs nm:HC):HC:=(mv n s fs os cs).filter fun a=>nm.contains a
def uc{f:Fl}(hB:Bf f)(K:Ky n s fs os)(C:Ce n s cs)(hg:Gd n nm):xB [tab .bor n s w fs os,.lst f (iL cs),.lst .frz (iL nm)]=.ok (.tup [.lst .own (iL (dn n s fs os cs nm)),.lst .own (iL (stp n s fs os cs nm))]):=by
 have ml:=jB (n:=n) (s:=s) (fs:=fs) (os:=os) (cs:=cs);have n8:=K.n8;refine ay ?_;show yd [some (tab .bor n s w fs os),some (.lst f (iL cs)),some (.lst .frz (iL nm)),none,none]=_;unfold yd;refine af (av (v:=.lst .own (iL (stp n s fs os cs nm))) (by simp[du,hB.le,hB.tb,mD hB K C hg,aB])) ?_;simp only[s0_,s1_];refine af (av (v:=.lst .own (iL (dn n s fs os cs nm))) ?_) ?_
 ·refine be (xs:=iL (mv n s fs os cs)) (by simp[bJ,hB.le,hB.tb,gE hB K C,aB]) (by simp;lia) ?_;have:=kb (env:=bw [2] 1 [some (tab .bor n s w fs os),some (.lst f (iL cs)),some (.lst .frz (iL nm)),some (.lst .own (iL (stp n s fs os cs nm))),none]) (g:=tgN 1) (mc:=aA (mOp pIn (ad 1) (ad 0))) (me:=ad 1) (fun a=>nm.contains a) (fun a=>a) (mv n s fs os cs) fun x hx=>⟨[some (.lst .frz (iL nm)),some (.int x)],by simp[tgN,aQ,bw,PV.HQ],by simp,fun _=>by simp⟩
  unfold dn;rw[List.map_id']at this;exact this
 ·simp only[s0_,s1_];rfl
def gp{l:HC}(h:InC s l):l.map (· % s)=l:=by
 conv=>rhs;rw[<- List.map_id l]
 exact map_congr_left fun a ha=>emod_eq_of_lt (h a ha).1 (h a ha).2
def DU{m:ME}{env:En}:mFz m env=(m env).bind fun v=>.ok (v.HW Fl.HP):=rfl
def B1(K:Ky n s fs os)(C:Ce n s cs)(hg:Gd n nm):xJ [tab .bor n s w fs os,.lst .frz (iL cs),.lst .own [.lst .frz (iL nm)]]=.ok (.lst .own [.tup [.lst .frz (iL (dn n s fs os cs nm)),.lst .frz (iL (stp n s fs os cs nm))]]):=by
 refine ay ?_;show yz [some (tab .bor n s w fs os),some (.lst .frz (iL cs)),some (.lst .own [.lst .frz (iL nm)]),none,none,none]=_;unfold yz;refine af (av (v:=.lst .own (iL cs)) (by simp[cV,u_ K C.len,gp C.inn,aB])) ?_;simp only[s0_,s1_];refine af (av (v:=.lst .own []) (by simp)) ?_;simp only[s0_,s1_];refine af (fS (v:=.lst .own [.lst .frz (iL nm)]) rfl) ?_;simp only[s0_,s1_,aL,aX,bH,bQ,cB,show Fl.HP .frz=.frz from rfl];have ro:=uc (w:=w) qW K C hg;refine da (xs:=[.lst .frz (iL nm)]) (fun k e=>∃x3 x5,e=[some (tab .bor n s w fs os),some (.lst .frz (iL cs)),some (.lst .frz [.lst .frz (iL nm)]),x3,some (.lst .own (if k=0 then []else [.tup [.lst .frz (iL (dn n s fs os cs nm)),.lst .frz (iL (stp n s fs os cs nm))]])),x5]/\(k=0->x3=some (.lst .own (iL cs)))) (cq (f:=.frz) (by simp) rfl (by simp) (by simp)) ⟨_,_,rfl,fun _=>rfl⟩ (fun k x e hx hP=>?_) (fun e hP=>?_)
 ·obtain⟨x3,x5,rfl,h3⟩:=hP;cases k with
  |succ k=>simp at hx
  |zero=>
   obtain rfl:=h3 rfl;simp only[getElem?_cons_zero,Option.some.injEq]at hx;subst hx;refine⟨_,dz rfl,?_⟩;simp only[s0_,s1_,if_true];refine bZ (eD (v:=.tup [.lst .frz (iL (dn n s fs os cs nm)),.lst .frz (iL (stp n s fs os cs nm))]) (xs:=[]) ?_ rfl (by simp) (by simp)) ?_
   ·simp only[DU,bv,aS,bG,aZ,getElem?_cons_zero,getElem?_cons_succ,aE,aL,bQ,Res.HY,bO,aX,bH];simp[ro,aB]
   simp only[s0_,s1_,List.nil_append];have i1:aq (.lst .lnt [.tup [.lst .frz (iL (dn n s fs os cs nm)),.lst .frz (iL (stp n s fs os cs nm))]]) (.int (-1))=.ok (.tup [.lst .frz (iL (dn n s fs os cs nm)),.lst .frz (iL (stp n s fs os cs nm))]):=by simp[aq,bB,atI,ixN]
   have i2:=gx (.lst .frz (iL (dn n s fs os cs nm))) (.lst .frz (iL (stp n s fs os cs nm))) (by simp);exact bR (av (v:=.lst .frz (iL (stp n s fs os cs nm))) (by simp[i1,i2])) ⟨_,_,rfl,nofun⟩
 ·obtain⟨x3,x5,rfl,_⟩:=hP;exact fe rfl
def vv{nm':HC}(h:∀i:Nat,i<n->nm.contains (i:Int)=nm'.contains (i:Int)):stp n s fs os cs nm=stp n s fs os cs nm':=by unfold stp;exact map_congr_left fun i hi=>by rw[h i (mem_range.mp hi)]
def Dp:isB (pEq (.str "turn") (.str "turn")) true=true/\isB (pEq (.str "may") (.str "turn")) false=true/\isB (pEq (.str "may") (.str "spoil")) false=true/\isB (pEq (.str "may") (.str "may")) true=true/\isB (pEq (.str "look") (.str "turn")) false=true/\isB (pEq (.str "look") (.str "spoil")) false=true/\isB (pEq (.str "look") (.str "may")) false=true/\isB (pEq (.str "look") (.str "measure")) false=true:=by decide +kernel
def twd(n:Nat)(s:Int)(fs os:HC)(w:Int)(cs nm:HC):HF:=[md (dn n s fs os cs nm),":",sj (swd n s fs os w (stp n s fs os cs nm))]
def qh{ls:HF}{B:Nat}(h:∀z∈ls,z.length<=B):(sj ls).length<=ls.length*(B+1):=by have e:sj ls=Str.join ⟨#[32]⟩ ls:=StrLaws.glued_eq_join _ _;rw[e];exact iR 32 B ls h
def vd{a:Int}(h0:0<=a)(h:a<1000):(tn a).length<=61:=(nt (bg h0 h)).len
def Df{l:HC}(h:Sml l)(h8:l.length<=10):(md l).length<=700:=by
 unfold md;split
 ·decide +kernel
 ·have:=qh (ls:=l.map tn) (B:=61) fun z hz=>by obtain⟨a,ha,rfl⟩:=mem_map.mp hz;exact vd (h.2 a ha).1 (h.2 a ha).2
  simp at this
  lia
def yU(K:Ky n s fs os)(C:Ce n s cs):(sj (swd n s fs os w cs)).length<=700:=by
 have S:=Ce.sml K C;have:=qh (ls:=swd n s fs os w cs) (B:=61) fun z hz=>by
  rcases mem_append.mp hz with hz|hz
  ·obtain⟨a,ha,rfl⟩:=mem_map.mp hz;exact vd (S.2 a ha).1 (S.2 a ha).2
  ·rw[mem_singleton.mp hz,xV];lia
 have:=C.len;have:=K.n8;have e:(swd n s fs os w cs).length=cs.length+1:=by simp[swd]
 lia
def ou(K:Ky n s fs os):Sml (dn n s fs os cs nm)/\(dn n s fs os cs nm).length<=10:=by have h:=qz (cs:=cs) K;have l1:=List.length_filter_le (fun a=>nm.contains a) (mv n s fs os cs);have l2:=jB (n:=n) (s:=s) (fs:=fs) (os:=os) (cs:=cs);have:=K.n8;exact⟨⟨by unfold dn;lia,fun a ha=>h.2 a (mem_filter.mp ha).1⟩,by unfold dn;lia⟩
def oI(K:Ky n s fs os)(C:Ce n s cs)(hg:Gd n nm):Stp (oK n s w fs os) cs (.row "turn" nm) (stp n s fs os cs nm) (sj (twd n s fs os w cs nm)):=by
 have C':=eH K C nm;have r:=B1 (w:=w) K C hg;have e1:=aO Dp.1;have i0:aq (.tup [.str "turn",.lst .frz (iL nm)]) (.int 0)=.ok (.str "turn"):=bp (k:=0) rfl rfl rfl;have i1:aq (.tup [.str "turn",.lst .frz (iL nm)]) (.int 1)=.ok (.lst .frz (iL nm)):=bp (k:=1) rfl rfl (by simp);obtain⟨dS,d10⟩:=ou (cs:=cs) (nm:=nm) K;refine⟨.frz,.frz,dn n s fs os cs nm,⟨rfl,rfl,rfl⟩,⟨rfl,rfl,rfl⟩,?_,?_⟩
 ·rw[jR];refine ay ?_;show lU [some (tab .bor n s w fs os),some (.lst .frz (iL cs)),some (.tup [.str "turn",.lst .frz (iL nm)])]=_;unfold lU;refine ce (eT (by simp[i0,e1]) (aT ?_));have i2:aq (.lst .own [.tup [.lst .frz (iL (dn n s fs os cs nm)),.lst .frz (iL (stp n s fs os cs nm))]]) (.int 0)=.ok (.tup [.lst .frz (iL (dn n s fs os cs nm)),.lst .frz (iL (stp n s fs os cs nm))]):=bp (k:=0) rfl rfl (by simp);simp[i1,r,aB,i2]
 ·rw[jR];refine ay ?_;show lT [some (tab .bor n s w fs os),some (.tup [.lst .frz (iL (dn n s fs os cs nm)),.lst .frz (iL (stp n s fs os cs nm))]),some (.tup [.str "turn",.lst .frz (iL nm)]),none]=_;unfold lT;have j0:aq (.tup [.lst .frz (iL (dn n s fs os cs nm)),.lst .frz (iL (stp n s fs os cs nm))]) (.int 0)=.ok (.lst .frz (iL (dn n s fs os cs nm))):=bp (k:=0) rfl rfl (by simp);have j1:=gx (.lst .frz (iL (dn n s fs os cs nm))) (.lst .frz (iL (stp n s fs os cs nm))) (by simp);refine af (av (v:=.lst .frz (iL (stp n s fs os cs nm))) (by simp[j1])) ?_;simp only[s0_,s1_];refine ce (eT (by simp[i0,e1]) (aT ?_));have m:=j4 (f:=.frz) dS;have sh:=oX (w:=w) jS K C';have j:=eC (f:=.own) (xs:=[.str (md (dn n s fs os cs nm)),.str ":", .str (sj (swd n s fs os w (stp n s fs os cs nm)))]) (fun x hx=>by
   simp only[mem_cons,not_mem_nil,or_false]at hx;rcases hx with rfl|rfl|rfl
   ·exact .inr ⟨_,rfl,Nat.le_trans (Df dS d10) (by lia)⟩
   ·exact .inr ⟨_,rfl,by decide +kernel⟩
   ·exact .inr ⟨_,rfl,Nat.le_trans (yU K C') (by lia)⟩) (by simp)
  simp[j0,m,sh,aB,j];rfl
def si(K:Ky n s fs os)(C:Ce n s cs):Stp (oK n s w fs os) cs (.num "may" []) cs (md (mv n s fs os cs)):=by
 obtain⟨_,e1,e2,e3,_⟩:=Dp;have e1:=aO e1;have e2:=aO e2;have e3:=aO e3;have i0:aq (.tup [.str "may"]) (.int 0)=.ok (.str "may"):=rfl;refine⟨.own,.frz,[],⟨rfl,rfl,rfl⟩,⟨rfl,rfl,rfl⟩,?_,?_⟩
 ·rw[jR];refine ay ?_;show lU [some (tab .bor n s w fs os),some (.lst .frz (iL cs)),some (.tup [.str "may"])]=_;unfold lU;refine af (aU (by simp[i0,e1]) ar) (af (aU (by simp[i0,e2]) ar) (aT (by simp)))
 ·rw[jR];refine ay ?_;show lT [some (tab .bor n s w fs os),some (.tup [.lst .frz (iL []),.lst .frz (iL cs)]),some (.tup [.str "may"]),none]=_;unfold lT;have j1:=gx (.lst .frz []) (.lst .frz (iL cs)) (by simp);refine af (av (v:=.lst .frz (iL cs)) (by simp[j1])) ?_;simp only[s0_,s1_];refine af (aU (by simp[i0,e1]) ar) (af (aU (by simp[i0,e2]) ar) (ce (eT (by simp[i0,e3]) (aT ?_))));have m:=j4 (f:=.own) (qz (cs:=cs) K);simp[bJ,gE jS K C,m,aB]
end
section
variable{z:Pz}
def AW(hs:∀k<z.N,z.skC (z.dg k)=false){k:Nat}(hk:k<z.N)(hc:z.cal (z.dg k)=false):z.tr (z.dg k)≠ []:=fun e=>by have:=hs k hk;unfold Pz.skC at this;rw[hc,e]at this;simp at this
def iq(K:z.K)(hs:∀k<z.N,z.skC (z.dg k)=false){R:HC}(A:RkA z R){k:Nat}(hk:k<z.N):0<=gt R k/\gt R k<256:=by
 have hN:=EB K;have dn:∀j<z.N,gt R j≠0->∃y,y<z.N/\gt R y=gt R j-1:=fun j hj h0=>by
  have e:=A.ok j hj;cases hc:z.cal (z.dg j)with
  |true=>rw[hc,if_pos rfl]at e;exact absurd e h0
  |false=>
   rw[hc,if_neg (by decide)]at e;have ne:(z.fol (z.dg j)).map (fun y=>gt R y.toNat)≠ []:=by have:=AW hs hj hc;unfold Pz.fol;simpa using this
   obtain⟨y,hy,e2⟩:=mem_map.mp (iH _ ne).1;exact⟨y.toNat,(kA K hy).2,by lia⟩
 refine Decidable.byContradiction fun hh=>?_;have P:∀d:Nat,d<=256->∃l:List Nat,l.Nodup/\l.length=d+1/\(∀y∈l,y<z.N/\gt R k-d<=gt R y)/\∃y∈l,gt R y=gt R k-d:=by
  intro d
  induction d with
  |zero=>exact fun _=>⟨[k],by simp,rfl,fun y hy=>by rw[mem_singleton.mp hy];exact⟨hk,by lia⟩,k,by simp,by lia⟩
  |succ d ih=>
   intro hd;obtain⟨l,h1,h2,h3,y,hy,e⟩:=ih (by lia);obtain⟨x,hx,e2⟩:=dn y (h3 y hy).1 (by lia);refine⟨x::l,nodup_cons.mpr ⟨fun q=>?_,h1⟩,by simp[h2],fun y' hy'=>?_,x,by simp,by lia⟩
   ·have:=(h3 x q).2
    lia
   ·rcases mem_cons.mp hy' with rfl|q
    ·exact⟨hx,by lia⟩
    ·have:=h3 y' q;exact⟨this.1,by lia⟩
 obtain⟨l,h1,h2,h3,_⟩:=P 256 (Nat.le_refl _);have:=mY (l':=(range z.N).map fun k:Nat=>(k:Int)) (l:=l.map fun k:Nat=>(k:Int)) (by
  rw[List.nodup_iff_pairwise_ne]at h1 ⊢;exact List.pairwise_map.mpr (h1.imp fun q e=>q (by lia))) fun x hx=>by obtain⟨y,hy,rfl⟩:=mem_map.mp hx;exact mem_map.mpr ⟨y,mem_range.mpr (h3 y hy).1,rfl⟩
 simp at this
 lia
inductive p8(z:Pz):HF->Prop
 |lv (k:Nat) (nm:HC):k<z.N->z.lvC (z.dg k)=some nm->p8 z ("leaves" ::(z.dg k).map tn)
 |sk (k:Nat):k<z.N->z.skC (z.dg k)=true->p8 z ("stuck" ::(z.dg k).map tn)
 |rd (wl:HC):RdA z wl->p8 z ["round"]
 |rk (R:HC):(∀j<z.N,z.lvC (z.dg j)=none)->(∀j<z.N,z.skC (z.dg j)=false)->RkA z R->p8 z ["calm",tn (bC R)]
def pK:isB (pEq (.str "calm") (.str "calm")) true=true/\isB (pEq (.str "round") (.str "calm")) false=true/\isB (pEq (.str "round") (.str "round")) true=true/\isB (pEq (.str "leaves") (.str "calm")) false=true/\isB (pEq (.str "leaves") (.str "round")) false=true/\isB (pEq (.str "stuck") (.str "calm")) false=true/\isB (pEq (.str "stuck") (.str "round")) false=true:=by decide +kernel
def Ez(K:z.K){R:HC}(A:RkA z R):R≠[]:=fun e=>by
 have h:=A.len;have s2:=K.s2;have p:0<z.s ^ z.n:=Int.pow_pos (by lia);have q:0<z.N:=by show 0 <(z.s ^ z.n).toNat;lia
 rw[<- h,e]at q;cases q
def qC(K:z.K){R:HC}(A:RkA z R):∃k<z.N,gt R k=bC R:=by obtain⟨k,hk,e⟩:=List.mem_iff_getElem.mp (iH R (Ez K A)).1;exact⟨k,by rw[<- A.len];exact hk,by rw[<- e];simp[gt,hk]⟩
def Dh(K:z.K){v:PV}(A:Ans z v):∃ws,p8 z ws/\DF [v]=.ok (.str (sj ws)):=by
 obtain⟨k1,k2,k3,k4,k5,k6,k7⟩:=pK;have n8:=K.n8;cases A with
 |rk R hv hs A=>
  have e1:=aO k1;refine⟨_,.rk R hv hs A,ay ?_⟩;show oF [some (.tup [.str "calm",.lst .own (iL R)])]=_;unfold oF;have i0:aq (.tup [.str "calm",.lst .lnt (iL R)]) (.int 0)=.ok (.str "calm"):=bp (k:=0) rfl rfl rfl;have i1:aq (.tup [.str "calm",.lst .lnt (iL R)]) (.int 1)=.ok (.lst .lnt (iL R)):=bp (k:=1) rfl rfl (by simp);obtain⟨j,hj,ej⟩:=qC K A;have rr:=iq K hs A hj;have mx:gM bC (.lst .lnt (iL R))=.ok (.int (bC R)):=by unfold gM;simp only[bB,gF];rw[if_neg (by have:=Ez K A;cases R<;>simp_all)]
  have jj:=eC (f:=.own) (xs:=[.str "calm", .int (bC R)]) (fun x hx=>by
   simp only[mem_cons,not_mem_nil,or_false]at hx;rcases hx with rfl|rfl
   ·exact .inr ⟨_,rfl,by decide +kernel⟩
   ·exact .inl ⟨_,rfl,bg (by lia) (by lia)⟩) (by simp)
  refine ce (eT (by simp[i0,e1]) (aT ?_));simp[i1,p1,mx,jj,aB];rfl
 |rd wl hv hs A=>
  have e1:=aO k2;have e2:=aO k3;refine⟨_,.rd wl A,ay ?_⟩;show oF [some (.tup [.str "round",.lst .own (rdV z .own wl)])]=_;unfold oF;have m:mapL Fl.HM (rdV z .own wl)=rdV z .lnt wl:=by simp[rdV,gq]
  have i0:aq (.tup [.str "round",.lst .lnt (rdV z .lnt wl)]) (.int 0)=.ok (.str "round"):=bp (k:=0) rfl rfl rfl;refine af (aU (by simp[m,i0,e1]) ar) (ce (eT (by simp[m,i0,e2]) (aT (by simp;decide +kernel))))
 |lv k nm hk h1 h2=>
  have e1:=aO k4;have e2:=aO k5;refine⟨_,.lv k nm hk h1,ay ?_⟩;show oF [some (.tup [.str "leaves",.lst .own (iL (z.dg k)),.lst .frz (iL nm)])]=_;unfold oF;have S:=Ce.sml K (fE K k);have i0:aq (.tup [.str "leaves",.lst .lnt (iL (z.dg k)),.lst .frz (iL nm)]) (.int 0)=.ok (.str "leaves"):=bp (k:=0) rfl rfl rfl;have i1:aq (.tup [.str "leaves",.lst .lnt (iL (z.dg k)),.lst .frz (iL nm)]) (.int 1)=.ok (.lst .lnt (iL (z.dg k))):=bp (k:=1) rfl rfl (by simp);have hl:=S.1;have p:bz (.lst .own [.str "leaves"]) (.lst .lnt (iL (z.dg k)))=.ok (.lst .own (.str "leaves" :: iL (z.dg k))):=by rw[eL (by simp) (by simp) (by simp;lia)];rfl
  have jj:=eC (f:=.own) (xs:=.str "leaves" :: iL (z.dg k)) (fun x hx=>by
   rcases mem_cons.mp hx with rfl|hx
   ·exact .inr ⟨_,rfl,by decide +kernel⟩
   ·exact S.th x hx) (by simp;lia)
  rw[map_cons,ki]at jj;refine af (aU (by simp[i0,e1]) ar) (af (aU (by simp[i0,e2]) ar) (aT ?_));simp[i0,i1,p,jj,aB];rfl
 |sk k hv hk h1 h2=>
  have e1:=aO k6;have e2:=aO k7;refine⟨_,.sk k hk h1,ay ?_⟩;show oF [some (.tup [.str "stuck",.lst .own (iL (z.dg k))])]=_;unfold oF;have S:=Ce.sml K (fE K k);have i0:aq (.tup [.str "stuck",.lst .lnt (iL (z.dg k))]) (.int 0)=.ok (.str "stuck"):=bp (k:=0) rfl rfl rfl;have i1:aq (.tup [.str "stuck",.lst .lnt (iL (z.dg k))]) (.int 1)=.ok (.lst .lnt (iL (z.dg k))):=bp (k:=1) rfl rfl (by simp);have hl:=S.1;have p:bz (.lst .own [.str "stuck"]) (.lst .lnt (iL (z.dg k)))=.ok (.lst .own (.str "stuck" :: iL (z.dg k))):=by rw[eL (by simp) (by simp) (by simp;lia)];rfl
  have jj:=eC (f:=.own) (xs:=.str "stuck" :: iL (z.dg k)) (fun x hx=>by
   rcases mem_cons.mp hx with rfl|hx
   ·exact .inr ⟨_,rfl,by decide +kernel⟩
   ·exact S.th x hx) (by simp;lia)
  rw[map_cons,ki]at jj;refine af (aU (by simp[i0,e1]) ar) (af (aU (by simp[i0,e2]) ar) (aT ?_));simp[i0,i1,p,jj,aB];rfl
def w5(K:z.K)(h4:z.many=true->z.n<=4){cs:HC}:∃ws,p8 z ws/\Stp (oK z.n z.s z.w z.fs z.os) cs (.lk z.many) cs (sj ws):=by
 obtain⟨v,h1,A⟩:=zX K h4;obtain⟨ws,W,h2⟩:=Dh K A;refine⟨ws,W,.own,.frz,[],⟨rfl,rfl,rfl⟩,⟨rfl,rfl,rfl⟩,?_,?_⟩<;>rw[jR]
 all_goals obtain⟨_,_,_,_,e1,e2,e3,e4⟩:=Dp
 all_goals have e1:=aO e1
 all_goals have e2:=aO e2
 all_goals have e3:=aO e3
 all_goals have e4:=aO e4
 all_goals have i0:aq (.tup [.str "look",.bl z.many]) (.int 0)=.ok (.str "look"):=rfl
 all_goals have i1:aq (.tup [.str "look",.bl z.many]) (.int 1)=.ok (.bl z.many):=rfl
 ·refine ay ?_;show lU [some z.T,some (.lst .frz (iL cs)),some (.tup [.str "look",.bl z.many])]=_;unfold lU;exact af (aU (by simp[i0,e1]) ar) (af (aU (by simp[i0,e2]) ar) (aT (by simp)))
 ·refine ay ?_;show lT [some z.T,some (.tup [.lst .frz (iL []),.lst .frz (iL cs)]),some (.tup [.str "look",.bl z.many]),none]=_;unfold lT;have j1:=gx (.lst .frz []) (.lst .frz (iL cs)) (by simp);refine af (av (v:=.lst .frz (iL cs)) (by simp[j1])) ?_;simp only[s0_,s1_];refine af (aU (by simp[i0,e1]) ar) (af (aU (by simp[i0,e2]) ar) (af (aU (by simp[i0,e3]) ar) (af (aU (by simp[i0,e4]) ar) (aT ?_))));have vb:=A.own Fl.HU rfl rfl;have vm:v.HW Fl.HN=v:=by cases A<;>simp[rdV,gq]
  simp[i1,h1,aB,vb,vm,h2]
end
def tV{n:Nat}{sp wi:Int}{w:Str}{fs os:HC}(n2:2<=n)(n8:n<=8)(h1:2<=sp)(h2:sp<=4)(hw:Wd w wi)(hf:kc sp fs)(ho:kc sp os):DP [.obj .own 1 [] [],.int n,.int sp,.str w,.lst .frz (iL fs),.lst .frz (iL os)]=.ok (tab .own n sp wi fs os):=by
 refine rY (e:=[some (tab .own n sp wi fs os),some (.int n),some (.int sp),some (.str w),some (.lst .frz (iL fs)),some (.lst .frz (iL os))]) ?_ rfl;show Et [some (.obj .own 1 [] []),some (.int n),some (.int sp),some (.str w),some (.lst .frz (iL fs)),some (.lst .frz (iL os))]=_;unfold Et;have r1:=mM (f:=.frz) (.inr rfl) h1 h2 hf;have r2:=mM (f:=.frz) (.inr rfl) h1 h2 ho;have d1:ko [("none",(0)),("one",(1))] (.str w)=.ok (.bl false):=by rcases hw with⟨rfl,_⟩ |⟨rfl,_⟩<;>rfl
 have d2:jZ [("none",(0)),("one",(1))] (.str w)=.ok (.int wi):=by rcases hw with⟨rfl,rfl⟩ |⟨rfl,rfl⟩<;>rfl
 refine af (aU (by simp[show ¬(n:Int)<2 by lia,show ¬(8:Int)<n by lia]) ar) ?_;refine af (aU (by simp[show ¬sp<2 by lia,show ¬(4:Int)<sp by lia]) ar) ?_;refine af (aU (by simp[d1]) ar) ?_;refine af (ef (v:=.non) (by simp[r1,aB,Fl.HM,Fl.HN])) ?_;refine af (ef (v:=.non) (by simp[r2,aB,Fl.HM,Fl.HN])) ?_;refine af (jK (v:=.int wi) (ks:=[]) (vs:=[]) (by simp[d2]) rfl (by simp) rfl (by decide)) ?_;simp only[s0_,s1_];refine af (jK (v:=.tup (iL fs)) (ks:=[3]) (vs:=[.int wi]) (by simp[p1,fO,bB]) rfl (by simp[PV.HV,PV.has]) rfl (by decide)) ?_;simp only[s0_,s1_];refine af (jK (v:=.tup (iL os)) (ks:=[3,4]) (vs:=[.int wi,.tup (iL fs)]) (by simp[p1,fO,bB]) rfl (by simp[PV.HV,PV.has]) rfl (by decide)) ?_;simp only[s0_,s1_];have ri:sR [.obj .own 1 [3,4,5] [.int wi,.tup (iL fs),.tup (iL os)],.int n,.int sp,.bl false]=.ok (tab .own n sp wi fs os):=by refine rY (e:=[some (tab .own n sp wi fs os),some (.int n),some (.int sp),some (.bl false)]) ?_ rfl;show yo [some (.obj .own 1 [3,4,5] [.int wi,.tup (iL fs),.tup (iL os)]),some (.int n),some (.int sp),some (.bl false)]=_;unfold yo;refine af (jK (v:=.int n) (ks:=[3,4,5]) (vs:=[.int wi,.tup (iL fs),.tup (iL os)]) (by simp) rfl (by simp) rfl (by decide)) ?_;refine af (jK (v:=.int sp) (ks:=[3,4,5,0]) (vs:=[.int wi,.tup (iL fs),.tup (iL os),.int n]) (by simp) rfl (by simp) rfl (by decide)) ?_;exact jK (v:=.bl false) (ks:=[3,4,5,0,1]) (vs:=[.int wi,.tup (iL fs),.tup (iL os),.int n,.int sp]) (by simp) rfl (by simp) rfl (by decide)
 have:=BH (env:=[some (.obj .own 1 [3,4,5] [.int wi,.tup (iL fs),.tup (iL os)]),some (.int n),some (.int sp),some (.str w),some (.lst .frz (iL fs)),some (.lst .frz (iL os))]) (m:=sR) (ms:=ae (ad 1) (ae (ad 2) (ae (mC (.bl false)) ak))) (xs:=[.int n,.int sp,.bl false]) rfl (by simp) (by simp) (by simpa using ri) (by simp[PV.has]);simpa using this
section
variable{n:Nat}{s:Int}{fs os:HC}{w:Int}{wd:Str}
def sJ(K:Ky n s fs os):Fg fs/\Fg os:=by obtain⟨_,_,_,_,c1,c2⟩:=uN K.s2 K.s4;have h1:=K.hf;have h2:=K.ho;have l1:=h1.len;have l2:=h2.len;have s4:=K.s4;exact⟨⟨by lia,by lia,fun d hd=>by have:=h1.rng d hd;lia⟩,by lia,by lia,fun d hd=>by have:=h2.rng d hd;lia⟩
def Ge:isB (pEq (.str "table") (.str "net")) false=true/\isB (pEq (.str "table") (.str "pass")) false=true/\isB (pEq (.str "table") (.str "count")) false=true:=by decide +kernel
def zc(K:Ky n s fs os)(hw:Wd wd w):sO [.lst .own [pvS .frz (.tab n s wd fs os)]]=.ok (oK n s w fs os):=by
 obtain⟨k1,k2,k3⟩:=Ge;have k1:=aO k1;have k2:=aO k2;have k3:=aO k3;obtain⟨L,hL⟩:∃L:HK,[.str "table",.int n,.int s,.str wd,.lst .frz (iL fs),.lst .frz (iL os)]=L:=⟨_,rfl⟩
 have m:∀g:Fl->Fl,g .frz=.frz->mapL g L=L:=fun g h=>by rw[<- hL];simp[h]
 have m1:=m Fl.HM rfl;have i0:aq (.tup L) (.int 0)=.ok (.str "table"):=by rw[<- hL];exact bp (k:=0) rfl rfl rfl
 have i1:aq (.tup L) (.int 1)=.ok (.int n):=by rw[<- hL];exact bp (k:=1) rfl rfl rfl
 have i2:aq (.tup L) (.int 2)=.ok (.int s):=by rw[<- hL];exact bp (k:=2) rfl rfl rfl
 have i3:aq (.tup L) (.int 3)=.ok (.str wd):=by rw[<- hL];exact bp (k:=3) rfl rfl rfl
 have i4:aq (.tup L) (.int 4)=.ok (.lst .frz (iL fs)):=by rw[<- hL];exact bp (k:=4) rfl rfl (by simp)
 have i5:aq (.tup L) (.int 5)=.ok (.lst .frz (iL os)):=by rw[<- hL];exact bp (k:=5) rfl rfl (by simp)
 have ho:(PV.tup L).has Fl.HR=false:=by rw[<- hL];simp
 have hn:(PV.tup L).has Fl.HS=false:=by rw[<- hL];simp
 have x0:aq (.lst .lnt [.tup L]) (.int 0)=.ok (.tup L):=bp (k:=0) rfl rfl ho;have x1:aq (.lst .lnt [.tup L]) (.int (-1))=.ok (.tup L):=by have:=ho;simp only[Ad]at this;simp[aq,bB,atI,ixN,this]
 have ti:=tV K.n2 K.n8 K.s2 K.s4 hw K.hf K.ho;refine ay ?_;show yh [some (.lst .own [.tup [.str "table",.int n,.int s,.str wd,.lst .frz (iL fs),.lst .frz (iL os)]]),none]=_;rw[hL];unfold yh;refine af (av (v:=.tup L) (by simp[m1,x1]) (by simpa using hn) rfl) ?_;simp only[s0_,s1_];refine af (aU (by simp[m1,x0,i0,k1]) ar) (af (aU (by simp[m1,i0,k2]) ar) (af (aU (by simp[m1,i0,k3]) ar) (aT ?_)));simp[m1,i1,i2,i3,i4,i5,ti,aB]
def nw(K:Ky n s fs os)(hw:Wd wd w):SOk (.tab n s wd fs os):=by have:=K.n8;have:=K.s4;have:=K.s2;exact⟨bg (by lia) (by lia),bg (by lia) (by lia),by rcases hw with⟨rfl,_⟩ |⟨rfl,_⟩<;>simp,(sJ K).1,(sJ K).2⟩
def jf(n:Nat)(s:Int)(wd:Str)(fs os regs:HC)(r:List Sd):List Sd:=.tab n s wd fs os::.row "state" regs::r
def vc(K:Ky n s fs os)(hw:Wd wd w){regs:HC}{r:List Sd}{zs:HF}(n4:n<=4)(hn:regs.length=n)(hr:∀a∈regs,Nm a)(hl:r.length<=90)(hS:∀y∈r,SOk y/\kd y∈doi)(hP:lX (oK n s w fs os) (regs.map (· % s)) r zs) :
  j9 [.str (PySem.Txt.join ⟨#[10]⟩ ((jf n s wd fs os regs r).map line))]=.ok (.lst .own (sL (sj (swd n s fs os w (regs.map (· % s)))::zs))):=by
 have s2:=K.s2;have C:Ce n s (regs.map (· % s)):=⟨by simpa using hn,fun c hc=>by
  obtain⟨x,_,rfl⟩:=mem_map.mp hc;exact⟨emod_nonneg _ (by lia),emod_lt_of_pos _ (by lia)⟩⟩
 refine zo (A:=[.tab n s wd fs os]) (s:=.row "state" regs) (r:=r) (R:=oK n s w fs os) (regs:=regs) ⟨fun y hy=>?_,by simp;lia,⟨_,[],rfl,rfl,fun q=>absurd q (by show ¬("table":Str)= "net";decide +kernel)⟩,⟨[],_,rfl,by show("table":Str)∈ qX;decide +kernel⟩,rfl,fun y hy=>(hS y hy).2⟩ rfl (zc K hw) (by simp) (by simp) ?_ ?_ hP
 ·rcases mem_append.mp hy with hy|hy
  ·rw[mem_singleton.mp hy];exact nw K hw
  ·rcases mem_cons.mp hy with rfl|hy
   ·exact⟨by decide +kernel,by lia,hr⟩
   ·exact(hS y hy).1
 ·simp[cV,u_ K hn,aB]
 ·rw[jR];exact oX jS K C
end
def rN(ls:HF):sj ls=Str.join ⟨#[32]⟩ ls:=StrLaws.glued_eq_join _ _
def e_(z:Str):sj [z]=z:=by rw[rN];rfl
def b5(z:Str){ls:HF}(h:ls≠[]):sj (z::ls)=z ++⟨#[32]⟩++ sj ls:=by
 rw[rN,rN];cases ls with
 |nil=>exact absurd rfl h
 |cons y r=>rfl
def eJ(x y z:Str):x++y++z=x ++(y++z):=fJ (by simp[dC])
def kM:∀{a b:HF},a≠[]->b≠[]->sj (a++b)=sj a ++⟨#[32]⟩++ sj b
 | [],_,h,_=>absurd rfl h
 | [z],b,_,hb=>by rw[List.singleton_append,b5 z hb,e_]
 |z::y::r,b,_,hb=>by rw[cons_append,b5 z (by simp),kM (by simp) hb,b5 z (by simp),eJ,eJ,eJ,eJ,eJ]
def Fd(a b:HF)(y:Str)(ha:a≠[])(hb:b≠[]):sj [sj a,y,sj b]=sj (a++y::b):=by rw[kM ha (by simp),b5 _ (by simp),b5 _ (by simp),e_,b5 y hb]
def Wn(z:Str):Prop:=(∀c∈sg z,c≠32)/\z.length<=900
def Wc.wn{z:Str}(h:Wc z):Wn z:=⟨fun c hc=>(h.1 c hc).1,by have:=h.2;lia⟩
def oW{ws:HF}(h0:ws≠[])(hl:ws.length<=1000)(h:∀z∈ws,Wn z):cJ (sj ws) (.str " ")=.ok (.lst .own (sL ws)):=by rw[kK];exact kJ (by decide) h0 hl h
def xo(f:Fl)(a:HF)(x:Str):aq (.lst f (sL (a++[x]))) (.int (-1))=.ok (.str x):=by
 have e:(-1+((a.length:Int)+1)).toNat=a.length:=by lia
 simp[aq,bB,atI,ixN,sL];rw[if_pos (by lia),Option.bind_some,e];simp
def tY{x y:Str}{c d:Nat}{r r':List Nat}(hx:sg x=c::r)(hy:sg y=d::r')(h:c≠d):PySem.Txt.startswith x y=false:=by
 rw[eq_false_iff];intro q;unfold PySem.Txt.startswith at q;rw[StrLaws.subAt_eq]at q;simp only[and_eq_true,beq_iff_eq,List.drop_zero]at q;have e:(sg x).take y.length=sg y:=by simpa[sg]using q.2
 rw[hx,hy,bP,hy]at e;simp at e;exact h e.1
def xN{a:HF}(ha:a≠[])(b:Bool):PySem.Txt.endswith (sj (a++[cw b])) " wild" = !b:=by
 rw[kM ha (by simp),e_,eJ,PySem.W.KAf.ends_right]
 ·cases b<;>decide +kernel
 ·cases b<;>decide +kernel
def Asc(z:Str):Prop:=∀c∈sg z,c<128
def tH{z:Str}(h:Asc z):shp (.str z)=true:=by
 have ok:PyData.strOk z=true:=by unfold PyData.strOk;rw[<- all_toList,all_eq_true];intro c hc;exact decide_eq_true (Nat.lt_trans (h c hc) (by decide))
 simp[shp,SeqAt.shaped,PV.data,PyData.canLay0,PyData.depth,ok]
def qZ{ls:HF}(h:∀z∈ls,Asc z):Asc (sj ls):=fun c hc=>by
 rw[rN]at hc;rcases lu 32 _ c hc with q |⟨z,hz,q⟩
 ·lia
 ·exact h z hz c q
def qY{a:Int}(h:Nm a):Asc (tn a):=fun c hc=>by have:=(nt h).sgs c hc;lia
def tJ{z:Str}(h:(sg z).all (fun c=>decide (c<128))=true):Asc z:=fun c hc=>of_decide_eq_true (all_eq_true.mp h c hc)
def yD(b:Bool):Asc (cw b):=by cases b<;>exact tJ (by decide +kernel)
def E0(b:Bool):Wc (cw b):=by cases b<;>exact fm (by decide +kernel)
def mdw(l:HC):HF:=if l=[]then ["-"]else l.map tn
def FZ(l:HC):md l=sj (mdw l):=by
 unfold md mdw;split
 ·rw[e_]
 ·rfl
def De(l:HC):mdw l≠[]:=by
 unfold mdw;split
 ·simp
 ·rename_i h;simpa using h
def Dc{l:HC}(h:Sml l):∀z∈mdw l,Wc z:=fun z hz=>by
 unfold mdw at hz;split at hz
 ·rw[mem_singleton.mp hz];exact fm (by decide +kernel)
 ·obtain⟨a,ha,rfl⟩:=mem_map.mp hz;exact jU (bg (h.2 a ha).1 (h.2 a ha).2)
def rB{a:Int}(h0:0<=a)(h:a<1000):∃c r,sg (tn a)=c::r/\48<=c:=by
 have p:=C_ (bg h0 h) h0;obtain⟨w,_⟩:=iC (bg h0 h);obtain⟨d,h1,_,_,_,h5⟩:=w;have ne:sg (tn a)≠ []:=by
  unfold tn;rcases h5 with e |⟨e,_⟩<;>rw[e]
  ·exact h1
  ·simp
 cases e:sg (tn a)with
 |nil=>exact absurd e ne
 |cons c r=>exact⟨c,r,rfl,(p c (by rw[e];simp)).1⟩
def rM{z:Str}{ls:HF}{c:Nat}{r:List Nat}(h:sg z=c::r):∃r',sg (sj (z::ls))=c::r':=by
 cases ls with
 |nil=>rw[e_];exact⟨r,h⟩
 |cons y l=>rw[b5 z (by simp),dC,dC,h];exact⟨_,rfl⟩
def FY{l:HC}(h:Sml l)(hn:l≠[]):pNe (.str (md l)) (.str "-")=.ok (.bl true):=by
 cases l with
 |nil=>exact absurd rfl hn
 |cons a l=>
  obtain⟨c,r,e,hc⟩:=rB (h.2 a (by simp)).1 (h.2 a (by simp)).2;obtain⟨r',e'⟩:=rM (ls:=l.map tn) e;have em:md (a::l)=sj (tn a::l.map tn):=by unfold md;rw[if_neg (by simp)];rfl
  rw[em,wI _ _ (qZ fun z hz=>?_) (by decide +kernel)]
  ·rw[e',show sg ("-":Str)=[45] by decide +kernel,decide_eq_true];intro q;have:=(List.cons.inj q).1
   lia
  ·rw[<- map_cons]at hz;obtain⟨b,hb,rfl⟩:=mem_map.mp hz;exact qY (bg (h.2 b hb).1 (h.2 b hb).2)
def vw{l:HC}(h:Sml l){b:HF}(hb:b≠[]):PySem.Txt.startswith (sj (mdw l ++(":":Str)::b)) "- : "=decide (l=[]):=by
 cases l with
 |nil=>
  have e:sj (mdw []++(":":Str)::b)=("- : ":Str)++ sj b:=by show sj (("-":Str)::(":":Str)::b)=_;rw[b5 _ (by simp),b5 _ hb];refine fJ ?_;simp only[dC];rw[show sg ("-":Str)=[45] by decide +kernel,show sg (":":Str)=[58] by decide +kernel,show sg ("- : ":Str)=[45,32,58,32] by decide +kernel,show sg (⟨#[32]⟩:Str)=[32]from rfl];rfl
  rw[e,PySem.W.KT.starts_app];rfl
 |cons a l=>
  obtain⟨c,r,e,hc⟩:=rB (h.2 a (by simp)).1 (h.2 a (by simp)).2;obtain⟨r',e'⟩:=rM (ls:=l.map tn ++(":":Str)::b) e;have em:sj (mdw (a::l)++(":":Str)::b)=sj (tn a::(l.map tn ++(":":Str)::b)):=by unfold mdw;rw[if_neg (by simp)];rfl
  rw[em,tY e' (d:=45) (r':=[32,58,32]) (by decide +kernel) (by lia),decide_eq_false (by simp)]
def mf(c p s:Int):Int:=(c%10 ^ 60+1)*(p+3)*48271%2147483647 / 11%s
def plV(s:Int)(lf:Bool)(k:Int):Int:=if lf then k / s%s else k
def ents(c s:Int)(lf:Bool):HC:=(range (s*s*s).toNat).map fun k:Nat=>mf c (plV s lf k) s
def Az{c p s:Int}(h:0<s):0<=mf c p s/\mf c p s<s:=⟨emod_nonneg _ (by lia),emod_lt_of_pos _ h⟩
def sY{c s:Int}{lf:Bool}(h1:2<=s)(h2:s<=3):Ap [.int c,.int s,.bl lf]=.ok (.lst .own (iL (ents c s lf))):=by
 obtain⟨m1,m2,_,_,c1,c2⟩:=uN h1 (by lia);refine ay ?_;show Ef [some (.int c),some (.int s),some (.bl lf),none,none,none]=_;unfold Ef;refine af (av (v:=.lst .own []) (by simp)) ?_;simp only[s0_,s1_];refine da (xs:=dO 0 (s*s*s).toNat) (fun k e=>∃x4 x5,e=[some (.int c),some (.int s),some (.bl lf),some (.lst .own (iL ((range k).map fun k:Nat=>mf c (plV s lf k) s))),x4,x5]) (dL (n:=(s*s*s).toNat) (by simp[m1,m2];lia) (by lia)) ⟨_,_,rfl⟩ (fun k x e hx hP=>?_) (fun e hP=>?_)
 ·obtain⟨x4,x5,rfl⟩:=hP;obtain⟨hk,rfl⟩:=ik hx;rw[Int.zero_add];refine⟨_,dz rfl,?_⟩;simp only[s0_,s1_];refine bZ (av (v:=.int k) (by simp)) ?_;simp only[s0_,s1_];have hb:mBr (aY (ad 2)) (aH 5 (mOp df (mOp iz (ad 4) (ad 1)) (ad 1))) aI [some (.int c),some (.int s),some (.bl lf),some (.lst .own (iL ((range k).map fun k:Nat=>mf c (plV s lf k) s))),some (.int k),some (.int k)]=.next [some (.int c),some (.int s),some (.bl lf),some (.lst .own (iL ((range k).map fun k:Nat=>mf c (plV s lf k) s))),some (.int k),some (.int (plV s lf k))]:=by
   unfold plV;cases lf with
   |true=>exact eT (by simp) (av (v:=.int ((k:Int) / s%s)) (by simp[gz (show 0<s by lia) (by lia),cK (show 0<s by lia)]))
   |false=>exact aU (by simp) ar
  refine bZ hb ?_;have pr:0<=plV s lf k/\plV s lf k<1000:=by
   unfold plV;cases lf with
   |true=>have:=emod_nonneg ((k:Int) / s) (show s≠0 by lia);have:=emod_lt_of_pos ((k:Int) / s) (show 0<s by lia);simp;lia
   |false=>simp;lia
  obtain⟨p,hp⟩:∃p,plV s lf k=p:=⟨_,rfl⟩
  rw[hp]at pr ⊢;refine bR (eD (v:=.int (mf c p s)) (xs:=iL ((range k).map fun k:Nat=>mf c (plV s lf k) s)) ?_ rfl (by simp) (by simp;lia)) ⟨some (.int k),some (.int p),?_⟩
  ·have a1:df (.int c) (.int (10 ^ 60))=.ok (.int (c%10 ^ 60)):=cK (by decide);have a2:cT (.int (c%10 ^ 60+1)) (.int (p+3))=.ok (.int ((c%10 ^ 60+1)*(p+3))):=fQ (.inr ⟨by lia,by lia⟩);have a3:cT (.int ((c%10 ^ 60+1)*(p+3))) (.int 48271)=.ok (.int ((c%10 ^ 60+1)*(p+3)*48271)):=fQ (.inr ⟨by lia,by lia⟩);have a4:df (.int ((c%10 ^ 60+1)*(p+3)*48271)) (.int 2147483647)=.ok (.int ((c%10 ^ 60+1)*(p+3)*48271%2147483647)):=cK (by decide);have a5:iz (.int ((c%10 ^ 60+1)*(p+3)*48271%2147483647)) (.int 11)=.ok (.int ((c%10 ^ 60+1)*(p+3)*48271%2147483647 / 11)):=gz (by decide) (by decide);have a6:df (.int ((c%10 ^ 60+1)*(p+3)*48271%2147483647 / 11)) (.int s)=.ok (.int (mf c p s)):=cK (by lia);simp only[bN,aZ,d3,getElem?_cons_zero,getElem?_cons_succ,aE,dQ,Res.HY,Fu,a1,gh,a2,a3,a4,a5,a6]
  ·simp only[s0_,s1_];rw[<- hp];simp[List.range_succ,iL]
 ·obtain⟨x4,x5,rfl⟩:=hP;rw[cv];exact fe rfl
def pU{c s:Int}{lf:Bool}(h1:2<=s)(h2:s<=3):kc s (ents c s lf):=by obtain⟨_,_,_,_,c1,c2⟩:=uN h1 (show s<=4 by lia);refine⟨by simp[ents];lia,fun x hx=>?_⟩;obtain⟨k,_,rfl⟩:=mem_map.mp hx;exact Az (by lia)
structure Lft(s:Int)(fs os:HC):Prop where
 f:∃c,∀x∈fs,x=c
 o:∃g:Int->Int,∀c l r:Int,(0<=c/\c<s)->(0<=l/\l<s)->(0<=r/\r<s)->gt os (plc s c l r).toNat=g l
def we{s c l r:Int}(h1:2<=s)(h2:s<=3)(hc:0<=c/\c<s)(hl:0<=l/\l<s)(hr:0<=r/\r<s):plc s c l r / s%s=l:=by unfold plc;rcases(show s=2\/s=3 by lia)with rfl|rfl<;>lia
def xM{c s:Int}(h1:2<=s)(h2:s<=3){x:Int}{m:Nat}:Lft s ((range m).map fun _=>x) (ents c s true):=by
 refine⟨⟨x,fun y hy=>?_⟩,⟨fun l=>mf c l s,fun a l r ha hl hr=>?_⟩⟩
 ·obtain⟨_,_,rfl⟩:=mem_map.mp hy;rfl
 ·have p:=nV h1 (by lia) ha hl hr;have e:=we h1 h2 ha hl hr;have hk:(plc s a l r).toNat <(s*s*s).toNat:=by lia
  unfold ents gt;rw[getD_eq_getElem?_getD,getElem?_map,List.getElem?_range hk];simp only[map_some,Option.getD_some,plV,if_true];rw[toNat_of_nonneg p.1,e]
def eY{m:ME}{ms:List ME}{out y:Str}{env:En}(h:m env=.ok (.str y))(hl:(out++y).length<=10000):mJ (m::ms) out env=mJ ms (out++y) env:=by
 conv=>lhs;unfold mJ
 rw[h];simp only[Res.HY];rw[if_pos hl]
def Bx{m:ME}{env:En}{a:Int}(h:m env=.ok (.int a))(hn:Nm a):mUn jz m env=.ok (.str (tn a)):=by unfold mUn;rw[h];exact(nt hn).st
def Bw{m:ME}{env:En}{y:Str}(h:m env=.ok (.str y))(hn:y.length<=10000):mUn jz m env=.ok (.str y):=by unfold mUn;rw[h];show(if _ then _ else _)=_;rw[if_pos hn]
def er{a b:Str}(h:a.length+b.length<=10000):b8 (.str a) (.str b)=.ok (.str (a++b)):=by unfold b8 mU;dsimp only;rw[if_pos (decide_eq_true h)]
def Dg{out:Str}{env:En}:mJ [] out env=.ok (.str out):=rfl
def w9{a b:Int}{w:Str}{f o:HC}:line (.tab a b w f o)=sj ["table",tn a,tn b,w,dgt f,dgt o]:=rfl
def xQ{env:En}{i:Nat}{f:Fl}{l:HC}(hl:l.length<=100)(h:∀a∈l,Nm a)(hf:f.HS=false:=by rfl)(he:env[i]?=some (some (.lst f (iL l)))):mMt eX (mC (.str "")) (aM [] 1 (a8 (ad i)) (tgN 0) aP (ao (p1 dP) (ae (ad 0) ak))) env=.ok (.str (dgt l)):=
 eZ (f:=.own) (by decide +kernel) (by simpa using hl) (fun z hz=>by
  obtain⟨a,ha,rfl⟩:=mem_map.mp hz;have:=(nt (h a ha)).len
  lia) (jh h (by lia) (by simp[he]))
def tW{fl:Fl}{ns:HC}(h:Scr fl):∃(n:Nat) (s w:Int) (wd:Str) (fs os:HC) (cl:Bool),xG [.lst fl (iL ns)]=.ok (.tup [.int n,.int s,.str wd,.str (line (.tab n s wd fs os)),.bl cl])/\Ky n s fs os/\n<=4/\Wd wd w/\(cl=true->w=0/\Lft s fs os):=by
 obtain⟨c0,hc0⟩:∃c,cell ns 0=c:=⟨_,rfl⟩
 have e0:=kB ns 0 h;have e1:=kB ns 1 h;have e2:=kB ns 2 h;rw[hc0]at e0;obtain⟨n,hn⟩:∃n:Nat,(n:Int)=2+c0 / 8%3:=⟨(2+c0 / 8%3).toNat,by lia⟩
 obtain⟨s,hs⟩:∃s:Int,s=2+c0 / 4%2*(if(n:Int)<4 then 1 else 0):=⟨_,rfl⟩
 have n2:2<=n:=by lia
 have n4:n<=4:=by lia
 have s23:2<=s/\s<=3/\(n=4->s=2):=by
  by_cases q:(n:Int)<4
  ·rw[if_pos q]at hs;lia
  ·rw[if_neg q]at hs;lia
 obtain⟨s2,s3,s4⟩:=s23;have big:s ^ n<=256:=by
  rcases(show s=2\/s=3 by lia)with e|e
  ·rw[e];rcases(show n=2\/n=3\/n=4 by lia)with q|q|q<;>rw[q]<;>decide
  ·have:n≠4:=fun q=>by have:=s4 q;lia
   rw[e];rcases(show n=2\/n=3 by lia)with q|q<;>rw[q]<;>decide
 obtain⟨lf,hlf⟩:∃b,decide (c0%2=0)=b:=⟨_,rfl⟩
 have t1:=pU (c:=cell ns 1) (lf:=false) s2 s3;have t2:=pU (c:=cell ns 2) (lf:=lf) s2 s3;obtain⟨_,_,_,_,c1,c2⟩:=uN s2 (show s<=4 by lia);obtain⟨m1,m2,_⟩:=uN s2 (show s<=4 by lia);obtain⟨fs,hfs⟩:∃fs,fs=if lf then(range (s*s*s).toNat).map fun _=>cell ns 1%s else ents (cell ns 1) s false:=⟨_,rfl⟩
 have tf:kc s fs:=by
  rw[hfs];split
  ·refine⟨by simp;lia,fun x hx=>?_⟩;obtain⟨_,_,rfl⟩:=mem_map.mp hx;exact⟨emod_nonneg _ (by lia),emod_lt_of_pos _ (by lia)⟩
  ·exact t1
 have K:Ky n s fs (ents (cell ns 2) s lf):=⟨n2,by lia,s2,by lia,tf,t2,big⟩
 obtain⟨os,hos⟩:∃os,os=ents (cell ns 2) s lf:=⟨_,rfl⟩
 rw[<- hos]at K t2;obtain⟨wd,w,hw,ew⟩:∃(wd:Str) (w:Int),Wd wd w/\aq (.lst .own [.str "none",.str "one"]) (.int (c0 / 2%2))=.ok (.str wd):=by
  rcases(show c0 / 2%2=0\/c0 / 2%2=1 by lia)with q|q<;>rw[q]
  ·exact⟨"none",0,.inl ⟨rfl,rfl⟩,rfl⟩
  ·exact⟨"one",1,.inr ⟨rfl,rfl⟩,rfl⟩
 have wl:wd.length<=4/\shp (.str wd)=true:=by rcases hw with⟨rfl,_⟩ |⟨rfl,_⟩<;>exact⟨by decide +kernel,by decide +kernel⟩
 have eq:=(zb wl.2 (show shp (.str "none")=true by decide +kernel)).1;have l1:fs.length<=64:=by have:=tf.len;lia
 have l2:os.length<=64:=by have:=t2.len;lia
 have N1:∀a∈fs,Nm a:=fun a ha=>by have:=tf.rng a ha;exact bg (by lia) (by lia)
 have N2:∀a∈os,Nm a:=fun a ha=>by have:=t2.rng a ha;exact bg (by lia) (by lia)
 have d1:=(nv (sJ K).1).2;have d2:=(nv (sJ K).2).2;have sp1:(" ":Str).length=1:=by decide +kernel
 have Nn:Nm (n:Int):=bg (by lia) (by lia);have Ns:Nm s:=bg (by lia) (by lia);have q1:=(nt Nn).len;have q2:=(nt Ns).len;refine⟨n,s,w,wd,fs,os,lf&&decide (wd="none"),ay ?_,K,n4,hw,fun hc=>?_⟩
 rotate_left
 ·rw[and_eq_true,decide_eq_true_eq]at hc;rw[hc.1]at hfs hos;rw[if_pos rfl]at hfs;refine⟨?_,by rw[hfs,hos];exact xM s2 s3⟩;rcases hw with⟨_,e⟩ |⟨e,_⟩
  ·exact e
  ·rw[hc.2]at e;exact absurd e (by decide +kernel)
 show yt [some (.lst fl (iL ns)),none,none,none,none,none,none,none]=_;unfold yt;refine af (av (v:=.int c0) (by simpa[h.HM,h.HN,aB]using congrArg (fun r=>r.bind aB) e0)) ?_;simp only[s0_,s1_];refine af (av (v:=.int n) (by simp[gz,cK,hn])) ?_;simp only[s0_,s1_];have io:∀b:Bool,jy (.bl b)=.ok (.int (if b then 1 else 0)):=fun b=>by cases b<;>rfl
 have mu:cT (.int (c0 / 4%2)) (.int (if(n:Int)<4 then 1 else 0))=.ok (.int (c0 / 4%2*(if(n:Int)<4 then 1 else 0))):=fQ (.inl ⟨by lia,by lia⟩);refine af (av (v:=.int s) ?_) ?_
 ·simp only[bN,aZ,d3,bv,aS,bG,getElem?_cons_zero,getElem?_cons_succ,aE,dQ,Res.HY,gz (show(0:Int)<4 by decide) (by decide),cK (show(0:Int)<2 by decide),lt_int,p1,io,decide_eq_true_eq,mu,gh,hs]
 simp only[s0_,s1_];refine af (av (v:=.str wd) (by simp[gz,cK,ew])) ?_;simp only[s0_,s1_];have c1':∀e:En,e[0]?=some (some (.lst fl (iL ns)))->ao (ax gI) (ae (ad 0) (ae (HZ 1) ak)) e=.ok (.int (cell ns 1)):=fun e he=>by have e1:gI [.lst fl (iL ns),.int 1]=.ok (.int (cell ns 1)):=e1;simp[he,h.HM,h.HN,e1,aB]
 have c2':∀e:En,e[0]?=some (some (.lst fl (iL ns)))->ao (ax gI) (ae (ad 0) (ae (HZ 2) ak)) e=.ok (.int (cell ns 2)):=fun e he=>by have e2:gI [.lst fl (iL ns),.int 2]=.ok (.int (cell ns 2)):=e2;simp[he,h.HM,h.HN,e2,aB]
 have eL1:=sY (c:=cell ns 1) (lf:=false) s2 s3;have eL2:=sY (c:=cell ns 2) (lf:=lf) s2 s3;rw[<- hos]at eL2;have par:∀x0 x2 x3 x4 x5 x6 x7,(mOp pEq (mOp df (ad 1) (HZ 2)) (HZ 0)) [x0,some (.int c0),x2,x3,x4,x5,x6,x7]=.ok (.bl lf):=fun _ _ _ _ _ _ _=>by simp[cK,xL,hlf]
 refine af (av (v:=.lst .own (iL (ents (cell ns 1) s false))) ?_) ?_
 ·rw[bv,aS,c1' _ rfl];simp[eL1,aB]
 simp only[s0_,s1_];refine af (av (v:=.lst .own (iL os)) ?_) ?_
 ·rw[bv,aS,c2' _ rfl];simp only[aS,bG,par];simp[eL2,aB]
 simp only[s0_,s1_];have hb:mBr (aA (mOp pEq (mOp df (ad 1) (HZ 2)) (HZ 0))) (aH 5 (aM [0,3] 1 (cM (ae (mOp cT (mOp cT (ad 3) (ad 3)) (ad 3)) ak)) (tgN 2) aP (mOp df (ao (ax gI) (ae (ad 0) (ae (HZ 1) ak))) (ad 1)))) aI
   [some (.lst fl (iL ns)),some (.int c0),some (.int n),some (.int s),some (.str wd),some (.lst .own (iL (ents (cell ns 1) s false))),some (.lst .own (iL os)),none]=.next [some (.lst fl (iL ns)),some (.int c0),some (.int n),some (.int s),some (.str wd),some (.lst .own (iL fs)),some (.lst .own (iL os)),none]:=by
  cases hl:lf with
  |false=>rw[hl]at par;rw[hfs,hl];exact aU (by rw[cj,par];rfl) ar
  |true=>rw[hl]at par;refine eT (by rw[cj,par];rfl) (av (v:=.lst .own (iL fs)) ?_);rw[hfs,hl,if_pos rfl];refine be (xs:=dO 0 (s*s*s).toNat) (dL (n:=(s*s*s).toNat) (by simp[m1,m2];lia) (by lia)) (by rw[cv];lia) (jQ 0 (fun _=>cell ns 1%s) _ fun k hk=>⟨[some (.lst fl (iL ns)),some (.int s),some (.int (0+k))],by simp[tgN,aQ,bw,PV.HQ,h.HQ],?_⟩);rw[bN,c1' _ rfl];simp[cK (show 0<s by lia)]
 refine af hb ?_;have g1:=xQ (i:=5) (f:=.own) (env:=[some (.lst fl (iL ns)),some (.int c0),some (.int n),some (.int s),some (.str wd),some (.lst .own (iL fs)),some (.lst .own (iL os)),none]) (by lia) N1 rfl rfl;have g2:=xQ (i:=6) (f:=.own) (env:=[some (.lst fl (iL ns)),some (.int c0),some (.int n),some (.int s),some (.str wd),some (.lst .own (iL fs)),some (.lst .own (iL os)),none]) (by lia) N2 rfl rfl;refine af (av (v:=.str (dgt fs++" "++dgt os)) ?_) ?_
 ·simp only[bN,g1,g2,d3,Res.HY];rw[er (by lia)];simp only[Res.HY];rw[er (by rw[eh];lia)]
 simp only[s0_,s1_];have al:∀x y:Str,(x++y).length=x.length+y.length:=eh;have t6:("table ":Str).length=6:=by decide +kernel
 have e00:(PySem.Str.empty).length=0:=by decide +kernel
 refine aT ?_ (by simp);have J:mJ [(mC (.str "table ")),(mUn jz (ad 2)),(mC (.str " ")),(mUn jz (ad 3)),(mC (.str " ")),(mUn jz (ad 4)),(mC (.str " ")),(mUn jz (ad 7))] PySem.Str.empty [some (.lst fl (iL ns)),some (.int c0),some (.int n),some (.int s),some (.str wd),some (.lst .own (iL fs)),some (.lst .own (iL os)),some (.str (dgt fs++" "++dgt os))]=.ok (.str (line (.tab n s wd fs os))):=by rw[eY (y:="table ") rfl (by simp only[al];lia),eY (y:=tn n) (Bx rfl Nn) (by simp only[al];lia),eY (y:=" ") rfl (by simp only[al];lia),eY (y:=tn s) (Bx rfl Ns) (by simp only[al];lia),eY (y:=" ") rfl (by simp only[al];lia),eY (y:=wd) (Bw rfl (by lia)) (by simp only[al];lia),eY (y:=" ") rfl (by simp only[al];lia),eY (y:=dgt fs++" "++dgt os) (Bw rfl (by simp only[al];lia)) (by simp only[al];lia)];rw[Dg,w9];refine congrArg (fun z=>Res.ok (PV.str z)) ?_;rw[b5 _ (by simp),b5 _ (by simp),b5 _ (by simp),b5 _ (by simp),b5 _ (by simp),e_];refine fJ ?_;simp only[dC,show sg (PySem.Str.empty)=[]from rfl,show sg ("table ":Str)=sg ("table":Str)++ [32] by decide +kernel,show sg (" ":Str)=[32] by decide +kernel,show sg (⟨#[32]⟩:Str)=[32]from rfl,append_assoc,List.nil_append]
 have an:(iO (mOp pEq (mOp df (ad 1) (HZ 2)) (HZ 0)) (mOp pEq (ad 4) (mC (.str "none")))) [some (.lst fl (iL ns)),some (.int c0),some (.int n),some (.int s),some (.str wd),some (.lst .own (iL fs)),some (.lst .own (iL os)),some (.str (dgt fs++" "++dgt os))]=.ok (.bl (lf&&decide (wd="none"))):=by
  have e4:(mOp pEq (ad 4) (mC (.str "none"))) [some (.lst fl (iL ns)),some (.int c0),some (.int n),some (.int s),some (.str wd),some (.lst .own (iL fs)),some (.lst .own (iL os)),some (.str (dgt fs++" "++dgt os))]=.ok (.bl (decide (wd="none"))):=by simp[eq]
  rw[oq,par,e4];cases lf<;>rfl
 simp only[qS,aS,bG,J,an];simp
def gt_mem{l:HC}{i:Nat}(h:i<l.length):gt l i∈l:=by unfold gt;rw[getD_eq_getElem?_getD,getElem?_eq_getElem h];simp
def xb{p:Nat->Bool}(k:Nat):p k=true->∃i,i<=k/\p i=true/\∀j<i,p j=false:=by
 induction k using Nat.strongRecOn with
 |ind k ih=>
  intro h;by_cases q:∃j,j<k/\p j=true
  ·obtain⟨j,hj,pj⟩:=q;obtain⟨i,h1,h2⟩:=ih j hj pj;exact⟨i,by lia,h2⟩
  ·exact ⟨k,Nat.le_refl _,h,fun j hj=>by
    cases e:p j with
    |false=>rfl
    |true=>exact absurd ⟨j,hj,e⟩ q⟩
def se:∀(a b:HC) (i:Nat),a.length=b.length->InC 2 a->InC 2 b->(∀j<i,gt a j=gt b j)->i<a.length->gt b i<gt a i->num 2 b<num 2 a
 | [],_,_,_,_,_,_,h,_|x::a,[],_,h,_,_,_,_,_=>by simp at h
 |x::a,y::b,i,hl,ha,hb,h1,h2,h3=>by
  have hl':a.length=b.length:=by simpa using hl
  have ha':InC 2 a:=fun c hc=>ha c (mem_cons_of_mem _ hc);have hb':InC 2 b:=fun c hc=>hb c (mem_cons_of_mem _ hc);have ra:=iD (s:=2) (by decide) a ha';have rb:=iD (s:=2) (by decide) b hb';rw[iE,iE,<- hl'];rw[<- hl']at rb;cases i with
  |zero=>
   simp only[pQ]at h3;have hx:=ha x (by simp);have hy:=hb y (by simp);have e1:x=1:=by lia
   have e2:y=0:=by lia
   rw[e1,e2]
   lia
  |succ i=>
   have e:=h1 0 (by lia);simp only[pQ]at e;have:=se a b i hl' ha' hb' (fun j hj=>by have:=h1 (j+1) (by lia);simpa only[pP]using this) (by simpa using h2) (by simpa only[pP]using h3);rw[e]
   lia
section
variable{z:Pz}
def bts(z:Pz)(cs:HC):HC:=(range z.n).map fun i=>if eS z.n z.s z.fs z.os cs i≠gt cs i then 1 else 0
def xY(cs:HC):InC 2 (bts z cs):=fun c hc=>by obtain⟨i,_,rfl⟩:=mem_map.mp hc;split<;>lia
def oE{cs:HC}{i:Nat}(h:i<z.n):gt (bts z cs) i=if eS z.n z.s z.fs z.os cs i≠gt cs i then 1 else 0:=by unfold bts gt;simp[h]
def mZ(K:z.K)(L:Lft z.s z.fs z.os){cs nm:HC}(C:Ce z.n z.s cs)(hn:nm∈z.tr cs):num 2 (bts z (z.sp cs nm))<num 2 (bts z cs):=by
 obtain⟨⟨c0,hf⟩,g,ho⟩:=L;obtain⟨h1,h2,h3⟩:=rz hn;have C':=eH K C nm;have n2:=K.n2;have cr:∀{l:HC},Ce z.n z.s l->∀i,i<z.n->0<=gt l i/\gt l i<z.s:=fun {l} C i hi=>by exact C.inn _ (gt_mem (by rw[C.len];exact hi))
 have d0:∀{l:HC},Ce z.n z.s l->eS z.n z.s z.fs z.os l 0=c0:=fun {l} C=>by unfold eS;rw[if_pos rfl];have p:=nV K.s2 K.s4 (cr C 0 (by lia)) (cr C (lft z.n 0) (by unfold lft;simp;lia)) (cr C (rgt z.n 0) (by unfold rgt;split<;>lia));have l1:=K.hf.len;exact hf _ (gt_mem (by lia))
 have di:∀{l:HC},Ce z.n z.s l->∀i,0<i->i<z.n->eS z.n z.s z.fs z.os l i=g (gt l (i-1)):=fun {l} C i h0 hi=>by
  unfold eS;rw[if_neg (by lia)];have e:lft z.n i=i-1:=by unfold lft;rw[if_neg (by lia)]
  have:=ho (gt l i) (gt l (lft z.n i)) (gt l (rgt z.n i)) (cr C i hi) (cr C _ (by lia)) (cr C _ (by unfold rgt;split<;>lia));rw[this,e]
 obtain⟨a,ha⟩:=List.exists_mem_of_ne_nil _ h1;obtain⟨ia,rfl,hia,_⟩:=nZ (h2 a ha);obtain⟨i,hi,pi,pj⟩:=xb (p:=fun i=>nm.contains (i:Int)) ia (by simpa using ha);have hin:i<z.n:=by lia
 have un:∀j<i,gt (z.sp cs nm) j=gt cs j:=fun j hj=>by rw[qe (by lia),if_neg (by have:=pj j hj;rw[this];simp)]
 have ch:gt (z.sp cs nm) i=eS z.n z.s z.fs z.os cs i:=by rw[qe hin,if_pos pi]
 have dsame:∀j,j<=i->eS z.n z.s z.fs z.os (z.sp cs nm) j=eS z.n z.s z.fs z.os cs j:=fun j hj=>by
  by_cases q:j=0
  ·rw[q,d0 C,d0 C']
  ·rw[di C j (by lia) (by lia),di C' j (by lia) (by lia),un (j-1) (by lia)]
 obtain⟨k,ek,_,hk⟩:=nZ (h2 _ (by simpa using pi));have ek:k=i:=by lia
 rw[ek]at hk;refine se _ _ i (by simp[bts]) (xY _) (xY _) (fun j hj=>?_) (by simp[bts,hin]) ?_
 ·rw[oE (by lia),oE (by lia),dsame j (by lia),un j hj]
 ·rw[oE hin,oE hin,dsame i (Nat.le_refl _),ch,if_pos hk];simp
def xt(K:z.K){k:Nat}{y:Int}(hy:y∈z.fol (z.dg k)):∃nm∈z.tr (z.dg k),z.dg y.toNat=z.sp (z.dg k) nm:=by obtain⟨nm,hn,rfl⟩:=mem_map.mp hy;exact⟨nm,hn,(g_ K (eH K (fE K k) nm)).2.2⟩
def wG(K:z.K)(L:Lft z.s z.fs z.os){wl:HC}(R:RdA z wl):False:=by
 have l2:=R.l2;have key:∀i,i+1<wl.length->num 2 (bts z (z.dg (gt wl (i+1)).toNat))<num 2 (bts z (z.dg (gt wl 0).toNat)):=by
  intro i
  induction i with
  |zero=>intro h;obtain⟨nm,h1,h2⟩:=xt K (R.nx 0 h);rw[h2];exact mZ K L (fE K _) h1
  |succ i ih=>intro h;obtain⟨nm,h1,h2⟩:=xt K (R.nx (i+1) h);rw[h2];exact Int.lt_trans (mZ K L (fE K _) h1) (ih (by lia))
 have:=key (wl.length-2) (by lia);rw[show wl.length-2+1=wl.length-1 by lia,<- R.ro]at this;exact absurd this (Int.lt_irrefl _)
def qA{cs:HC}:mv z.n z.s z.fs z.os cs=[]↔ z.tr cs=[]:=yQ.symm
def w_(K:z.K)(h0:z.w=0)(L:Lft z.s z.fs z.os){ws:HF}(A:p8 z ws):∃R,(∀j<z.N,z.lvC (z.dg j)=none)/\(∀j<z.N,z.skC (z.dg j)=false)/\RkA z R/\ws=[("calm":Str),tn (bC R)]:=by
 have cm:∀cs,z.cal cs=true↔z.tr cs=[]:=fun cs=>by
  rw[<- qA,decide_eq_true_eq,h0];constructor
  ·intro h;exact length_eq_zero_iff.mp (by lia)
  ·intro h;rw[h];rfl
 cases A with
 |lv k nm hk h=>
  unfold Pz.lvC at h;split at h
  ·rename_i hc
   rw[(cm _).mp hc]at h;cases h
  ·cases h
 |sk k hk h=>unfold Pz.skC at h;rw[and_eq_true,List.isEmpty_iff]at h;rw[(cm _).mpr h.2]at h;simp at h
 |rd wl R=>exact(wG K L R).elim
 |rk R hv hs A=>exact⟨R,hv,hs,A,rfl⟩
def kE(l:HC)(a:Int):bf (l++[a])=bf l ++(bf l).map (·++[a]):=by simp[bf]
def j8(p:Int->Bool)(l:HC):l.filter p∈bf l:=by
 have key:∀r:HC,r.reverse.filter p∈bf r.reverse:=by
  intro r
  induction r with
  |nil=>simp[bf]
  |cons a r ih=>
   rw[List.reverse_cons,kE,List.filter_append,mem_append];cases e:p a with
   |true=>exact .inr (mem_map.mpr ⟨_,ih,by simp[e]⟩)
   |false=>left;simpa[e]using ih
 have:=key l.reverse;simpa using this
def qf{cs nm:HC}:z.sp cs nm=z.sp cs (dn z.n z.s z.fs z.os cs nm):=by
 unfold Pz.sp stp;refine map_congr_left fun i hi=>?_;have hi:=mem_range.mp hi;by_cases q:eS z.n z.s z.fs z.os cs i=gt cs i
 ·rw[q];simp
 ·have:(dn z.n z.s z.fs z.os cs nm).contains (i:Int)=nm.contains (i:Int):=by have hm:(i:Int)∈ mv z.n z.s z.fs z.os cs:=mem_map.mpr ⟨i,mem_filter.mpr ⟨mem_range.mpr hi,by simpa using q⟩,rfl⟩;rw[Bool.eq_iff_iff,contains_iff_mem,contains_iff_mem];unfold dn;simp[hm]
  rw[this]
def By{cs nm:HC}(h1:z.many=false->nm.length<=1)(hd:dn z.n z.s z.fs z.os cs nm≠[]):dn z.n z.s z.fs z.os cs nm∈z.tr cs:=by
 have nd:(dn z.n z.s z.fs z.os cs nm).Nodup:=Pairwise.filter _ fA;unfold Pz.tr trn;cases hm:z.many with
 |true=>
  rw[if_pos rfl];obtain⟨S',e,_⟩:=(d7 (fA (n:=z.n) (s:=z.s) (fs:=z.fs) (os:=z.os) (cs:=cs))).ex;have:=j8 (fun a=>nm.contains a) (mv z.n z.s z.fs z.os cs);rw[e]at this ⊢;rcases mem_cons.mp this with q|q
  ·exact absurd q hd
  ·exact q
 |false=>
  rw[if_neg (by decide)];have l1:=h1 hm;obtain⟨a,ha⟩:=List.exists_mem_of_ne_nil _ hd;obtain⟨m1,m2⟩:=mem_filter.mp ha;have am:a∈nm:=by simpa using m2
  have en:nm=[a]:=by
   cases nm with
   |nil=>cases am
   |cons b l=>
    cases l with
    |nil=>rw[mem_singleton.mp am]
    |cons _ _=>simp at l1
  have ed:dn z.n z.s z.fs z.os cs nm=[a]:=by
   have al:∀b∈dn z.n z.s z.fs z.os cs nm,b=a:=fun b hb=>by have:=(mem_filter.mp hb).2;rw[en]at this;simpa using this
   generalize dn z.n z.s z.fs z.os cs nm=d at *;cases d with
   |nil=>exact absurd rfl hd
   |cons b l=>
    cases l with
    |nil=>rw[al b (by simp)]
    |cons c l=>have e1:=al b (by simp);have e2:=al c (by simp);rw[e1,e2]at nd;simp at nd
  rw[ed];exact mem_map.mpr ⟨a,m1,rfl⟩
def rnk(z:Pz)(R cs:HC):Int:=gt R (num z.s cs).toNat
def tP(K:z.K)(hv:∀j<z.N,z.lvC (z.dg j)=none)(hs:∀j<z.N,z.skC (z.dg j)=false){R:HC}(A:RkA z R){cs nm:HC}(C:Ce z.n z.s cs)(h1:z.many=false->nm.length<=1) :
  (z.cal cs=true->z.cal (z.sp cs nm)=true)/\(dn z.n z.s z.fs z.os cs nm=[]->z.sp cs nm=cs)/\(z.cal cs=false->dn z.n z.s z.fs z.os cs nm≠[]->rnk z R (z.sp cs nm)+1<=rnk z R cs):=by
 obtain⟨k0,k1,k2⟩:=g_ K C;have e0:dn z.n z.s z.fs z.os cs nm=[]->z.sp cs nm=cs:=fun e=>by rw[qf,e];refine Dw (by rw[(eH K C []).len,C.len]) fun i hi=>?_;rw[qe (by rw[(eH K C []).len]at hi;exact hi)];simp
 refine⟨fun hc=>?_,e0,fun hc hd=>?_⟩
 ·by_cases q:dn z.n z.s z.fs z.os cs nm=[]
  ·rw[e0 q];exact hc
  ·have t:=By h1 q;have l:=hv _ k1;rw[k2]at l;unfold Pz.lvC at l;rw[hc,if_pos rfl]at l;have:=List.find?_eq_none.mp l _ t;rw[qf];simpa using this
 ·have t:=By h1 hd;have a:=A.ok _ k1;rw[k2,hc,if_neg (by decide)]at a;have ne:(z.fol cs).map (fun y=>gt R y.toNat)≠ []:=by unfold Pz.fol;intro q;simp at q;rw[q]at t;cases t
  have:=(iH _ ne).2 (rnk z R (z.sp cs nm)) (mem_map.mpr ⟨z.nu cs (dn z.n z.s z.fs z.os cs nm),mem_map.mpr ⟨_,t,rfl⟩,by rw[qf];rfl⟩);show _<=gt R (num z.s cs).toNat
  lia
def tws(z:Pz)(cs nm:HC):HF:=mdw (dn z.n z.s z.fs z.os cs nm)++(":":Str)::swd z.n z.s z.fs z.os z.w (z.sp cs nm)
def vp{n:Nat}{s:Int}{fs os cs:HC}{w:Int}:swd n s fs os w cs≠[]:=by simp[swd]
def u8{cs nm:HC}:sj (twd z.n z.s z.fs z.os z.w cs nm)=sj (tws z cs nm):=by unfold twd tws;rw[FZ,Fd _ _ _ (De _) vp]
def ans(z:Pz):HC->List (HC)->HF
 |_,[]=>[]
 |cs,nm::l=>sj (twd z.n z.s z.fs z.os z.w cs nm)::ans z (z.sp cs nm) l
def vn(K:z.K){cs:HC}(C:Ce z.n z.s cs):∀y∈swd z.n z.s z.fs z.os z.w cs,Wc y:=fun y hy=>by
 have S:=Ce.sml K C;rcases mem_append.mp hy with hy|hy
 ·obtain⟨a,ha,rfl⟩:=mem_map.mp hy;exact jU (bg (S.2 a ha).1 (S.2 a ha).2)
 ·rw[mem_singleton.mp hy];exact E0 _
def BD(K:z.K){cs nm:HC}(C:Ce z.n z.s cs):∀y∈tws z cs nm,Wc y:=fun y hy=>by
 rcases mem_append.mp hy with hy|hy
 ·exact Dc (ou K).1 y hy
 ·rcases mem_cons.mp hy with rfl|hy
  ·exact fm (by decide +kernel)
  ·exact vn K (eH K C nm) y hy
def zU{l:HC}(h:l.length<=10):(mdw l).length<=10:=by unfold mdw;split<;>simp<;>lia
def xi{a:HF}{b:Bool}(h:∀y∈a++[cw b],Wc y)(hl:a.length<=100):(cJ (sj (a++[cw b])) (.str " ")).bind (fun x=>aq x (.int (-1)))=.ok (.str (cw b)):=by rw[oW (by simp) (by simp;lia) fun y hy=>(h y hy).wn];exact xo _ _ _
def vq(K:z.K){cs:HC}(C:Ce z.n z.s cs):(cJ (sj (swd z.n z.s z.fs z.os z.w cs)) (.str " ")).bind (fun x=>aq x (.int (-1)))=.ok (.str (cw (z.cal cs))):=
 xi (vn K C) (by simp;have:=C.len;have:=K.n8;lia)
def u0(K:z.K){cs nm:HC}(C:Ce z.n z.s cs):(cJ (sj (tws z cs nm)) (.str " ")).bind (fun x=>aq x (.int (-1)))=.ok (.str (cw (z.cal (z.sp cs nm)))):=by
 have e:tws z cs nm=(mdw (dn z.n z.s z.fs z.os cs nm)++(":":Str)::(z.sp cs nm).map tn)++ [cw (z.cal (z.sp cs nm))]:=by unfold tws swd cal;simp
 have h:=BD (nm:=nm) K C;rw[e]at h ⊢;refine xi h ?_;have:=zU (ou (cs:=cs) (nm:=nm) K).2;have e2:(z.sp cs nm).length=z.n:=(eH K C nm).len;have:=K.n8;rw[length_append,length_cons,length_map,e2]
 lia
def k9{env:En}{m:ME}{g:Str->PV->HL}{y:Str}{v:PV}(h:m env=.ok (.str y)):mMt g m (mC v) env=g y v:=by unfold mMt;rw[h];simp only[Res.HY,d3]
def Gz(b:Bool):cy (.str (cw b)) (.lst .own [.str "calm",.str "wild"])=.ok (.bl false):=by cases b<;>exact aO (by decide +kernel)
def tw(b:Bool):pEq (.str (cw b)) (.str "calm")=.ok (.bl b)/\pNe (.str (cw b)) (.str "calm")=.ok (.bl !b)/\pEq (.str (cw b)) (.str "wild")=.ok (.bl !b):=by cases b<;>exact⟨aO (by decide +kernel),aO (by decide +kernel),aO (by decide +kernel)⟩
def GdM(z:Pz)(nm:HC):Prop:=Gd z.n nm/\(z.many=false->nm.length<=1)
def tN(K:z.K)(hv:∀j<z.N,z.lvC (z.dg j)=none)(hs:∀j<z.N,z.skC (z.dg j)=false){R:HC}(A:RkA z R){cs0:HC}(C0:Ce z.n z.s cs0){l:List (HC)}(hl:l.length<=100)(hg:∀nm∈l,GdM z nm) :
  sS [.lst .own (sL (sj (swd z.n z.s z.fs z.os z.w cs0)::ans z cs0 l)),.int (bC R)]=.ok (.bl true):=by
 obtain⟨L,hL⟩:∃L,sL (sj (swd z.n z.s z.fs z.os z.w cs0)::ans z cs0 l)=L:=⟨_,rfl⟩
 have Lm:∀g:Fl->Fl,mapL g L=L:=fun g=>by rw[<- hL];simp
 have i0:aq (.lst .lnt L) (.int 0)=.ok (.str (sj (swd z.n z.s z.fs z.os z.w cs0))):=by rw[<- hL];exact bD (by decide) rfl
 have cu:f7 L (some 1) none=sL (ans z cs0 l):=by rw[<- hL];exact dR _ 1 (by simp)
 have rr:∀{cs:HC},Ce z.n z.s cs->0<=rnk z R cs/\rnk z R cs<=bC R:=fun {cs} C=>by obtain⟨_,k1,_⟩:=g_ K C;refine⟨(iq K hs A k1).1,(iH R (Ez K A)).2 _ (gt_mem (by rw[A.len];exact k1))⟩
 refine ay ?_;show yx [some (.lst .own (sL (sj (swd z.n z.s z.fs z.os z.w cs0)::ans z cs0 l))),some (.int (bC R)),none,none,none,none]=_;rw[hL];unfold yx;refine af (av (v:=.str (cw (z.cal cs0))) ?_) ?_
 ·have e:=vq K C0;rw[bN,k9 (y:=sj (swd z.n z.s z.fs z.os z.w cs0)) (by simp[Lm,i0])];simpa using e
 simp only[s0_,s1_];refine af (av (v:=.int 0) (by simp)) ?_;simp only[s0_,s1_];refine da (xs:=sL (ans z cs0 l)) (fun k e=>∃cs wi x4 x5,e=[some (.lst .own L),some (.int (bC R)),some (.str (cw (z.cal cs))),some (.int wi),x4,x5]/\Ce z.n z.s cs/\wi+rnk z R cs<=bC R/\(ans z cs0 l).drop k=ans z cs (l.drop k)) (cq (f:=.own) (by simp[Lm,cu]) rfl (by simp) (by simp)) ⟨cs0,0,_,_,rfl,C0,by have:=rr C0;lia,rfl⟩ (fun k x e hx hP=>?_) (fun e hP=>?_)
 ·obtain⟨cs,wi,x4,x5,rfl,C,hw,hd⟩:=hP;unfold sL at hx;rw[getElem?_map]at hx;obtain⟨y,hy,rfl⟩:=map_eq_some_iff.mp hx;have kl:=(List.getElem?_eq_some_iff.mp hy).1;rw[drop_eq_getElem_cons kl]at hd;have ey:(ans z cs0 l)[k]=y:=by simpa[getElem?_eq_getElem kl]using hy
  rw[ey]at hd;cases hk:l.drop k with
  |nil=>rw[hk]at hd;cases hd
  |cons nm l'=>
   rw[hk]at hd;have hl':l.drop (k+1)=l':=by rw[<- List.drop_drop,hk];rfl
   obtain⟨e1,e2⟩:=List.cons.inj hd;have hnm:nm∈l:=List.mem_of_mem_drop (by rw[hk];simp:nm∈l.drop k);obtain⟨w1,w2,w3⟩:=tP K hv hs A C (hg nm hnm).2;rw[u8]at e1;obtain⟨c1,_,c3⟩:=tw (z.cal cs);obtain⟨_,d2,_⟩:=tw (z.cal (z.sp cs nm));have ni:=Gz (z.cal cs);have sw:=vw (ou (cs:=cs) (nm:=nm) K).1 (b:=swd z.n z.s z.fs z.os z.w (z.sp cs nm)) vp;refine⟨_,dz rfl,?_⟩;simp only[s0_,s1_];refine bZ (av (v:=.str (cw (z.cal (z.sp cs nm)))) ?_) ?_
   ·have e:=u0 (nm:=nm) K C;rw[bN,k9 (y:=y) (by simp),e1];simpa using e
   simp only[s0_,s1_];refine bZ (aU ?_ ar) ?_
   ·simp only[DR,fT,cj,bN,aZ,d3,g7,aS,bG,getElem?_cons_zero,getElem?_cons_succ,aE,gu,Res.HY,c1,d2,ni,wr];cases hc:z.cal cs with
    |true=>rw[w1 hc];rfl
    |false=>rfl
   have st:aY (dh (ad 4) (mC (.str "- : "))) [some (.lst .own L),some (.int (bC R)),some (.str (cw (z.cal cs))),some (.int wi),some (.str y),some (.str (cw (z.cal (z.sp cs nm))))]=.ok (decide (dn z.n z.s z.fs z.os cs nm=[])):=by rw[lE,ji rfl,e1];show(Res.ok (PV.bl (PySem.Txt.startswith (sj (mdw _++_)) _))).bind _=_;rw[sw];rfl
   have C':=eH K C nm;have eb:∃wi',mBr ((d6 (aA (mOp pEq (ad 2) (mC (.str "wild")))) (iM (aY (dh (ad 4) (mC (.str "- : "))))))) (uy 3 (HZ 1)) aI [some (.lst .own L),some (.int (bC R)),some (.str (cw (z.cal cs))),some (.int wi),some (.str y),some (.str (cw (z.cal (z.sp cs nm))))]=.next [some (.lst .own L),some (.int (bC R)),some (.str (cw (z.cal cs))),some (.int wi'),some (.str y),some (.str (cw (z.cal (z.sp cs nm))))]/\wi'+rnk z R (z.sp cs nm)<= bC R:=by
    by_cases q:z.cal cs=false/\dn z.n z.s z.fs z.os cs nm≠[]
    ·refine⟨wi+1,eT ?_ (Ev rfl rfl rfl),by have:=w3 q.1 q.2;lia⟩;rw[fT,sV,st,cj];rw[q.1]at c3 ⊢;simp[c3,q.2]
    ·refine⟨wi,aU ?_ ar,?_⟩
     ·rw[fT,sV,st,cj];cases hc:z.cal cs with
      |true=>rw[hc]at c3;simp[c3]
      |false=>rw[hc]at c3 q;have:dn z.n z.s z.fs z.os cs nm=[]:=Decidable.byContradiction fun h=>q ⟨rfl,h⟩;simp[c3,this]
     ·cases hc:z.cal cs with
      |true=>
       obtain⟨_,k1,k2⟩:=g_ K C';have:=A.ok _ k1;rw[k2,w1 hc,if_pos rfl]at this;have:rnk z R (z.sp cs nm)=0:=this;have:=(rr C).1
       lia
      |false=>rw[hc]at q;rw[w2 (Decidable.byContradiction fun h=>q ⟨rfl,h⟩)];exact hw
   obtain⟨wi',eb,hw'⟩:=eb;refine bZ eb ?_;refine bR (av (v:=.str (cw (z.cal (z.sp cs nm)))) (by simp)) ⟨z.sp cs nm,wi',_,_,rfl,C',hw',?_⟩;rw[e2,hl']
 ·obtain⟨cs,wi,x4,x5,rfl,C,hw,_⟩:=hP;have:=(rr C).1;exact aT (by simp;lia) (by simp)
end
def rgI(n:Nat):HC:=(range n).map fun i:Nat=>(i:Int)
def vY(n:Nat):rgI (n+1)=rgI n++[(n:Int)]:=by simp[rgI,List.range_succ]
def mO(n:Nat):(rgI n).Nodup:=by have:=List.nodup_range (n:=n);rw[List.nodup_iff_pairwise_ne]at this ⊢;exact List.pairwise_map.mpr (this.imp fun q e=>q (by lia))
def rD{n:Nat}{nm:HC}(h:nm∈bf (rgI n)):Gd n nm:=by
 obtain⟨S',e,h2,_⟩:=(d7 (mO n)).ex;rw[e]at h;rcases mem_cons.mp h with rfl|h
 ·exact⟨nodup_nil,nofun,zero_le _⟩
 ·obtain⟨_,h3,h4⟩:=h2 nm h;refine⟨h4,fun x hx=>?_,by have:=mY h4 h3;simpa[rgI]using this⟩;obtain⟨i,hi,rfl⟩:=mem_map.mp (h3 x hx);have:=mem_range.mp hi
  lia
def oM(n:Nat):(bf (rgI n)).length=2 ^ n:=by rw[(d7 (mO n)).len];simp[rgI]
def tln(nm:HC):Str:=line (.row "turn" nm)
def qd(nm:HC):tln nm=sj (("turn":Str)::nm.map tn):=rfl
def Fc:(" ":Str)=⟨#[32]⟩:=kK
def vf(nm:HC)(a:Int):tln (nm++[a])=tln nm++" "++tn a:=by rw[qd,qd,Fc,map_append,<- cons_append,kM (by simp) (by simp)];show _++sj [tn a]=_;rw[e_]
def eQ(l:HC)(h:l≠[]):line (.row "state" l)=("state ":Str)++ sj (l.map tn):=by show sj (("state":Str)::l.map tn)=_;rw[b5 _ (by simpa using h)];refine fJ ?_;simp only[dC];rw[show sg ("state ":Str)=sg ("state":Str)++ [32] by decide +kernel];rfl
def kD{n:Nat}{nm:HC}(n4:n<=4)(h:Gd n nm):SOk (.row "turn" nm)/\kd (.row "turn" nm)∈ doi:=
 ⟨⟨by decide +kernel,by have:=h.2.2;lia,fun a ha=>by have:=h.2.1 a ha;exact bg (by lia) (by lia)⟩,by show("turn":Str)∈ doi;decide +kernel⟩
section
variable{z:Pz}{wd:Str}
def lQ(K:z.K){cs:HC}(C:Ce z.n z.s cs):∀a∈cs,Nm a:=fun a ha=>by have:=(Ce.sml K C).2 a ha;exact bg (by lia) (by lia)
def AX{l:HC}(h:l≠[])(b:Bool):sj (l.map tn++[cw b])=sj (l.map tn)++(if b then " calm" else " wild"):=by rw[kM (by simpa using h) (by simp),e_,eJ];congr 1;cases b<;>decide +kernel
def uf(K:z.K)(hw:Wd wd z.w)(n4:z.n<=4){cs nm:HC}(C:Ce z.n z.s cs)(hg:Gd z.n nm):j9 [.str (PySem.Txt.join ⟨#[10]⟩ [line (.tab z.n z.s wd z.fs z.os),line (.row "state" cs),tln nm])]=.ok (.lst .own (sL [sj (swd z.n z.s z.fs z.os z.w cs),sj (twd z.n z.s z.fs z.os z.w cs nm)])):=by have:=vc (regs:=cs) (r:=[.row "turn" nm]) (zs:=[sj (twd z.n z.s z.fs z.os z.w cs nm)]) K hw n4 C.len (lQ K C) (by simp) (fun y hy=>by rw[mem_singleton.mp hy];exact kD n4 hg) (by rw[gp C.inn];exact .cons (oI K C hg) .nil);rw[gp C.inn]at this;exact this
def nN{ns:HC}{hd:Str}(h:SOk (.row hd ns)):(line (.row hd ns)).length<=900:=(iP h).2
def z7(K:z.K)(hw:Wd wd z.w)(n4:z.n<=4){cs:HC}(C:Ce z.n z.s cs)(hc:z.cal cs=true){nm:HC}(hx:z.cal (z.sp cs nm)=false):xD [.str (line (.tab z.n z.s wd z.fs z.os)),.int z.n,.str (sj (cs.map tn))]=.ok (.bl true):=by
 have n2:=K.n2;have cne:cs≠[]:=fun e=>by have:=C.len;rw[e]at this;simp at this;lia
 have so:SOk (.row "state" cs):=⟨by decide +kernel,by have:=C.len;lia,lQ K C⟩
 have sl:=nN so;rw[eQ cs cne,eh]at sl;have s6:("state ":Str).length=6:=by decide +kernel
 have tl:=(iP (nw K hw)).2;obtain⟨tb,htb⟩:∃tb,line (.tab z.n z.s wd z.fs z.os)=tb:=⟨_,rfl⟩
 obtain⟨cl,hcl⟩:∃cl,sj (cs.map tn)=cl:=⟨_,rfl⟩
 rw[hcl]at sl;rw[htb]at tl ⊢;rw[hcl];refine ay ?_;show yi [some (.str tb),some (.int z.n),some (.str cl),none,none,none,none,none]=_;unfold yi;refine af (av (v:=.lst .own (sL ((bf (rgI 0)).map tln))) ?_) ?_
 ·have e:sL ((bf (rgI 0)).map tln)=[.str "turn"]:=by show [PV.str (tln [])]=_;rw[qd,List.map_nil,e_]
  rw[e];simp
 simp only[s0_,s1_];have tlen:∀k,k<=4->∀y ∈(bf (rgI k)).map tln,y.length<=900:=fun k hk y hy=>by obtain⟨m,hm,rfl⟩:=mem_map.mp hy;exact nN (kD hk (rD hm)).1
 have p16:∀k,k<=4->2 ^ k<=16:=fun k hk=>by rcases(show k=0\/k=1\/k=2\/k=3\/k=4 by lia)with rfl|rfl|rfl|rfl|rfl<;>decide
 refine da (xs:=dO 0 z.n) (fun k e=>∃x4,e=[some (.str tb),some (.int z.n),some (.str cl),some (.lst .own (sL ((bf (rgI k)).map tln))),x4,none,none,none]) (dL (n:=z.n) (by simp) (by lia)) ⟨_,rfl⟩ (fun k x e hx hP=>?_) (fun e hP=>?_)
 ·obtain⟨x4,rfl⟩:=hP;obtain⟨hk,rfl⟩:=ik hx;rw[Int.zero_add];have Nk:Nm (k:Int):=bg (by lia) (by lia);have sp1:(" ":Str).length=1:=by decide +kernel
  have kl:=(nt Nk).len;have ln:=oM k;have l16:=p16 k (by lia);refine⟨_,dz rfl,?_⟩;simp only[s0_,s1_];refine bR (av (v:=.lst .own (sL ((bf (rgI (k+1))).map tln))) ?_) ⟨_,rfl⟩;have cm:aM [4] 1 (a8 (ad 3)) (tgN 1) aP (mOp b8 (mOp b8 (ad 1) (mC (.str " "))) (ao (p1 dP) (ae (ad 0) ak))) [some (.str tb),some (.int z.n),some (.str cl),some (.lst .own (sL ((bf (rgI k)).map tln))),some (.int k),none,none,none]=.ok (.lst .own (sL ((bf (rgI k)).map fun m=>tln (m++[(k:Int)])))):=by
   refine be (xs:=sL ((bf (rgI k)).map tln)) (by simp) (by simp;lia) ?_;rw[show sL ((bf (rgI k)).map tln)=(bf (rgI k)).map fun m=>PV.str (tln m) by simp[sL],show sL ((bf (rgI k)).map fun m=>tln (m++[(k:Int)]))=(bf (rgI k)).map fun m=>PV.str (tln (m++[(k:Int)])) by simp[sL]];refine aR (a:=fun m=>PV.str (tln m)) (f:=fun m=>PV.str (tln (m++[(k:Int)]))) (bf (rgI k)) fun m hm=>⟨[some (.int k),some (.str (tln m))],by simp[tgN,aQ,bw,PV.HQ,b7],?_,by simp,by simp⟩
   have lm:=tlen k (by lia) _ (mem_map.mpr ⟨m,hm,rfl⟩);have a1:b8 (.str (tln m)) (.str " ")=.ok (.str (tln m++" ")):=er (by lia);have a2:b8 (.str (tln m++" ")) (.str (tn k))=.ok (.str (tln m++" "++tn k)):=er (by rw[eh];lia);simp[p1,(nt Nk).st,a1,a2,vf]
  rw[bN,cm,vY,kE,map_append,map_map];show _=Res.ok (PV.lst .own (sL (_ ++(bf (rgI k)).map fun m=>tln (m++[(k:Int)]))));have pl:=jt (f:=.lnt) (g:=.own) (zs:=(bf (rgI k)).map tln) (ys:=(bf (rgI k)).map fun m=>tln (m++[(k:Int)])) (by decide) (by decide) (by simp;lia);simpa using pl
 obtain⟨x4,rfl⟩:=hP;rw[cv];obtain⟨S,hS⟩:∃S,bf (rgI z.n)=S:=⟨_,rfl⟩
 have Sg:∀m∈S,Gd z.n m:=fun m hm=>rD (by rw[hS];exact hm);have Sn:S.length<=16:=by rw[<- hS,oM];exact p16 z.n n4
 have nm':(rgI z.n).filter (fun a=>nm.contains a)∈ S:=by rw[<- hS];exact j8 _ _
 have hx':z.cal (z.sp cs ((rgI z.n).filter fun a=>nm.contains a))=false:=by rw[<- hx];refine congrArg z.cal (vv fun i hi=>?_);rw[Bool.eq_iff_iff,contains_iff_mem,contains_iff_mem,mem_filter,contains_iff_mem];exact⟨fun q=>q.2,fun q=>⟨mem_map.mpr ⟨i,mem_range.mpr hi,rfl⟩,q⟩⟩
 have tle:=tlen z.n n4;rw[hS]at tle ⊢;refine af (av (v:=.bl false) (by simp)) ?_;simp only[s0_,s1_];refine af (fS (v:=.lst .own (sL (S.map tln))) rfl) ?_;simp only[s0_,s1_,aL,jp,cB];refine da (xs:=sL (S.map tln)) (fun k e=>∃x6 x7,e=[some (.str tb),some (.int z.n),some (.str cl),some (.lst .frz (sL (S.map tln))),x4,some (.bl ((S.take k).any fun m=>!z.cal (z.sp cs m))),x6,x7]) (cq (f:=.frz) (by simp) rfl (by simp) (by simp)) ⟨_,_,rfl⟩ (fun k x e hxk hP=>?_) (fun e hP=>?_)
 ·obtain⟨x6,x7,rfl⟩:=hP;unfold sL at hxk;rw[getElem?_map,getElem?_map]at hxk;obtain⟨y,hy,rfl⟩:=map_eq_some_iff.mp hxk;obtain⟨m,hm,rfl⟩:=map_eq_some_iff.mp hy;have mS:=List.mem_of_getElem? hm;have pt:=uf K hw n4 C (Sg m mS);rw[htb,eQ cs cne,hcl]at pt;have ml:=tle _ (mem_map.mpr ⟨m,mS,rfl⟩);refine⟨_,dz rfl,?_⟩;simp only[s0_,s1_];have a1:b8 (.str "state ") (.str cl)=.ok (.str ("state "++cl)):=er (by lia);refine bZ (av (v:=.lst .own (sL [sj (swd z.n z.s z.fs z.os z.w cs),sj (twd z.n z.s z.fs z.os z.w cs m)])) ?_) ?_
  ·have je:=eZ (env:=[some (.str tb),some (.int z.n),some (.str cl),some (.lst .frz (sL (S.map tln))),x4,some (.bl ((S.take k).any fun m=>!z.cal (z.sp cs m))),some (.str (tln m)),x7]) (m:=bU (ae (ad 0) (ae (mOp b8 (mC (.str "state ")) (ad 2)) (ae (ad 6) ak)))) (f:=.own) (sep := "\n") (ls:=[tb, "state " ++ cl,tln m]) (by decide +kernel) (by simp) (fun y hy=>by
    simp only[mem_cons,not_mem_nil,or_false]at hy;rcases hy with rfl|rfl|rfl
    ·exact tl
    ·rw[eh];exact sl
    ·exact ml) (by simp[a1,sL])
   rw[bv,aS];rw[pC]at je;simp only[pC]at je ⊢;rw[je];simp[pt,aB]
  simp only[s0_,s1_];have i0:aq (.lst .lnt (sL [sj (swd z.n z.s z.fs z.os z.w cs),sj (twd z.n z.s z.fs z.os z.w cs m)])) (.int 0)=.ok (.str (sj (swd z.n z.s z.fs z.os z.w cs))):=bD (by decide) rfl;have i1:aq (.lst .lnt (sL [sj (swd z.n z.s z.fs z.os z.w cs),sj (twd z.n z.s z.fs z.os z.w cs m)])) (.int 1)=.ok (.str (sj (twd z.n z.s z.fs z.os z.w cs m))):=bD (by decide) rfl;have es:sj (swd z.n z.s z.fs z.os z.w cs)=cl++" calm":=by have:cal z.n z.s z.fs z.os z.w cs=true:=hc;unfold swd;rw[this,AX cne,hcl];rfl
  have s5:(" calm":Str).length=5:=by decide +kernel
  have a2:b8 (.str cl) (.str " calm")=.ok (.str (cl++" calm")):=er (by lia);have ac:shp (.str (sj (swd z.n z.s z.fs z.os z.w cs)))=true:=tH (qZ fun y hy=>by
   rcases mem_append.mp hy with hy|hy
   ·obtain⟨a,ha,rfl⟩:=mem_map.mp hy;exact qY (lQ K C a ha)
   ·rw[mem_singleton.mp hy];exact yD _)
  have nes:pNe (.str (sj (swd z.n z.s z.fs z.os z.w cs))) (.str (cl++" calm"))=.ok (.bl false):=zL (by rw[es]) ac;refine bZ (aU (by simp[i0,a2,nes]) ar) ?_;have ew:PySem.Txt.endswith (sj (twd z.n z.s z.fs z.os z.w cs m)) " wild" = !z.cal (z.sp cs m):=by rw[u8,show tws z cs m=(mdw (dn z.n z.s z.fs z.os cs m)++(":":Str)::(z.sp cs m).map tn)++ [cw (z.cal (z.sp cs m))] by unfold tws swd cal;simp];exact xN (by simp) _
  refine bR (av (v:=.bl ((S.take (k+1)).any fun m=>!z.cal (z.sp cs m))) ?_) ⟨_,_,rfl⟩;have en:mMt sd (mOp aq (ad 7) (HZ 1)) (mC (.str " wild")) [some (.str tb),some (.int z.n),some (.str cl),some (.lst .frz (sL (S.map tln))),x4,some (.bl ((S.take k).any fun m=>!z.cal (z.sp cs m))),some (.str (tln m)),some (.lst .own (sL [sj (swd z.n z.s z.fs z.os z.w cs),sj (twd z.n z.s z.fs z.os z.w cs m)]))]=.ok (.bl !z.cal (z.sp cs m)):=by rw[k9 (y:=sj (twd z.n z.s z.fs z.os z.w cs m)) (by simp[i1])];show Res.ok (PV.bl _)=_;rw[ew]
  rw[DS,en,List.take_succ,hm,List.any_append];simp only[aZ,getElem?_cons_zero,getElem?_cons_succ,aE,ku,Res.HY];cases(S.take k).any fun m=>!z.cal (z.sp cs m)<;>simp[pOr]
 ·obtain⟨x6,x7,rfl⟩:=hP;rw[vT,length_map,List.take_length];have:(S.any fun m=>!z.cal (z.sp cs m))=true:=any_eq_true.mpr ⟨_,nm',by rw[hx'];rfl⟩;rw[this];exact fe rfl
def jY(K:z.K):∀{l:List (HC)}{cs:HC},Ce z.n z.s cs->(∀nm∈l,GdM z nm)->lX (oK z.n z.s z.w z.fs z.os) cs (l.map (.row "turn")) (ans z cs l)
 | [],_,_,_=>.nil
 |nm::l,cs,C,h=>.cons (oI K C (h nm mem_cons_self).1) (jY K (eH K C nm) fun m hm=>h m (mem_cons_of_mem _ hm))
def tK:∀(l:List (HC)) (cs:HC),(ans z cs l).length=l.length
 | [],_=>rfl
 |nm::l,cs=>by simp[ans,tK l]
def z6(b:Bool):line (.lk b)=("look":Str)++(if b then " many" else ""):=by cases b<;>decide +kernel
def pJ:line (.num "may" [])= "may":=e_ _
def lns(z:Pz)(wd:Str)(regs:HC)(l:List (HC)):List Sd:=jf z.n z.s wd z.fs z.os regs (.num "may" []::.lk z.many::l.map (.row "turn"))
def w8(K:z.K)(hw:Wd wd z.w)(n4:z.n<=4){regs:HC}{l:List (HC)}(hn:regs.length=z.n)(hr:∀a∈regs,Nm a)(hg:∀nm∈l,GdM z nm)(hl:l.length<=63):(∀y ∈(lns z wd regs l).map line,y.length<=900)/\(lns z wd regs l).length=l.length+4/\∃ws,p8 z ws /\
  j9 [.str (PySem.Txt.join ⟨#[10]⟩ ((lns z wd regs l).map line))]=.ok (.lst .own (sL (sj (swd z.n z.s z.fs z.os z.w (regs.map (· % z.s)))::md (mv z.n z.s z.fs z.os (regs.map (· % z.s)))::sj ws::ans z (regs.map (· % z.s)) l))):=by
 have s2:=K.s2;have C:Ce z.n z.s (regs.map (· % z.s)):=⟨by simpa using hn,fun c hc=>by
  obtain⟨x,_,rfl⟩:=mem_map.mp hc;exact⟨emod_nonneg _ (by lia),emod_lt_of_pos _ (by lia)⟩⟩
 obtain⟨ws,W,hs⟩:=w5 (cs:=regs.map (· % z.s)) K fun _=>n4;have hS:∀y ∈(Sd.num "may" []::Sd.lk z.many::l.map (Sd.row "turn")),SOk y/\kd y∈doi:=fun y hy=>by
  rcases mem_cons.mp hy with rfl|hy
  ·exact⟨⟨by decide +kernel,nofun⟩,by show("may":Str)∈ doi;decide +kernel⟩
  ·rcases mem_cons.mp hy with rfl|hy
   ·exact⟨trivial,by show("look":Str)∈ doi;decide +kernel⟩
   ·obtain⟨nm,hm,rfl⟩:=mem_map.mp hy;exact kD n4 (hg nm hm).1
 refine⟨fun y hy=>?_,by simp[lns,jf],ws,W,vc K hw n4 hn hr (by simp;lia) hS (.cons (si K C) (.cons hs (jY K C hg)))⟩;obtain⟨d,hd,rfl⟩:=mem_map.mp hy;refine(iP ?_).2;rcases mem_cons.mp hd with rfl|hd
 ·exact nw K hw
 ·rcases mem_cons.mp hd with rfl|hd
  ·exact⟨by decide +kernel,by lia,hr⟩
  ·exact(hS d hd).1
end
def qL{f:Fl}{l:HC}(h:∀a∈l,Nm a)(hl:l.length<=100):DH [.lst f (iL l)]=.ok (.str (sj (l.map tn))):=by
 refine ay ?_;show D9 [some (.lst f (iL l))]=_;unfold D9;refine aT ?_ (by simp);rw[kK];exact eZ (f:=.own) (by decide +kernel) (by simpa using hl) (fun y hy=>by
  obtain⟨a,ha,rfl⟩:=mem_map.mp hy;have:=(nt (h a ha)).len
  lia) (jh h (by lia) (by simp))
def vF{f:Fl}{zs:HF}(h:∀y∈zs,Asc y):shp (.lst f (sL zs))=true:=by
 have key:∀zs:HF,(∀y∈zs,Asc y)->PyData.canLayAll0 (dataL (sL zs))=true/\PyData.depthAll (dataL (sL zs))=0:=by
  intro zs
  induction zs with
  |nil=>intro _;exact⟨rfl,rfl⟩
  |cons y zs ih=>intro h;obtain⟨a,b⟩:=ih fun x hx=>h x (mem_cons_of_mem _ hx);have ok:=tH (h y mem_cons_self);simp[shp,SeqAt.shaped,PV.data,PyData.canLay0,PyData.depth]at ok;unfold sL at *;simp[dataL,PV.data,PyData.canLayAll0,PyData.canLay0,PyData.depthAll,PyData.depth,a,b,ok]
 obtain⟨a,b⟩:=key zs h;simp[shp,SeqAt.shaped,PV.data,PyData.canLay0,PyData.depth,a,b]
def bit(c:Int)(i:Nat):Bool:=decide (Builtin.bitAnd (c / 3 / 2 ^ i) 1=1)
def law_true(fl:Fl)(ns:HC)(h:Scr fl)(hl:ns.length<=63):xK [.lst fl (ns.map .int)]=.ok (.bl true):=by
 obtain⟨n,s,w,wd,fs,os,cl,et,K0,n4,hw0,hcl⟩:=tW (ns:=ns) h;obtain⟨many,hm⟩:∃b,decide (cell ns 3%2=1)=b:=⟨_,rfl⟩
 obtain⟨z,hz⟩:∃z:Pz,z=⟨n,s,fs,os,w,many⟩:=⟨_,rfl⟩
 have K:z.K:=by rw[hz];exact K0
 have hw:Wd wd z.w:=by rw[hz];exact hw0
 obtain⟨rfl,rfl,rfl,rfl,rfl,rfl⟩:n=z.n/\s=z.s/\fs=z.fs/\os=z.os/\w=z.w/\many=z.many:=by rw[hz];exact⟨rfl,rfl,rfl,rfl,rfl,rfl⟩
 clear hz K0 hw0;have n2:=K.n2;have s2:=K.s2;obtain⟨regs,hregs⟩:∃regs,regs=(range z.n).map fun i:Nat=>cell ns (4+i)%(2*10 ^ 59)-10 ^ 59:=⟨_,rfl⟩
 have rn:regs.length=z.n:=by rw[hregs];simp
 have hr:∀a∈regs,Nm a:=fun a ha=>by
  rw[hregs]at ha;obtain⟨i,_,rfl⟩:=mem_map.mp ha;have h1:=emod_nonneg (cell ns (4+i)) (show(2*10 ^ 59:Int)≠ 0 by decide);have h2:=emod_lt_of_pos (cell ns (4+i)) (show(0:Int)<2*10 ^ 59 by decide);unfold Nm;generalize cell ns (4+i)%(2*10 ^ 59)=x at *;have h3:(x-10 ^ 59).natAbs<=10 ^ 59:=by lia
  exact Nat.lt_of_le_of_lt h3 (by decide +kernel)
 obtain⟨tb,htb⟩:∃tb,line (.tab z.n z.s wd z.fs z.os)=tb:=⟨_,rfl⟩
 rw[htb]at et;show xK [.lst fl (iL ns)]=_;refine ay ?_;show yA [some (.lst fl (iL ns)),none,none,none,none,none,none,none,none,none,none]=_;unfold yA;obtain⟨T1,hT1⟩:∃T1:HK,[.int z.n,.int z.s,.str wd,.str tb,.bl cl]=T1:=⟨_,rfl⟩
 rw[hT1]at et;have T1m:∀g:Fl->Fl,mapL g T1=T1:=fun g=>by rw[<- hT1];simp
 have T1h:∀p:Fl->Bool,hasL p T1=false:=fun p=>by rw[<- hT1];simp
 have t0:aq (.tup T1) (.int 0)=.ok (.int z.n):=by rw[<- hT1];exact bp (k:=0) rfl rfl rfl
 have t3:aq (.tup T1) (.int 3)=.ok (.str tb):=by rw[<- hT1];exact bp (k:=3) rfl rfl rfl
 have t4:aq (.tup T1) (.int 4)=.ok (.bl cl):=by rw[<- hT1];exact bp (k:=4) rfl rfl rfl
 refine af (av (v:=.tup T1) (by simp[h.HM,h.HN,et,aB,T1h]) (by simp[T1h]) rfl) ?_;simp only[s0_,s1_];have cc:∀k:Nat,gI [.lst fl (iL ns),.int k]=.ok (.int (cell ns k)):=fun k=>kB ns k h;have c3:gI [.lst fl (iL ns),.int 3]=.ok (.int (cell ns 3)):=cc 3;refine af (av (v:=.bl z.many) (by simp[h.HM,h.HN,c3,aB,cK,hm])) ?_;simp only[s0_,s1_];refine af (av (v:=.lst .own (iL regs)) ?_) ?_
 ·rw[hregs];refine be (xs:=dO 0 z.n) (dL (n:=z.n) (by simp[T1m,t0]) (by lia)) (by rw[cv];lia) (jQ 0 (fun i:Nat=>cell ns (4+i)%(2*10 ^ 59)-10 ^ 59) z.n fun k hk=>⟨[some (.lst fl (iL ns)),some (.int (0+k))],by simp[tgN,aQ,bw,PV.HQ,h.HQ],?_⟩);have e4:gI [.lst fl (iL ns),.int (4+(0+(k:Int)))]=.ok (.int (cell ns (4+k))):=by have:=cc (4+k);rw[show((4+k:Nat):Int)=4+(0+(k:Int)) by lia]at this;exact this
  have p59:nX (.int 10) (.int 59)=.ok (.int (10 ^ 59)):=qq (by decide) (by decide) (by decide);have pm:cT (.int 2) (.int (10 ^ 59))=.ok (.int (2*10 ^ 59)):=fQ (.inl ⟨by decide,by decide⟩);simp only[bN,bv,aS,bG,aZ,d3,getElem?_cons_zero,getElem?_cons_succ,aE,aL,dQ,bQ,h.HM,h.HN,Res.HY,gh,bO,aX,bH,e4,aB,p59,pm,cK (show(0:Int)<2*10 ^ 59 by decide),Ae,sub_int];rfl
 simp only[s0_,s1_];have rne:regs≠[]:=fun e=>by rw[e]at rn;simp at rn;lia
 obtain⟨len0,_,_⟩:=w8 (l:=[]) K hw n4 rn hr nofun (by simp)
 have l0:(lns z wd regs []).map line=[tb,"state "++sj (regs.map tn),"may","look" ++(if z.many then " many" else "")]:=by show [line _,line _,line _,line _]=_;rw[htb,eQ regs rne,pJ,z6]
 have jl:=qL (f:=.bor) (l:=regs) hr (by lia);have s6:("state ":Str).length=6:=by decide +kernel
 have sjl:(sj (regs.map tn)).length<=400:=by
  have:=qh (ls:=regs.map tn) (B:=61) fun y hy=>by obtain⟨a,ha,rfl⟩:=mem_map.mp hy;exact(nt (hr a ha)).len
  simp at this
  lia
 have a1:b8 (.str "state ") (.str (sj (regs.map tn)))=.ok (.str ("state "++sj (regs.map tn))):=er (by lia);have a2:(kU (.str " many") (.int (if z.many then 1 else 0))).bind (fun y=>b8 (.str "look") y)=.ok (.str ("look" ++(if z.many then " many" else ""))):=by cases z.many<;>exact Dt (by decide +kernel)
 have io:∀b:Bool,jy (.bl b)=.ok (.int (if b then 1 else 0)):=fun b=>by cases b<;>rfl
 refine af (av (v:=.lst .own (sL ((lns z wd regs []).map line))) ?_) ?_
 ·rw[l0];simp only[g7,aS,bG,bN,bv,aZ,d3,getElem?_cons_zero,getElem?_cons_succ,aE,lb,T1m,aL,bQ,lq,ku,Res.HY,t3,bO,aX,bH,jd,jl,aB,sD,a1,p1,io];simp only[false_eq_true,if_false,Res.HY,a1,a2];rfl
 simp only[s0_,s1_];have ec:f7 (iL ns) (some 7) (some 67)=iL ((ns.take 67).drop 7):=DW ns 7 67 rfl rfl;have el:((ns.take 67).drop 7).length<=56:=by simp;lia
 obtain⟨xs,hxs⟩:∃xs,(ns.take 67).drop 7=xs:=⟨_,rfl⟩
 rw[hxs]at ec el;refine da (xs:=iL xs) (fun k e=>∃l x5 x6,e=[some (.lst fl (iL ns)),some (.tup T1),some (.bl z.many),some (.lst .own (iL regs)),some (.lst .own (sL ((lns z wd regs l).map line))),x5,x6,none,none,none,none]/\l.length=k/\∀nm∈l,GdM z nm) (cq (f:=.own) (by simp[h.HM,ec]) rfl (by simp) (by simp)) ⟨[],_,_,rfl,rfl,nofun⟩ (fun k x e hx hP=>?_) (fun e hP=>?_)
 ·obtain⟨l,x5,x6,rfl,hk,hg⟩:=hP;obtain⟨c,hc,rfl⟩:=ly hx;have kl:=(List.getElem?_eq_some_iff.mp hc).1;refine⟨_,dz rfl,?_⟩;simp only[s0_,s1_];have z0:(0:Int)<z.n:=by lia
  refine bZ (av (v:=.lst .own (iL [c / 3%z.n])) (by simp[gz,T1m,t0,cK z0])) ?_;simp only[s0_,s1_];obtain⟨nm,hG,hb⟩:∃nm,GdM z nm/\mBr (aY (ad 2)) (aH 6 (aM [5] 1 (cM (ae (mOp aq (ad 1) (HZ 0)) ak)) (tgN 1) (aA (mOp pEq (mOp pq (mOp wq (mOp iz (ad 0) (HZ 3)) (ad 1)) (HZ 1)) (HZ 1))) (ad 1))) aI
    [some (.lst fl (iL ns)),some (.tup T1),some (.bl z.many),some (.lst .own (iL regs)),some (.lst .own (sL ((lns z wd regs l).map line))),some (.int c),some (.lst .own (iL [c / 3%z.n])),none,none,none,none]=.next [some (.lst fl (iL ns)),some (.tup T1),some (.bl z.many),some (.lst .own (iL regs)),some (.lst .own (sL ((lns z wd regs l).map line))),some (.int c),some (.lst .own (iL nm)),none,none,none,none]:=by
   cases hy:z.many with
   |false=>refine⟨[c / 3%z.n],⟨⟨by simp,fun x hx=>?_,by simp;lia⟩,fun _=>by simp⟩,aU (by simp) ar⟩;rw[mem_singleton.mp hx];exact⟨emod_nonneg _ (by lia),emod_lt_of_pos _ z0⟩
   |true=>
    refine⟨((range z.n).filter (bit c)).map fun i:Nat=>(i:Int),⟨⟨?_,fun x hx=>?_,?_⟩,fun q=>by rw[hy]at q;cases q⟩,eT (by simp) (av ?_)⟩
    ·have:=Pairwise.filter (bit c) (List.nodup_iff_pairwise_ne.mp (List.nodup_range (n:=z.n)));rw[List.nodup_iff_pairwise_ne];exact List.pairwise_map.mpr (this.imp fun q e=>q (by lia))
    ·obtain⟨i,hi,rfl⟩:=mem_map.mp hx;have:=mem_range.mp (mem_filter.mp hi).1
     lia
    ·have:=List.length_filter_le (bit c) (range z.n);simpa using this
    ·refine be (xs:=dO 0 z.n) (dL (n:=z.n) (by simp[T1m,t0]) (by lia)) (by rw[cv];lia) (lL (bit c) (fun i:Nat=>(i:Int)) z.n fun k hk=>⟨[some (.int c),some (.int (0+k))],by simp[tgN,aQ,bw,PV.HQ],?_,fun _=>by simp⟩);rw[Int.zero_add];have sh:wq (.int (c / 3)) (.int (k:Int))=.ok (.int (c / 3 / 2 ^ k)):=by simp[wq,dY]
     have ba:∀x:Int,pq (.int x) (.int 1)=.ok (.int (Builtin.bitAnd x 1)):=fun x=>by simp[pq,iy]
     simp only[cj,bN,aZ,d3,getElem?_cons_zero,getElem?_cons_succ,aE,dQ,Res.HY,gz (show(0:Int)<3 by decide) (by decide),sh,ba,xL];rfl
  refine bZ hb ?_;have Nn:∀a∈nm,Nm a:=fun a ha=>by have:=hG.1.2.1 a ha;exact bg (by lia) (by lia)
  have nl:=hG.1.2.2;refine bR (eD (v:=.str (tln nm)) (xs:=sL ((lns z wd regs l).map line)) ?_ rfl (by simp) (by simp[lns,jf];lia)) ⟨l++[nm],some (.int c),some (.lst .own (iL nm)),?_,by simp[hk],fun m hm=>?_⟩
  ·have sc:=jh (m:=ad 6) (env:=[some (.lst fl (iL ns)),some (.tup T1),some (.bl z.many),some (.lst .own (iL regs)),some (.lst .own (sL ((lns z wd regs l).map line))),some (.int c),some (.lst .own (iL nm)),none,none,none,none]) Nn (by lia) (by simp);rw[kK];refine eZ (f:=.own) (ls:=("turn":Str)::nm.map tn) (by decide +kernel) (by simp;lia) (fun y hy=>?_) ?_
   ·rcases mem_cons.mp hy with rfl|hy
    ·decide +kernel
    ·obtain⟨a,ha,rfl⟩:=mem_map.mp hy;have:=(nt (Nn a ha)).len
     lia
   ·rw[bN,sc];have pl:=jt (f:=.own) (g:=.own) (zs:=["turn"]) (ys:=nm.map tn) (by decide) (by decide) (by simp;lia);simp only[g7,aS,bG,d3,Res.HY];exact pl
  ·simp only[s0_,s1_];simp[lns,jf,sL];rfl
  ·rcases mem_append.mp hm with hm|hm
   ·exact hg m hm
   ·rw[mem_singleton.mp hm];exact hG
 obtain⟨l,x5,x6,rfl,hk,hg⟩:=hP;rw[fC]at hk;obtain⟨len,ll,ws,W,hp⟩:=w8 (l:=l) K hw n4 rn hr hg (by lia);obtain⟨cs,hcs⟩:∃cs,regs.map (· % z.s)=cs:=⟨_,rfl⟩
 have C:Ce z.n z.s cs:=⟨by rw [<- hcs];simpa using rn,fun c hc=>by
  rw[<- hcs]at hc;obtain⟨x,_,rfl⟩:=mem_map.mp hc;exact⟨emod_nonneg _ (by lia),emod_lt_of_pos _ (by lia)⟩⟩
 rw[hcs]at hp;obtain⟨LL,hLL⟩:∃LL,(lns z wd regs l).map line=LL:=⟨_,rfl⟩
 rw[hLL]at hp len ⊢;have LLl:LL.length=l.length+4:=by rw[<- hLL,length_map,ll]
 obtain⟨an,han⟩:∃an,ans z cs l=an:=⟨_,rfl⟩
 have anl:an.length=l.length:=by rw[<- han,tK]
 obtain⟨A0,hA0⟩:∃A0,sj (swd z.n z.s z.fs z.os z.w cs)=A0:=⟨_,rfl⟩
 obtain⟨A1,hA1⟩:∃A1,md (mv z.n z.s z.fs z.os cs)=A1:=⟨_,rfl⟩
 rw[hA0,hA1,han]at hp;obtain⟨AA,hAA⟩:∃AA,sL (A0::A1::sj ws::an)=AA:=⟨_,rfl⟩
 rw[hAA]at hp;have AAm:∀g:Fl->Fl,mapL g AA=AA:=fun g=>by rw[<- hAA];simp
 have AAh:∀p:Fl->Bool,hasL p AA=false:=fun p=>by rw[<- hAA];simp
 have AAl:AA.length=an.length+3:=by rw[<- hAA];simp
 have x0:aq (.lst .lnt AA) (.int 0)=.ok (.str A0):=by rw[<- hAA];exact bD (by decide) rfl
 have x1:aq (.lst .lnt AA) (.int 1)=.ok (.str A1):=by rw[<- hAA];exact bD (by decide) rfl
 have x2:aq (.lst .lnt AA) (.int 2)=.ok (.str (sj ws)):=by rw[<- hAA];exact bD (by decide) rfl
 have cu:f7 AA (some 3) none=sL an:=by rw[<- hAA];exact dR _ 3 (by simp)
 refine af (av (v:=.lst .own AA) ?_ (by simp[AAh]) rfl) ?_
 ·have je:=eZ (env:=[some (.lst fl (iL ns)),some (.tup T1),some (.bl z.many),some (.lst .own (iL regs)),some (.lst .own (sL LL)),x5,x6,none,none,none,none]) (m:=ad 4) (f:=.lnt) (sep:="\n") (ls:=LL) (by decide +kernel) (by lia) len (by simp);rw[bv,aS];simp only[pC]at je ⊢;rw[je];simp[hp,aB,AAh]
 simp only[s0_,s1_];refine af (aU (by simp[AAm,AAl,anl,LLl];lia) ar) ?_;have wc:(∀y∈ws,Wc y)/\ws≠[]/\ws.length<=20:=by
  have dgw:∀k:Nat,∀y ∈(z.dg k).map tn,Wc y:=fun k y hy=>by obtain⟨a,ha,rfl⟩:=mem_map.mp hy;exact jU (lQ K (fE K k) a ha)
  have dgl:∀k:Nat,(z.dg k).length=z.n:=fun k=>(fE K k).len;cases W with
  | lv k nm hk h1=>exact ⟨fun y hy=>by
    rcases mem_cons.mp hy with rfl|hy
    ·exact fm (by decide +kernel)
    ·exact dgw k y hy,by simp,by simp[dgl];lia⟩
  | sk k hk h1=>exact ⟨fun y hy=>by
    rcases mem_cons.mp hy with rfl|hy
    ·exact fm (by decide +kernel)
    ·exact dgw k y hy,by simp,by simp[dgl];lia⟩
  |rd wl R=>exact⟨fun y hy=>by rw[mem_singleton.mp hy];exact fm (by decide +kernel),by simp,by simp⟩
  |rk R hv hs A=>
   obtain⟨j,hj,ej⟩:=qC K A;have:=iq K hs A hj;exact ⟨fun y hy=>by
    simp only[mem_cons,not_mem_nil,or_false]at hy;rcases hy with rfl|rfl
    ·exact fm (by decide +kernel)
    ·exact jU (bg (by lia) (by lia)),by simp,by simp⟩
 obtain⟨wc,wne,wl⟩:=wc;refine af (av (v:=.lst .own (sL ws)) ?_) ?_
 ·rw[k9 (y:=sj ws) (by simp[AAm,x2])];exact oW wne (by lia) fun y hy=>(wc y hy).wn
 simp only[s0_,s1_];have cw':f7 (sL ws) (some 1) none=sL (ws.drop 1):=by have:=dR (sL ws) 1 (by cases ws;exact absurd rfl wne;simp);rw[show((1:Nat):Int)=1 from rfl]at this;rw[this];simp[sL]
 refine af (av (v:=.str (sj (ws.drop 1))) ?_) ?_
 ·have je:=eZ (env:=[some (.lst fl (iL ns)),some (.tup T1),some (.bl z.many),some (.lst .own (iL regs)),some (.lst .own (sL LL)),x5,x6,some (.lst .own AA),some (.lst .own (sL ws)),none,none]) (m:=cU (ad 8) (dw (HZ 1)) b6) (f:=.own) (sep:=" ") (ls:=ws.drop 1) (by decide +kernel) (by simp;lia) (fun y hy=>by have:=(wc y (List.mem_of_mem_drop hy)).2;lia) (by simp[cw']);rw[je,kK];rfl
 simp only[s0_,s1_];have no:∀{v0:Str}{v:HF},ws=v0::v->v0≠"calm" -> cl=false:=fun {v0 v} e ne=>by
  cases hc:cl with
  |false=>rfl
  |true=>obtain⟨q1,q2⟩:=hcl hc;obtain⟨R,_,_,_,e2⟩:=w_ K q1 q2 W;rw[e]at e2;exact absurd (List.cons.inj e2).1 ne
 have w0:∀{v0:Str}{v:HF},ws=v0::v->aq (.lst .lnt (sL ws)) (.int 0)=.ok (.str v0):=fun {v0 v} e=>by rw[e];exact bD (by decide) rfl
 have dne:∀k:Nat,z.dg k≠[]:=fun k e=>by
  have q:(z.dg k).length=z.n:=(fE K k).len;rw[e]at q;simp at q
  lia
 cases W with
 |rk R hv hs A=>
  have i0:=w0 rfl;have i1:aq (.lst .lnt (sL [("calm":Str),tn (bC R)])) (.int 1)=.ok (.str (tn (bC R))):=bD (by decide) rfl;have e1:=aO pK.1;refine ce (eT (by simp[i0,e1]) ?_);refine af (av (v:=.bl !z.cal cs) ?_) ?_
  ·rw[k9 (y:=A0) (by simp[AAm,x0])];show Res.ok (PV.bl _)=_;rw[<- hA0];unfold swd;rw[xN (by simpa using fun e=>by have:=C.len;rw[e]at this;simp at this;lia)];rfl
  simp only[s0_,s1_];obtain⟨j,hj,ej⟩:=qC K A;have rj:=iq K hs A hj;have Nm':Nm (bC R):=bg (by lia) (by lia);have wk:=tN K hv hs A C (l:=l) (by lia) hg;rw[hA0,han]at wk;have it:PySem.intText? (tn (bC R))=some (bC R):=(iC Nm').2;have il:=(nt Nm').len;have pl:=jt (f:=.own) (g:=.own) (zs:=[A0]) (ys:=an) (by decide) (by decide) (by simp;lia);have E2:ao (ax sS) (ae (mOp bz (bU (ae (mOp aq (ad 7) (HZ 0)) ak)) (cU (ad 7) (dw (HZ 3)) b6)) (ae (ao (p1 (eM (fun z=>decide (z.length<=640)&&(PySem.intText? z).isSome) fun z=>.int ((PySem.intText? z).getD 0))) (ae (mOp aq (ad 8) (HZ 1)) ak)) ak)) [some (.lst fl (iL ns)),some (.tup T1),some (.bl z.many),some (.lst .own (iL regs)),some (.lst .own (sL LL)),x5,x6,some (.lst .own AA),some (.lst .own (sL [("calm":Str),tn (bC R)])),some (.str (sj ([("calm":Str),tn (bC R)].drop 1))),some (.bl !z.cal cs)]=.ok (.bl true):=by have pl':bz (.lst .own [.str A0]) (.lst .own (sL an))=.ok (.lst .own (sL (A0::an))):=pl;simp[AAm,x0,cu,i1,p1,eM,it,show(tn (bC R)).length<=640 by lia,pl',wk,aB]
  have E1:(qH (pI (ad 10)) (mOp pNe (mOp aq (ad 7) (HZ 1)) (mC (.str "-")))) [some (.lst fl (iL ns)),some (.tup T1),some (.bl z.many),some (.lst .own (iL regs)),some (.lst .own (sL LL)),x5,x6,some (.lst .own AA),some (.lst .own (sL [("calm":Str),tn (bC R)])),some (.str (sj ([("calm":Str),tn (bC R)].drop 1))),some (.bl !z.cal cs)]=.ok (.bl true):=by
   cases hc:z.cal cs with
   |true=>simp[pOr,zu]
   |false=>
    obtain⟨_,k1,k2⟩:=g_ K C;have mne:mv z.n z.s z.fs z.os cs≠[]:=fun e=>by have:=AW hs k1 (by rw[k2];exact hc);rw[k2]at this;exact this (qA.mp e)
    have:=FY (qz (cs:=cs) K) mne;rw[hA1]at this;simp[pOr,zu,AAm,x1,this]
  refine aT ?_ (by simp);rw[oq,E1,E2];rfl
 |rd wl R=>have i0:=w0 rfl;have e1:=aO pK.2.1;have c0:=no rfl (by decide +kernel);have e2:pEq (.str "round") (.str "stuck")=.ok (.bl false):=aO (by decide +kernel);have e3:pEq (.str "round") (.str "leaves")=.ok (.bl false):=aO (by decide +kernel);have e4:pEq (.lst .lnt (sL ["round"])) (.lst .own [.str "round"])=.ok (.bl true):=aO (by decide +kernel);exact af (aU (by simp[i0,e1]) ar) (af (aU (by simp[T1m,t4,c0]) ar) (af (aU (by simp[i0,e2]) ar) (af (aU (by simp[i0,e3]) ar) (aT (by simp[e4])))))
 |sk k hk hx=>
  have i0:=w0 rfl;have e1:=aO pK.2.2.2.2.2.1;have c0:=no rfl (by decide +kernel);have e2:pEq (.str "stuck") (.str "stuck")=.ok (.bl true):=aO (by decide +kernel);have D:=fE K k;unfold Pz.skC at hx;rw[and_eq_true,List.isEmpty_iff,not_eq_true']at hx;have mn:=qA.mpr hx.2;have tp:=vc (wd:=wd) (w:=z.w) (regs:=z.dg k) (r:=[.num "may" []]) (zs:=[md (mv z.n z.s z.fs z.os (z.dg k))]) K hw n4 D.len (lQ K D) (by simp) (fun y hy=>by rw[mem_singleton.mp hy];exact⟨⟨by decide +kernel,nofun⟩,by show("may":Str)∈ doi;decide +kernel⟩) (by rw[gp D.inn];exact .cons (si K D) .nil);rw[gp D.inn]at tp;have es:sj (swd z.n z.s z.fs z.os z.w (z.dg k))=sj ((z.dg k).map tn)++ " wild":=by have:cal z.n z.s z.fs z.os z.w (z.dg k)=false:=hx.1;unfold swd;rw[this,AX (dne k)];rfl
  have em:md (mv z.n z.s z.fs z.os (z.dg k))= "-":=by rw[mn];rfl
  have etl:(jf z.n z.s wd z.fs z.os (z.dg k) [.num "may" []]).map line=[tb,"state "++sj ((z.dg k).map tn),"may"]:=by show [line _,line _,line _]=_;rw[htb,eQ _ (dne k),pJ]
  rw[es,em,etl]at tp;have sdl:=nN (ns:=z.dg k) (hd:="state") ⟨by decide +kernel,by have q:(z.dg k).length=z.n:=D.len;lia,lQ K D⟩;rw[eQ _ (dne k),eh]at sdl;have tl:=(iP (nw K hw)).2;rw[htb]at tl;obtain⟨cl2,hcl2⟩:∃c,sj ((z.dg k).map tn)=c:=⟨_,rfl⟩
  have asc:Asc (cl2++" wild"):=by
   rw[<- hcl2,<- es];exact qZ fun y hy=>by
    rcases mem_append.mp hy with hy|hy
    ·obtain⟨a,ha,rfl⟩:=mem_map.mp hy;exact qY (lQ K D a ha)
    ·rw[mem_singleton.mp hy];exact yD _
  rw[hcl2]at tp sdl;have s5:(" wild":Str).length=5:=by decide +kernel
  have b1:b8 (.str "state ") (.str cl2)=.ok (.str ("state "++cl2)):=er (by lia);have b2:b8 (.str cl2) (.str " wild")=.ok (.str (cl2++" wild")):=er (by lia);refine af (aU (by simp[i0,e1]) ar) (af (aU (by simp[T1m,t4,c0]) ar) (ce (eT (by simp[i0,e2]) (aT ?_))));rw[List.drop_one,List.tail_cons,hcl2];have je:=eZ (env:=[some (.lst fl (iL ns)),some (.tup T1),some (.bl z.many),some (.lst .own (iL regs)),some (.lst .own (sL LL)),x5,x6,some (.lst .own AA),some (.lst .own (sL (("stuck" : Str)::(z.dg k).map tn))),some (.str cl2),none]) (m:=bU (ae (mOp aq (ad 1) (HZ 3)) (ae (mOp b8 (mC (.str "state ")) (ad 9)) (ae (mC (.str "may")) ak)))) (f:=.own) (sep := "\n") (ls:=[tb, "state " ++ cl2, "may"]) (by decide +kernel) (by simp) (fun y hy=>by
   simp only[mem_cons,not_mem_nil,or_false]at hy;rcases hy with rfl|rfl|rfl
   ·exact tl
   ·rw[eh];exact sdl
   ·decide +kernel) (by simp[T1m,t3,b1,sL])
  have sh:shp (.lst .own (sL [cl2++" wild","-"]))=true:=vF fun y hy=>by
   simp only[mem_cons,not_mem_nil,or_false]at hy;rcases hy with rfl|rfl
   ·exact asc
   ·exact tJ (by decide +kernel)
  have eq:pEq (.lst .own (sL [cl2++" wild","-"])) (.lst .own (sL [cl2++" wild","-"]))=.ok (.bl true):=Ax rfl sh;rw[bN,bv,aS];simp only[pC]at je ⊢;rw[je];have eq':pEq (.lst .own (sL [cl2++" wild","-"])) (.lst .own [.str (cl2++" wild"),.str "-"])=.ok (.bl true):=eq;simp[tp,aB,b2,eq']
 |lv k nm hk hx=>
  have i0:=w0 rfl;have e1:=aO pK.2.2.2.1;have c0:=no rfl (by decide +kernel);have e2:pEq (.str "leaves") (.str "stuck")=.ok (.bl false):=aO (by decide +kernel);have e3:pEq (.str "leaves") (.str "leaves")=.ok (.bl true):=aO (by decide +kernel);unfold Pz.lvC at hx;cases hc:z.cal (z.dg k)with
  |false=>rw[hc,if_neg (by decide)]at hx;cases hx
  |true=>rw[hc,if_pos rfl]at hx;have q:=List.find?_some hx;have lo:=z7 (wd:=wd) K hw n4 (fE K k) hc (nm:=nm) (by simpa using q);rw[htb]at lo;refine af (aU (by simp[i0,e1]) ar) (af (aU (by simp[T1m,t4,c0]) ar) (af (aU (by simp[i0,e2]) ar) (ce (eT (by simp[i0,e3]) (aT ?_)))));rw[List.drop_one,List.tail_cons];simp[T1m,t3,t0,lo,aB]
end G
namespace G
open PySem L2 PR
def hb:yL pt.F:=⟨bn2,bn3,bn1,bn1,bn2,bn2,bn1,bn1,bn1,bn1,bn1,bn1,bn1,bn1,bn1,bn2,bn4,bn6,bn1,bn2,bn3,bn2,bn2,bn1,bn2,bn2,bn3,bn3,bn3,bn3,bn1,bn2,bn2,bn1,bn2,bn2,bn1,bn2,bn3,bn3,bn2,bn2,bn3,bn1,bn3,bn1,bn2,bn3,bn1,trivial⟩
def hd:yK pe.D:=⟨bd3,bd2,trivial⟩
def hds:pe.D.all (fun y=>scB y.1)=true:=by decide +kernel
def hs:pt.F.all scB=true:=by decide +kernel
def fin{l:PySem.W.OpenLaw}{w:World}{K:PySem.W.Frag}{mg:Hz}{fa:Addr}(t:Ty pt pe w K mg)(hfa:mg "law"=some (.ref fa)) :
  ∃fd:FuncData,(∀(s:Shared) (u:Value),BindsTo s fd ⟨[u],[]⟩ [("_law_script",u)])/\∀base:Heap,K.In base->base.Ns mainGlobals mg->b9 l.prog w K mg base (CXP l.prog w) 8 fa fd ["_law_script"] (rH K):=by
 have e:=hfa.symm.trans (t.tx.gl 48 rfl);cases e;refine⟨dAt K (pt.fa K 48),fun s u=>?_,fun base hB _=>Di (T:=T K) (C7 t hB) law_true⟩;obtain⟨oc,od,kV,doc,pm,an,cdv,ct,osl,e,_⟩:=(t.tx.fn 48).ex;rw[e];exact .of_eq rfl
end G
namespace PySem.W.Fast
theorem t:True:=trivial
def tw2927126342784634954:=t
def tw13324922413671304047:=t
def tw13441289382970390936:=t
def tw9719846321641318543:=t
def tw7056319204497097472:=t
def tw13345973004715180725:=t
def tw3228250802437120235:=t
def tw9936416152384654143:=t
def tw12774278200721413702:=t
def tw8258285767418346406:=t
def tw13709550924215080678:=t
def tw2130549037099454507:=t
def tw17718365645275090924:=t
def tw313541693823181708:=t
def tw1547599997553745254:=t
def tw12332415954018040564:=t
def tw15184824486766465180:=t
def tw10837027030028941860:=t
def tw11634266126403988975:=t
def tw17621449979285470470:=t
def tw14429849109700636515:=t
def tw6232701019414386464:=t
def tw10632993660773387538:=t
def tw10166594761768758613:=t
def tw10009502356572807390:=t
def tw1380832394568467616:=t
def tw7073370309905356068:=t
def tw9097702968956967794:=t
def tw11321285761447651389:=t
def tw1547030639989433493:=t
def tw16471613482578105919:=t
def tw1279411564228506722:=t
def tw4816725982245889499:=t
def tw16085136800712468505:=t
def tw732456525105756588:=t
def tw17563370627457852921:=t
def tw8013622138292039442:=t
def tw7107761358074792357:=t
def tw17077562975693919688:=t
def tw17720142030007766843:=t
def tw1354836074597555535:=t
def tw16764991540555685470:=t
def tw2140478545277465551:=t
def tw7591376673007856001:=t
def tw15294974702823177035:=t
def tw11382942147122937947:=t
def tw14343042331874029243:=t
def tw15992929791403683690:=t
def tw2425677497281603835:=t
def tw13543409713739249674:=t
def tw9579500229619154896:=t
def tw12443306696940895952:=t
def tw6703716025902123721:=t
def tw4870165598654947342:=t
def tw13677069282866281897:=t
def tw12308963098796909498:=t
def tw17743742699872587316:=t
def tw11379365652344234771:=t
def tw12620897570092226409:=t
def tw17946457342798748978:=t
def tw4205033582054919446:=t
def tw3474526627738700664:=t
def tw12685243512412270907:=t
def tw5502321091894599795:=t
def tw3675558150826796360:=t
def tw436264785607369458:=t
def tw14204962608215159269:=t
def tw14107722586337564663:=t
def tw4617788490819083457:=t
def tw13691709843255459998:=t
def tw8345372677735402065:=t
def tw14219465368267232235:=t
def tw2981649068944611482:=t
def tw7429333155363155804:=t
def tw3531870211143872643:=t
def tw8053736552029919683:=t
def tw7159566160028420880:=t
def tw2496953204003291264:=t
def tw14856115087981436223:=t
def tw14467608717059001947:=t
def tw14999269535711681545:=t
def tw5326897986241287330:=t
def tw6237209590330743387:=t
def tw17903472353517105426:=t
def tw13393396858443674057:=t
def tw6941229189505829166:=t
def tw1604248678182899141:=t
def tw8038220623275760529:=t
def tw5989685551137861711:=t
def tw7061177050659666989:=t
def tw199386453798640274:=t
def tw317052059362066887:=t
def tw4478489375516298207:=t
def tw7248634978228280935:=t
def tw1808629790151629153:=t
def tw8936830526550120706:=t
def tw15139996956558754010:=t
def tw15196003071174805208:=t
def tw775738273290942313:=t
def tw12570947515600583389:=t
def tw10164267124877502592:=t
def tw1727284337103039067:=t
def tw12591846102288039597:=t
def tw12966218281801503041:=t
def tw14768948042002906645:=t
def tw5190826244888487735:=t
def tw16416753753123377730:=t
def tw5168339973408734847:=t
def tw3304595688529097543:=t
def tw4494453891837627862:=t
def tw17538040971464398264:=t
def tw18208557996316291429:=t
def tw231002126850488827:=t
def tw11955159555760102851:=t
def tw12045688165902858306:=t
def tw5781954232928754343:=t
def tw14716526024973682599:=t
def tw16926295647093918950:=t
def tw897038093464606024:=t
def tw9201469526114926202:=t
def tw15778576899061055802:=t
def tw16395398978272396965:=t
def tw3458871007434294836:=t
def tw9964837991020599099:=t
def tw8055574322263200360:=t
def tw3201858588966760879:=t
def tw16020155603780644774:=t
def tw17308329901355323234:=t
def tw13173945441762533959:=t
def tw13762537743729009442:=t
def tw10865790713497714653:=t
def tw12501050003972937680:=t
def tw6266902771698194890:=t
def tw5543039791789025200:=t
def tw8574821889484727378:=t
def tw12560322403956493553:=t
def tw13390136249470369625:=t
def tw9656695830495915715:=t
def tw13190287281770625994:=t
def tw13578633209092834567:=t
def tw1078063754904268582:=t
def tw2694039736862993536:=t
def tw17774335628937924024:=t
def tw2525755104138909401:=t
def tw4342044202504076037:=t
def tw18216701670258253876:=t
def tw3202092590379632056:=t
def tw15412997855590438723:=t
def tw13421730214789401818:=t
def tw3674593710885181465:=t
def tw17204708655815941624:=t
def tw17888261400477183430:=t
def tw5447065950913026688:=t
def tw12980781322793478149:=t
def tw13675788545190592923:=t
def tw10601476484765382053:=t
def tw4776143586536058521:=t
def tw12955072193781129068:=t
def tw4604181272116370731:=t
def tw6363565804851883224:=t
def tw13922757333971641829:=t
def tw2626633915124009615:=t
def tw9858922286176838615:=t
def tw6448743536522938017:=t
def tw3639231174924824848:=t
def tw13790896296112991121:=t
def tw17658473986647230457:=t
def tw2353911135862709442:=t
def tw6701914130224704175:=t
def tw14495218793231245752:=t
def tw10414860335797148062:=t
def tw5890118683404687538:=t
def tw12250707807150604374:=t
def tw7924588439527384594:=t
def tw10253593162128207942:=t
def tw3794013150394087638:=t
def tw3961676943983053516:=t
def tw17154862903339207119:=t
def tw404010620366349296:=t
def tw17909241164886292870:=t
def tw9989306070618895139:=t
def tw6343789940671038931:=t
def tw3965348033144765539:=t
def tw9966422508799483520:=t
def tw9005698772425099853:=t
def tw10503916179884775841:=t
def tw11440236841813483737:=t
def tw1629382367906366698:=t
def tw36233150205217093:=t
def tw6942359777898982462:=t
def tw13783779182899177687:=t
def tw9297312011750410535:=t
def tw13912125025629673173:=t
def tw7414458645817787495:=t
def tw14676787167401761530:=t
def tw14527323913530700448:=t
def tw17448463536688491718:=t
def tw7370182627170245080:=t
def tw16434332115034370631:=t
def tw5765454138835774360:=t
def tw8842373470982489365:=t
def tw1418944929463006503:=t
def tw11354137825974512510:=t
def tw5479238300616971375:=t
def tw12951783845488767687:=t
def tw1640348607228775396:=t
def tw10097269419939917366:=t
def tw17577865781133735151:=t
def tw14053168841080993955:=t
def tw15579335438986253465:=t
def tw15364094694153638760:=t
def tw2246512048771169095:=t
def tw12571200137159341671:=t
def tw5098836867722441090:=t
def tw13029540420850924210:=t
def tw1399693464229236110:=t
def tw15919455887206287143:=t
def tw8152832241578453829:=t
def tw9813107026683016014:=t
def tw15312458173642479722:=t
def tw17168058772884782692:=t
def tw8598421581620423483:=t
def tw8351384754596543982:=t
def tw15724257898861967720:=t
def tw16307489351999974735:=t
def tw16141145437716549722:=t
def tw17143006181495588948:=t
def tw6490179683580060941:=t
def tw18194510617904632033:=t
def tw12654520551077162349:=t
def tw6615508156379293822:=t
def tw7469985775478736516:=t
def tw14309800957019222448:=t
def tw12388297092818100586:=t
def tw10577577670439311587:=t
def tw7931324211361346812:=t
def tw14174754169961511208:=t
def tw10761853399070745799:=t
def tw16654201470674787945:=t
def tw7237062821688579913:=t
def tw17464401225484413752:=t
def tw6516231132028515263:=t
def tw11915630924837825350:=t
def tw768093375706054144:=t
def tw12742408957492944199:=t
def tw4610935550888502112:=t
def tw3608299967164405462:=t
def tw8101695580973569942:=t
def tw13723963504604684118:=t
def tw8629835932903189006:=t
def tw206824524265213274:=t
def tw5676834329656037445:=t
def tw7962026674734633200:=t
def tw12968289086259235204:=t
def tw7170194748267489981:=t
def tw12057493989710381657:=t
def tw18295189518621549473:=t
def tw8661850992196590480:=t
def tw9712732040371338367:=t
def tw11277424615651861294:=t
def tw8847614572996138136:=t
def tw9270513239360774618:=t
def tw2385082251619025746:=t
def tw17356264332112258154:=t
def tw5238034530973466252:=t
def tw6894525645428492216:=t
def tw16526229875232004592:=t
def tw4565054641524700864:=t
def tw1681500859228024456:=t
def tw1377195381390806279:=t
def tw4960011554906149169:=t
def tw4765591115610990168:=t
def tw16895952734925857710:=t
def tw17392992512281257319:=t
def tw11174965614443974323:=t
def tw8793936680912637829:=t
def tw1918775085680116503:=t
def tw17619478052125812791:=t
def tw9539430727360894188:=t
def tw239962514776755846:=t
def tw2745212831185769364:=t
def tw9719170656103345980:=t
def tw14851903352030161056:=t
def tw3839601586700080982:=t
def tw13114668949930998354:=t
def tw3248922047603576343:=t
def tw2224460821483960832:=t
def tw1810774970021936442:=t
def tw6821386834852416262:=t
def tw960305700133492767:=t
def tw12281369780003134084:=t
def tw3846677735859594764:=t
def tw3479184615412356658:=t
def tw8283765931243203191:=t
def tw3981490221380999571:=t
def tw17852820979646353475:=t
def tw2874914185672046428:=t
def tw6946407304030264585:=t
def tw12065673117804874718:=t
def tw985178329656093408:=t
def tw17129138212821147393:=t
def tw1191090670846590360:=t
def tw9320720839748782253:=t
def tw9828134584004806184:=t
def tw8625489143914900133:=t
def tw13108805479816963280:=t
def tw15306974049567538845:=t
def tw506403134448922060:=t
def tw7317006560942310786:=t
def tw6616637348660983279:=t
def tw17580194693319306312:=t
def tw8510960371190279321:=t
def tw3425969612100123207:=t
def tw118559433110477877:=t
def tw10092266975416518973:=t
def tw9015694681630334690:=t
def tw14875465664972389819:=t
def tw12750105748701287662:=t
def tw14750948302434283622:=t
def tw11535578191810582552:=t
def tw16276961013034380432:=t
def tw1239129866086498341:=t
def tw7210961968731922737:=t
def tw13858607337156542450:=t
def tw8392506898364110584:=t
def tw9659532058218951311:=t
def tw3986690864570838140:=t
def tw12706323696791205423:=t
def tw13931870908276375231:=t
def tw6629459897413254788:=t
def tw9815233274035468764:=t
def tw11152674055892021916:=t
def tw15327239160516630193:=t
def tw973050672647086900:=t
def tw9749594569371921604:=t
def tw427046792840478499:=t
def tw8019887273185750870:=t
def tw17550591662316433346:=t
def tw16123064469552769669:=t
def tw7175595381680384255:=t
def tw1995623056627654533:=t
def tw10313321481576855411:=t
def tw10734697911107895002:=t
def tw13890515904857926727:=t
def tw12389515879020330902:=t
def tw15913182741692870962:=t
def tw10549558399496668813:=t
def tw5376361838994555123:=t
def tw5212170626542087236:=t
def tw5709055356086744462:=t
def tw9667094641847695785:=t
def tw1142980800563406041:=t
def tw15488211584163811292:=t
def tw9535202488596885183:=t
def tw14661158845749045947:=t
def tw6384812066264382929:=t
def tw12082486179301298259:=t
def tw4190296374858296005:=t
def tw14687072986721795793:=t
def tw4772097230448936220:=t
def tw15382636659410211195:=t
def tw1559417391131317105:=t
def tw15760370168841722515:=t
def tw18444000918665025157:=t
def tw3001451828255189998:=t
def tw9281058108337874631:=t
def tw11253058457755425742:=t
def tw282554604501096394:=t
def tw5208809760504030320:=t
def tw16221840923589716012:=t
def tw1439324158328257532:=t
def tw6978863374478703037:=t
def tw6062763574965200758:=t
def tw3193902780213179759:=t
def tw378428890822464956:=t
def tw6929202982158463860:=t
def tw11169181959197000839:=t
def tw15947475016630674982:=t
def tw8607612457122914591:=t
def tw13284935818842638917:=t
def tw13533946844355695672:=t
def tw7366358870246694311:=t
def tw11718184163714208727:=t
def tw16820422385603965014:=t
def tw2363260534944912098:=t
def tw14800013666789807586:=t
def tw2332610078135660081:=t
def tw9137858319880786663:=t
def tw1601720622139606887:=t
def tw12717781775508689806:=t
def tw18297536060890418542:=t
def tw15984852540301392893:=t
def tw15101193991652649718:=t
def tw16206413583562544404:=t
def tw2283777084713977251:=t
def tw178346297574003089:=t
def tw1313807262676736873:=t
def tw7231049825142093292:=t
def tw9476883223482167303:=t
def tw10831745589282445810:=t
def tw7946450071797317983:=t
def tw6767534910012672625:=t
def tw13467954016418608869:=t
def tw14680098221931932931:=t
def tw16660302067143633048:=t
def tw14973306908225699941:=t
def tw696354992551681015:=t
def tw15013760360465910742:=t
def tw960709007757541411:=t
def tw10110799843530978814:=t
def tw4943553097217810164:=t
def tw17159697249569366174:=t
def tw7702690925177275608:=t
def tw6250499586665301584:=t
def tw7961806960995146070:=t
def tw8422664653573702800:=t
def tw7427929421547513701:=t
def tw1490556999575629959:=t
def tw445824005550255498:=t
def tw3669172659285249237:=t
def tw16162282453871575942:=t
def tw10171315028310328413:=t
def tw4416491149805434983:=t
def tw15058955582958819486:=t
def tw4352471916032764622:=t
def tw10272609540494869526:=t
def tw9096020479326400266:=t
def tw17974557959970970544:=t
def tw8502201524155384411:=t
def tw11547762683152607293:=t
def tw15535602761690630857:=t
def tw11966294974927485964:=t
def tw5211019370013486093:=t
def tw9616923228829937199:=t
def tw17995167754004847762:=t
def tw8593219279990790277:=t
def tw3286149632940021394:=t
def tw2319338496827089781:=t
def tw872675939372352869:=t
def tw16589265714646161183:=t
def tw15862476842298066041:=t
def tw29852267731487005:=t
def tw17079580580950220755:=t
def tw15547624156049201587:=t
def tw1312257818590543665:=t
def tw13657324092288596567:=t
def tw979735095512193455:=t
def tw16585129828374323259:=t
def tw12937681161022003050:=t
def tw4615464563199911101:=t
def tw12893125714941561918:=t
def tw11018896983823340465:=t
def tw8953905113022623127:=t
def tw3182828949677094109:=t
def tw16417343329708840853:=t
def tw17040370573320381845:=t
def tw12221322907395685024:=t
def tw12304502903748556140:=t
def tw12421189192383081328:=t
def tw11935486596167812337:=t
def tw10949691660135643743:=t
def tw7729897280800625523:=t
def tw5294395225542280576:=t
def tw7678893168515415072:=t
def tw17237997216249674688:=t
def tw11746493164522458373:=t
def tw13521929421697531762:=t
def tw15048777063198334966:=t
def tw15406381095513307852:=t
def tw7043257298006244502:=t
def tw14636703022469147311:=t
def tw17803792456335246514:=t
def tw6121794031037598176:=t
def tw10965990664567721922:=t
def tw18301414778261342213:=t
def tw14388499228663089971:=t
def tw4800048836344105686:=t
def tw13488404010508435338:=t
def tw17003366248371721602:=t
def tw9164536952957409802:=t
def tw6622005949375251057:=t
def tw5806072513687867780:=t
def tw16654723779152442775:=t
def tw3330543157428029082:=t
def tw11121909561844428136:=t
def tw8362664830775923826:=t
def tw9779504190508335780:=t
def tw4857831882054288870:=t
def tw1682038974353408208:=t
def tw13608341931169053122:=t
def tw195195695212554906:=t
def tw7521941056865062488:=t
def tw1491531318064315554:=t
def tw13560307365418647279:=t
def tw2949577267780944165:=t
def tw18255842278910592734:=t
def tw18190479505735132295:=t
def tw3386708743131941496:=t
def tw18176099706120033190:=t
def tw9295084494917887029:=t
def tw6819821024024145194:=t
def tw8769701843846961841:=t
def tw311580092492805964:=t
def tw11357798155695314281:=t
def tw3641584115428136601:=t
def tw13282869294774042693:=t
def tw15488240912184382521:=t
def tw17705077209588816528:=t
def tw17771804017943285991:=t
def tw11548909027759771302:=t
def tw2819587317728556786:=t
def tw8721095342442427313:=t
def tw14960298914314492432:=t
def tw10361737958732698036:=t
def tw1915535268046074080:=t
def tw11756008912677577204:=t
def tw7219621533388182318:=t
def tw1752196293961932969:=t
def tw2720035471773028971:=t
def tw2330902076924224078:=t
def tw11434867436380170662:=t
def tw1124477066792955682:=t
def tw3685538022406427999:=t
def tw488208974612271783:=t
def tw13541242609267067291:=t
def tw18364580329999395955:=t
def tw484602163935584407:=t
def tw16368124945938247737:=t
def tw6711680926146592122:=t
def tw18128201146309065407:=t
def tw17869257153360457057:=t
def tw7939045006512060318:=t
def tw16315341835849307399:=t
def tw4960114748229527463:=t
def tw3369331264415517476:=t
def tw14356171558198799916:=t
def tw4625028568090135248:=t
def tw2593518160641006198:=t
def tw6776034693224700594:=t
def tw1469250809095548620:=t
def tw218353515430431933:=t
def tw5834694452716884157:=t
def tw11586051641088263486:=t
def tw13791494991946458115:=t
def tw4338921442883461339:=t
def tw12687358553043321475:=t
def tw1516861962037004825:=t
def tw8773509008778649868:=t
def tw10525143541498330469:=t
def tw6511021541603142263:=t
def tw11051591558825455442:=t
def tw17135001050269257488:=t
def tw10015535702893721172:=t
def tw1309186860951161554:=t
def tw2879887822762642850:=t
def tw120514273031424671:=t
def tw6149964269918949225:=t
def tw3494542968828827326:=t
def tw1805790396196005798:=t
def tw12160443437717949031:=t
def tw17352805213124912928:=t
def tw4616748816283712113:=t
def tw9746469986004464300:=t
def tw14127093015025668173:=t
def tw7533721521110390158:=t
def tw2910056702685698313:=t
def tw10908154251246439450:=t
def tw13918859651176823442:=t
def tw12869973226631570745:=t
def tw14451194287882326901:=t
def tw3941485349020660622:=t
def tw11355508239693760257:=t
def tw11533603852064132241:=t
def tw16408800726139104235:=t
end PySem.W.Fast
open PySem PySem.W PyProof.Rows
set_option maxRecDepth 100000 in
set_option maxHeartbeats 0 in
theorem PySem.Challenge.cw_calmring_k53_whole_looked_through_holds : PySem.Challenge.rw_calmring_k53_whole_looked_through.Holds := by
 w_on;o_law;k_head;(case hw=>w_witness2)
 k_fill
 refine PR.xc (l:=PySem.Challenge.rw_calmring_k53_whole_looked_through) (k:=8) (x := "_law_script") rfl rfl ⟨rfl,by decide,by decide⟩ (fun w h Y=>PySem.W.kIn_of Y) ?F
 case F =>
  intro w mg fa h KX G hmg
  refine' _root_.G.fin (_root_.PR.Ty.of KX G (_root_.PR.Tx.of KX G _root_.G.hb _root_.G.hs ?a ?b ?c ?d ?e ?f ?g) _root_.G.hd _root_.G.hds ?h ?i ?j ?k ?l) hmg
  (case a=>exact fun z=>nomatch z)
  (case b=>exact fun z=>nomatch z)
  (case c=>exact fun z=>nomatch z)
  (case d=>kernel_rfl)
  (case e=>kernel_rfl)
  (case f=>kernel_rfl)
  (case g=>kernel_rfl)
  (case h=>kernel_rfl)
  (case i=>kernel_rfl)
  (case j=>kernel_rfl)
  (case k=>kernel_rfl)
  (case l=>kernel_rfl)
